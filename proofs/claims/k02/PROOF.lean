import PyProof.Rows.All
import Wide.All
import OpenK.AllK
import Wide.FinOn
import HandS.ForMost
import HandS.ForExc
import HandS.Walk
import HandS.IsInst
import HandS.Wide
import HandS.Style
import HandS.Evl
import HandS.TryMany
import HandS.ExcInit
import HandS.ExcField
import HandS.Property
import HandS.DictComp
import HandS.MakeKw
import KE.KEqNest
import HandS.WordsDict
import PyProof.Rows.StrMeet
import HandS.Small
import HandS.SlotsOwn
import PyProof.InstEq
import HandS.SetFor
import HandS.Strs
import HandS.SetBool
import PyProof.EqAt
import PyProof.EqKinds
import HandS.ExcValue
import KE.KExcIs
import PySem.Challenge.RW_twochoosers_k02_errors
set_option Elab.async false
set_option linter.all false
set_option maxRecDepth 100000
set_option maxHeartbeats 4000000
namespace L2
open PySem PySem.Spec PyProof.Rows
section
variable {X : Cx}
theorem pg_list : PGet X (rIxL X.K) := by
  intro pins s σ H x y v u Q I rx ry h
  obtain ⟨p, xs, i, z, rfl, rfl, hq, he, q⟩ := h
  cases rx
  obtain ⟨t, rfl⟩ := ry
  obtain ⟨its, r, pl, hz⟩ := I.list hq
  obtain ⟨j, h1, h2, h3, h4, h5⟩ := atI_get he
  obtain ⟨w, ew, rw'⟩ := r.get h2
  have hl := r.length
  have hn := line63
  have fin : EP X pins σ Q w s := ⟨z, H, I, rw', q⟩
  by_cases h0 : 0 ≤ i
  · have hj : i.toNat = j := by
      rw [seqIndex_of h0 h5] at h1
      exact Option.some.inj h1
    exact wpAny_getItem_list pl.isList h0 (by omega) (by rw [hj]; simpa using ew) fin
  · have hj : (i + (its.toArray.size : Int)).toNat = j := by
      rw [seqIndex_neg (by omega) h4] at h1
      rw [List.size_toArray, ← hl]
      exact Option.some.inj h1
    exact wpAny_getItem_list_neg pl.isList (by omega) (by rw [List.size_toArray] <;> omega) (by omega) (by rw [hj]; simpa using ew) fin
/-- s[::-1] of a text -/
def revS (z : Str) : Str := ⟨z.cps.toList.reverse.toArray⟩
theorem rev_all {α : Type} (xs : Array α) : (List.range xs.size).filterMap (xs[·]?) = xs.toList := by
  have h := pick_run xs 0 xs.size
  have e : (List.range xs.size).map (0 + ·) = List.range xs.size := by
    rw [show ((0 + ·) : Nat → Nat) = id from funext fun k => Nat.zero_add k, List.map_id]
  rw [e, List.drop_zero, List.take_of_length_le (by rw [Array.length_toList]; exact Nat.le_refl _)] at h
  exact h
theorem rev_ix (z : Str) : (Builtin.Str.strSliceIndices none none (-1) z.length).filterMap (z.cps[·]?) = z.cps.toList.reverse := by
  show (sliceRange ((z.length : Int) - 1) (-1) (-1)).filterMap (z.cps[·]?) = _
  rw [PySem.W.krv_sliceRange, PySem.W.krv_range, List.filterMap_reverse]
  rw [show z.length = z.cps.size from rfl, rev_all]
def tRevS (te : TE) : TE := fun σ H Q => te σ H fun x H1 => ∃ z, x = .str z ∧ z.length ≤ sizeLine ∧ Q (.str (revS z)) H1
theorem pe_revS {e : Expr} {te : TE} {k : Nat} {p1 p2 p3 pos : Pos} (he : PE X e te) : PE X (.Subscript e (.Slice none none (some (.UnaryOp .USub (.Constant (.int 1) k p1) p2)) p3) pos) (tRevS te) := by
  refine ⟨fun pins s σ H Q I h => ?_⟩
  refine Subscript_ (thn (he.run pins s σ H _ I h) fun v s1 ⟨x, H1, I1, r1, q1⟩ => ?_)
  obtain ⟨z, ex, hz, q⟩ := q1
  subst ex
  obtain ⟨t, rfl⟩ := r1
  have hst : PO X (some (.UnaryOp .USub (.Constant (.int 1) k p1) p2)) (tPart (tUn (rU fun i => .int (-i)) (tC (.int 1)))) := po_some (pe_un un_neg pe_int)
  refine wpAny_Slice (thn (po_none.run pins s1 σ H1 (fun o H2 => o = none ∧ H2 = H1) I1 ⟨rfl, rfl⟩) fun vl s2 ⟨l, H2, I2, pl, el, e2⟩ => ?_)
  subst el e2
  refine thn (po_none.run pins s2 σ H2 (fun o H3 => o = none ∧ H3 = H2) I2 ⟨rfl, rfl⟩) fun vu s3 ⟨u, H3, I3, pu, eu, e3⟩ => ?_
  subst eu e3
  refine thn (hst.run pins s3 σ H3 (fun o H4 => o = some (-1) ∧ H4 = H3) I3 ⟨1, rfl, -1, rfl, rfl, rfl⟩) fun vs s4 ⟨o, H4, I4, ps, eo, e4⟩ => ?_
  subst eo e4
  have I5 : Inv X pins σ H4 { s4 with heap := s4.heap.push { cls := .type "slice", data := .fields #[vl, vu, vs] } } := I4.kept (t' := s4.toks) fun b ob q => Heap.get?_push_of_some _ q
  obtain ⟨l, rfl, el⟩ := IsPart.raw pl
  obtain ⟨u, rfl, eu⟩ := IsPart.raw pu
  obtain ⟨st, rfl, e3⟩ := IsPart.raw ps
  have e1 : l = none := by cases l with | none => rfl | some _ => cases el
  have e2 : u = none := by cases u with | none => rfl | some _ => cases eu
  subst e1 e2
  show wpAny (model X.prog X.w) X.A (subscriptTail e (.Slice none none (some (.UnaryOp .USub (.Constant (.int 1) k p1) p2)) p3) (.str z t) (.ref s4.heap.objs.size)) (EP X pins σ Q) X.xe { s4 with heap := s4.heap.push { cls := .type "slice", data := .fields #[partValue none, partValue none, partValue st] } }
  refine tail_any (ops := [.str z t, .ref s4.heap.objs.size]) (typeIs_str _ z t) F.slot_str_getitem.lookup ?_ (by with_unfolding_all rfl)
  refine wpAny_getItem_str_slice (l := none) (u := none) (st := st) ⟨_, Heap.get?_push_size _ rfl, rfl, rfl⟩ (by rw [e3]; rfl) ?_
  unfold sliceMade slicePicked
  rw [e3]
  show Made.post (if ((-1 : Int) == 1 && _) = true then Made.val (.str z t) else Made.str ⟨((Builtin.Str.strSliceIndices none none (-1) z.length).filterMap (z.cps[·]?)).toArray⟩) _ _
  rw [if_neg (by simp), rev_ix]
  refine ⟨?_, .str _, _, I5.tok _, ⟨_, rfl⟩, q⟩
  show z.cps.toList.reverse.toArray.size ≤ sizeLine
  rw [List.size_toArray, List.length_reverse, Array.length_toList]
  exact hz
end
section
variable {X : Cx} {k : Nat} {f : Addr} {fd : FuncData} {ps ks : List Str} {sp : Sp} {CX : CXT} {E : XK} {g : List Value → List Value → List Value} {gV : List V → List V → List V}
/-- f(k = v, ..) -/
theorem pe_callK0 {x : Str} {p pos : Pos} {kws : List Keyword} {tk : TA} (F : FnOk X.prog X.w X.K X.mg X.base CX k f fd ps sp) (hr : Room k X.A) (hg : Gl X x) (hm : X.mg x = some (.ref f)) (hk : PySem.W.keepIn X.K (.ref f) = true) (hb : KBinds X.K fd ps ks g gV) (hx : Passes CX X E)
    (hkw : PK X kws tk) (hall : (backToKw pos (keywordEach kws X.env)).all (·.1.isSome) = true := by rfl) (hks : (backToKw pos (keywordEach kws X.env)).filterMap (·.1) = ks := by rfl)
    (hdb : (x == ("__debug__" : Str)) = false := by decide)
    (hpl : ((backTo pos (starEach [] X.env)).any (·.1) || (backToKw pos (keywordEach kws X.env)).any (·.1.isNone)) = false := by rfl) :
    PE X (.Call (.Name x p) [] kws pos) (tCallK sp gV E tNil tk) := by
  refine ⟨fun pins s σ H Q I h => ?_⟩
  refine wpAny_Call_Name_kw (ld_glob I hg hm ?_ hdb)
  refine PySem.W.callWith_KW0 (h₀ := X.base) I.ok.mod.kin hk hall ?_ hpl
  refine thn (hkw.run pos pins s σ H _ I h) fun ws s2 ⟨zs, H2, I2, rz, q2⟩ => ⟨I2.kIn, ?_⟩
  rw [hks]
  exact run_fnk F hr hb hx I2 .nil rz q2
end
end L2

namespace L2
open PySem PySem.Spec PyProof.Rows
section
variable {X : Cx} {CX : CXT} {k : Nat} {C g : Addr} {fd : FuncData} {ps ks : List Str} {sp : Sp} {E : XK} {e i : Expr} {pos : Pos} {ta ti : TE}
/-- o[i] of a class with its own __getitem__ -/
def rOwnIx (C : Addr) (sp : Sp) (E : XK) : R2 := fun x y H Q => ∃ a dx fs, x = .ref a ∧ H a = some (.ins C dx fs) ∧ sp [.ref a, y] H Q E
theorem pe_ixOwn (c : Cls X.K C) (hs : PySem.W.findIn X.K (.ref C) "__getitem__" = some (some (.ref g))) (hf : PySem.W.fnIn X.K g = true) (hfn : PySem.W.isFn X.K (.ref g) = true)
    (F : FnOk X.prog X.w X.K X.mg X.base CX k g fd ps sp) (hr : Room (k + 1) X.A) (hb : Binds X.K fd ps []) (hx : Passes CX X E) (he : PE X e ta) (hi : PE X i ti)
    (hsl : ∀ v u, subscripted i true v u = runValue (.builtin "lifetime.subscript" ⟨[v, u], []⟩) := by intros; with_unfolding_all rfl) : PE X (.Subscript e i pos) (tOp (rOwnIx C sp E) ta ti) := by
  refine ⟨fun pins s σ H Q I h => Subscript_ (binT he hi I h fun v u s2 x y H2 I2 rx ry q => ?_)⟩
  obtain ⟨a, dx, fs, rfl, ea, q⟩ := q
  obtain rfl : v = Value.ref a := rx
  obtain ⟨mA, O, _, _, _, _⟩ := ins_get I2.hok ea
  obtain ⟨od, J, _⟩ := O.look
  obtain ⟨m, fr⟩ := I2.fr
  have hv : Vals [V.ref a, y] [Value.ref a, u] := .cons rfl (.cons ry .nil)
  have hl : ([Value.ref a, u] ++ ([] : List Value)).length = ps.length := by
    rw [List.append_nil, ← hv.length]
    exact F.len _ _ _ _ q
  refine PySem.W.sub_K fr I2.ok.mod.kin J hs hf hfn (wpAny_call (codeAny_mono (F.run X.A.in1 X.stack s2 H2 ⟨[.ref a, u], []⟩ ([.ref a, u] ++ []) [.ref a, y] Q E hr.in1 I2.env0.in1 (hb s2 [.ref a, u] I2.kIn hl) (by rw [List.append_nil]; exact hv) q) fun r s' hq => ?_)) (hsl _ _)
  cases r with
  | error er => exact hx pins σ H2 s2 er s' I2 hq
  | ok fl =>
    cases fl with
    | ret z => exact I2.after hq
    | next => exact False.elim hq
    | brk => exact False.elim hq
    | cont => exact False.elim hq
variable {gf : List Value → List Value → List Value} {gV : List V → List V → List V} {f : Addr} {m : Str} {o : Expr} {apos : Pos} {kws : List Keyword} {tk : TA}
/-- o.m(k = v, ..): the receiver stands first -/
def tMethK (C : Addr) (m : Str) (sp : Sp) (gV : List V → List V → List V) (E : XK) (ta : TE) (tk : TA) : TE := fun σ H Q => ta σ H fun x H1 => ∃ a dx fs, x = .ref a ∧ H1 a = some (.ins C dx fs) ∧ fs.lookup m = none ∧
  tk σ H1 fun zs H2 => sp (gV [.ref a] zs) H2 Q E
theorem pe_methK0 {pl : Sem Bool} (he : PE X o ta) (c : Cls X.K C) (hm : Meth X.K C m f) (F : FnOk X.prog X.w X.K X.mg X.base CX k f fd ps sp) (hr : Room k X.A) (hb : KBinds X.K fd ps ks gf gV) (hx : Passes CX X E) (hkw : PK X kws tk)
    (hall : (backToKw pos (keywordEach kws X.env)).all (·.1.isSome) = true := by rfl) (hks : (backToKw pos (keywordEach kws X.env)).filterMap (·.1) = ks := by rfl)
    (hpl : ((backTo pos (starEach [] X.env)).any (·.1) || (backToKw pos (keywordEach kws X.env)).any (·.1.isNone)) = false := by rfl)
    (ht : eval (.Call (.Attribute o m apos) [] kws pos) X.env = (do
      let ov ← eval o X.env
      standAt apos.atName
      let (f, first) ← holding [ov] (getMethod ov m pl)
      callWith pos f first (backTo pos (starEach [] X.env)) (backToKw pos (keywordEach kws X.env))) := by rfl) :
    PE X (.Call (.Attribute o m apos) [] kws pos) (tMethK C m sp gV E ta tk) := by
  refine ⟨fun pins s σ H Q I h => PySem.W.methodCall_KW (pl := pl) (thn (he.run pins s σ H _ I h) fun u s1 ⟨x, H1, I1, rx, a, dx, fs, ex, ea, l, q⟩ => ?_) ht⟩
  subst ex
  obtain rfl : u = Value.ref a := rx
  refine getmeth_ok I1 ea c hm l (PySem.W.callWith_KW0 (first := [.ref a]) (h₀ := X.base) I.ok.mod.kin hm.kp hall ?_ hpl)
  refine thn (hkw.run pos pins s1 σ H1 _ I1 q) fun ws s2 ⟨zs, H2, I2, rz, q2⟩ => ⟨I2.kIn, ?_⟩
  rw [hks]
  exact run_fnk (us := [.ref a]) (vs := [.ref a]) F hr hb hx I2 (.cons rfl .nil) rz q2
end
/-! ### several except clauses, each with a name -/
/-- what the clauses wish of an exception; slot i is the name's -/
def wManyAs (K : PySem.W.Frag) (Wout : WX) (D : Ends) : List (Value × Nat × (Addr → Value → Option Addr → TS)) → WX
  | [] => Wout
  | (c, i, ts) :: r => fun cls d σ H => ∃ b, PySem.W.exmOne K cls c = some b ∧
      (b = true → ∀ a, H a = none → ts a cls d { nx := fun σ' H' => D.nx (σ'.set i none) H', rt := D.rt, bk := fun σ' H' => D.bk (σ'.set i none) H', ct := fun σ' H' => D.ct (σ'.set i none) H' } (σ.set i (some (.ref a))) H) ∧
      (b = false → wManyAs K Wout D r cls d σ H)
inductive HdsAs (X : Cx) : List ExceptHandler → List (Value × Nat × (Addr → Value → Option Addr → TS)) → Prop
  | nil : HdsAs X [] []
  | cons {x n : Str} {c : Value} {i : Nat} {ts : Addr → Value → Option Addr → TS} {b₀ : Stmt} {suite : List Stmt} {np pos' : Pos} {hds : List ExceptHandler} {l : List (Value × Nat × (Addr → Value → Option Addr → TS))}
      (hi : X.N[i]? = some n) (hln : X.env.kindOf n = some .local) (hc : Names X x c)
      (hsu : ∀ (a : Addr) (oe : Obj) (cls : Value) (d : Option Addr) (pn : List (Addr × Obj)), Zc cls d oe → (∃ vs, oe.data = .fields vs) → PSs (X.suite a ((a, oe) :: pn)) (b₀ :: suite) (ts a cls d)) (r : HdsAs X hds l) :
      HdsAs X (.ExceptHandler (some (.Name x np)) (some n) (b₀ :: suite) pos' :: hds) ((c, i, ts) :: l)
section
variable {X : Cx} {body : List Stmt} {h₀ : ExceptHandler} {hds : List ExceptHandler} {l : List (Value × Nat × (Addr → Value → Option Addr → TS))} {pos : Pos} {tb : WX → TS} {Wout : WX}
theorem ps_try_manyAs (hs : X.stack = X.env :: X.outer) (hf : X.env.frame = some X.env.locals) (hN : X.N.Nodup) (tk : Takes X Wout)
    (hb : ∀ (W : WX) (pn : List (Addr × Obj)) (xe : Value → Shared → Prop), Takes (X.tr pn xe) W → PassesOwn (model X.prog X.w) X.A X.env xe → PSs (X.tr pn xe) body (tb W))
    (hh : HdsAs X (h₀ :: hds) l) : PS X (.Try body (h₀ :: hds) [] [] pos) (fun D σ H => tb (wManyAs X.K Wout D l) D σ H) := by
  refine ⟨fun pins s σ H D I h => wpAny_Try_except ?_⟩
  have ok := I.ok
  have hfr : X.A.frames = some (X.env :: X.outer) := by rw [ok.frames, hs]
  refine wpAny_mono ((hb (wManyAs X.K Wout D l) (X.pn ++ pins) (fun e s₁ => wpAny (model X.prog X.w) X.A (noteFrame e X.env) (fun _ s₂ => wpAny (model X.prog X.w) X.A (setFlight e none) (fun _ s₃ =>
    wpAny (model X.prog X.w) X.A (handleBy e X.env (h₀ :: hds)) (SP X pins D) X.xe s₃) X.xe s₂) X.xe s₁) (fun u s' xx => ?_) PassesOwn.looking).run [] s σ H D (I.toTry _) h) (fun f s1 hsp => ?_) (fun e s1 he => he)
  · obtain ⟨a, B, sI, pins', σ', H', cls, d, rfl, J', nb, up, sky, na, os, ag, w⟩ := xx
    have J : Inv X pins σ' H' sI := J'.ofTry ok
    have sky' : Sky B (X.env :: X.outer) a (Zc cls d) X.env.locals s'.heap := by rw [← hs]; exact sky
    refine Sky.land Zc.steady hfr hf sky' fun h3 fl3 up3 => ?_
    have J3 : Inv X pins σ' H' { s' with heap := h3 } := J.landed nb fl3.1 (up.trans up3) os ag
    obtain ⟨oe3, vs3, he3, hz3, hd3⟩ := fl3.there
    have nfr : a ∉ frs (X.env :: X.outer) := fun hm => by
      obtain ⟨_, o', e', hnf⟩ := fl3.2.2.1.mem hm
      rw [he3] at e'
      cases e'
      exact hnf _ hd3
    have nL : a ≠ X.env.locals := fun z => nfr (List.mem_filterMap.mpr ⟨X.env, List.mem_cons_self, by rw [hf, z]⟩)
    have nF : a ∉ X.fs := fun hm => by
      obtain ⟨e, he, q⟩ := List.mem_filterMap.mp hm
      exact nfr (List.mem_filterMap.mpr ⟨e, List.mem_cons_of_mem _ he, q⟩)
    have S3 := J3.suite he3 hd3 na nL nF
    have go : ∀ {hds' : List ExceptHandler} {l' : List (Value × Nat × (Addr → Value → Option Addr → TS))}, HdsAs X hds' l' → wManyAs X.K Wout D l' cls d σ' H' →
        wpAny (model X.prog X.w) X.A (handleBy (.ref a) X.env hds') (SP X pins D) X.xe { s' with heap := h3 } := by
      intro hds' l' hk
      induction hk with
      | nil =>
        intro w
        refine wpAny_handleBy_nil ?_
        obtain ⟨k1, k2, k3, oe, vs, T, oT, ts', he, hz, hd, h1, hr⟩ := id fl3
        have fin : wpAny (model X.prog X.w) X.A (setFlight (.ref a) X.env.frame) (fun _ s4 => wpAny (model X.prog X.w) X.A (throw (.ref a) : Sem Flow) (SP X pins D) X.xe s4) X.xe { s' with heap := h3 } := by
          rw [hf]
          exact HandSPX.setFlight_upZ fl3 fun h4 hh4 up4 => wpAny_throw (tk _ _ ⟨a, B, sI, pins, σ', H', cls, d, rfl, J, nb, (up.trans up3).trans up4, .inr (.inr (by rw [hs]; exact hh4)), na, os, ag, w⟩)
        unfold PySem.passOn
        refine wpAny_bind (wpAny_field he hd h1 ?_)
        rw [if_neg (show ¬ ((Value.ref T == Value.none) = true) from by simp)]
        first
          | exact wpAny_bind (wpAny_pure (wpAny_bind fin))
          | exact wpAny_bind fin
      | @cons x n c i ts b₀ suite np pos' hds2 l2 hi hln hc hsu r ih =>
        intro w
        obtain ⟨b, hb1, hyes, hno⟩ := w
        refine wpAny_handleBy_cons (codeAny_handlers_test ?_) (by intro q; cases q)
        have LT : PySem.W.Looks (model X.prog X.w) h3 (typeOf (.ref a)) cls := fun A Q E s k q => wpAny_typeOf_ref (k _ _ he3) (by rw [hz3.1]; exact q)
        have LM := PySem.W.exm_one (M := model X.prog X.w) J3.kIn LT hb1
        have test : ∀ {Q : Value → Shared → Prop} {E : Value → Shared → Prop}, Q c { s' with heap := h3 } → wpAny (model X.prog X.w) (X.A.mark (some (.ref a))) (eval (.Name x np) X.env) Q E { s' with heap := h3 } := fun {Q E} q => by
          obtain ⟨hg, hdbg, hm⟩ := hc
          rcases hm with hm | ⟨hm, hv, hnn⟩
          · exact ld_glob (X := X.suite a ((a, oe3) :: (X.pn ++ pins))) S3 hg hm q hdbg
          · exact ld_blt (X := X.suite a ((a, oe3) :: (X.pn ++ pins))) S3 hg hm hv q hnn hdbg
        refine test (LM.here ?_)
        cases b with
        | false => exact ih (hno rfl)
        | true =>
          refine codeAny_handlers_suite_as (HandSPX.lands_againZ fl3 fun h4 fl4 up4 => ?_)
          have J4 : Inv X pins σ' H' { s' with heap := h4 } := J.landed nb fl4.1 ((up.trans up3).trans up4) os ag
          obtain ⟨oe4, vs4, he4, hz4, hd4⟩ := fl4.there
          have S4 := J4.suite he4 hd4 na nL nF
          refine store_ok (X := X.suite a ((a, oe4) :: (X.pn ++ pins))) (v := .ref a) S4 hN hi (.inl hln) rfl (fun s5 S5 => ?_) (.inr hln)
          refine wpAny_mono ((hsu a oe4 cls d (X.pn ++ pins) hz4 ⟨_, hd4⟩).run [] s5 _ H' _ S5 (hyes rfl a na)) (fun f s6 hsp => ?_) (fun _ _ z => False.elim z)
          have fin : ∀ {σ6 : St} {H6 : Hp} {Q : Shared → Prop}, Inv (X.suite a ((a, oe4) :: (X.pn ++ pins))) [] σ6 H6 s6 → (∀ s7, Inv X pins (σ6.set i none) H6 s7 → Q s7) →
              wpAny (model X.prog X.w) X.A (do bindName X.env n .none; unbindBehindTheSuite X.env n pos') (fun _ s7 => Q s7) X.xe s6 := fun {σ6 H6 Q} S6 hq => gone_ok (S6.unsuite ok) hN hi hln hq
          cases f with
          | next =>
            obtain ⟨σ6, H6, S6, q6⟩ := hsp
            exact fin S6 fun s7 J7 => ⟨_, _, J7, q6⟩
          | brk =>
            obtain ⟨σ6, H6, S6, q6⟩ := hsp
            exact fin S6 fun s7 J7 => ⟨_, _, J7, q6⟩
          | cont =>
            obtain ⟨σ6, H6, S6, q6⟩ := hsp
            exact fin S6 fun s7 J7 => ⟨_, _, J7, q6⟩
          | ret u =>
            obtain ⟨v6, σ6, H6, S6, r6, q6⟩ := hsp
            exact fin S6 fun s7 J7 => ⟨_, _, _, J7, r6, q6⟩
    exact go hh w
  · cases f with
    | next =>
      obtain ⟨σ', H', J', q⟩ := hsp
      exact wpAny_execs_nil ⟨σ', H', J'.ofTry ok, q⟩
    | brk =>
      obtain ⟨σ', H', J', q⟩ := hsp
      exact ⟨σ', H', J'.ofTry ok, q⟩
    | cont =>
      obtain ⟨σ', H', J', q⟩ := hsp
      exact ⟨σ', H', J'.ofTry ok, q⟩
    | ret u =>
      obtain ⟨v, σ', H', J', r, q⟩ := hsp
      exact ⟨v, σ', H', J'.ofTry ok, r, q⟩
end
end L2

/-! ### != of two lists whose items are compared within one model -/
namespace PySem.SeqAt
open AutoSeq1 (wpAny_loadPart')
open MeetsSeq MeetsSeq2 MeetsSeq3 SeqRoads2
section
variable {prog : Program} {w : World}
theorem neIn_go (l b : Addr) (xs ys : Array Value) (n n2 : Nat) (dd dd2 : Option Addr) (sl sl2 : Array (Option Value)) (hsz : xs.size = ys.size) (e : Nat → Bool) (k : Nat) :
    ∀ i : Nat, xs.size - i = k → MeetsIn prog w (Builtin.«list.__eq__.loop» ⟨[.ref l, .ref b, rawInt i, rawInt 3], []⟩)
      (fun A R s => s.heap.get? l = some { cls := .type "list", dict := dd, data := .seq xs n, slots := sl } ∧ s.heap.get? b = some { cls := .type "list", dict := dd2, data := .seq ys n2, slots := sl2 } ∧
        (∀ j (h1 : j < xs.size) (h2 : j < ys.size), EqIn prog w A.in1 s xs[j] ys[j] (e j)) ∧ R (.ok (.ret (.bool (!((List.range xs.size).drop i).all e)))) s) := by
  induction k with
  | zero =>
    intro i hk A R s h
    obtain ⟨hp, g, d, tk, os⟩ := s
    obtain ⟨hl, hb, he, h⟩ := h
    wp_walk using wpAny_loadPart' hl, wpAny_loadPart' hb
    rw [show ((List.range xs.size).drop i) = [] by simp; omega] at h
    rw [show xs[((i : Nat) : Int).toNat]? = none by simp; omega, show ys[((i : Nat) : Int).toNat]? = none by simp; omega]
    wp_walk using wpAny_loadPart' hl, wpAny_loadPart' hb
    show R (.ok (.ret (.bool (xs.size != ys.size)))) _
    rw [hsz]
    simpa using h
  | succ k ih =>
    intro i hk A R s h
    obtain ⟨hp, g, d, tk, os⟩ := s
    obtain ⟨hl, hb, he, h⟩ := h
    wp_walk using wpAny_loadPart' hl, wpAny_loadPart' hb
    have l1 : i < xs.size := by omega
    have l2 : i < ys.size := by omega
    have g1 : xs[((i : Nat) : Int).toNat]? = some xs[i] := by simp [l1]
    have g2 : ys[((i : Nat) : Int).toNat]? = some ys[i] := by simp [l2]
    rw [show (List.range xs.size).drop i = i :: (List.range xs.size).drop (i + 1) by simp [List.drop_eq_getElem_cons, l1], List.all_cons] at h
    rw [g1, g2]
    refine wpAny_bind (he i l1 l2 _ _ ?_)
    cases hv : e i with
    | true =>
      rw [hv] at h
      wp_walk
      rw [show ((i : Int) + 1) = ((i + 1 : Nat) : Int) by push_cast; rfl]
      exact ⟨plainId_quiet plain_eq_loop _, codeAny_builtin entry_eq_loop (by
        rw [Around.under_plainId plain_eq_loop _]
        exact ih (i + 1) (by omega) A R _ ⟨hl, hb, he, by simpa using h⟩)⟩
    | false =>
      rw [hv] at h
      wp_walk using wpAny_loadPart' hl, wpAny_loadPart' hb
      rw [g1, g2]
      wp_walk
      simpa using h
theorem neIn_list (l b : Addr) (xs ys : Array Value) (n n2 : Nat) (dd dd2 : Option Addr) (sl sl2 : Array (Option Value)) (hsz : xs.size = ys.size) (e : Nat → Bool) :
    MeetsIn prog w (Builtin.«list.__ne__» ⟨[.ref l, .ref b], []⟩)
      (fun A R s => s.heap.get? l = some { cls := .type "list", dict := dd, data := .seq xs n, slots := sl } ∧ s.heap.get? b = some { cls := .type "list", dict := dd2, data := .seq ys n2, slots := sl2 } ∧
        (∀ j (h1 : j < xs.size) (h2 : j < ys.size), EqIn prog w A.in1 s xs[j] ys[j] (e j)) ∧ R (.ok (.ret (.bool (!(List.range xs.size).all e)))) s) := by
  intro A R s h
  obtain ⟨hp, g, d, tk, os⟩ := s
  obtain ⟨hl, hb, he, h⟩ := h
  have f3 := AutoSeq1.sub_list_list
  have hne : ¬ (xs.size != ys.size) = true := by simp [hsz]
  wp_walk using wpAny_loadPart' hl, wpAny_loadPart' hb
  exact ⟨plainId_quiet plain_eq_loop _, codeAny_builtin entry_eq_loop (by
    rw [Around.under_plainId plain_eq_loop _]
    exact neIn_go l b xs ys n n2 dd dd2 sl sl2 hsz e _ 0 rfl A R _ ⟨hl, hb, he, by simpa using h⟩)⟩
theorem neIn_lists {A : Around} {s : Shared} {E : Value → Shared → Prop} {l b : Addr} {xs ys : Array Value} {e : Nat → Bool} {Q : Value → Shared → Prop} (hl : s.heap.IsList l xs) (hb : s.heap.IsList b ys) (hsz : xs.size = ys.size) (hu : A.units < cLine)
    (he : ∀ j (h1 : j < xs.size) (h2 : j < ys.size), EqIn prog w A.in1 s xs[j] ys[j] (e j)) (h : Q (.bool (!(List.range xs.size).all e)) s) : wpAny (model prog w) A (richCompare .NotEq (.ref l) (.ref b)) Q E s := by
  obtain ⟨⟨cls, dd, data, sl⟩, ho, hc, n, hd⟩ := id hl
  obtain ⟨⟨cls2, dd2, data2, sl2⟩, ho2, hc2, n2, hd2⟩ := id hb
  simp only at hc hd hc2 hd2
  subst hc hd hc2 hd2
  exact wpAny_richCompare_same_room (T := "list") (op := .NotEq) ⟨_, ho, rfl⟩ ⟨_, ho2, rfl⟩ F.slot_list_ne (call_meetsIn F.slot_list_ne ⟨_, ho, rfl⟩ F.entry_list_ne (F.args_list_ne_2 _ _) (neIn_list l b xs ys n n2 dd dd2 sl sl2 hsz e)
    ⟨ho, ho2, he, show Value.bool (!(List.range xs.size).all e) ≠ Value.notImplemented ∧ Q (.bool (!(List.range xs.size).all e)) s from ⟨(fun x => nomatch x), h⟩⟩) hu
end
end PySem.SeqAt
namespace PySem.W
open PySem.SeqAt (EqAt)
theorem KeqHits.of_all {K : Type} [DecidableEq K] {A : Around} {s : Shared} {kb : List (K × Value)} {e : K → Bool} : ∀ (r : List (K × Value)), (∀ k v y, (k, v) ∈ r → valueAt kb k = some y → EqAt A s v y (e k)) →
    KeqHits A s kb r (r.all fun p => (valueAt kb p.1).isSome && e p.1)
  | [], _ => .nil
  | (k, v) :: r, h => by
    cases hv : valueAt kb k with
    | none =>
      rw [show (((k, v) :: r).all fun p => (valueAt kb p.1).isSome && e p.1) = false by simp [hv]]
      exact .miss hv
    | some y =>
      rw [show (((k, v) :: r).all fun p => (valueAt kb p.1).isSome && e p.1) = (e k && r.all fun p => (valueAt kb p.1).isSome && e p.1) by simp [hv]]
      exact .hit hv (h k v y List.mem_cons_self hv) (KeqHits.of_all r fun k' v' y' hm hv' => h k' v' y' (List.mem_cons_of_mem _ hm) hv')
end PySem.W
namespace L2
open PySem PySem.Spec PyProof.Rows
/-- x == y answers the Bool, nested at most n deep; data of plain kinds want 64 -/
inductive Eqv (K : PySem.W.Frag) (H : Hp) : Nat → V → V → Bool → Prop
  | flat {n : Nat} {x y : V} : flatV x = true → flatV y = true → Eqv K H n x y (eqV x y)
  | same {n : Nat} {a : Addr} : Eqv K H n (.ref a) (.ref a) true
  | data {n : Nat} {x y : V} {d e : PyData} : 64 ≤ n → Dp K H x d → Dp K H y e → SeqAt.shaped d = true → SeqAt.shaped e = true → Eqv K H n x y (PyData.eqv d e)
  | lists {n : Nat} {a b : Addr} {xs ys : List V} {e : Nat → Bool} : a ≠ b → SqL K H a xs → SqL K H b ys → xs.length = ys.length → (∀ j x y, xs[j]? = some x → ys[j]? = some y → Eqv K H n x y (e j)) →
      Eqv K H (n + 1) (.ref a) (.ref b) ((List.range xs.length).all e)
  | listsLen {n : Nat} {a b : Addr} {xs ys : List V} : a ≠ b → SqL K H a xs → SqL K H b ys → xs.length ≠ ys.length → Eqv K H (n + 1) (.ref a) (.ref b) false
  | tups {n : Nat} {a b : Addr} {xs ys : List V} {e : Nat → Bool} : a ≠ b → SqT K H a xs → SqT K H b ys → (∀ j x y, xs[j]? = some x → ys[j]? = some y → Eqv K H n x y (e j)) →
      Eqv K H (n + 1) (.ref a) (.ref b) ((List.range (min xs.length ys.length)).all e && xs.length == ys.length)
  | dicts {n : Nat} {a b : Addr} {ks ls : List (Key × V)} {e : Key → Bool} : a ≠ b → H a = some (.dK ks) → H b = some (.dK ls) → (∀ k v y, (k, v) ∈ ks → valV ls k = some y → Eqv K H n v y (e k)) →
      Eqv K H (n + 1) (.ref a) (.ref b) (ks.length == ls.length && ks.all fun p => (valV ls p.1).isSome && e p.1)
section
variable {X : Cx} {pins : List (Addr × Obj)} {σ : St} {H : Hp} {s : Shared}
theorem kv_mem {kvs : List (Key × V)} {vs : List (Key × Value)} (r : KV kvs vs) : ∀ {k : Key} {u : Value}, (k, u) ∈ vs → ∃ v, (k, v) ∈ kvs ∧ RelV v u := by
  unfold KV at r
  induction r with
  | nil => intro k u h; cases h
  | @cons p q ps qs h t ih =>
    intro k u hm
    rcases List.mem_cons.mp hm with e | hm
    · subst e
      obtain ⟨h1, h2⟩ := h
      exact ⟨p.2, by rw [← show p.1 = k from h1]; exact List.mem_cons_self, h2⟩
    · obtain ⟨v, h1, h2⟩ := ih hm
      exact ⟨v, List.mem_cons_of_mem _ h1, h2⟩
theorem vals_at {xs : List V} {us : List Value} (r : Vals xs us) (j : Nat) (h : j < us.toArray.size) : ∃ x, xs[j]? = some x ∧ RelV x us.toArray[j] := by
  have hj : j < us.length := by simpa using h
  have hx : j < xs.length := by rw [r.length]; exact hj
  obtain ⟨u, hu, ru⟩ := r.get (List.getElem?_eq_getElem hx)
  refine ⟨_, List.getElem?_eq_getElem hx, ?_⟩
  rw [List.getElem?_eq_getElem hj] at hu
  have e : us.toArray[j] = u := by
    rw [← Option.some.inj hu]
    simp
  rw [e]
  exact ru
theorem tup_of {h : Heap} {a : Addr} {its : Array Value} (t : IsTup h a its) : h.IsTuple a its := by
  obtain ⟨o, h1, h2, n, h3⟩ := t
  exact ⟨o, h1, h2, n, h3⟩
theorem val_is {ls : List (Key × V)} {vb : List (Key × Value)} (rb : KV ls vb) {k : Key} {y : Value} (hv : valueAt vb k = some y) : ∃ y0, valV ls k = some y0 ∧ RelV y0 y := by
  have q := rb.val k
  rw [hv] at q
  cases h3 : valV ls k with
  | none => rw [h3] at q; exact q.elim
  | some y0 => rw [h3] at q; exact ⟨y0, rfl, q⟩
theorem hits_allV {ks ls : List (Key × V)} {va vb : List (Key × Value)} (e : Key → Bool) (ra : KV ks va) (rb : KV ls vb) : (ks.all fun p => (valV ls p.1).isSome && e p.1) = va.all fun p => (valueAt vb p.1).isSome && e p.1 := by
  have hk : ks.map (·.1) = va.map (·.1) := ra.keys
  have hs : ∀ k : Key, (valV ls k).isSome = (valueAt vb k).isSome := fun k => by
    have q := rb.val k
    cases h3 : valV ls k <;> cases h4 : valueAt vb k <;> rw [h3, h4] at q <;> first | rfl | exact q.elim
  have f : ∀ l : List (Key × V), (l.all fun p => (valV ls p.1).isSome && e p.1) = (l.map (·.1)).all fun k => (valueAt vb k).isSome && e k := fun l => by
    rw [List.all_map]
    congr 1
    funext p
    rw [hs p.1]
    rfl
  rw [f, hk, List.all_map]
  rfl
theorem Eqv.tree (I : Inv X pins σ H s) {n : Nat} {x y : V} {r : Bool} (t : Eqv X.K H n x y r) : ∀ {v u : Value}, RelV x v → RelV y u → PySem.W.EqTree X.prog X.w s n v u r := by
  induction t with
  | flat h1 h2 => exact fun rv ru => .leaf fun A _ => eqAt_V rv ru h1 h2
  | same =>
    intro v u rv ru
    obtain rfl : v = _ := rv
    obtain rfl : u = _ := ru
    exact .same
  | data hn d1 d2 s1 s2 =>
    intro v u rv ru
    obtain ⟨as, r1⟩ := Dp.reads I _ _ _ d1 rv
    obtain ⟨bs, r2⟩ := Dp.reads I _ _ _ d2 ru
    exact .leaf fun A hu => SeqAt.eqAt_reads _ _ A s _ _ _ _ r1 r2 (SeqAt.canLay_of_shaped s1) (SeqAt.canLay_of_shaped s2) (SeqAt.room_of_shaped s1 (by omega))
  | @lists n a b xs ys e hne h1 h2 hl _ ih =>
    intro v u rv ru
    obtain rfl : v = _ := rv
    obtain rfl : u = _ := ru
    obtain ⟨us, r1, p1, _⟩ := I.list h1
    obtain ⟨ws, r2, p2, _⟩ := I.list h2
    have e1 : xs.length = us.toArray.size := by rw [r1.length]; simp
    have e2 : ys.length = ws.toArray.size := by rw [r2.length]; simp
    rw [e1]
    refine .lists hne p1.isList p2.isList (by rw [← e1, ← e2, hl]) fun j j1 j2 => ?_
    obtain ⟨x, hx, rx⟩ := vals_at r1 j j1
    obtain ⟨y, hy, ry⟩ := vals_at r2 j j2
    exact ih j x y hx hy rx ry
  | @listsLen n a b xs ys hne h1 h2 hl =>
    intro v u rv ru
    obtain rfl : v = _ := rv
    obtain rfl : u = _ := ru
    obtain ⟨us, r1, p1, _⟩ := I.list h1
    obtain ⟨ws, r2, p2, _⟩ := I.list h2
    refine .listsLen hne p1.isList p2.isList ?_
    have e1 := r1.length
    have e2 := r2.length
    simp only [List.size_toArray, bne_iff_ne]
    omega
  | @tups n a b xs ys e hne h1 h2 _ ih =>
    intro v u rv ru
    obtain rfl : v = _ := rv
    obtain rfl : u = _ := ru
    obtain ⟨us, r1, p1, _⟩ := I.tuple h1
    obtain ⟨ws, r2, p2, _⟩ := I.tuple h2
    have e1 : xs.length = us.toArray.size := by rw [r1.length]; simp
    have e2 : ys.length = ws.toArray.size := by rw [r2.length]; simp
    rw [e1, e2]
    refine .tuples hne (tup_of p1) (tup_of p2) fun j j1 j2 => ?_
    obtain ⟨x, hx, rx⟩ := vals_at r1 j j1
    obtain ⟨y, hy, ry⟩ := vals_at r2 j j2
    exact ih j x y hx hy rx ry
  | @dicts n a b ks ls e hne h1 h2 _ ih =>
    intro v u rv ru
    obtain rfl : v = _ := rv
    obtain rfl : u = _ := ru
    obtain ⟨_, ya, va, ra, da⟩ := (show ObjOk X.prog X.w H s.heap a (.dK ks) from I.hok a _ h1)
    obtain ⟨_, yb, vb, rb, db⟩ := (show ObjOk X.prog X.w H s.heap b (.dK ls) from I.hok b _ h2)
    have ea : ks.length = va.length := ra.length
    have eb : ls.length = vb.length := rb.length
    have eall := hits_allV e ra rb
    rw [eall, ea, eb]
    refine .dicts hne ya yb da db fun k v y hm hv => ?_
    obtain ⟨v0, hm0, rv0⟩ := kv_mem ra hm
    obtain ⟨y0, hy0, ry0⟩ := val_is rb hv
    exact ih k v0 y0 hm0 hy0 rv0 ry0
end
section
variable {X : Cx}
/-- a == b of two lists, two tuples, two dicts -/
def rEqT (K : PySem.W.Frag) : R2 := fun x y H Q =>
  (∃ a b xs ys e, x = .ref a ∧ y = .ref b ∧ SqL K H a xs ∧ SqL K H b ys ∧ xs.length = ys.length ∧ (∀ j x y, xs[j]? = some x → ys[j]? = some y → Eqv K H 70 x y (e j)) ∧ Q (.bl ((List.range xs.length).all e)) H) ∨
  (∃ a b xs ys e, x = .ref a ∧ y = .ref b ∧ SqT K H a xs ∧ SqT K H b ys ∧ (∀ j x y, xs[j]? = some x → ys[j]? = some y → Eqv K H 70 x y (e j)) ∧ Q (.bl ((List.range (min xs.length ys.length)).all e && xs.length == ys.length)) H) ∨
  (∃ (a b : Addr) (ks ls : List (Key × V)) (e : Key → Bool), x = .ref a ∧ y = .ref b ∧ H a = some (.dK ks) ∧ H b = some (.dK ls) ∧ (∀ k v y, (k, v) ∈ ks → valV ls k = some y → Eqv K H 70 v y (e k)) ∧ Q (.bl (ks.length == ls.length && ks.all fun p => (valV ls p.1).isSome && e p.1)) H)
theorem op_eqT (hu : X.A.units + 100 < cLine) : OpR X (compareOp .Eq) (rEqT X.K) := by
  intro pins s σ H x y v u Q I rx ry h
  rcases h with ⟨a, b, xs, ys, e, rfl, rfl, h1, h2, hl, he, q⟩ | ⟨a, b, xs, ys, e, rfl, rfl, h1, h2, he, q⟩ | ⟨a, b, ks, ls, e, rfl, rfl, h1, h2, he, q⟩
  · obtain rfl : v = _ := rx
    obtain rfl : u = _ := ry
    obtain ⟨us, r1, p1, _⟩ := I.list h1
    obtain ⟨ws, r2, p2, _⟩ := I.list h2
    have e1 : xs.length = us.toArray.size := by rw [r1.length]; simp
    have e2 : ys.length = ws.toArray.size := by rw [r2.length]; simp
    refine PySem.W.eq_listsT (n := 70) (e := e) p1.isList p2.isList (by rw [← e1, ← e2, hl]) (fun j j1 j2 => ?_) (by omega) ⟨.bl _, H, I, rfl, by rw [← e1]; exact q⟩
    obtain ⟨x, hx, rx⟩ := vals_at r1 j j1
    obtain ⟨y, hy, ry⟩ := vals_at r2 j j2
    exact (he j x y hx hy).tree I rx ry
  · obtain rfl : v = _ := rx
    obtain rfl : u = _ := ry
    obtain ⟨us, r1, p1, _⟩ := I.tuple h1
    obtain ⟨ws, r2, p2, _⟩ := I.tuple h2
    have e1 : xs.length = us.toArray.size := by rw [r1.length]; simp
    have e2 : ys.length = ws.toArray.size := by rw [r2.length]; simp
    refine PySem.W.eq_tuplesT (n := 70) (e := e) (tup_of p1) (tup_of p2) (fun j j1 j2 => ?_) (by omega) ⟨.bl _, H, I, rfl, by rw [← e1, ← e2]; exact q⟩
    obtain ⟨x, hx, rx⟩ := vals_at r1 j j1
    obtain ⟨y, hy, ry⟩ := vals_at r2 j j2
    exact (he j x y hx hy).tree I rx ry
  · obtain rfl : v = _ := rx
    obtain rfl : u = _ := ry
    obtain ⟨_, ya, va, ra, da⟩ := (show ObjOk X.prog X.w H s.heap a (.dK ks) from I.hok a _ h1)
    obtain ⟨_, yb, vb, rb, db⟩ := (show ObjOk X.prog X.w H s.heap b (.dK ls) from I.hok b _ h2)
    refine PySem.W.eq_dictsT (n := 70) (e := e) ya yb da db (fun k v y hm hv => ?_) (by omega) ⟨.bl _, H, I, rfl, by rw [← hits_allV e ra rb, ← show ks.length = va.length from ra.length, ← show ls.length = vb.length from rb.length]; exact q⟩
    obtain ⟨v0, hm0, rv0⟩ := kv_mem ra hm
    obtain ⟨y0, hy0, ry0⟩ := val_is rb hv
    exact (he k v0 y0 hm0 hy0).tree I rv0 ry0
/-- a != b of two lists -/
def rNeT (K : PySem.W.Frag) : R2 := fun x y H Q => ∃ (a b : Addr) (xs ys : List V) (e : Nat → Bool), x = .ref a ∧ y = .ref b ∧ SqL K H a xs ∧ SqL K H b ys ∧ xs.length = ys.length ∧ (∀ j x y, xs[j]? = some x → ys[j]? = some y → Eqv K H 70 x y (e j)) ∧
  Q (.bl (!(List.range xs.length).all e)) H
theorem op_neT (hu : X.A.units + 100 < cLine) : OpR X (compareOp .NotEq) (rNeT X.K) := by
  intro pins s σ H x y v u Q I rx ry h
  obtain ⟨a, b, xs, ys, e, rfl, rfl, h1, h2, hl, he, q⟩ := h
  obtain rfl : v = _ := rx
  obtain rfl : u = _ := ry
  obtain ⟨us, r1, p1, _⟩ := I.list h1
  obtain ⟨ws, r2, p2, _⟩ := I.list h2
  have e1 : xs.length = us.toArray.size := by rw [r1.length]; simp
  have e2 : ys.length = ws.toArray.size := by rw [r2.length]; simp
  refine SeqAt.neIn_lists (e := e) p1.isList p2.isList (by rw [← e1, ← e2, hl]) (by omega) (fun j j1 j2 => ?_) ⟨.bl _, H, I, rfl, by rw [← e1]; exact q⟩
  obtain ⟨x, hx, rx⟩ := vals_at r1 j j1
  obtain ⟨y, hy, ry⟩ := vals_at r2 j j2
  exact ((he j x y hx hy).tree I rx ry).at X.A.in1 (by show X.A.units + 1 + 70 < cLine; omega)
/-- a != b of two dicts of the same keys and equal plain values -/
def rNeDc (K : PySem.W.Frag) : R2 := fun x y H Q => ∃ (a b : Addr) (ks ls : List (Key × V)) (e : Key → Bool), x = .ref a ∧ y = .ref b ∧ H a = some (.dK ks) ∧ H b = some (.dK ls) ∧
  (∀ k v y, (k, v) ∈ ks → valV ls k = some y → (flatV v = true ∧ flatV y = true ∧ e k = eqV v y) ∨ ((∃ a, v = .ref a ∧ y = .ref a) ∧ e k = true)) ∧ Q (.bl (!(ks.length == ls.length && ks.all fun p => (valV ls p.1).isSome && e p.1))) H
theorem op_neDc (hu : X.A.units + 100 < cLine) : OpR X (compareOp .NotEq) (rNeDc X.K) := by
  intro pins s σ H x y v u Q I rx ry h
  obtain ⟨a, b, ks, ls, e, rfl, rfl, h1, h2, he, q⟩ := h
  obtain rfl : v = _ := rx
  obtain rfl : u = _ := ry
  obtain ⟨_, ya, va, ra, da⟩ := (show ObjOk X.prog X.w H s.heap a (.dK ks) from I.hok a _ h1)
  obtain ⟨_, yb, vb, rb, db⟩ := (show ObjOk X.prog X.w H s.heap b (.dK ls) from I.hok b _ h2)
  refine PySem.W.keq_ne ya yb da db (by omega) (fun _ => PySem.W.KeqHits.of_all (e := e) va fun k v y hm hv => ?_) ⟨.bl _, H, I, rfl, by rw [← hits_allV e ra rb, ← show ks.length = va.length from ra.length, ← show ls.length = vb.length from rb.length]; exact q⟩
  obtain ⟨v0, hm0, rv0⟩ := kv_mem ra hm
  obtain ⟨y0, hy0, ry0⟩ := val_is rb hv
  rcases he k v0 y0 hm0 hy0 with ⟨f1, f2, f3⟩ | ⟨⟨a, rfl, rfl⟩, f3⟩
  · rw [f3]
    exact eqAt_V rv0 ry0 f1 f2
  · obtain rfl : v = _ := rv0
    obtain rfl : y = _ := ry0
    rw [f3]
    exact SeqAt.EqAt.same _
end
end L2

namespace L2
open PySem PySem.Spec PyProof.Rows
/-! ### the drawing state: s holds [big, cells, counter]; G is what the others see -/
structure VS (s b c : Addr) (n : Int) (bs cs : List Int) (G H : Hp) : Prop where
  sub : Same G H
  gs : G s = none
  gb : G b = none
  gc : G c = none
  bs' : b ≠ s
  cs' : c ≠ s
  bc : b ≠ c
  hs : H s = some (.lst [.ref b, .ref c, .int n])
  hb : H b = some (.lst (bs.map V.int))
  hc : H c = some (.lst (cs.map V.int))
  nn : ∀ x ∈ bs, (0 : Int) ≤ x
  lb : bs.length ≤ 63
  lc : 0 < cs.length ∧ cs.length ≤ 64
  n0 : 0 ≤ n
def View (s : Addr) (N : Nat) (G H : Hp) : Prop := ∃ b c n bs cs, VS s b c n bs cs G H ∧ n ≤ (N : Int)
theorem same_of_none {H : Hp} {p : Addr} {o : HO} (h : H p = none) : Same H (upd H p o) := fun b x e => by
  rw [upd_ne (ne_of_none e h)]
  exact e
/-- what the others do not see may change -/
theorem Same.unseen {G H : Hp} {p : Addr} {o : HO} (e : Same G H) (h : G p = none) : Same G (upd H p o) := fun b x g => by
  rw [upd_ne (ne_of_none g h)]
  exact e _ _ g
theorem View.sub {s : Addr} {N : Nat} {G H : Hp} (v : View s N G H) : Same G H := let ⟨_, _, _, _, _, k, _⟩ := v; k.sub
theorem View.gs {s : Addr} {N : Nat} {G H : Hp} (v : View s N G H) : G s = none := let ⟨_, _, _, _, _, k, _⟩ := v; k.gs
theorem View.mono {s : Addr} {N M : Nat} {G H : Hp} (v : View s N G H) (h : N ≤ M) : View s M G H :=
  let ⟨b, c, n, bs, cs, k, l⟩ := v; ⟨b, c, n, bs, cs, k, by omega⟩
theorem VS.ext {s b c : Addr} {n : Int} {bs cs : List Int} {G H H' : Hp} (k : VS s b c n bs cs G H) (e : Same H H') : VS s b c n bs cs G H' :=
  { k with sub := k.sub.trans e, hs := e _ _ k.hs, hb := e _ _ k.hb, hc := e _ _ k.hc }
theorem View.ext {s : Addr} {N : Nat} {G H H' : Hp} (v : View s N G H) (e : Same H H') : View s N G H' :=
  let ⟨b, c, n, bs, cs, k, l⟩ := v; ⟨b, c, n, bs, cs, k.ext e, l⟩
/-- a new object, seen from now on -/
theorem View.see {s : Addr} {N : Nat} {G H H' : Hp} {p : Addr} {o : HO} (v : View s N G H) (e : Same H H') (n : H p = none) (h : H' p = some o) : View s N (upd G p o) H' := by
  obtain ⟨b, c, i, bs, cs, k, l⟩ := v
  have f : ∀ q u, H q = some u → p ≠ q := fun q u hq z => by rw [z, hq] at n; cases n
  refine ⟨b, c, i, bs, cs, { k.ext e with sub := fun q u hq => ?_, gs := ?_, gb := ?_, gc := ?_ }, l⟩
  · by_cases hqp : q = p
    · subst hqp
      rw [upd_same] at hq
      cases hq
      exact h
    · rw [upd_ne hqp] at hq
      exact e _ _ (k.sub _ _ hq)
  · rw [upd_ne (f _ _ k.hs).symm]; exact k.gs
  · rw [upd_ne (f _ _ k.hb).symm]; exact k.gb
  · rw [upd_ne (f _ _ k.hc).symm]; exact k.gc
theorem View.new {s : Addr} {N : Nat} {G H : Hp} {p : Addr} {o : HO} (v : View s N G H) (n : H p = none) : View s N (upd G p o) (upd H p o) := v.see (same_of_none n) n upd_same
/-- an object that is seen, stored to -/
theorem View.put {s : Addr} {N : Nat} {G H : Hp} {p : Addr} {u o : HO} (v : View s N G H) (h : G p = some u) : View s N (upd G p o) (upd H p o) := by
  obtain ⟨b, c, i, bs, cs, k, l⟩ := v
  have f : ∀ q, G q = none → q ≠ p := fun q hq z => by rw [z, h] at hq; cases hq
  refine ⟨b, c, i, bs, cs, ⟨fun q x hq => ?_, ?_, ?_, ?_, k.bs', k.cs', k.bc, ?_, ?_, ?_, k.nn, k.lb, k.lc, k.n0⟩, l⟩
  · by_cases hqp : q = p
    · subst hqp
      rw [upd_same] at hq ⊢
      exact hq
    · rw [upd_ne hqp] at hq ⊢
      exact k.sub _ _ hq
  · rw [upd_ne (f _ k.gs)]; exact k.gs
  · rw [upd_ne (f _ k.gb)]; exact k.gb
  · rw [upd_ne (f _ k.gc)]; exact k.gc
  · rw [upd_ne (f _ k.gs)]; exact k.hs
  · rw [upd_ne (f _ k.gb)]; exact k.hb
  · rw [upd_ne (f _ k.gc)]; exact k.hc
theorem VS.count {s b c : Addr} {n : Int} {bs cs : List Int} {G H : Hp} (k : VS s b c n bs cs G H) : VS s b c (n + 1) bs cs G (upd H s (.lst [.ref b, .ref c, .int (n + 1)])) where
  sub := k.sub.unseen k.gs
  gs := k.gs
  gb := k.gb
  gc := k.gc
  bs' := k.bs'
  cs' := k.cs'
  bc := k.bc
  hs := upd_same
  hb := by rw [upd_ne k.bs']; exact k.hb
  hc := by rw [upd_ne k.cs']; exact k.hc
  nn := k.nn
  lb := k.lb
  lc := k.lc
  n0 := by have := k.n0; omega
/-- another big list in the first place -/
theorem VS.big {s b c p : Addr} {n y : Int} {r cs : List Int} {G H : Hp} (k : VS s b c n (y :: r) cs G H) (hp : H p = none) :
    VS s p c n r cs G (upd (upd H p (.lst (r.map V.int))) s (.lst [.ref p, .ref c, .int n])) := by
  have ps : p ≠ s := fun z => by rw [z, k.hs] at hp; cases hp
  have pc : p ≠ c := fun z => by rw [z, k.hc] at hp; cases hp
  exact { sub := (k.sub.unseen (k.sub.free hp)).unseen k.gs, gs := k.gs, gb := k.sub.free hp, gc := k.gc, bs' := ps, cs' := k.cs', bc := pc, hs := upd_same,
          hb := by rw [upd_ne ps, upd_same], hc := by rw [upd_ne k.cs', upd_ne pc.symm]; exact k.hc, nn := fun x hx => k.nn x (List.mem_cons_of_mem _ hx),
          lb := by have := k.lb; rw [List.length_cons] at this; omega, lc := k.lc, n0 := k.n0 }
/-- the big list's head, changed -/
theorem VS.head {s b c : Addr} {n y z : Int} {r cs : List Int} {G H : Hp} (k : VS s b c n (y :: r) cs G H) (hz : 0 ≤ z) : VS s b c n (z :: r) cs G (upd H b (.lst ((z :: r).map V.int))) where
  sub := k.sub.unseen k.gb
  gs := k.gs
  gb := k.gb
  gc := k.gc
  bs' := k.bs'
  cs' := k.cs'
  bc := k.bc
  hs := by rw [upd_ne k.bs'.symm]; exact k.hs
  hb := upd_same
  hc := by rw [upd_ne k.bc.symm]; exact k.hc
  nn := fun x hx => by
    rcases List.mem_cons.mp hx with rfl | hx
    · exact hz
    · exact k.nn x (List.mem_cons_of_mem _ hx)
  lb := k.lb
  lc := k.lc
  n0 := k.n0
/-- a seen object is left out of sight -/
theorem Same.free' {G H : Hp} {p : Addr} (e : Same G H) (h : H p = none) : G p = none := e.free h
/-! ### lists of ints -/
theorem dpAll_ints {K : PySem.W.Frag} {H : Hp} : ∀ ns : List Int, DpAll K H (ns.map V.int) (ns.map PyData.int)
  | [] => .nil
  | i :: r => .cons (.int i) (dpAll_ints r)
theorem dpAll_strs {K : PySem.W.Frag} {H : Hp} : ∀ ns : List Str, DpAll K H (ns.map V.str) (ns.map PyData.str)
  | [] => .nil
  | i :: r => .cons (.str i) (dpAll_strs r)
theorem cut1 (x : V) (xs : List V) : cutV (x :: xs) (some 1) none = xs := by
  unfold cutV
  rw [show HT.sIx (x :: xs).length 0 (some 1) = min 1 (x :: xs).length from HT.sIx_nat (x :: xs).length 0 1, HT.sIx_none]
  rw [show min 1 (x :: xs).length = 1 by
    rw [List.length_cons]
    omega]
  show (List.take ((x :: xs).length - 1) xs) = xs
  rw [List.length_cons, Nat.add_sub_cancel]
  exact List.take_length
theorem shaped_ints : ∀ ns : List Int, SeqAt.shaped (.list (ns.map PyData.int)) = true
  | [] => rfl
  | _ :: r => shaped_ints r
/-! ### comprehensions whose parts touch nothing -/
def Is (te : TE) (σ : St) (H : Hp) (v : V) : Prop := ∀ Q : VK, Q v H → te σ H Q
def TIs (t : TT) (σ : St) (H : Hp) (b : Bool) : Prop := ∀ Q : Bool → Hp → Prop, Q b H → t σ H Q
theorem take_more {α : Type} : ∀ {l : List α} {i : Nat} {x : α}, l[i]? = some x → l.take (i + 1) = l.take i ++ [x]
  | [], i, x, h => by simp at h
  | a :: l, 0, x, h => by
    have e : a = x := Option.some.inj h
    subst e
    rfl
  | a :: l, i + 1, x, h => by
    have ih := take_more (l := l) (i := i) (x := x) h
    show a :: l.take (i + 1) = a :: l.take i ++ [x]
    rw [ih]
    rfl
theorem fm_len {α β : Type} (l : List α) (p : α → Bool) (f : α → β) : ((l.filter p).map f).length ≤ l.length := by
  rw [List.length_map]
  exact List.length_filter_le _ _
theorem lc_fm {J : It} {G : Hp → Prop} {xs : List V} (w : Walk J xs.length G (YAt xs)) {tt : TT} {te : TE} {vs : List Nat} {σ : St} {H1 : Hp} {D : Addr} {Qd : Hp → Prop} {j : Nat} (p : V → Bool) (f : V → V)
    (hD : H1 D = none) (hG : ∀ H', Same H1 H' → G H') (hl : xs.length ≤ 1000) (hw : ∀ x, wipe ((wipe σ vs).set j (some x)) vs = wipe σ vs)
    (ht : ∀ x ∈ xs, ∀ H', Same H1 H' → TIs tt ((wipe σ vs).set j (some x)) H' (p x)) (he : ∀ x ∈ xs, p x = true → ∀ H', Same H1 H' → Is te ((wipe σ vs).set j (some x)) H' (f x))
    (hd : Qd (upd H1 D (.lst ((xs.filter p).map f)))) :
    ∃ W : Nat → Nat → Hp → Prop, (∃ m, W 0 m (upd H1 D (.lst []))) ∧ ∀ i m H, W i m H →
      (J.stop i H ∧ Qd H) ∨ (J.go i H ∧ ∃ Nx : Hp → Prop, (∀ H', Nx H' → ∃ m', m' < m ∧ W (i + 1) m' H') ∧ ∀ x H', J.yld i H x H' → gName j x (wipe σ vs) H' fun σ2 H2 => wipe σ2 vs = wipe σ vs ∧ tt σ2 H2 fun b H3 =>
        if b = true then te σ2 H3 fun y H4 => ∃ acc, H4 D = some (.lst acc) ∧ acc.length < sizeLine ∧ Nx (upd H4 D (.lst (acc ++ [y]))) else Nx H3) := by
  have sm : ∀ l : List V, Same H1 (upd H1 D (.lst l)) := fun l => same_of_none hD
  refine lc_it w (fun i H => H = upd H1 D (.lst (((xs.take i).filter p).map f))) rfl (fun i H _ e => by rw [e]; exact hG _ (sm _)) (fun i x H H' hi e y => ?_) (fun H e => by rw [e, List.take_length]; exact hd)
  obtain ⟨rfl, hx⟩ := y
  subst e
  have hm : x ∈ xs := List.mem_of_getElem? hx
  have ht' := take_more hx
  refine ⟨hw x, ht x hm _ (sm _) _ ?_⟩
  cases hp : p x with
  | true =>
    refine if_pos rfl |>.mpr ?_
    refine he x hm hp _ (sm _) _ ⟨_, upd_same, small1000 (Nat.le_trans (fm_len _ _ _) (by rw [List.length_take]; omega)), ?_⟩
    rw [upd_upd, ht', List.filter_append, List.map_append, List.filter_cons, if_pos hp]
    rfl
  | false =>
    refine if_neg Bool.false_ne_true |>.mpr ?_
    rw [ht', List.filter_append, List.filter_cons, if_neg (by rw [hp]; exact Bool.false_ne_true)]
    show upd H1 D _ = upd H1 D (.lst ((((xs.take i).filter p) ++ []).map f))
    rw [List.append_nil]
/-- the signs of a text -/
def sgn (c : Nat) : V := .str ⟨#[c]⟩
def sgns (z : Str) : List V := z.cps.toList.map sgn
theorem walk_sgns {z : Str} : Walk (Its z) (sgns z).length (fun _ => True) (YAt (sgns z)) := by
  have hn : (sgns z).length = z.cps.size := by unfold sgns; simp
  rw [hn]
  refine walk_str.mono (fun _ h => h) (fun i H v H' hi _ ⟨e, c, hc, hv⟩ => ⟨e, ?_⟩)
  unfold sgns
  rw [List.getElem?_map, Array.getElem?_toList, hc, hv]
  rfl
theorem View.hide {s : Addr} {N : Nat} {G H : Hp} {p : Addr} {o : HO} (v : View s N (upd G p o) H) (h : G p = none) : View s N G H := by
  obtain ⟨b, c, n, bs, cs, k, l⟩ := v
  have f : ∀ q, upd G p o q = none → G q = none := fun q hq => by
    by_cases e : q = p
    · rw [e]; exact h
    · rw [upd_ne e] at hq; exact hq
  exact ⟨b, c, n, bs, cs, { k with sub := fun q u hq => k.sub q u (same_of_none h q u hq), gs := f _ k.gs, gb := f _ k.gb, gc := f _ k.gc }, l⟩
theorem View.free {s : Addr} {N : Nat} {G H : Hp} {p : Addr} (v : View s N G H) (h : H p = none) : G p = none := v.sub.free h
/-! ### "".join of signs -/
theorem glue_go (l : List Str) : ∀ acc : Array Nat, (l.foldl (fun acc p => acc ++ (Str.ofString "").cps ++ p.cps) acc).toList = acc.toList ++ l.flatMap (·.cps.toList) := by
  induction l with
  | nil => intro acc; simp
  | cons x r ih =>
    intro acc
    rw [List.foldl_cons, ih]
    have e : (Str.ofString "").cps = #[] := by decide +kernel
    rw [e]
    simp
theorem join_flat (l : List Str) : (Txt.join "" l).cps.toList = l.flatMap (·.cps.toList) := by
  show ((l.drop 1).foldl (fun acc p => acc ++ (Str.ofString "").cps ++ p.cps) (l.headD Str.empty).cps).toList = _
  rw [glue_go]
  cases l with
  | nil => rfl
  | cons x r => simp
theorem join_signs (cs : List Nat) : (Txt.join "" (cs.map fun c => (⟨#[c]⟩ : Str))).cps.toList = cs := by
  rw [join_flat]
  induction cs with
  | nil => rfl
  | cons c r ih => simp [ih]
theorem sgn_strs (cs : List Nat) : (cs.map fun c => (⟨#[c]⟩ : Str)).map V.str = cs.map sgn := by
  rw [List.map_map]
  rfl
theorem ones_len (cs : List Nat) : ((cs.map fun c => (⟨#[c]⟩ : Str)).map (·.length)).sum = cs.length := by
  induction cs with
  | nil => rfl
  | cons c r ih =>
    show 1 + ((r.map fun c => (⟨#[c]⟩ : Str)).map (·.length)).sum = r.length + 1
    rw [ih]
    omega
/-! ### numbers, names, texts -/
def spDraw : Sp := fun vs H Q _ => ∃ (s : Addr) (N : Nat) (G : Hp) (m : Int), vs = [.ref s, .int m] ∧ View s N G H ∧ N ≤ 1000000 ∧ 0 < m ∧ m < 2 ^ 100 ∧
  ∀ (d : Int) (H' : Hp), 0 ≤ d → d < m → View s (N + 1) G H' → Q (.int d) H'
def spStart (K : PySem.W.Frag) : Sp := fun vs H Q _ => ∃ (a : Addr) (ns : List Int), vs = [.ref a] ∧ SqL K H a (ns.map V.int) ∧ ns.length ≤ 63 ∧ ∀ (s : Addr) (H' : Hp), View s 0 H H' → Q (.ref s) H'
theorem fmod_in (x : Int) {m : Int} (h : 0 < m) : 0 ≤ x.fmod m ∧ x.fmod m < m := by
  rw [Int.fmod_eq_emod_of_nonneg x (by omega)]
  exact ⟨Int.emod_nonneg _ (by omega), Int.emod_lt_of_pos _ h⟩
theorem ix_mod (cs : List Int) (n : Int) (h : 0 < cs.length) : ∃ (j : Nat) (z : Int), n.fmod (cs.length : Int) = (j : Int) ∧ cs[j]? = some z := by
  obtain ⟨h0, h1⟩ := fmod_in n (m := (cs.length : Int)) (by omega)
  obtain ⟨j, hj⟩ := Int.eq_ofNat_of_zero_le h0
  refine ⟨j, cs[j]'(by omega), hj, List.getElem?_eq_getElem _⟩
theorem nz1 : (2147483647 : Int) ≠ 0 := by decide
theorem nz2 : (2147483629 : Int) ≠ 0 := by decide
theorem ixN_zero {y : Int} {r : List Int} : ixN ((y :: r).map V.int).length 0 = some 0 := by
  unfold ixN
  rw [if_pos (by decide), if_pos (by rw [List.length_map, List.length_cons]; omega)]
  rfl
theorem dec_true {c : Bool} {A B : Prop} (hc : c = true) (h : A) : if c = true then A else B := by rw [if_pos hc]; exact h
theorem dec_false {c : Bool} {A B : Prop} (hc : c = false) (h : B) : if c = true then A else B := by rw [hc, if_neg Bool.false_ne_true]; exact h
theorem pow5 {x : Int} (h0 : 0 ≤ x) (h : x < 2 ^ 60) : (0 : Int) ≤ 5 ∧ (5 : Int) ≤ 1000000 ∧ x.natAbs < 2 ^ 64 := ⟨by decide, by decide, by
  have : x.natAbs < 2 ^ 60 := by omega
  omega⟩
theorem wmul {i j : Int} (h0 : 0 ≤ i) (h : i < 2 ^ 40) (h1 : 0 ≤ j) (h2 : j < 2 ^ 40) : CMulW i j := wide_mul (a := 40) (b := 40) (by omega) (by omega) (by decide) (by decide) (by decide)

theorem cpow1018 : CPow 10 18 := ⟨by decide, by decide, by decide⟩

def lets : List Nat := ("abcdefghijklmnopqrstuvwxyz" : Str).cps.toList
def digs : List Nat := ("0123456789" : Str).cps.toList
def okc (c : Nat) : Bool := decide (c ∈ lets) || decide (c ∈ digs)
def goodL : List Nat → Bool
  | [] => false
  | c :: r => decide (r.length < 6) && decide (c ∈ lets) && (c :: r).all okc
def good (z : Str) : Bool := goodL z.cps.toList

def Asc (z : Str) : Prop := ∀ c ∈ z.cps.toList, c < 128
def spGood : Sp := fun vs H Q _ => ∃ z : Str, vs = [.str z] ∧ z.length ≤ 1000 ∧ Asc z ∧ ∀ H', Same H H' → Q (.bl (good z)) H'
theorem size1000 {n : Nat} (h : n ≤ 1000) : n ≤ sizeLine := Nat.le_of_lt (small1000 h)

theorem okc_cat (y : Nat) : okc y = decide (y ∈ (Str.ofString "abcdefghijklmnopqrstuvwxyz" ++ Str.ofString "0123456789").cps.toList) := by
  have e : (Str.ofString "abcdefghijklmnopqrstuvwxyz" ++ Str.ofString "0123456789").cps.toList = lets ++ digs := by decide +kernel
  rw [e]
  simp [okc, List.mem_append]
theorem shaped_go : ∀ ns : List Str, (∀ w ∈ ns, PyData.strOk w = true) → PyData.canLayAll0 (ns.map PyData.str) = true ∧ PyData.depthAll (ns.map PyData.str) = 0
  | [], _ => ⟨rfl, rfl⟩
  | x :: r, h => by
    obtain ⟨h1, h2⟩ := shaped_go r fun w hw => h w (List.mem_cons_of_mem _ hw)
    refine ⟨?_, ?_⟩
    · show (PyData.canLay0 (.str x) && PyData.canLayAll0 (r.map PyData.str)) = true
      rw [h1, Bool.and_true]
      exact h x List.mem_cons_self
    · show max (PyData.depth (.str x)) (PyData.depthAll (r.map PyData.str)) = 0
      rw [h2]
      rfl
theorem shaped_strs (ns : List Str) (h : ∀ w ∈ ns, PyData.strOk w = true) : SeqAt.shaped (.list (ns.map PyData.str)) = true := by
  obtain ⟨h1, h2⟩ := shaped_go ns h
  unfold SeqAt.shaped
  rw [Bool.and_eq_true]
  refine ⟨h1, decide_eq_true ?_⟩
  show PyData.depthAll (ns.map PyData.str) + 1 ≤ 64
  rw [h2]
  decide
theorem strOk_one {c : Nat} (h : c < 128) : PyData.strOk ⟨#[c]⟩ = true := by
  simp [PyData.strOk]
  omega
theorem bads : ∀ l : List Nat, (∀ c ∈ l, c < 128) → ∃ ws : List Str, (ws.map V.str = ((l.map sgn).filter (fun v => match v with | .str x => !(x.cps.toList.all okc) | _ => false))) ∧ PyData.eqv (.list (ws.map .str)) (.list []) = l.all okc ∧ ∀ w ∈ ws, PyData.strOk w = true
  | [], _ => ⟨[], rfl, rfl, fun _ h => nomatch h⟩
  | c :: r, ha => by
    obtain ⟨ws, h1, h2, h3⟩ := bads r fun x hx => ha x (List.mem_cons_of_mem _ hx)
    by_cases hc : okc c = true
    · refine ⟨ws, ?_, ?_, h3⟩
      · rw [h1, List.map_cons, List.filter_cons]
        simp [sgn, hc]
      · rw [h2, List.all_cons, hc, Bool.true_and]
    · have hc' : okc c = false := by simpa using hc
      refine ⟨⟨#[c]⟩ :: ws, ?_, ?_, fun w hw => ?_⟩
      · rw [List.map_cons, h1, List.map_cons, List.filter_cons]
        simp [sgn, hc']
      · rw [List.all_cons, hc']
        rfl
      · rcases List.mem_cons.mp hw with rfl | hw
        · exact strOk_one (ha c List.mem_cons_self)
        · exact h3 w hw

def signsS : Str := " !\"#$&'()*+,-./0123456789:;<=>?@ABCDEFGHIJKLMNOPQRSTUVWXYZ[\\]^_`" ++ "abcdefghijklmnopqrstuvwxyz{|}~\n"

theorem pick (z : Str) {e : Int} (h0 : 0 ≤ e) (h1 : e < (z.length : Int)) : ∃ c, atI z.cps.toList e = some c ∧ c ∈ z.cps.toList := by
  obtain ⟨j, rfl⟩ := Int.eq_ofNat_of_zero_le h0
  have hl : z.cps.toList.length = z.length := by simp [Str.length]
  have hj : j < z.cps.toList.length := by omega
  exact ⟨_, atI_nat (List.getElem?_eq_getElem hj), List.getElem_mem hj⟩
theorem ixN_nat {n j : Nat} (h : j < n) : ixN n (j : Int) = some j := by
  unfold ixN
  rw [if_pos (by omega), if_pos (by omega), Int.toNat_natCast]
theorem ones_ok {cs : List Nat} (h : ∀ c ∈ cs, c < 128) : ∀ w ∈ cs.map fun c => (⟨#[c]⟩ : Str), PyData.strOk w = true := fun w hw => by
  obtain ⟨c, hc, rfl⟩ := List.mem_map.mp hw
  exact strOk_one (h c hc)
theorem rev_ok {z : Str} (h : z.length ≤ 81) (ha : Asc z) : (revS z).length ≤ 81 ∧ Asc (revS z) := by
  have e : (revS z).cps.toList = z.cps.toList.reverse := by simp [revS]
  refine ⟨?_, fun c hc => ha c (by rw [e] at hc; exact List.mem_reverse.mp hc)⟩
  have e1 : (revS z).cps.toList.length = (revS z).length := by simp [Str.length]
  have e2 : z.cps.toList.length = z.length := by simp [Str.length]
  rw [e, List.length_reverse] at e1
  omega
theorem cat_ok {x y : Str} {n m : Nat} (h : x.length ≤ n) (h2 : y.length ≤ m) (ha : Asc x) (hb : Asc y) : (x ++ y).length ≤ n + m ∧ Asc (x ++ y) := by
  have e : (x ++ y).cps.toList = x.cps.toList ++ y.cps.toList := by
    show (x.cps ++ y.cps).toList = _
    simp
  refine ⟨?_, fun c hc => ?_⟩
  · show (x.cps ++ y.cps).size ≤ _
    rw [Array.size_append]
    have : x.cps.size ≤ n := h
    have : y.cps.size ≤ m := h2
    omega
  · rw [e] at hc
    rcases List.mem_append.mp hc with hc | hc
    · exact ha c hc
    · exact hb c hc
theorem menu_word {wd : Str} {d : Int} (h0 : 0 ≤ d) (h1 : d < 4) (hn : wd.length ≤ 80) (ha : Asc wd) :
    ∃ w2 : Str, atI [V.str (wd ++ Str.ofString "\n"), .str (wd ++ Str.ofString " "), .str (Str.ofString " " ++ wd), .str (Str.ofString "\n" ++ wd)] d = some (.str w2) ∧ w2.length ≤ 81 ∧ Asc w2 := by
  have l1 : (Str.ofString "\n").length ≤ 1 := by decide +kernel
  have l2 : (Str.ofString " ").length ≤ 1 := by decide +kernel
  have a1 : Asc (Str.ofString "\n") := fun c hc => of_decide_eq_true (List.all_eq_true.mp (show (Str.ofString "\n").cps.toList.all (fun c => decide (c < 128)) = true by decide +kernel) c hc)
  have a2 : Asc (Str.ofString " ") := fun c hc => of_decide_eq_true (List.all_eq_true.mp (show (Str.ofString " ").cps.toList.all (fun c => decide (c < 128)) = true by decide +kernel) c hc)
  have : d = 0 ∨ d = 1 ∨ d = 2 ∨ d = 3 := by omega
  rcases this with rfl | rfl | rfl | rfl
  · exact ⟨_, atI_nat (j := 0) rfl, cat_ok hn l1 ha a1⟩
  · exact ⟨_, atI_nat (j := 1) rfl, cat_ok hn l2 ha a2⟩
  · exact ⟨_, atI_nat (j := 2) rfl, (by have := (cat_ok l2 hn a2 ha).1; omega), (cat_ok l2 hn a2 ha).2⟩
  · exact ⟨_, atI_nat (j := 3) rfl, (by have := (cat_ok l1 hn a1 ha).1; omega), (cat_ok l1 hn a1 ha).2⟩

theorem asc_of {z : Str} (h : z.cps.toList.all (fun c => decide (c < 128)) = true) : Asc z := fun c hc => of_decide_eq_true (List.all_eq_true.mp h c hc)
theorem asc_signs : Asc signsS := asc_of (by decide +kernel)
theorem asc_plain : Asc "abcdefghijklmnopqrstuvwxyz0123456789" := asc_of (by decide +kernel)

/-- a def of one parameter, called by place or by name -/
theorem kb_one {K : PySem.W.Frag} {x qual p : Str} {st : Stmt} {f : Addr} {fd : FuncData} (F : Fun K x qual st f fd)
    (h : ∀ (kV doc pm : Value) (an : Option Addr) (cdv ct v : Value), bindArgs (PySem.W.fnOf x qual (defArgs st) (defBody st) (defScope st) .none kV doc pm an cdv ct) ⟨[v], []⟩ = pure [(p, v)] ∧
      bindArgs (PySem.W.fnOf x qual (defArgs st) (defBody st) (defScope st) .none kV doc pm an cdv ct) ⟨[], [(p, v)]⟩ = pure [(p, v)]) :
    KBinds K fd [p] [p] (fun us ws => us ++ ws) (fun vs zs => vs ++ zs) := by
  obtain ⟨oc, od, kV, doc, pm, an, cdv, ct, osl, rfl, lk, hcd⟩ := F.ex
  refine ⟨fun s us ws _ hl => ?_, fun r rz => r.append rz⟩
  have hl : (us ++ ws).length = 1 := hl
  match us, ws, hl with
  | [], [v], _ => exact .of_eq (h kV doc pm an cdv ct v).2
  | [v], [], _ => exact .of_eq (h kV doc pm an cdv ct v).1
  | _ :: _ :: _, _, hl => simp at hl
  | [_], _ :: _, hl => simp at hl
  | [], [], hl => simp at hl
  | [], _ :: _ :: _, hl => simp at hl

/-- a list of signs, one draw a turn -/
theorem lc_signs {te : TE} {vs : List Nat} {σ : St} {j n N : Nat} {Q : VK} {G H : Hp} {s : Addr} {S : List Nat} (v : View s N G H) (hn : n ≤ 1000) (hw : ∀ x, wipe ((wipe σ vs).set j (some x)) vs = wipe σ vs)
    (hte : ∀ (x : V) (i : Nat) (G' H' : Hp) (Q' : VK), i < n → View s (N + i) G' H' → (∀ (c : Nat) (H2 : Hp), c ∈ S → View s (N + i + 1) G' H2 → Q' (sgn c) H2) → te ((wipe σ vs).set j (some x)) H' Q')
    (hq : ∀ (D : Addr) (cs : List Nat) (H' : Hp), G D = none → cs.length = n → (∀ c ∈ cs, c ∈ S) → View s (N + n) (upd G D (.lst (cs.map sgn))) H' → Q (.ref D) H') (D : Addr) (hD : H D = none) :
    ∃ W : Nat → Nat → Hp → Prop, (∃ m, W 0 m (upd H D (.lst []))) ∧ ∀ i m H, W i m H →
      ((Itr 0 n).stop i H ∧ Q (.ref D) H) ∨ ((Itr 0 n).go i H ∧ ∃ Nx : Hp → Prop, (∀ H', Nx H' → ∃ m', m' < m ∧ W (i + 1) m' H') ∧ ∀ x H', (Itr 0 n).yld i H x H' → gName j x (wipe σ vs) H' fun σ2 H2 => wipe σ2 vs = wipe σ vs ∧ tYes σ2 H2 fun b H3 =>
        if b = true then te σ2 H3 fun y H4 => ∃ acc, H4 D = some (.lst acc) ∧ acc.length < sizeLine ∧ Nx (upd H4 D (.lst (acc ++ [y]))) else Nx H3) := by
  refine lc_range (lo := 0) (n := n) (fun i H' => ∃ cs : List Nat, cs.length = i ∧ (∀ c ∈ cs, c ∈ S) ∧ View s (N + i) (upd G D (.lst (cs.map sgn))) H') ⟨[], rfl, (fun _ h => nomatch h), v.new hD⟩ ?_ ?_
  · rintro i H' hi ⟨cs, hl, ha, u⟩
    refine ⟨hw _, ?_⟩
    unfold tYes
    simp only [if_true]
    refine hte _ i _ _ _ hi u fun c H2 hc u2 => ?_
    refine ⟨cs.map sgn, u2.sub _ _ upd_same, small1000 (by rw [List.length_map]; omega), cs ++ [c], by simp [hl], fun x hx => ?_, ?_⟩
    · rcases List.mem_append.mp hx with hx | hx
      · exact ha x hx
      · have : x = c := by simpa using hx
        rw [this]
        exact hc
    · have := u2.put (o := .lst (cs.map sgn ++ [sgn c])) upd_same
      rw [upd_upd] at this
      rw [List.map_append]
      exact this
  · rintro H' ⟨cs, hl, ha, u⟩
    exact hq D cs H' (v.sub.free hD) hl ha u
/-- a def as its callers see it -/
structure Cal (P : Program) (w : World) (K : PySem.W.Frag) (mg : Str → Option Value) (base : Heap) (nm : Str) (CX : CXT) (k : Nat) (ps : List Str) (sp : Sp) where
  f : Addr
  fd : FuncData
  g : mg nm = some (.ref f)
  kp : PySem.W.keepIn K (.ref f) = true
  b : Binds K fd ps []
  G : FnOk P w K mg base CX k f fd ps sp
end L2

namespace L2
open PySem PySem.Spec PyProof.Rows
/-! ### drawn names -/
def C36 : Str := "abcdefghijklmnopqrstuvwxyz0123456789"
theorem c36_ok : ∀ c ∈ C36.cps.toList, okc c = true := fun c hc => List.all_eq_true.mp (show C36.cps.toList.all okc = true by decide +kernel) c hc
theorem c36_len : C36.length = 36 := by decide +kernel
theorem c36_take : C36.cps.toList.take 26 = lets := by decide +kernel
theorem lets_ok : ∀ c ∈ lets, okc c = true := fun c hc => List.all_eq_true.mp (show lets.all okc = true by decide +kernel) c hc
theorem lets_nd : lets.Nodup := by decide +kernel
theorem lets_len : lets.length = 26 := by decide +kernel
theorem okc_lt {c : Nat} (h : okc c = true) : c < 128 := by
  have h1 : ∀ x ∈ lets ++ digs, x < 128 := fun x hx => of_decide_eq_true (List.all_eq_true.mp (show (lets ++ digs).all (fun x => decide (x < 128)) = true by decide +kernel) x hx)
  refine h1 c (List.mem_append.mpr ?_)
  unfold okc at h
  rcases Bool.or_eq_true_iff.mp h with h | h
  · exact .inl (of_decide_eq_true h)
  · exact .inr (of_decide_eq_true h)
/-- the i-th letter -/
def let_ (i : Nat) : Nat := lets.getD i 0
theorem let_mem {i : Nat} (h : i < 26) : let_ i ∈ lets := by
  unfold let_
  rw [List.getD_eq_getElem?_getD, List.getElem?_eq_getElem (by rw [lets_len]; exact h)]
  exact List.getElem_mem _
theorem let_inj {i j : Nat} (hi : i < 26) (hj : j < 26) (e : let_ i = let_ j) : i = j := by
  unfold let_ at e
  rw [List.getD_eq_getElem?_getD, List.getD_eq_getElem?_getD, List.getElem?_eq_getElem (by rw [lets_len]; exact hi), List.getElem?_eq_getElem (by rw [lets_len]; exact hj)] at e
  exact (List.getElem_inj lets_nd).mp e
theorem c36_at {i : Nat} (h : i < 26) : atI C36.cps.toList (i : Int) = some (let_ i) := by
  refine atI_nat ?_
  have e : C36.cps.toList[i]? = (C36.cps.toList.take 26)[i]? := by rw [List.getElem?_take, if_pos h]
  rw [e, c36_take]
  unfold let_
  rw [List.getD_eq_getElem?_getD, List.getElem?_eq_getElem (by rw [lets_len]; exact h)]
  rfl
theorem cat_list (x y : Str) : (x ++ y).cps.toList = x.cps.toList ++ y.cps.toList := by
  show (x.cps ++ y.cps).toList = _
  simp
theorem len_list (x : Str) : x.cps.toList.length = x.length := by simp [Str.length]
theorem str_ext {x y : Str} (h : x.cps.toList = y.cps.toList) : x = y := by
  obtain ⟨a⟩ := x
  obtain ⟨b⟩ := y
  have : a = b := Array.ext' h
  rw [this]
theorem good_of {w : Str} {c : Nat} {r : List Nat} (e : w.cps.toList = c :: r) (hc : c ∈ lets) (hr : r.length < 6) (ha : ∀ x ∈ r, okc x = true) : good w = true := by
  unfold good
  rw [e]
  show (decide (r.length < 6) && decide (c ∈ lets) && (c :: r).all okc) = true
  rw [decide_eq_true hr, decide_eq_true hc, List.all_cons, lets_ok c hc, List.all_eq_true.mpr ha]
  rfl
theorem good_asc {w : Str} (h : good w = true) : Asc w := fun c hc => by
  unfold good at h
  cases e : w.cps.toList with
  | nil => rw [e] at hc; cases hc
  | cons a r =>
    rw [e] at h hc
    have h2 : (decide (r.length < 6) && decide (a ∈ lets) && (a :: r).all okc) = true := h
    have h3 := (Bool.and_eq_true_iff.mp h2).2
    exact okc_lt (List.all_eq_true.mp h3 c hc)
theorem good_len {w : Str} (h : good w = true) : w.length ≤ 6 := by
  unfold good at h
  rw [← len_list]
  cases e : w.cps.toList with
  | nil => exact Nat.zero_le _
  | cons a r =>
    rw [e] at h
    have h2 : (decide (r.length < 6) && decide (a ∈ lets) && (a :: r).all okc) = true := h
    have h3 := of_decide_eq_true (Bool.and_eq_true_iff.mp (Bool.and_eq_true_iff.mp h2).1).1
    rw [List.length_cons]
    omega
theorem nodup_map {f : Nat → Str} {n : Nat} (h : ∀ i j, i < j → j < n → f i ≠ f j) : ((List.range n).map f).Nodup := by
  unfold List.Nodup
  rw [List.pairwise_map]
  refine List.Pairwise.imp_of_mem (fun {a b} ha hb hab => ?_) List.pairwise_lt_range
  exact h a b hab (List.mem_range.mp hb)
/-- letter and number -/
def numW (l : Nat) (n : Nat) : Str := (⟨#[l]⟩ : Str) ++ Str.ofString (toString (n : Int))
theorem num_digs : ∀ n, n < 64 → (Str.ofString (toString ((n : Nat) : Int))).cps.toList.all okc = true ∧ (Str.ofString (toString ((n : Nat) : Int))).cps.toList.length < 6 := by
  have : (List.range 64).all (fun n => (Str.ofString (toString ((n : Nat) : Int))).cps.toList.all okc && decide ((Str.ofString (toString ((n : Nat) : Int))).cps.toList.length < 6)) = true := by decide +kernel
  intro n hn
  have q := List.all_eq_true.mp this n (List.mem_range.mpr hn)
  obtain ⟨h1, h2⟩ := Bool.and_eq_true_iff.mp q
  exact ⟨h1, of_decide_eq_true h2⟩
theorem num_inj : ∀ n m, n < 64 → m < 64 → (Str.ofString (toString ((n : Nat) : Int))).cps.toList = (Str.ofString (toString ((m : Nat) : Int))).cps.toList → n = m := by
  have : (List.range 64).all (fun n => (List.range 64).all (fun m => decide (n = m) || !((Str.ofString (toString ((n : Nat) : Int))).cps.toList == (Str.ofString (toString ((m : Nat) : Int))).cps.toList))) = true := by decide +kernel
  intro n m hn hm e
  have q := List.all_eq_true.mp (List.all_eq_true.mp this n (List.mem_range.mpr hn)) m (List.mem_range.mpr hm)
  rw [e] at q
  simpa using q
theorem numW_list (l n : Nat) : (numW l n).cps.toList = l :: (Str.ofString (toString ((n : Nat) : Int))).cps.toList := by
  unfold numW
  rw [cat_list]
  rfl
theorem numW_good {l n : Nat} (hl : l ∈ lets) (hn : n < 64) : good (numW l n) = true := by
  obtain ⟨h1, h2⟩ := num_digs n hn
  exact good_of (numW_list l n) hl h2 fun x hx => List.all_eq_true.mp h1 x hx
theorem numW_inj {l n m : Nat} (hn : n < 64) (hm : m < 64) (e : numW l n = numW l m) : n = m := by
  have q : (numW l n).cps.toList = (numW l m).cps.toList := by rw [e]
  rw [numW_list, numW_list] at q
  exact num_inj n m hn hm (List.cons.inj q).2
theorem strides {d : Int} (h0 : 0 ≤ d) (h1 : d < 6) : ∃ s : Nat, (s = 1 ∨ s = 3 ∨ s = 5 ∨ s = 7 ∨ s = 9 ∨ s = 11) ∧ atI [V.int 1, V.int 3, V.int 5, V.int 7, V.int 9, V.int 11] d = some (.int (s : Int)) := by
  have : d = 0 ∨ d = 1 ∨ d = 2 ∨ d = 3 ∨ d = 4 ∨ d = 5 := by omega
  rcases this with rfl | rfl | rfl | rfl | rfl | rfl
  · exact ⟨1, .inl rfl, atI_nat (j := 0) rfl⟩
  · exact ⟨3, .inr (.inl rfl), atI_nat (j := 1) rfl⟩
  · exact ⟨5, .inr (.inr (.inl rfl)), atI_nat (j := 2) rfl⟩
  · exact ⟨7, .inr (.inr (.inr (.inl rfl))), atI_nat (j := 3) rfl⟩
  · exact ⟨9, .inr (.inr (.inr (.inr (.inl rfl)))), atI_nat (j := 4) rfl⟩
  · exact ⟨11, .inr (.inr (.inr (.inr (.inr rfl)))), atI_nat (j := 5) rfl⟩
/-- _law_names: c good names, all different -/
def spNames : Sp := fun vs H Q _ => ∃ (s : Addr) (N : Nat) (G : Hp) (c : Nat), vs = [.ref s, .int (c : Int)] ∧ View s N G H ∧ N ≤ 900000 ∧ c ≤ 7 ∧
  ∀ (ws : List Str) (p : Addr) (H' : Hp), ws.length = c → ws.Nodup → (∀ w ∈ ws, good w = true) → G p = none → View s (N + 20) (upd G p (.lst (ws.map V.str))) H' → Q (.ref p) H'
/-- the written names -/
def fixedW : List Str := ["rows", "leaf", "x", "x1", "x10", "none"]
theorem fixed_ok (c : Nat) : (fixedW.take c).Nodup ∧ ∀ w ∈ fixedW.take c, good w = true := by
  have h1 : fixedW.Nodup := by decide +kernel
  have h2 : fixedW.all good = true := by decide +kernel
  exact ⟨h1.sublist (List.take_sublist _ _), fun w hw => List.all_eq_true.mp h2 w (List.mem_of_mem_take hw)⟩
/-- one word's beginnings -/
def preW (z : Str) (k : Nat) : Str := ⟨(z.cps.toList.take (k + 1)).toArray⟩
theorem preW_list (z : Str) (k : Nat) : (preW z k).cps.toList = z.cps.toList.take (k + 1) := by simp [preW]
/-- the k-th word of the common plan -/
def comW (l : Nat) (st : List Nat) (pl o sr k : Nat) : Str :=
  let g := let_ ((o + sr * k) % 26)
  let b := if 1 < pl ∧ k % 2 = 1 then [] else st
  if pl % 2 = 0 then ⟨(l :: (b ++ [g])).toArray⟩ else ⟨(g :: b).toArray⟩
theorem mod_inj {o sr i j : Nat} (hs : sr = 1 ∨ sr = 3 ∨ sr = 5 ∨ sr = 7 ∨ sr = 9 ∨ sr = 11) (hi : i < 7) (hj : j < 7) (e : (o + sr * i) % 26 = (o + sr * j) % 26) : i = j := by
  rcases hs with rfl | rfl | rfl | rfl | rfl | rfl <;> omega
theorem comW_good {l : Nat} {st : List Nat} {pl o sr k : Nat} (hl : l ∈ lets) (h4 : st.length ≤ 4) (ho : ∀ x ∈ st, okc x = true) : good (comW l st pl o sr k) = true := by
  have hg := let_mem (Nat.mod_lt (o + sr * k) (by decide : 26 > 0))
  unfold comW
  have hb : ∀ x ∈ (if 1 < pl ∧ k % 2 = 1 then [] else st), okc x = true := fun x hx => by
    split at hx
    · cases hx
    · exact ho x hx
  have hbl : (if 1 < pl ∧ k % 2 = 1 then [] else st).length ≤ 4 := by
    split
    · exact Nat.zero_le _
    · exact h4
  dsimp only
  split
  · refine good_of (c := l) rfl hl (by rw [List.length_append, List.length_singleton]; omega) fun x hx => ?_
    rcases List.mem_append.mp hx with hx | hx
    · exact hb x hx
    · rw [show x = _ by simpa using hx]
      exact lets_ok _ hg
  · exact good_of rfl hg (by omega) hb
theorem comW_inj {l : Nat} {st : List Nat} {pl o sr i j : Nat} (hs : sr = 1 ∨ sr = 3 ∨ sr = 5 ∨ sr = 7 ∨ sr = 9 ∨ sr = 11) (hi : i < 7) (hj : j < 7) (e : comW l st pl o sr i = comW l st pl o sr j) : i = j := by
  have el : (comW l st pl o sr i).cps.toList = (comW l st pl o sr j).cps.toList := by rw [e]
  have key : let_ ((o + sr * i) % 26) = let_ ((o + sr * j) % 26) := by
    unfold comW at el
    dsimp only at el
    split at el
    · have h := congrArg List.getLast? el
      rw [← List.cons_append, ← List.cons_append, List.getLast?_concat, List.getLast?_concat] at h
      exact Option.some.inj h
    · have h := congrArg List.head? el
      simpa using h
  exact mod_inj hs hi hj (let_inj (Nat.mod_lt _ (by decide)) (Nat.mod_lt _ (by decide)) key)
end L2

namespace L2
open PySem PySem.Spec PyProof.Rows
/-- an if, its test told at once -/
theorem cond_if {tc : TT} {t u : TS} {D : Ends} {σ : St} {H : Hp} {C : Prop} [Decidable C] (hc : ∀ K : Bool → Hp → Prop, K (decide C) H → tc σ H K) (ht : C → t D σ H) (hu : ¬ C → u D σ H) : tIfS tc t u D σ H := by
  refine hc _ ?_
  by_cases h : C
  · rw [decide_eq_true h, if_pos rfl]; exact ht h
  · rw [decide_eq_false h, if_neg Bool.false_ne_true]; exact hu h
theorem kdec {K : Bool → Hp → Prop} {H : Hp} {b : Bool} {C : Prop} [Decidable C] (k : K (decide C) H) (h : b = true ↔ C) : K b H := by
  have : b = decide C := by
    by_cases c : C
    · rw [decide_eq_true c]; exact h.mpr c
    · rw [decide_eq_false c]
      cases e : b with
      | false => rfl
      | true => exact absurd (h.mp e) c
  rw [this]
  exact k
theorem dec_vint {i j : Int} : decide (V.int i = V.int j) = true ↔ i = j := by
  rw [decide_eq_true_iff]
  exact ⟨fun h => V.int.inj h, fun h => by rw [h]⟩
theorem cutV_to (xs : List V) (c : Nat) : cutV xs none (some (c : Int)) = xs.take c := by
  unfold cutV
  rw [HT.sIx_none, HT.sIx_nat, List.drop_zero, Nat.sub_zero]
  by_cases h : c ≤ xs.length
  · rw [Nat.min_eq_left h]
  · rw [Nat.min_eq_right (by omega), List.take_of_length_le (Nat.le_refl _), List.take_of_length_le (by omega)]
theorem cutS_to (z : Str) (c : Nat) : (cutS z none (some (c : Int))).cps.toList = z.cps.toList.take c := by
  unfold cutS
  rw [HT.sIx_none, HT.sIx_nat, Nat.sub_zero]
  simp only [List.drop_zero]
  by_cases h : c ≤ z.length
  · rw [Nat.min_eq_left h]
  · rw [Nat.min_eq_right (by omega), List.take_of_length_le (by rw [len_list]; exact Nat.le_refl _), List.take_of_length_le (by rw [len_list]; omega)]
theorem range_more (n : Nat) (f : Nat → Str) : ((List.range (n + 1)).map f).map V.str = ((List.range n).map f).map V.str ++ [V.str (f n)] := by
  rw [List.range_succ]
  simp
theorem lc_signsD {te : TE} {vs : List Nat} {σ : St} {j n N : Nat} {Qd : Hp → Prop} {G H : Hp} {s : Addr} {S : List Nat} {D : Addr} (v : View s N G H) (hn : n ≤ 1000) (hw : ∀ x, wipe ((wipe σ vs).set j (some x)) vs = wipe σ vs)
    (hte : ∀ (x : V) (i : Nat) (G' H' : Hp) (Q' : VK), i < n → View s (N + i) G' H' → (∀ (c : Nat) (H2 : Hp), c ∈ S → View s (N + i + 1) G' H2 → Q' (sgn c) H2) → te ((wipe σ vs).set j (some x)) H' Q')
    (hq : ∀ (cs : List Nat) (H' : Hp), G D = none → cs.length = n → (∀ c ∈ cs, c ∈ S) → View s (N + n) (upd G D (.lst (cs.map sgn))) H' → Qd H') (hD : H D = none) :
    ∃ W : Nat → Nat → Hp → Prop, (∃ m, W 0 m (upd H D (.lst []))) ∧ ∀ i m H, W i m H →
      ((Itr 0 n).stop i H ∧ Qd H) ∨ ((Itr 0 n).go i H ∧ ∃ Nx : Hp → Prop, (∀ H', Nx H' → ∃ m', m' < m ∧ W (i + 1) m' H') ∧ ∀ x H', (Itr 0 n).yld i H x H' → gName j x (wipe σ vs) H' fun σ2 H2 => wipe σ2 vs = wipe σ vs ∧ tYes σ2 H2 fun b H3 =>
        if b = true then te σ2 H3 fun y H4 => ∃ acc, H4 D = some (.lst acc) ∧ acc.length < sizeLine ∧ Nx (upd H4 D (.lst (acc ++ [y]))) else Nx H3) :=
  lc_signs (Q := fun v H' => v = .ref D → Qd H') v hn hw hte (fun D' cs H' a b c d e => by cases e; exact hq cs H' a b c d) D hD |> fun ⟨W, a, b⟩ => ⟨W, a, fun i m H h => (b i m H h).elim (fun x => .inl ⟨x.1, x.2 rfl⟩) .inr⟩
/-- a list of words over range(n), no draw -/
theorem lc_words {te : TE} {vs : List Nat} {σ : St} {j n N : Nat} {Qd : Hp → Prop} {G H : Hp} {s : Addr} {D : Addr} (f : Nat → Str) (v : View s N G H) (hn : n ≤ 1000) (hw : ∀ x, wipe ((wipe σ vs).set j (some x)) vs = wipe σ vs)
    (hte : ∀ (i : Nat) (H' : Hp) (Q' : VK), i < n → Q' (.str (f i)) H' → te ((wipe σ vs).set j (some (.int (0 + (i : Int))))) H' Q')
    (hq : ∀ (H' : Hp), G D = none → View s N (upd G D (.lst (((List.range n).map f).map V.str))) H' → Qd H') (hD : H D = none) :
    ∃ W : Nat → Nat → Hp → Prop, (∃ m, W 0 m (upd H D (.lst []))) ∧ ∀ i m H, W i m H →
      ((Itr 0 n).stop i H ∧ Qd H) ∨ ((Itr 0 n).go i H ∧ ∃ Nx : Hp → Prop, (∀ H', Nx H' → ∃ m', m' < m ∧ W (i + 1) m' H') ∧ ∀ x H', (Itr 0 n).yld i H x H' → gName j x (wipe σ vs) H' fun σ2 H2 => wipe σ2 vs = wipe σ vs ∧ tYes σ2 H2 fun b H3 =>
        if b = true then te σ2 H3 fun y H4 => ∃ acc, H4 D = some (.lst acc) ∧ acc.length < sizeLine ∧ Nx (upd H4 D (.lst (acc ++ [y]))) else Nx H3) := by
  refine lc_range (lo := 0) (n := n) (fun i H' => View s N (upd G D (.lst (((List.range i).map f).map V.str))) H') (v.new hD) ?_ ?_
  · rintro i H' hi u
    refine ⟨hw _, ?_⟩
    unfold tYes
    simp only [if_true]
    refine hte i _ _ hi ⟨_, u.sub _ _ upd_same, small1000 (by rw [List.length_map, List.length_map, List.length_range]; omega), ?_⟩
    have := u.put (o := .lst (((List.range i).map f).map V.str ++ [V.str (f i)])) upd_same
    rw [upd_upd] at this
    rw [range_more]
    exact this
  · intro H' u
    exact hq H' (v.sub.free hD) u
theorem preW_good {z : Str} {l : Nat} {cs : List Nat} {k : Nat} (e : z.cps.toList = l :: cs) (hl : l ∈ lets) (hc : cs.length ≤ 5) (ho : ∀ x ∈ cs, okc x = true) : good (preW z k) = true := by
  refine good_of (c := l) (r := cs.take k) (by rw [preW_list, e]; rfl) hl ?_ fun x hx => ho x (List.mem_of_mem_take hx)
  rw [List.length_take]; omega
theorem preW_inj {z : Str} {i j : Nat} (hi : i < z.length) (hj : j < z.length) (e : preW z i = preW z j) : i = j := by
  have h : (preW z i).cps.toList.length = (preW z j).cps.toList.length := by rw [e]
  rw [preW_list, preW_list, List.length_take, List.length_take, len_list] at h
  omega
theorem c36_mod (i : Nat) : atI C36.cps.toList (((i % 26 : Nat)) : Int) = some (let_ (i % 26)) := c36_at (Nat.mod_lt _ (by decide))
theorem one_cat (x : Nat) (y : Str) : ((⟨#[x]⟩ : Str) ++ y).cps.toList = x :: y.cps.toList := by rw [cat_list]; rfl
theorem com_even {l : Nat} {st : Str} {pl o sr k : Nat} (b : Str) (hb : b = if 1 < pl ∧ k % 2 = 1 then Str.ofString "" else st) (h : pl % 2 = 0) : ((⟨#[l]⟩ : Str) ++ b) ++ (⟨#[let_ ((o + sr * k) % 26)]⟩ : Str) = comW l st.cps.toList pl o sr k := by
  refine str_ext ?_
  rw [cat_list, one_cat]
  unfold comW
  rw [if_pos h, hb]
  split
  · rfl
  · rfl
theorem com_odd {l : Nat} {st : Str} {pl o sr k : Nat} (b : Str) (hb : b = if 1 < pl ∧ k % 2 = 1 then Str.ofString "" else st) (h : pl % 2 = 1) : ((⟨#[let_ ((o + sr * k) % 26)]⟩ : Str) ++ b) = comW l st.cps.toList pl o sr k := by
  refine str_ext ?_
  rw [one_cat]
  unfold comW
  rw [if_neg (by omega), hb]
  split
  · rfl
  · rfl
theorem fmod_nn (a b : Nat) : (a : Int).fmod (b : Int) = ((a % b : Nat) : Int) := by
  rw [Int.fmod_eq_emod_of_nonneg _ (by omega)]
  rfl
theorem and_dec {b c : Bool} {P Q : Prop} (h1 : b = true ↔ P) (h2 : c = true ↔ Q) : (b && c) = true ↔ (P ∧ Q) := by
  rw [Bool.and_eq_true, h1, h2]
theorem tyL_ok {K : PySem.W.Frag} {H : Hp} {p : Addr} {xs : List V} (h : SqL K H p xs) : tyV K "list" (.ref p) H := .inl ⟨rfl, _, h⟩
theorem upd_swap {G : Hp} {p r : Addr} {a b c : HO} (h : p ≠ r) : upd (upd (upd G p a) r b) p c = upd (upd G p c) r b := by
  funext x
  unfold upd
  by_cases h1 : x = p
  · subst h1; rw [if_pos rfl, if_neg h, if_pos rfl]
  · rw [if_neg h1, if_neg h1, if_neg h1]
theorem upd_comm2 {G : Hp} {p r : Addr} {a b : HO} (h : p ≠ r) : upd (upd G p a) r b = upd (upd G r b) p a := by
  funext x
  unfold upd
  by_cases h1 : x = p
  · subst h1; rw [if_neg h, if_pos rfl, if_pos rfl]
  · rw [if_neg h1, if_neg h1]
/-- an order: the same items, moved about -/
def spOrder (K : PySem.W.Frag) : Sp := fun vs H Q _ => ∃ (s : Addr) (N : Nat) (G : Hp) (a : Addr) (xs : List V), vs = [.ref s, .ref a] ∧ View s N G H ∧ SqL K G a xs ∧ N ≤ 900000 ∧ xs.length ≤ 60 ∧
  ∀ (ys : List V) (p : Addr) (H' : Hp), ys.Perm xs → G p = none → View s (N + 60) (upd G p (.lst ys)) H' → Q (.ref p) H'
theorem SqL.up {K : PySem.W.Frag} {G H : Hp} {a : Addr} {xs : List V} (h : SqL K G a xs) (e : Same G H) : SqL K H a xs := e.seq h
theorem atI_ex {α : Type} {xs : List α} {i : Int} (h0 : 0 ≤ i) (h1 : i < (xs.length : Int)) : ∃ (k : Nat) (y : α), i = (k : Int) ∧ k < xs.length ∧ seqIndex? i xs.length = some k ∧ xs[k]? = some y := by
  obtain ⟨k, rfl⟩ := Int.eq_ofNat_of_zero_le h0
  have hk : k < xs.length := by omega
  exact ⟨k, xs[k], rfl, hk, (ixN_seq (ixN_nat hk)).1, List.getElem?_eq_getElem hk⟩
theorem erase_perm' {α : Type} (l : List α) (i : Nat) (y : α) (h : l[i]? = some y) : (y :: l.eraseIdx i).Perm l := by
  induction l generalizing i with
  | nil => cases h
  | cons x r ih =>
    cases i with
    | zero =>
      cases Option.some.inj h
      exact .refl _
    | succ i => exact (List.Perm.swap x y _).trans ((ih i h).cons x)
end L2

namespace L2
open PySem PySem.Spec PyProof.Rows
/-- amounts by name, in an order -/
abbrev Am := List (Str × Int)
def amN (am : Am) : List V := am.map fun p => V.str p.1
def amK (am : Am) : List (Key × V) := am.map fun p => (Sum.inr p.1, V.int p.2)
def amS (am : Am) : List Str := am.map (·.1)
theorem amN_S (am : Am) : amN am = (amS am).map V.str := by unfold amN amS; rw [List.map_map]; rfl
theorem valV_am : ∀ {am : Am}, (amS am).Nodup → ∀ {w : Str} {z : Int}, (w, z) ∈ am → valV (amK am) (Sum.inr w : Key) = some (.int z)
  | [], _, _, _, h => nomatch h
  | (u, y) :: r, hn, w, z, h => by
    have hn' : u ∉ amS r ∧ (amS r).Nodup := List.nodup_cons.mp hn
    rcases List.mem_cons.mp h with e | h
    · cases e
      exact valV_pos rfl
    · refine (valV_neg (fun e => ?_)).trans (valV_am hn'.2 h)
      have e : u = w := Sum.inr.inj e
      subst e
      exact hn'.1 (List.mem_map.mpr ⟨_, h, rfl⟩)
theorem valV_am0 {am : Am} {w : Str} (h : w ∉ amS am) : valV (amK am) (Sum.inr w : Key) = none := by
  induction am with
  | nil => rfl
  | cons p r ih =>
    have h1 : ¬ w = p.1 := fun e => h (by rw [e]; exact List.mem_cons_self)
    have h2 : w ∉ amS r := fun e => h (List.mem_cons_of_mem _ e)
    exact (valV_neg (fun e => h1 (Sum.inr.inj e).symm)).trans (ih h2)
/-- what the law's text holds for the class of wishes -/
structure Wsh (K : PySem.W.Frag) (mg : Str → Option Value) where
  C : Addr
  g : mg "Wishes" = some (.ref C)
  cl : Cls K C
  n1 : NoAttr K C "_outcomes"
  n2 : NoAttr K C "_amounts"
  me : PySem.W.kitOne K (.ref C) (.ref C) = some true
  kc : PySem.W.findIn K (.ref C) "__class__" = some (some (.builtin "object.__class__"))
  kg : PySem.W.specialIn K (.builtin "object.__class__") "__get__" = some (some (.builtin "getset_descriptor.__get__"))
  kt : PySem.W.takesIn K (.builtin "object.__class__") = some true
  ko : PySem.W.mroIn K C (.type "object") = some true
theorem hu100 {A : Around} {k : Nat} (hr : Room k A) : A.units + 100 < cLine := by have := hr.un; omega
/-- no other attribute -/
def OnlyTwo (fs : List (Str × V)) : Prop := ∀ f : Str, f ≠ "_outcomes" → f ≠ "_amounts" → fs.lookup f = none
/-- wishes made, at x -/
def WAt (C : Addr) (H : Hp) (x : Addr) (am : Am) : Prop := ∃ (dx : Addr) (fs : List (Str × V)) (t d : Addr), H x = some (.ins C dx fs) ∧ fs.lookup ("_outcomes" : Str) = some (.ref t) ∧ fs.lookup ("_amounts" : Str) = some (.ref d) ∧
  H t = some (.tup (amN am)) ∧ H d = some (.dK (amK am)) ∧ OnlyTwo fs
theorem WAt.up {C : Addr} {G H : Hp} {x : Addr} {am : Am} (h : WAt C G x am) (e : Same G H) : WAt C H x am := by
  obtain ⟨dx, fs, t, d, a1, a2, a3, a4, a5, a6⟩ := h
  exact ⟨dx, fs, t, d, e _ _ a1, a2, a3, e _ _ a4, e _ _ a5, a6⟩
/-- a well made list of amounts -/
structure AmOk (am : Am) : Prop where
  nd : (amS am).Nodup
  gd : ∀ w ∈ amS am, good w = true
  n1 : am.length ≤ 8
theorem DGet.amI {H : Hp} {d : Addr} {am : Am} {w : Str} {z : Int} (hd : H d = some (.dK (amK am))) (hn : (amS am).Nodup) (h : (w, z) ∈ am) : DGet H d (.str w) (some (.int z)) :=
  .inl ⟨amK am, .inr w, .inl hd, rfl, (valV_am hn h).symm⟩
/-- a method that looks and makes one new object -/
def spNew (C : Addr) (ok : Am → List V → Prop) (o : Am → List V → HO) : Sp := fun vs H Q _ => ∃ (x : Addr) (am : Am) (r : List V), vs = .ref x :: r ∧ AmOk am ∧ WAt C H x am ∧ ok am r ∧ ∀ (p : Addr) (H' : Hp), Same H H' → H p = none → H' p = some (o am r) → Q (.ref p) H'
theorem pe_fldK {X : Cx} {K : PySem.W.Frag} {e : Expr} {f : Str} {pos : Pos} {ta : TE} (hk : X.K = K) (he : PE X e ta) (hb : attributeBase e f X.env (eval e X.env) = eval e X.env) : PE X (.Attribute e f pos) (tFld K ta f) := by
  subst hk
  exact pe_fld he hb
theorem lc_am {α : Type} {J : It} {G : Hp → Prop} {as : List α} {g : α → V} (w : Walk J (as.map g).length G (YAt (as.map g))) {tt : TT} {te : TE} {vs : List Nat} {σ : St} {H1 : Hp} {D : Addr} {Qd : Hp → Prop} {j : Nat} (p : α → Bool) (f : α → V)
    (hD : H1 D = none) (hG : ∀ H', Same H1 H' → G H') (hl : as.length ≤ 1000) (hw : ∀ x, wipe ((wipe σ vs).set j (some x)) vs = wipe σ vs)
    (ht : ∀ a ∈ as, ∀ H', Same H1 H' → TIs tt ((wipe σ vs).set j (some (g a))) H' (p a)) (he : ∀ a ∈ as, p a = true → ∀ H', Same H1 H' → Is te ((wipe σ vs).set j (some (g a))) H' (f a))
    (hd : Qd (upd H1 D (.lst ((as.filter p).map f)))) :
    ∃ W : Nat → Nat → Hp → Prop, (∃ m, W 0 m (upd H1 D (.lst []))) ∧ ∀ i m H, W i m H →
      (J.stop i H ∧ Qd H) ∨ (J.go i H ∧ ∃ Nx : Hp → Prop, (∀ H', Nx H' → ∃ m', m' < m ∧ W (i + 1) m' H') ∧ ∀ x H', J.yld i H x H' → gName j x (wipe σ vs) H' fun σ2 H2 => wipe σ2 vs = wipe σ vs ∧ tt σ2 H2 fun b H3 =>
        if b = true then te σ2 H3 fun y H4 => ∃ acc, H4 D = some (.lst acc) ∧ acc.length < sizeLine ∧ Nx (upd H4 D (.lst (acc ++ [y]))) else Nx H3) := by
  have sm : ∀ l : List V, Same H1 (upd H1 D (.lst l)) := fun l => same_of_none hD
  have ln : (as.map g).length = as.length := List.length_map _
  refine lc_it w (fun i H => H = upd H1 D (.lst (((as.take i).filter p).map f))) rfl (fun i H _ e => by rw [e]; exact hG _ (sm _)) (fun i x H H' hi e y => ?_) (fun H e => by rw [e, ln, List.take_length]; exact hd)
  obtain ⟨rfl, hx⟩ := y
  subst e
  rw [List.getElem?_map] at hx
  obtain ⟨a, ha, rfl⟩ := Option.map_eq_some_iff.mp hx
  have hm : a ∈ as := List.mem_of_getElem? ha
  have ht' := take_more ha
  refine ⟨hw _, ht a hm _ (sm _) _ ?_⟩
  cases hp : p a with
  | true =>
    refine if_pos rfl |>.mpr ?_
    refine he a hm hp _ (sm _) _ ⟨_, upd_same, small1000 (Nat.le_trans (fm_len _ _ _) (by rw [List.length_take]; omega)), ?_⟩
    rw [upd_upd, ht', List.filter_append, List.map_append, List.filter_cons, if_pos hp]
    rfl
  | false =>
    refine if_neg Bool.false_ne_true |>.mpr ?_
    rw [ht', List.filter_append, List.filter_cons, if_neg (by rw [hp]; exact Bool.false_ne_true)]
    show upd H1 D _ = upd H1 D (.lst ((((as.take i).filter p) ++ []).map f))
    rw [List.append_nil]
/-- all that is new is seen -/
theorem View.grow {s : Addr} {N : Nat} {G H H' : Hp} (v : View s N G H) (e : Same H H') : ∃ G' : Hp, View s N G' H' ∧ Same G G' ∧ (∀ b o, H b = none → H' b = some o → G' b = some o) ∧ ∀ b, H' b = none → G' b = none := by
  obtain ⟨b, c, i, bs, cs, k, l⟩ := v
  refine ⟨fun q => match H q with | none => H' q | some _ => G q, ⟨b, c, i, bs, cs, { k.ext e with sub := fun q u hq => ?_, gs := ?_, gb := ?_, gc := ?_ }, l⟩, fun q u hq => ?_, fun q u h1 h2 => ?_, fun q h => ?_⟩
  · cases h : H q with
    | none => simp only [h] at hq; exact hq
    | some _ => simp only [h] at hq; exact e _ _ (k.sub _ _ hq)
  · simp only [k.hs]; exact k.gs
  · simp only [k.hb]; exact k.gb
  · simp only [k.hc]; exact k.gc
  · simp only [k.sub _ _ hq]; exact hq
  · simp only [h1]; exact h2
  · have : H q = none := e.free h
    simp only [this]; exact h
/-- wishes made, all their parts new -/
def WNew (C : Addr) (H H' : Hp) (x : Addr) (am : Am) : Prop := ∃ (dx : Addr) (fs : List (Str × V)) (t d : Addr), (H x = none ∧ H t = none ∧ H d = none) ∧ H' x = some (.ins C dx fs) ∧ fs.lookup ("_outcomes" : Str) = some (.ref t) ∧ fs.lookup ("_amounts" : Str) = some (.ref d) ∧
  H' t = some (.tup (amN am)) ∧ H' d = some (.dK (amK am)) ∧ OnlyTwo fs
theorem WNew.at {C : Addr} {G' H H' : Hp} {x : Addr} {am : Am} (h : WNew C H H' x am) (g : ∀ b o, H b = none → H' b = some o → G' b = some o) : WAt C G' x am := by
  obtain ⟨dx, fs, t, d, ⟨n1, n2, n3⟩, a1, a2, a3, a4, a5, a6⟩ := h
  exact ⟨dx, fs, t, d, g _ _ n1 a1, a2, a3, g _ _ n2 a4, g _ _ n3 a5, a6⟩
/-- sorted by name -/
def srt (am : Am) : Prop := sortedS (amS am) = true
/-- Wishes.__init__, of amounts that are right -/
def spInit (C : Addr) : Sp := fun vs H Q _ => ∃ (x g dx : Addr) (am0 : Am), vs = [.ref x, .ref g] ∧ H x = some (.ins C dx []) ∧ H g = some (.dK (amK am0)) ∧ AmOk am0 ∧ 1 ≤ am0.length ∧ am0.length ≤ 6 ∧
  ∀ (am : Am) (H' : Hp) (dx' : Addr) (fs : List (Str × V)) (t d : Addr), am.Perm am0 → srt am → AmOk am → (∀ b o, H b = some o → b ≠ x → H' b = some o) → H t = none → H d = none → H' x = some (.ins C dx' fs) → fs.lookup ("_outcomes" : Str) = some (.ref t) → fs.lookup ("_amounts" : Str) = some (.ref d) →
    H' t = some (.tup (amN am)) → H' d = some (.dK (amK am)) → OnlyTwo fs → Q .non H'
/-- Wishes.__eq__ -/
def spEq (K : PySem.W.Frag) (C : Addr) : Sp := fun vs H Q _ => ∃ (x : Addr) (a : Am) (o : V) (r : Bool), vs = [.ref x, o] ∧ WAt C H x a ∧ AmOk a ∧
  ((∃ (y : Addr) (b : Am), o = .ref y ∧ WAt C H y b ∧ AmOk b ∧ r = decide (a.Perm b)) ∨ ((∃ t, TyX K H o t ∧ PySem.W.kitOne K t (.ref C) = some false) ∧ r = false)) ∧ Q (.bl r) H
def spOpp (C : Addr) : Sp := fun vs H Q _ => ∃ (x : Addr) (am : Am), vs = [.ref x] ∧ AmOk am ∧ 1 ≤ am.length ∧ am.length ≤ 6 ∧ WAt C H x am ∧
  ∀ (y : Addr) (am2 : Am) (H' : Hp), am2.Perm (am.map fun p => (p.1, -p.2)) → srt am2 → AmOk am2 → Same H H' → WNew C H H' y am2 → Q (.ref y) H'
def spCheck : Sp := fun vs H Q _ => ∃ c : Int, vs = [.int c] ∧ 1 ≤ c ∧ c ≤ 6 ∧ Q .non H
def spIsInt : Sp := fun vs H Q _ => ∃ c : Int, vs = [.int c] ∧ Q (.bl true) H
/-- what a permutation of the names brings -/
theorem am_perm {am0 : Am} {ys : List Str} (hn : (amS am0).Nodup) (h : ys.Perm (amS am0)) : ∃ am : Am, am.Perm am0 ∧ amS am = ys := by
  induction ys generalizing am0 with
  | nil =>
    have : amS am0 = [] := List.nil_perm.mp h
    have : am0 = [] := List.map_eq_nil_iff.mp this
    exact ⟨[], by rw [this], rfl⟩
  | cons y r ih =>
    have hy : y ∈ amS am0 := h.mem_iff.mp List.mem_cons_self
    obtain ⟨p, hp, rfl⟩ := List.mem_map.mp hy
    obtain ⟨l1, l2, rfl⟩ := List.append_of_mem hp
    have e : amS (l1 ++ p :: l2) = amS l1 ++ p.1 :: amS l2 := by unfold amS; rw [List.map_append]; rfl
    rw [e] at h hn
    have h2 : r.Perm (amS (l1 ++ l2)) := by
      have : amS (l1 ++ l2) = amS l1 ++ amS l2 := by unfold amS; rw [List.map_append]
      rw [this]
      exact (h.trans List.perm_middle).cons_inv
    have hn2 : (amS (l1 ++ l2)).Nodup := by
      have : amS (l1 ++ l2) = amS l1 ++ amS l2 := by unfold amS; rw [List.map_append]
      rw [this]
      exact ((List.perm_middle.nodup_iff).mp hn |> List.nodup_cons.mp).2
    obtain ⟨am, ha, hs⟩ := ih hn2 h2
    exact ⟨p :: am, (ha.cons p).trans List.perm_middle.symm, by show p.1 :: amS am = _; rw [hs]⟩
theorem AmOk.perm {a b : Am} (h : a.Perm b) (k : AmOk b) : AmOk a :=
  ⟨((h.map Prod.fst).nodup_iff).mpr k.nd, fun w hw => k.gd w ((h.map Prod.fst).mem_iff.mp hw), by rw [h.length_eq]; exact k.n1⟩
/-- a dict comprehension whose parts touch nothing, all keys different -/
theorem dc_am {α : Type} {J : It} {G : Hp → Prop} {as : List α} {g : α → V} (w : Walk J (as.map g).length G (YAt (as.map g))) {tk tv : TE} {vs : List Nat} {σ : St} {H1 : Hp} {D : Addr} {Qd : Hp → Prop} {j : Nat} (kf : α → Key) (vf : α → V)
    (hD : H1 D = none) (hG : ∀ H', Same H1 H' → G H') (hl : as.length ≤ 1000) (hw : ∀ x, wipe ((wipe σ vs).set j (some x)) vs = wipe σ vs) (hn : (as.map kf).Nodup)
    (hk : ∀ a ∈ as, ∀ H', Same H1 H' → Is tk ((wipe σ vs).set j (some (g a))) H' (kV (kf a))) (hv : ∀ a ∈ as, ∀ H', Same H1 H' → Is tv ((wipe σ vs).set j (some (g a))) H' (vf a))
    (hd : Qd (upd H1 D (.dK (as.map fun a => (kf a, vf a))))) :
    ∃ W : Nat → Nat → Hp → Prop, (∃ m, W 0 m (upd H1 D (.dK []))) ∧ ∀ i m H, W i m H →
      (J.stop i H ∧ Qd H) ∨ (J.go i H ∧ ∃ Nx : Hp → Prop, (∀ H', Nx H' → ∃ m', m' < m ∧ W (i + 1) m' H') ∧ ∀ x H', J.yld i H x H' → gName j x (wipe σ vs) H' fun σ2 H2 => wipe σ2 vs = wipe σ vs ∧ tYes σ2 H2 fun b H3 =>
        if b = true then tk σ2 H3 fun y H4 => tv σ2 H4 fun z H5 => ∃ kvs k, y = kV k ∧ H5 D = some (.dK kvs) ∧ kvs.length < sizeLine ∧ Nx (upd H5 D (.dK (putK kvs k z))) else Nx H3) := by
  have sm : ∀ l, Same H1 (upd H1 D (.dK l)) := fun l => same_of_none hD
  have ln : (as.map g).length = as.length := List.length_map _
  refine ⟨fun i m H => m = (as.map g).length - i ∧ i ≤ (as.map g).length ∧ H = upd H1 D (.dK ((as.take i).map fun a => (kf a, vf a))), ⟨(as.map g).length, by simp, Nat.zero_le _, rfl⟩, ?_⟩
  rintro i m H ⟨rfl, hi, rfl⟩
  by_cases hlt : i < (as.map g).length
  · refine .inr ⟨w.goes i _ hlt (hG _ (sm _)), fun H => H = upd H1 D (.dK ((as.take (i + 1)).map fun a => (kf a, vf a))), fun H' p' => ⟨(as.map g).length - (i + 1), by omega, rfl, hlt, p'⟩, fun x H' y => ?_⟩
    obtain ⟨rfl, hx⟩ := w.yields i _ x H' hlt (hG _ (sm _)) y
    rw [List.getElem?_map] at hx
    obtain ⟨a, ha, rfl⟩ := Option.map_eq_some_iff.mp hx
    have hm : a ∈ as := List.mem_of_getElem? ha
    have ht' := take_more ha
    refine ⟨hw _, ?_⟩
    unfold tYes
    refine if_pos rfl |>.mpr (hk a hm _ (sm _) _ (hv a hm _ (sm _) _ ⟨_, kf a, rfl, upd_same, small1000 (by rw [List.length_map, List.length_take]; omega), ?_⟩))
    have hnew : valV ((as.take i).map fun a => (kf a, vf a)) (kf a) = none := by
      refine Option.eq_none_iff_forall_ne_some.mpr fun v hv => ?_
      have h1 := valV_in hv
      rw [List.map_map] at h1
      have h2 : kf a ∈ (as.take i).map kf := h1
      have h3 : ((as.take (i + 1)).map kf).Nodup := hn.sublist ((List.take_sublist _ _).map kf)
      rw [ht', List.map_append] at h3
      exact (List.nodup_append.mp h3).2.2 _ h2 _ (List.mem_singleton.mpr rfl) rfl
    rw [upd_upd, putK_new _ hnew, ht', List.map_append]
    rfl
  · have e : i = (as.map g).length := by omega
    subst e
    refine .inl ⟨w.stops _ (hG _ (sm _)), ?_⟩
    rw [ln, List.take_length]
    exact hd
theorem amK_nd {am : Am} (h : (amS am).Nodup) : (am.map fun p => (Sum.inr p.1 : Key)).Nodup := by
  have : (am.map fun p => (Sum.inr p.1 : Key)) = (amS am).map Sum.inr := by unfold amS; rw [List.map_map]; rfl
  rw [this]
  exact h.map _ fun _ _ hab e => hab (Sum.inr.inj e)
theorem amK_keys (am : Am) : (amK am).map (·.1) = (amS am).map Sum.inr := by unfold amK amS; rw [List.map_map, List.map_map]; rfl
end L2

namespace L2
open PySem PySem.Spec PyProof.Rows
theorem perm_of_sub {α : Type} : ∀ {a b : List α}, a.Nodup → (∀ x ∈ a, x ∈ b) → b.length ≤ a.length → a.Perm b
  | [], b, _, _, h => by rw [List.eq_nil_of_length_eq_zero (Nat.le_zero.mp h)]
  | x :: r, b, hn, hs, hl => by
    obtain ⟨l1, l2, rfl⟩ := List.append_of_mem (hs x List.mem_cons_self)
    obtain ⟨n1, n2⟩ := List.nodup_cons.mp hn
    have hr : ∀ y ∈ r, y ∈ l1 ++ l2 := fun y hy => by
      have h := hs y (List.mem_cons_of_mem _ hy)
      rcases List.mem_append.mp h with h | h
      · exact List.mem_append_left _ h
      · rcases List.mem_cons.mp h with h | h
        · subst h; exact absurd hy n1
        · exact List.mem_append_right _ h
    have := perm_of_sub n2 hr (by simp at hl ⊢; omega)
    exact (this.cons x).trans List.perm_middle.symm
theorem nodup_am {am : Am} (h : (amS am).Nodup) : am.Nodup := by
  induction am with
  | nil => exact List.nodup_nil
  | cons p r ih =>
    obtain ⟨h1, h2⟩ := List.nodup_cons.mp h
    exact List.nodup_cons.mpr ⟨fun hp => h1 (List.mem_map.mpr ⟨p, hp, rfl⟩), ih h2⟩
theorem valV_mem {am : Am} {w : Str} {v : V} (h : valV (amK am) (Sum.inr w : Key) = some v) : ∃ z, v = .int z ∧ (w, z) ∈ am := by
  induction am with
  | nil => cases h
  | cons p r ih =>
    by_cases e : p.1 = w
    · subst e
      have h2 : valV (amK (p :: r)) (Sum.inr p.1 : Key) = some (.int p.2) := valV_pos rfl
      rw [h] at h2
      exact ⟨p.2, Option.some.inj h2, List.mem_cons_self⟩
    · have h2 : valV (amK (p :: r)) (Sum.inr w : Key) = valV (amK r) (Sum.inr w : Key) := valV_neg (fun z => e (Sum.inr.inj z))
      rw [h2] at h
      obtain ⟨z, e1, e2⟩ := ih h
      exact ⟨z, e1, List.mem_cons_of_mem _ e2⟩
/-- equal under a key -/
def amE (a b : Am) (k : Key) : Bool := decide (valV (amK a) k = valV (amK b) k)
theorem amK_len (a : Am) : (amK a).length = a.length := by unfold amK; rw [List.length_map]
theorem amK_mem {a : Am} {k : Key} {v : V} (h : (k, v) ∈ amK a) : ∃ p ∈ a, k = .inr p.1 ∧ v = .int p.2 := by
  obtain ⟨p, hp, e⟩ := List.mem_map.mp h
  cases e
  exact ⟨p, hp, rfl, rfl⟩
theorem dict_eq {a b : Am} (ha : (amS a).Nodup) (hb : (amS b).Nodup) :
    ((amK a).length == (amK b).length && (amK a).all fun p => (valV (amK b) p.1).isSome && amE a b p.1) = decide (a.Perm b) := by
  by_cases h : a.Perm b
  · rw [decide_eq_true h, Bool.and_eq_true, beq_iff_eq, amK_len, amK_len, List.all_eq_true]
    refine ⟨h.length_eq, fun p hp => ?_⟩
    obtain ⟨q, hq, e1, e2⟩ := amK_mem (k := p.1) (v := p.2) hp
    have h1 := valV_am ha hq
    have h2 := valV_am hb (h.mem_iff.mp hq)
    unfold amE
    rw [e1, h1, h2]
    simp
  · rw [decide_eq_false h]
    cases e : ((amK a).length == (amK b).length && (amK a).all fun p => (valV (amK b) p.1).isSome && amE a b p.1) with
    | false => rfl
    | true =>
      rw [Bool.and_eq_true, beq_iff_eq, amK_len, amK_len, List.all_eq_true] at e
      refine absurd (perm_of_sub (nodup_am ha) (fun p hp => ?_) (by omega)) h
      have h1 := valV_am ha hp
      have h2 := e.2 (Sum.inr p.1, V.int p.2) (List.mem_map.mpr ⟨p, hp, rfl⟩)
      rw [Bool.and_eq_true] at h2
      have h3 := of_decide_eq_true h2.2
      simp only [h1] at h3
      obtain ⟨z, e1, e2⟩ := valV_mem h3.symm
      cases e1
      exact e2
theorem amE_eqv {K : PySem.W.Frag} {H : Hp} {n : Nat} {a b : Am} (ha : (amS a).Nodup) {k : Key} {v y : V} (hm : (k, v) ∈ amK a) (hy : valV (amK b) k = some y) : Eqv K H n v y (amE a b k) := by
  obtain ⟨p, hp, rfl, rfl⟩ := amK_mem hm
  obtain ⟨z, rfl, _⟩ := valV_mem hy
  have h1 := valV_am ha hp
  have : amE a b (Sum.inr p.1) = eqV (.int p.2) (.int z) := by
    unfold amE
    rw [h1, hy]
    show decide (some (V.int p.2) = some (V.int z)) = (p.2 == z)
    by_cases e : p.2 = z
    · subst e; simp
    · simp [e]
  rw [this]
  exact .flat rfl rfl
/-- a method as its callers see it -/
structure CalM (P : Program) (w : World) (K : PySem.W.Frag) (mg : Str → Option Value) (base : Heap) (CX : CXT) (k : Nat) (ps : List Str) (sp : Sp) where
  f : Addr
  fd : FuncData
  b : Binds K fd ps []
  G : FnOk P w K mg base CX k f fd ps sp
theorem amK_neg (am : Am) : amK (am.map fun p => (p.1, -p.2)) = am.map fun p => ((Sum.inr p.1 : Key), V.int (-p.2)) := by unfold amK; rw [List.map_map]; rfl
theorem amS_neg (am : Am) : amS (am.map fun p => (p.1, -p.2)) = amS am := by unfold amS; rw [List.map_map]; rfl
theorem AmOk.neg {am : Am} (h : AmOk am) : AmOk (am.map fun p => (p.1, -p.2)) := ⟨by rw [amS_neg]; exact h.nd, by rw [amS_neg]; exact h.gd, by rw [List.length_map]; exact h.n1⟩
theorem strs_flat (ws : List Str) : (ws.map V.str).all flatV = true := by
  rw [List.all_eq_true]
  intro v hv
  obtain ⟨q, _, rfl⟩ := List.mem_map.mp hv
  rfl
theorem inV_strs (w : Str) (ws : List Str) : inV (.str w) (ws.map V.str) = decide (w ∈ ws) := by
  unfold inV
  induction ws with
  | nil => rfl
  | cons u r ih =>
    rw [List.map_cons, List.any_cons, ih]
    show ((u == w) || decide (w ∈ r)) = decide (w ∈ u :: r)
    by_cases e : u = w
    · subst e; simp
    · have e2 : ¬ w = u := fun z => e z.symm
      simp [e, e2]
theorem op_inF {X : Cx} {K : PySem.W.Frag} (hk : X.K = K) : OpR X (compareOp .In) (rIn K false) := by subst hk; exact op_in_seq
theorem op_niF {X : Cx} {K : PySem.W.Frag} (hk : X.K = K) : OpR X (compareOp .NotIn) (rIn K true) := by subst hk; exact op_notIn_seq
/-- what x[i] finds -/
structure IxF (K : PySem.W.Frag) (C g : Addr) : Prop where
  hs : PySem.W.findIn K (.ref C) "__getitem__" = some (some (.ref g))
  hf : PySem.W.fnIn K g = true
  hfn : PySem.W.isFn K (.ref g) = true
end L2

namespace L2
open PySem PySem.Spec PyProof.Rows
/-- names, as data -/
def tD (ws : List Str) : PyData := .tuple (ws.map .str)
/-- lists of tuples of names, as data -/
def lD (l : List (List Str)) : PyData := .list (l.map tD)
theorem eqvAll_strs : ∀ a b : List Str, PyData.eqvAll (a.map .str) (b.map .str) = decide (a = b)
  | [], [] => by rw [List.map_nil, PyData.eqvAll]; simp
  | [], y :: s => by rw [List.map_nil, List.map_cons, PyData.eqvAll]; simp
  | x :: r, [] => by rw [List.map_nil, List.map_cons, PyData.eqvAll]; simp
  | x :: r, y :: s => by
    rw [List.map_cons, List.map_cons, PyData.eqvAll, eqvAll_strs r s, PyData.eqv]
    by_cases h : x = y <;> by_cases h2 : r = s <;> simp [h, h2]
theorem eqv_tD (a b : List Str) : PyData.eqv (tD a) (tD b) = decide (a = b) := by
  unfold tD
  rw [PyData.eqv, eqvAll_strs]
theorem eqvAll_tD : ∀ a b : List (List Str), PyData.eqvAll (a.map tD) (b.map tD) = decide (a = b)
  | [], [] => by rw [List.map_nil, PyData.eqvAll]; simp
  | [], y :: s => by rw [List.map_nil, List.map_cons, PyData.eqvAll]; simp
  | x :: r, [] => by rw [List.map_nil, List.map_cons, PyData.eqvAll]; simp
  | x :: r, y :: s => by
    rw [List.map_cons, List.map_cons, PyData.eqvAll, eqvAll_tD r s, eqv_tD]
    by_cases h : x = y <;> by_cases h2 : r = s <;> simp [h, h2]
theorem eqv_lD (a b : List (List Str)) : PyData.eqv (lD a) (lD b) = decide (a = b) := by
  unfold lD
  rw [PyData.eqv, eqvAll_tD]
theorem lay_tD {ws : List Str} (h : ∀ w ∈ ws, PyData.strOk w = true) : (tD ws).canLay0 = true ∧ (tD ws).depth = 1 := by
  obtain ⟨h1, h2⟩ := shaped_go ws h
  refine ⟨h1, ?_⟩
  show PyData.depthAll (ws.map PyData.str) + 1 = 1
  rw [h2]
theorem shaped_tD {ws : List Str} (h : ∀ w ∈ ws, PyData.strOk w = true) : SeqAt.shaped (tD ws) = true := by
  obtain ⟨h1, h2⟩ := lay_tD h
  unfold SeqAt.shaped
  rw [h1, h2]
  rfl
theorem lay_lD : ∀ {l : List (List Str)}, (∀ ws ∈ l, ∀ w ∈ ws, PyData.strOk w = true) → PyData.canLayAll0 (l.map tD) = true ∧ PyData.depthAll (l.map tD) ≤ 1
  | [], _ => ⟨rfl, Nat.zero_le _⟩
  | x :: r, h => by
    obtain ⟨h1, h2⟩ := lay_lD fun ws hw => h ws (List.mem_cons_of_mem _ hw)
    obtain ⟨g1, g2⟩ := lay_tD (h x List.mem_cons_self)
    refine ⟨?_, ?_⟩
    · show (PyData.canLay0 (tD x) && PyData.canLayAll0 (r.map tD)) = true
      rw [h1, g1]
      rfl
    · show max (PyData.depth (tD x)) (PyData.depthAll (r.map tD)) ≤ 1
      rw [g2]
      omega
theorem shaped_lD {l : List (List Str)} (h : ∀ ws ∈ l, ∀ w ∈ ws, PyData.strOk w = true) : SeqAt.shaped (lD l) = true := by
  obtain ⟨h1, h2⟩ := lay_lD h
  unfold SeqAt.shaped
  rw [Bool.and_eq_true]
  refine ⟨h1, decide_eq_true ?_⟩
  show PyData.depthAll (l.map tD) + 1 ≤ 64
  omega
theorem good_ok {w : Str} (h : good w = true) : PyData.strOk w = true := by
  have := good_asc h
  simp [PyData.strOk]
  intro c hc
  have := this (w.cps[c]) (by simp)
  omega
theorem dp_tD {K : PySem.W.Frag} {H : Hp} {t : Addr} {ws : List Str} (h : H t = some (.tup (ws.map V.str))) : Dp K H (.ref t) (tD ws) := .tup (SqT.of h) (dpAll_strs ws)
/-- a list of tuples of names in a heap -/
inductive TupsAt (H : Hp) : List V → List (List Str) → Prop
  | nil : TupsAt H [] []
  | cons {t : Addr} {ws : List Str} {vs : List V} {l : List (List Str)} : H t = some (.tup (ws.map V.str)) → TupsAt H vs l → TupsAt H (.ref t :: vs) (ws :: l)
theorem TupsAt.up {G H : Hp} {vs : List V} {l : List (List Str)} (h : TupsAt G vs l) (e : Same G H) : TupsAt H vs l := by
  induction h with
  | nil => exact .nil
  | cons a _ ih => exact .cons (e _ _ a) ih
theorem TupsAt.dp {K : PySem.W.Frag} {H : Hp} {vs : List V} {l : List (List Str)} (h : TupsAt H vs l) : DpAll K H vs (l.map tD) := by
  induction h with
  | nil => exact .nil
  | cons a _ ih => exact .cons (dp_tD a) ih
theorem TupsAt.snoc {H : Hp} {vs : List V} {l : List (List Str)} (h : TupsAt H vs l) {t : Addr} {ws : List Str} (ht : H t = some (.tup (ws.map V.str))) : TupsAt H (vs ++ [.ref t]) (l ++ [ws]) := by
  induction h with
  | nil => exact .cons ht .nil
  | cons a _ ih => exact .cons a ih
theorem dp_lD {K : PySem.W.Frag} {H : Hp} {p : Addr} {vs : List V} {l : List (List Str)} (h : H p = some (.lst vs)) (t : TupsAt H vs l) : Dp K H (.ref p) (lD l) := .lst (SqL.of h) t.dp
/-- the ranks of amounts: the levels down, each with its names in order -/
def lvls (am : Am) : List Int := ((am.map (·.2)).mergeSort (fun a b => decide (b ≤ a))).eraseDups
/-- a list that names the levels, the highest first -/
def IsLv (am : Am) (ns : List Int) : Prop := ns.Pairwise (· > ·) ∧ ∀ z, z ∈ ns ↔ z ∈ am.map (·.2)
def rks (am : Am) (ns : List Int) : List (List Str) := ns.map fun z => amS (am.filter fun p => decide (p.2 = z))
theorem isLv_one {am : Am} {a b : List Int} (ha : IsLv am a) (hb : IsLv am b) : a = b := by
  obtain ⟨a1, a2⟩ := ha
  obtain ⟨b1, b2⟩ := hb
  have h : ∀ z, z ∈ a ↔ z ∈ b := fun z => (a2 z).trans (b2 z).symm
  clear a2 b2
  induction a generalizing b with
  | nil =>
    cases b with
    | nil => rfl
    | cons y s => exact absurd ((h y).mpr List.mem_cons_self) (by simp)
  | cons x r ih =>
    cases b with
    | nil => exact absurd ((h x).mp List.mem_cons_self) (by simp)
    | cons y s =>
      obtain ⟨p1, p2⟩ := List.pairwise_cons.mp a1
      obtain ⟨q1, q2⟩ := List.pairwise_cons.mp b1
      have exy : x = y := by
        have h1 := (h x).mp List.mem_cons_self
        have h2 := (h y).mpr List.mem_cons_self
        rcases List.mem_cons.mp h1 with e | h1
        · exact e
        · rcases List.mem_cons.mp h2 with e | h2
          · exact e.symm
          · have := q1 _ h1
            have := p1 _ h2
            omega
      subst exy
      refine congrArg _ (ih p2 q2 fun z => ⟨fun hz => ?_, fun hz => ?_⟩)
      · rcases List.mem_cons.mp ((h z).mp (List.mem_cons_of_mem _ hz)) with e | e
        · subst e; exact absurd (p1 _ hz) (by omega)
        · exact e
      · rcases List.mem_cons.mp ((h z).mpr (List.mem_cons_of_mem _ hz)) with e | e
        · subst e; exact absurd (q1 _ hz) (by omega)
        · exact e
/-- Wishes.ranks and the law's own: the levels of sorted amounts -/
def rkR (am : Am) (H : Hp) (Q : VK) : Prop := ∀ (p : Addr) (vs : List V) (H' : Hp) (ns : List Int), IsLv am ns → Same H H' → H p = none → (∀ v ∈ vs, ∃ t, v = .ref t ∧ H t = none) → H' p = some (.lst vs) → TupsAt H' vs (rks am ns) → Q (.ref p) H'
def spRanks (C : Addr) : Sp := fun vs H Q _ => ∃ (x : Addr) (am : Am), vs = [.ref x] ∧ WAt C H x am ∧ AmOk am ∧ rkR am H Q
/-- __init__ of an exception that keeps one thing -/
def spXI (C : Addr) (f : Str) : Sp := fun vs H Q _ => ∃ (a : Addr) (v : V), vs = [.ref a, v] ∧ H a = some (exo a C none) ∧ ∀ dx, H dx = none → dx ≠ a → Q .non (upd (upd H dx (exd dx [(f, v)])) a (exo a C (some dx)))
/-- what the law's text holds for such a class -/
structure XCls (K : PySem.W.Frag) (mg : Str → Option Value) (nm f : Str) where
  C : Addr
  g : mg nm = some (.ref C)
  T : OexC K C
  no : PySem.W.findIn K (.ref C) f = some none
  xf : XfC K C
  ex : PySem.W.exmOne K (.ref C) (.ref C) = some true
/-- what its __init__ is, as pmk_oex wishes -/
structure XIni (K : PySem.W.Frag) (C fI : Addr) : Prop where
  iC : PySem.W.findIn K (.ref C) "__init__" = some (some (.ref fI))
  tI : PySem.W.typeIn K (.ref fI) = some (.type "function")
theorem rks_ok {am : Am} (h : AmOk am) (ns : List Int) : ∀ ws ∈ rks am ns, ∀ w ∈ ws, PyData.strOk w = true := fun ws hws w hw => by
  obtain ⟨z, _, rfl⟩ := List.mem_map.mp hws
  obtain ⟨p, hp, rfl⟩ := List.mem_map.mp hw
  exact good_ok (h.gd _ (List.mem_map.mpr ⟨p, (List.mem_filter.mp hp).1, rfl⟩))
theorem dp_am {K : PySem.W.Frag} {H : Hp} {t : Addr} {am : Am} (h : H t = some (.tup (amN am))) : Dp K H (.ref t) (tD (amS am)) := dp_tD (by rw [← amN_S]; exact h)
/-- o.m(e, ..) that may raise, inside a try: the way out may know the slots -/
def tMethT (C : Addr) (m : Str) (sp : Sp) (E : St → XK) (ta : TE) (t : TA) : TE := fun σ H Q => ta σ H fun x H1 => ∃ a dx fs, x = .ref a ∧ H1 a = some (.ins C dx fs) ∧ fs.lookup m = none ∧ t σ H1 fun vs H2 => sp (x :: vs) H2 Q (E σ)
theorem pe_methT {X : Cx} {CX : CXT} {k : Nat} {f C : Addr} {fd : FuncData} {ps : List Str} {sp : Sp} {E : St → XK} {m : Str} {o e : Expr} {es : List Expr} {ta : TE} {t : TA} {apos pos : Pos} {pl : Sem Bool} (he : PE X o ta) (c : Cls X.K C) (hm : Meth X.K C m f)
    (F : FnOk X.prog X.w X.K X.mg X.base CX k f fd ps sp) (hr : Room k X.A) (hb : Binds X.K fd ps []) (hx : ∀ σ, PassesAt CX X σ (E σ)) (ha : PA X (e :: es) t)
    (hst : starEach (e :: es) X.env = (false, eval e X.env) :: starEach es X.env := by rfl) (hpl : (backTo pos (starEach es X.env)).any (·.1) = false := by rfl)
    (ht : eval (.Call (.Attribute o m apos) (e :: es) [] pos) X.env = (do
      let ov ← eval o X.env
      standAt apos.atName
      let (f, first) ← holding [ov] (getMethod ov m pl)
      callWith pos f first (backTo pos (starEach (e :: es) X.env)) (backToKw pos (keywordEach [] X.env))) := by rfl) :
    PE X (.Call (.Attribute o m apos) (e :: es) [] pos) (tMethT C m sp E ta t) := by
  refine ⟨fun pins s σ H Q I h => PySem.W.methodCall_KW (pl := pl) (thn (he.run pins s σ H _ I h) fun u s1 hh => ?_) ht⟩
  obtain ⟨x, H1, I1, rx, a, dx, fs, rfl, ea, l, q⟩ := hh
  obtain rfl : u = Value.ref a := rx
  refine getmeth_ok I1 ea c hm l (PySem.W.callWith_K (first := [.ref a]) (h₀ := X.base) I.ok.mod.kin hm.kp ?_ hst hpl)
  refine thn (ha.run pos pins s1 σ H1 _ I1 q) fun us s2 hh => ?_
  obtain ⟨vs, H2, I2, r, q2⟩ := hh
  exact ⟨I2.kIn, run_fnS (E := E) (us := .ref a :: us) (vs := .ref a :: vs) F hr hb (hx σ) I2 (.cons rfl r) q2⟩
end L2

namespace L2
open PySem PySem.Spec PyProof.Rows
/-! ### sorted names are told by what they are -/
def LeS (x y : Str) : Prop := ltCps y.cps.toList x.cps.toList = false
theorem leS_iff {x y : Str} : LeS x y ↔ x.cps.toList ≤ y.cps.toList := by
  unfold LeS
  rw [ltCps_eq, decide_eq_false_iff_not, List.not_lt]
theorem leS_trans {x y z : Str} (a : LeS x y) (b : LeS y z) : LeS x z := leS_iff.mpr (List.le_trans (leS_iff.mp a) (leS_iff.mp b))
theorem leS_anti {x y : Str} (a : LeS x y) (b : LeS y x) : x = y := str_ext (List.le_antisymm (leS_iff.mp a) (leS_iff.mp b))
theorem rising_pw : ∀ {l : List Str} {p : Str}, risingS p l = true → (p :: l).Pairwise LeS
  | [], p, _ => List.pairwise_singleton _ _
  | x :: r, p, h => by
    have h' : (!ltCps x.cps.toList p.cps.toList && risingS x r) = true := h
    rw [Bool.and_eq_true, Bool.not_eq_true'] at h'
    have ih := rising_pw h'.2
    refine List.pairwise_cons.mpr ⟨fun y hy => ?_, ih⟩
    rcases List.mem_cons.mp hy with rfl | hy
    · exact h'.1
    · exact leS_trans h'.1 ((List.pairwise_cons.mp ih).1 y hy)
theorem sorted_pw : ∀ {l : List Str}, sortedS l = true → l.Pairwise LeS
  | [], _ => .nil
  | x :: r, h => rising_pw h
theorem pw_one : ∀ {a b : List Str}, a.Pairwise LeS → b.Pairwise LeS → a.Perm b → a = b
  | [], b, _, _, h => (List.nil_perm.mp h).symm
  | x :: r, [], _, _, h => absurd h.length_eq (by simp)
  | x :: r, y :: s, ha, hb, h => by
    obtain ⟨a1, a2⟩ := List.pairwise_cons.mp ha
    obtain ⟨b1, b2⟩ := List.pairwise_cons.mp hb
    have e : x = y := by
      rcases List.mem_cons.mp (h.mem_iff.mp (List.mem_cons_self (a := x) (l := r))) with e | h1
      · exact e
      · rcases List.mem_cons.mp (h.mem_iff.mpr (List.mem_cons_self (a := y) (l := s))) with e | h2
        · exact e.symm
        · exact leS_anti (a1 _ h2) (b1 _ h1)
    subst e
    rw [pw_one a2 b2 h.cons_inv]
theorem sortedS_one {a b : List Str} (ha : sortedS a = true) (hb : sortedS b = true) (h : a.Perm b) : a = b := pw_one (sorted_pw ha) (sorted_pw hb) h
/-- of the same names in the same order, all different: the same amounts -/
theorem am_one : ∀ {a b : Am}, (amS a).Nodup → amS a = amS b → a.Perm b → a = b
  | [], b, _, _, h => (List.nil_perm.mp h).symm
  | p :: r, [], _, _, h => absurd h.length_eq (by simp)
  | p :: r, q :: s, hn, he, h => by
    obtain ⟨e1, e2⟩ := List.cons.inj (show p.1 :: amS r = q.1 :: amS s from he)
    obtain ⟨n1, n2⟩ := List.nodup_cons.mp (show (p.1 :: amS r).Nodup from hn)
    have e : p = q := by
      rcases List.mem_cons.mp (h.mem_iff.mpr (List.mem_cons_self (a := q) (l := s))) with e | h2
      · exact e.symm
      · exact absurd (List.mem_map.mpr ⟨q, h2, e1.symm⟩) n1
    subst e
    rw [am_one n2 e2 h.cons_inv]
theorem srt_one {a b c : Am} (hc : (amS c).Nodup) (ha : srt a) (hb : srt b) (pa : a.Perm c) (pb : b.Perm c) : a = b := by
  have e : amS a = amS b := sortedS_one ha hb ((pa.trans pb.symm).map _)
  exact am_one ((pa.map Prod.fst).nodup_iff.mpr hc) e (pa.trans pb.symm)
/-- the law's own ranks of a dict of amounts -/
def spLR : Sp := fun vs H Q _ => ∃ (g : Addr) (a : Am), vs = [.ref g] ∧ H g = some (.dK (amK a)) ∧ AmOk a ∧ ∀ sa : Am, sa.Perm a → srt sa → rkR sa H Q
/-- _law_due -/
def spDue : Sp := fun vs H Q _ => ∃ (g n : Addr) (a b : Am), vs = [.ref g, .ref n] ∧ H g = some (.dK (amK a)) ∧ H n = some (.dK (amK b)) ∧ AmOk a ∧ AmOk b ∧
  ∀ sa sb : Am, sa.Perm a → srt sa → sb.Perm b → srt sb →
  (amS sa = amS sb → ∀ (p : Addr) (H' : Hp) (na nb : List Int), IsLv sa na → IsLv sb nb → Same H H' → H p = none → H' p = some (.lst [.str "agrees", .bl (decide (rks sa na = rks sb nb))]) → Q (.ref p) H') ∧
  (amS sa ≠ amS sb → ∀ (p t : Addr) (H' : Hp), Same H H' → H p = none → H t = none → H' t = some (.tup (amN sb)) → H' p = some (.lst [.str "unlike", .ref t]) → Q (.ref p) H')
theorem shaped_am {ys : List Str} {a : Am} (h : AmOk a) (p : ys.Perm (amS a)) : SeqAt.shaped (.list (ys.map PyData.str)) = true := shaped_strs ys fun w hw => good_ok (h.gd w (p.mem_iff.mp hw))
theorem eqv_strs (a b : List Str) : PyData.eqv (.list (a.map .str)) (.list (b.map .str)) = decide (a = b) := by rw [PyData.eqv, eqvAll_strs]
end L2

namespace L2
open PySem PySem.Spec PyProof.Rows
theorem walk_amK {d : Addr} {o : Obj} {am : Am} : Walk (Itk d o (amK am)) (am.map fun p => V.str p.1).length (fun H => H d = some (.frz o (.dK (amK am)))) (YAt (am.map fun p => V.str p.1)) := by
  have w := walk_keys (d := d) (o := o) (kvs := amK am)
  rw [amK_len, ← List.length_map (as := am) (f := fun p : Str × Int => V.str p.1)] at w
  refine w.mono (fun _ h => h) fun i H x H' _ _ y => ?_
  obtain ⟨e, k, v, hk, rfl⟩ := y
  refine ⟨e, ?_⟩
  unfold amK at hk
  rw [List.getElem?_map] at hk ⊢
  obtain ⟨p, hp, e2⟩ := Option.map_eq_some_iff.mp hk
  cases e2
  rw [hp]
  rfl
/-- a list comprehension that makes a pair a turn -/
theorem lc_pairs {α : Type} {J : It} {G : Hp → Prop} {as : List α} {g : α → V} (w : Walk J (as.map g).length G (YAt (as.map g))) {te : TE} {vs : List Nat} {σ : St} {H1 : Hp} {D : Addr} {Qd : Hp → Prop} {j : Nat} (kv : α → Key × V)
    (hD : H1 D = none) (hG : ∀ H', Same H1 H' → G H') (hl : as.length ≤ 1000) (hw : ∀ x, wipe ((wipe σ vs).set j (some x)) vs = wipe σ vs)
    (he : ∀ a ∈ as, ∀ (H' : Hp) (Q : VK), Same H1 H' → (∀ t, H' t = none → Q (.ref t) (upd H' t (.tup [kV (kv a).1, (kv a).2]))) → te ((wipe σ vs).set j (some (g a))) H' Q)
    (hd : ∀ (ps : List Addr) (H' : Hp), Same H1 H' → H' D = some (.lst (ps.map V.ref)) → Paired (fun p q => H' p = some (.tup [kV q.1, q.2])) ps (as.map kv) → Qd H') :
    ∃ W : Nat → Nat → Hp → Prop, (∃ m, W 0 m (upd H1 D (.lst []))) ∧ ∀ i m H, W i m H →
      (J.stop i H ∧ Qd H) ∨ (J.go i H ∧ ∃ Nx : Hp → Prop, (∀ H', Nx H' → ∃ m', m' < m ∧ W (i + 1) m' H') ∧ ∀ x H', J.yld i H x H' → gName j x (wipe σ vs) H' fun σ2 H2 => wipe σ2 vs = wipe σ vs ∧ tYes σ2 H2 fun b H3 =>
        if b = true then te σ2 H3 fun y H4 => ∃ acc, H4 D = some (.lst acc) ∧ acc.length < sizeLine ∧ Nx (upd H4 D (.lst (acc ++ [y]))) else Nx H3) := by
  have ln : (as.map g).length = as.length := List.length_map _
  refine lc_it w (fun i H => ∃ ps : List Addr, Same H1 H ∧ H D = some (.lst (ps.map V.ref)) ∧ ps.length = i ∧ Paired (fun p q => H p = some (.tup [kV q.1, q.2])) ps ((as.take i).map kv)) ⟨[], same_of_none hD, upd_same, rfl, .nil⟩ (fun i H _ ⟨ps, s, _⟩ => hG _ s) (fun i x H H' hi h y => ?_) (fun H h => ?_)
  · obtain ⟨ps, s, hDl, hpl, hP⟩ := h
    obtain ⟨rfl, hx⟩ := y
    rw [List.getElem?_map] at hx
    obtain ⟨a, ha, rfl⟩ := Option.map_eq_some_iff.mp hx
    have hm : a ∈ as := List.mem_of_getElem? ha
    have ht' := take_more ha
    refine ⟨hw _, ?_⟩
    unfold tYes
    refine if_pos rfl |>.mpr (he a hm _ _ s fun t ht => ?_)
    have hDt : D ≠ t := ne_of_none hDl ht
    have s2 := same_of_none (o := .tup [kV (kv a).1, (kv a).2]) ht
    refine ⟨_, s2 _ _ hDl, small1000 (by rw [List.length_map]; omega), ps ++ [t], ?_, by rw [upd_same, List.map_append]; rfl, by rw [List.length_append, hpl]; rfl, ?_⟩
    · exact (s.trans s2).unseen hD
    · rw [ht', List.map_append]
      refine Paired.snoc ?_ (by rw [upd_ne hDt.symm]; exact upd_same)
      refine hP.mono fun p q h => ?_
      have hpD : p ≠ D := fun z => by rw [z, hDl] at h; cases h
      rw [upd_ne hpD]
      exact s2 _ _ h
  · obtain ⟨ps, s, hDl, _, hP⟩ := h
    rw [ln, List.take_length] at hP
    exact hd ps H s hDl hP
theorem mergeK_am : ∀ {kvs acc : List (Key × V)}, (kvs.map (·.1)).Nodup → (∀ p ∈ kvs, valV acc p.1 = none) → mergeK acc kvs = acc ++ kvs
  | [], acc, _, _ => (List.append_nil _).symm
  | p :: r, acc, hn, ha => by
    obtain ⟨n1, n2⟩ := List.nodup_cons.mp hn
    have h1 := ha p List.mem_cons_self
    show mergeK (putK acc p.1 p.2) r = acc ++ p :: r
    rw [putK_new _ h1, mergeK_am n2 fun q hq => ?_]
    · rw [List.append_assoc]; rfl
    · rw [valV_snoc _ _ _ _ h1, if_neg fun e => n1 (by show p.1 ∈ _; rw [← e]; exact List.mem_map.mpr ⟨q, hq, rfl⟩)]
      exact ha q (List.mem_cons_of_mem _ hq)
/-! ### amounts put and dropped -/
def aput (b : Am) (w : Str) (z : Int) : Am := if w ∈ amS b then b.map (fun p => if p.1 = w then (p.1, z) else p) else b ++ [(w, z)]
theorem amK_any (b : Am) (w : Str) : ((amK b).any fun kv => decide (kv.1 = (Sum.inr w : Key))) = decide (w ∈ amS b) := by
  induction b with
  | nil => rfl
  | cons p r ih =>
    show (decide ((Sum.inr p.1 : Key) = Sum.inr w) || (amK r).any fun kv => decide (kv.1 = (Sum.inr w : Key))) = decide (w ∈ p.1 :: amS r)
    rw [ih]
    by_cases e : p.1 = w
    · subst e; simp
    · have e2 : ¬ w = p.1 := fun z => e z.symm
      have e3 : ¬ (Sum.inr p.1 : Key) = Sum.inr w := fun z => e (Sum.inr.inj z)
      simp [e2, e3]
theorem amK_put (b : Am) (w : Str) (z : Int) : amK (aput b w z) = putK (amK b) (Sum.inr w) (.int z) := by
  unfold aput putK
  rw [amK_any]
  by_cases h : w ∈ amS b
  · rw [if_pos h, if_pos (decide_eq_true h)]
    unfold amK
    rw [List.map_map, List.map_map]
    refine List.map_congr_left fun p _ => ?_
    show ((Sum.inr (if p.1 = w then (p.1, z) else p).1 : Key), V.int (if p.1 = w then (p.1, z) else p).2) = if (Sum.inr p.1 : Key) = Sum.inr w then ((Sum.inr p.1 : Key), V.int z) else (Sum.inr p.1, V.int p.2)
    by_cases e : p.1 = w
    · rw [if_pos e, if_pos (by rw [e])]
    · rw [if_neg e, if_neg fun q => e (Sum.inr.inj q)]
  · rw [if_neg h, if_neg (by rw [decide_eq_false h]; exact Bool.false_ne_true)]
    unfold amK
    rw [List.map_append]
    rfl
theorem amS_put (b : Am) (w : Str) (z : Int) : amS (aput b w z) = if w ∈ amS b then amS b else amS b ++ [w] := by
  unfold aput
  by_cases h : w ∈ amS b
  · rw [if_pos h, if_pos h]
    unfold amS
    rw [List.map_map]
    refine List.map_congr_left fun p _ => ?_
    show (if p.1 = w then (p.1, z) else p).1 = p.1
    split <;> rfl
  · rw [if_neg h, if_neg h]
    unfold amS
    rw [List.map_append]
    rfl
theorem amS_len (b : Am) : (amS b).length = b.length := by unfold amS; rw [List.length_map]
theorem put_len (b : Am) (w : Str) (z : Int) : (aput b w z).length = if w ∈ amS b then b.length else b.length + 1 := by
  rw [← amS_len, amS_put]
  split
  · exact amS_len b
  · rw [List.length_append, amS_len]; rfl
theorem AmOk.put {b : Am} (h : AmOk b) (w : Str) (z : Int) (g : good w = true) (l : b.length ≤ 7) : AmOk (aput b w z) := by
  refine ⟨?_, fun u hu => ?_, ?_⟩
  · rw [amS_put]
    split
    · exact h.nd
    · rename_i n
      refine List.nodup_append.mpr ⟨h.nd, List.nodup_cons.mpr ⟨by simp, List.nodup_nil⟩, fun x hx y hy e => ?_⟩
      rw [List.mem_singleton.mp hy] at e
      exact n (e ▸ hx)
  · rw [amS_put] at hu
    split at hu
    · exact h.gd u hu
    · rcases List.mem_append.mp hu with hu | hu
      · exact h.gd u hu
      · rw [List.mem_singleton.mp hu]; exact g
  · rw [put_len]; split <;> omega
def adrop (b : Am) (w : Str) : Am := b.filter fun p => decide (p.1 ≠ w)
theorem amK_drop (b : Am) (w : Str) : amK (adrop b w) = dropK (amK b) (Sum.inr w) := by
  unfold adrop dropK amK
  rw [List.filter_map]
  refine congrArg _ (List.filter_congr fun p _ => ?_)
  show decide (p.1 ≠ w) = decide ((Sum.inr p.1 : Key) ≠ Sum.inr w)
  rw [decide_eq_decide]
  exact ⟨fun h e => h (Sum.inr.inj e), fun h e => h (by rw [e])⟩
theorem AmOk.drop {b : Am} (h : AmOk b) (w : Str) : AmOk (adrop b w) := by
  have s : (amS (adrop b w)).Sublist (amS b) := (List.filter_sublist).map _
  exact ⟨h.nd.sublist s, fun u hu => h.gd u (s.subset hu), Nat.le_trans (List.length_filter_le _ _) h.n1⟩
theorem drop_not (b : Am) (w : Str) : w ∉ amS (adrop b w) := fun h => by
  obtain ⟨p, hp, e⟩ := List.mem_map.mp h
  exact of_decide_eq_true (List.mem_filter.mp hp).2 e
theorem drop_len {b : Am} (h : (amS b).Nodup) {w : Str} (hw : w ∈ amS b) : (adrop b w).length + 1 = b.length := by
  induction b with
  | nil => cases hw
  | cons p r ih =>
    obtain ⟨n1, n2⟩ := List.nodup_cons.mp (show (p.1 :: amS r).Nodup from h)
    by_cases e : p.1 = w
    · subst e
      have : adrop (p :: r) p.1 = r := by
        unfold adrop
        rw [List.filter_cons, if_neg (by simp)]
        refine List.filter_eq_self.mpr fun q hq => decide_eq_true fun e => n1 (List.mem_map.mpr ⟨q, hq, e⟩)
      rw [this]
      rfl
    · have hw' : w ∈ amS r := by
        rcases List.mem_cons.mp (show w ∈ p.1 :: amS r from hw) with h | h
        · exact absurd h.symm e
        · exact h
      have : adrop (p :: r) w = p :: adrop r w := by
        unfold adrop
        rw [List.filter_cons, if_pos (decide_eq_true e)]
      rw [this]
      show (adrop r w).length + 1 + 1 = r.length + 1
      rw [ih n2 hw']
/-- another amount for each -/
theorem amK_map (b : Am) (f : Int → Int) : amK (b.map fun p => (p.1, f p.2)) = b.map fun p => ((Sum.inr p.1 : Key), V.int (f p.2)) := by unfold amK; rw [List.map_map]; rfl
theorem amS_map (b : Am) (f : Int → Int) : amS (b.map fun p => (p.1, f p.2)) = amS b := by unfold amS; rw [List.map_map]; rfl
theorem AmOk.map {b : Am} (h : AmOk b) (f : Int → Int) : AmOk (b.map fun p => (p.1, f p.2)) := ⟨by rw [amS_map]; exact h.nd, by rw [amS_map]; exact h.gd, by rw [List.length_map]; exact h.n1⟩
theorem DPut.am {H : Hp} {d : Addr} {b : Am} {w : Str} {z : Int} (h : H d = some (.dK (amK b))) (l : b.length ≤ 1000) : DPut H d (.str w) (.int z) (upd H d (.dK (amK (aput b w z)))) :=
  .inl ⟨amK b, .inr w, h, rfl, by rw [amK_len]; exact small1000 l, by rw [amK_put]⟩
theorem am_val {b : Am} {w : Str} (h : w ∈ amS b) : ∃ z, (w, z) ∈ b := by
  obtain ⟨p, hp, e⟩ := List.mem_map.mp h
  exact ⟨p.2, by rw [← e]; exact hp⟩
/-- _law_near: amounts near the given ones -/
def spNear : Sp := fun vs H Q _ => ∃ (s : Addr) (N : Nat) (G : Hp) (g : Addr) (a : Am), vs = [.ref s, .ref g] ∧ View s N G H ∧ N ≤ 800000 ∧ G g = some (.dK (amK a)) ∧ AmOk a ∧ 1 ≤ a.length ∧ a.length ≤ 6 ∧ (∀ p ∈ a, p.2.natAbs < 2 ^ 100) ∧
  ∀ (p : Addr) (b : Am) (H' : Hp), AmOk b → 1 ≤ b.length → b.length ≤ 6 → G p = none → View s (N + 70) (upd G p (.dK (amK b))) H' → Q (.ref p) H'
theorem am_permV {a : Am} {zs : List V} (hn : (amS a).Nodup) (h : zs.Perm (amN a)) : ∃ am : Am, am.Perm a ∧ zs = amN am := by
  let un : V → Str := fun v => match v with | .str w => w | _ => Str.ofString ""
  have e1 : (amN a).map un = amS a := by unfold amN amS; rw [List.map_map]; rfl
  have h2 : (zs.map un).Perm (amS a) := by rw [← e1]; exact h.map un
  obtain ⟨am, ha, hs⟩ := am_perm hn h2
  refine ⟨am, ha, ?_⟩
  rw [amN_S, hs, List.map_map]
  refine (List.map_id zs).symm.trans (List.map_congr_left fun v hv => ?_)
  obtain ⟨p, _, rfl⟩ := List.mem_map.mp (h.mem_iff.mp hv)
  rfl
theorem pickW {ws : List Str} {d : Int} (h0 : 0 ≤ d) (h1 : d < (ws.length : Int)) : ∃ w ∈ ws, atI (ws.map V.str) d = some (.str w) := by
  obtain ⟨k, rfl⟩ := Int.eq_ofNat_of_zero_le h0
  have hk : k < ws.length := by omega
  exact ⟨ws[k], List.getElem_mem hk, atI_nat (by rw [List.getElem?_map, List.getElem?_eq_getElem hk]; rfl)⟩
theorem aput_new {b : Am} {w : Str} {z : Int} (h : w ∉ amS b) : aput b w z = b ++ [(w, z)] := if_neg h
theorem good_zz9 : good "zz9" = true := by decide +kernel
end L2

namespace L2
open PySem PySem.Spec PyProof.Rows
/-- x == y by the own __eq__ at g: two instances of the class at C -/
def rOwnEq (C : Addr) (sp : Sp) (E : XK) : R2 := fun x y H Q => ∃ a dx fs b dy gs, x = .ref a ∧ y = .ref b ∧ H a = some (.ins C dx fs) ∧ H b = some (.ins C dy gs) ∧ sp [.ref a, .ref b] H Q E
theorem op_eqOwn {X : Cx} {CX : CXT} {k : Nat} {C g : Addr} {fd : FuncData} {ps : List Str} {sp : Sp} {E : XK} (hs : PySem.W.findIn X.K (.ref C) "__eq__" = some (some (.ref g))) (hf : PySem.W.isFn X.K (.ref g) = true) (nf : PySem.W.notFirst X.K C (.ref C) = true)
    (F : FnOk X.prog X.w X.K X.mg X.base CX k g fd ps sp) (hr : Room k X.A) (hb : Binds X.K fd ps []) (hx : Passes CX X E) : OpR X (compareOp .Eq) (rOwnEq C sp E) := by
  intro pins s σ H x y v u Q I rx ry h
  obtain ⟨a, dx, fs, b, dy, gs, rfl, rfl, ea, eb, q⟩ := h
  obtain rfl : v = Value.ref a := rx
  obtain rfl : u = Value.ref b := ry
  obtain ⟨_, O, _, _, _, _⟩ := ins_get I.hok ea
  obtain ⟨_, O', _, _, _, _⟩ := ins_get I.hok eb
  obtain ⟨_, J, _⟩ := O.look
  obtain ⟨_, J', _⟩ := O'.look
  obtain ⟨_, fr⟩ := I.fr
  show wpAny _ _ (richCompare .Eq (.ref a) (.ref b)) _ _ _
  refine PySem.W.cmp_K (op := .Eq) (tb := .ref C) (by have := hr.un; omega) fr I.ok.mod.kin J J'.type nf hs hf ?_
  refine wpAny_mono (run_fn (us := [.ref a, .ref b]) (vs := [.ref a, .ref b]) (ds := []) (dvs := []) F hr hb .nil hx I (.cons rfl (.cons rfl .nil)) (by rw [List.append_nil]; exact q)) (fun w s' z => ?_) fun _ _ e => e
  obtain ⟨z', H', I', rz, qz⟩ := z
  exact SlX.cmpback rz ⟨z', H', I', rz, qz⟩
/-! ### x != y by object.__ne__, which asks the own __eq__ -/
section
open PySem.W
variable {prog : Program} {w : World} {A : Around} {E : Value → Shared → Prop} {s : Shared} {K : Frag} {x C L g : Addr} {h₀ : Heap} {m : Str → Option Value} {ox : Obj} {od : Option Obj} {b tb : Value}
/-- the special method that is a built-in's -/
theorem asked_B {M : Model} {id : String} {name : Str} {args : List Value} {Q : Option Value → Shared → Prop} (X : K.In s.heap) (I : InstAt s.heap x ox C od) (hs : findIn K (.ref C) name = some (some (.builtin id))) {B : String} (S : Slot B name id)
    (h : wpAny M A (call (.builtin id) (.ref x :: args)) (fun v => Q (some v)) E s) : wpAny M A (callSpecialIfBound? (.ref x) name args) Q E s := by
  have fin : wpAny M A (call (.builtin id) ([.ref x] ++ args) >>= fun v => pure (some v)) Q E s := wpAny_bind (wpAny_mono h (fun v s' q => wpAny_pure q) fun _ _ e => e)
  simp only [callSpecialIfBound?, bindSpecialIfBound?]
  refine wpAny_holding (wpAny_bind (wpAny_bind (wpAny_bind (I.type.here ((looks_findIn X hs).here ?_)))))
  simp only [S.bind]
  refine wpAny_bind (wpAny_askSetting (wpAny_ite ?_))
  split
  · exact wpAny_bind (wpAny_pure (wpAny_pure fin))
  · exact wpAny_tryCatch (wpAny_bind (wpAny_pure (wpAny_pure fin)))
/-- object.__ne__ is called at all -/
theorem may_ne {M : Model} {Q : Unit → Shared → Prop} (X : K.In s.heap) (I : InstAt s.heap x ox C od) (ko : subIn K (.ref C) (.type "object") = some true) (q : Q () s) : wpAny M A (checkBuiltinCall "object.__ne__" ⟨[.ref x, b], []⟩) Q E s := by
  simp only [checkBuiltinCall, PySem.F.cmpKind_ne, PySem.F.cmpSplit_ne]
  refine wpAny_bind ?_
  unfold isInstance
  refine wpAny_bind (I.type.here ((looks_subIn X ko).here ?_))
  simp only [Bool.not_true, Bool.false_eq_true, if_false]
  cases hsig : Manifest.signature? "object.__ne__" with
  | none => exact wpAny_pure q
  | some sig =>
    have ha := PySem.F.cmpArgs_ne (.ref x) b
    simp only [argsOk, hsig] at ha
    have h2 : Bind.checkArgs "object.__ne__" sig ⟨[.ref x, b], []⟩ = pure () := ha
    show wpAny M A (Bind.checkArgs "object.__ne__" sig ⟨[.ref x, b], []⟩) Q E s
    rw [h2]
    exact wpAny_pure q
/-- object.__ne__(x, b), its question put to the own __eq__ at g, which answers with a truth value -/
theorem ne_asks {Q : Value → Shared → Prop} (hu : A.units + 1 < cLine) (X : K.In s.heap) (I : InstAt s.heap x ox C od) (he : findIn K (.ref C) "__eq__" = some (some (.ref g))) (hf : isFn K (.ref g) = true) (ko : subIn K (.ref C) (.type "object") = some true)
    (h : wpAny (model prog w) A.in1 (call (.ref g) [.ref x, b]) (fun v s' => ∃ c, v = .bool c ∧ Q (.bool (!c)) s') E s) : wpAny (model prog w) A (call (.builtin "object.__ne__") [.ref x, b]) Q E s := by
  refine wpAny_call (codeAny_call_builtin PySem.F.cmp_object.ne.plain PySem.F.cmpEntry_ne (may_ne X I ko ?_))
  unfold Builtin.«object.__ne__»
  refine wpAny_bind (wpAny_pure ?_)
  dsimp only
  refine wpAny_bind (wpAny_cRoomFor (by show A.units + 1 < cLine; exact hu) ?_)
  refine wpAny_bind (ifBound_K X I he hf (wpAny_mono h (fun v s' hv => ?_) fun _ _ e => e))
  obtain ⟨c, rfl, q⟩ := hv
  refine wpAny_bind (wpAny_pure ?_)
  exact wpAny_pure q
end
/-- x != y of two instances of the class at C, by object.__ne__ over the own __eq__ at g -/
def rOwnNe (C : Addr) (sp : Sp) (E : XK) : R2 := fun x y H Q => ∃ a dx fs b dy gs, x = .ref a ∧ y = .ref b ∧ H a = some (.ins C dx fs) ∧ H b = some (.ins C dy gs) ∧ sp [.ref a, .ref b] H (fun v H' => ∃ c, v = .bl c ∧ Q (.bl (!c)) H') E
theorem op_neOwn {X : Cx} {CX : CXT} {k : Nat} {C g : Addr} {fd : FuncData} {ps : List Str} {sp : Sp} {E : XK} (hs : PySem.W.findIn X.K (.ref C) "__eq__" = some (some (.ref g))) (hf : PySem.W.isFn X.K (.ref g) = true) (nf : PySem.W.notFirst X.K C (.ref C) = true)
    (hne : PySem.W.findIn X.K (.ref C) "__ne__" = some (some (.builtin "object.__ne__"))) (ko : PySem.W.subIn X.K (.ref C) (.type "object") = some true)
    (F : FnOk X.prog X.w X.K X.mg X.base CX k g fd ps sp) (hr : Room (k + 1) X.A) (hb : Binds X.K fd ps []) (hx : Passes CX X E) : OpR X (compareOp .NotEq) (rOwnNe C sp E) := by
  intro pins s σ H x y v u Q I rx ry h
  obtain ⟨a, dx, fs, b, dy, gs, rfl, rfl, ea, eb, q⟩ := h
  obtain rfl : v = Value.ref a := rx
  obtain rfl : u = Value.ref b := ry
  obtain ⟨_, O, _, _, _, _⟩ := ins_get I.hok ea
  obtain ⟨_, O', _, _, _, _⟩ := ins_get I.hok eb
  obtain ⟨_, J, _⟩ := O.look
  obtain ⟨_, J', _⟩ := O'.look
  have hun := hr.un
  have hv : Vals [V.ref a, V.ref b] [Value.ref a, Value.ref b] := .cons rfl (.cons rfl .nil)
  have hl : ([Value.ref a, Value.ref b] ++ ([] : List Value)).length = ps.length := by
    rw [List.append_nil, ← hv.length]
    exact F.len _ _ _ _ q
  have told : wpAny (model X.prog X.w) X.A (tryCompare (.ref a) "__ne__" (.ref b)) (fun r s' => ∃ c, r = some (.bool c) ∧ EP X pins σ Q (.bool c) s') X.xe s := by
    simp only [tryCompare]
    refine wpAny_bind (asked_B I.kIn J hne PySem.F.cmp_object.ne (wpAny_mono (ne_asks (Q := fun v s' => ∃ c, v = .bool c ∧ EP X pins σ Q (.bool c) s') (by omega) I.kIn J hs hf ko (wpAny_call (codeAny_mono (F.run X.A.in1 X.stack s H ⟨[.ref a, .ref b], []⟩ ([.ref a, .ref b] ++ []) [.ref a, .ref b] _ E hr.in1 I.env0.in1 (hb s [.ref a, .ref b] I.kIn hl) (by rw [List.append_nil]; exact hv) q) fun r s' hq => ?_))) (fun v s' hv' => ?_) fun _ _ e => e))
    · cases r with
      | error er => exact hx pins σ H s er s' I hq
      | ok fl =>
        cases fl with
        | ret z =>
          obtain ⟨z', H', I', rz, c, rfl, qz⟩ := I.after hq
          cases (show z = Value.bool c from rz)
          exact ⟨c, rfl, !c, rfl, .bl (!c), H', I', rfl, qz⟩
        | next => exact False.elim hq
        | brk => exact False.elim hq
        | cont => exact False.elim hq
    · obtain ⟨c, rfl, hp⟩ := hv'
      exact wpAny_pure ⟨c, rfl, hp⟩
  show wpAny _ _ (richCompare .NotEq (.ref a) (.ref b)) _ _ _
  unfold richCompare
  simp only [oneThing_ref]
  refine wpAny_holding (wpAny_bind (wpAny_cRoomFor (by omega) ?_))
  refine wpAny_bind (J.type.here (wpAny_bind (J'.type.here ?_)))
  have fin : ∀ {k : Option Value → Sem Value}, (∀ c s', EP X pins σ Q (.bool c) s' → wpAny (model X.prog X.w) X.A (k (some (.bool c))) (EP X pins σ Q) X.xe s') → wpAny (model X.prog X.w) X.A (tryCompare (.ref a) "__ne__" (.ref b) >>= k) (EP X pins σ Q) X.xe s := fun hk =>
    wpAny_bind (wpAny_mono told (fun r s' hr' => by obtain ⟨c, rfl, hp⟩ := hr'; exact hk c s' hp) fun _ _ e => e)
  split
  · rename_i q'
    exact absurd q' (by simp)
  · refine wpAny_bind (wpAny_pure ?_)
    simp only [Bool.false_eq_true, if_false]
    exact fin fun c s' hp => wpAny_pure hp
/-- what x == y and x != y find -/
structure EqF (K : PySem.W.Frag) (C g : Addr) : Prop where
  hs : PySem.W.findIn K (.ref C) "__eq__" = some (some (.ref g))
  hf : PySem.W.isFn K (.ref g) = true
  nf : PySem.W.notFirst K C (.ref C) = true
  ne : PySem.W.findIn K (.ref C) "__ne__" = some (some (.builtin "object.__ne__"))
  ko : PySem.W.subIn K (.ref C) (.type "object") = some true
end L2

namespace L2
open PySem PySem.Spec PyProof.Rows
/-! ### set(xs), xs a list of whole numbers (SetFor has it of a tuple) -/
section
variable {P : Program} {w : World} {A : Around} {E : Value → Shared → Prop} {s : Shared}
/-- a fresh set's object -/
abbrev emptySet (w : World) : Obj := { cls := .type "set", dict := none, data := .set #[] 0 (.fresh 0 0 (!w.params.followText "set-order")) }
set_option maxHeartbeats 6400000 in
/-- what __init__ makes of a fresh set -/
theorem fill_listI {a l : Addr} {items : Array Value} (ns : List Int) {R : Result → Shared → Prop} (hh : A.handled = none) (ha : s.heap.get? a = some (emptySet w)) (hl : s.heap.IsList l items) (hal : a ≠ l) (hit : IntsAre items.toList ns) (hb : ns.length + 1 < scanBound)
    (h : ∀ (h' : Heap) (tk c : Nat), SetR w h' a (fun j => decide (j ∈ ns)) c → c ≤ ns.length → (∀ b o, b ≠ a → s.heap.get? b = some o → h'.get? b = some o) → R (.ok (.ret .none)) { s with heap := h', toks := tk }) :
    codeAny (model P w) A (.call (.builtin "set.__init__") ⟨[.ref a, .ref l], []⟩) R s := by
  have n0 : items.size = ns.length := by simpa using IntsAre.length hit
  refine codeAny_call_builtin F.called_set.init.plain F.entry_set_init (check_set_init_1 ⟨_, ha, rfl⟩ ?_)
  obtain ⟨⟨oc, od, odt, osl⟩, hol, hcl, nl, hdl⟩ := id hl
  simp only at hcl hdl
  subst hcl hdl
  have k1 := F.sub_list_set
  have k2 := F.sub_list_frozenset
  have k3 : (Value.type "list" == Value.type "dict") = false := by decide
  unfold Builtin.«set.__init__» noKeywords Builtin.Frozenset.updateFrom
  generalize hI : pyIter = I
  wp_walk
  subst hI
  refine wpAny_pyIter_list hl ?_
  refine wpAny_bind (wpAny_runValue ?_)
  have la : a < s.heap.objs.size := Heap.lt_size ha
  have ll : l < s.heap.objs.size := Heap.lt_size hol
  have h2 : A.in1.in1.handled = none := by simp [hh]
  have nI : l ≠ s.heap.objs.size := Nat.ne_of_lt ll
  have na : a ∉ [s.heap.objs.size, l] := by
    simp only [List.mem_cons, List.not_mem_nil, or_false, not_or]
    exact ⟨Nat.ne_of_lt la, hal⟩
  have each : ∀ (i : Nat) (v : Value), items[i]? = some v → ∃ k t, ns[i]? = some k ∧ v = .int k t := fun i v hv => by
    have hi : i < ns.length := by rw [← n0]; exact (Array.getElem?_eq_some_iff.mp hv).1
    obtain ⟨t, e⟩ := PyProof.Rows.IntsAre.int_at hit i v (by rw [Array.getElem?_toList]; exact hv)
    exact ⟨ns[i], t, List.getElem?_eq_getElem hi, by rw [e, List.getD_eq_getElem?_getD, List.getElem?_eq_getElem hi]; rfl⟩
  refine set_update_ints ((Walks.list h2 _ l nI items).toS) a na ns n0 hb each (items.size - 0) 0 _ (by omega) (Nat.zero_le _) ⟨⟨_, Heap.get?_push_size _ rfl, rfl, rfl⟩, hl.push _⟩ ⟨0, Nat.le_refl 0, setR_new_at (Heap.get?_push_of_some _ ha)⟩ ?_
  intro s' c hm hc hS
  obtain ⟨h', g', d', tk', os'⟩ := s'
  obtain rfl : g' = s.gens := hm.gens
  obtain rfl : d' = s.drawn := hm.drawn
  obtain rfl : os' = s.os := hm.os
  rw [n0] at hc
  refine wpAny_pure (wpAny_pure (h h' tk' c hS hc fun b o hba e => ?_))
  have hb0 : b < s.heap.objs.size := Heap.lt_size e
  exact hm.heap b o (by simp only [List.mem_cons, List.not_mem_nil, or_false, not_or]; exact ⟨hba, Nat.ne_of_lt hb0⟩) (Heap.get?_push_of_some _ e)
set_option maxHeartbeats 6400000 in
theorem call_set_listI {l : Addr} {items : Array Value} (ns : List Int) {Q : Value → Shared → Prop} (hh : A.handled = none) (hl : s.heap.IsList l items) (hit : IntsAre items.toList ns) (hb : ns.length + 1 < scanBound)
    (h : ∀ (h' : Heap) (tk c : Nat), SetR w h' s.heap.objs.size (fun j => decide (j ∈ ns)) c → c ≤ ns.length → (∀ b o, s.heap.get? b = some o → h'.get? b = some o) → Q (.ref s.heap.objs.size) { s with heap := h', toks := tk }) :
    wpAny (model P w) A (call (.type "set") [.ref l]) Q E s := by
  have n0 : items.size = ns.length := by simpa using IntsAre.length hit
  have lt0 : l < s.heap.objs.size := by
    obtain ⟨_, e, _⟩ := hl
    exact Heap.lt_size e
  have c1 := F.called_set.made
  have c2 := F.called_set.sub
  have c3 := F.called_set.notType
  have c4 := F.called_set.canCreate
  have c5 := F.typeCall_set_1 (.ref l)
  have c6 := F.called_set.init.lookup
  have c7 := F.called_set.init.bind (.ref s.heap.objs.size)
  obtain ⟨c, tl, c8⟩ := F.called_set.mro
  refine wpAny_call (codeAny_of_tree ?_)
  show wpAny _ _ (callAny (.type "set") _) _ _ _
  refine wpAny_pure ⟨Code.quiet_builtin _ (by decide +kernel), codeAny_builtin F.entry_type_call ?_⟩
  rw [Around.under_plain (weight_type_call_type "set" [.ref l] []) rfl]
  repeat (any_goals (first | assumption | wp_step))
  -- the new set
  refine codeAny_mono (code_set_led1 (.ref l) (E := E) (Q₁ := fun v s1 => v = .ref s.heap.objs.size ∧ s1 = { s with heap := s.heap.push (emptySet w) }) ⟨rfl, rfl⟩) fun r s1 hr => ?_
  rcases r with e | f
  · exact hr
  rcases f with _ | v | _ | _
  case next => exact hr.elim
  case brk => exact hr.elim
  case cont => exact hr.elim
  obtain ⟨rfl, rfl⟩ := hr
  have sz1 : (s.heap.push (emptySet w)).objs.size = s.heap.objs.size + 1 := Heap.size_push ..
  have got : (s.heap.push (emptySet w)).get? s.heap.objs.size = some (emptySet w) := Heap.get?_push_size _ rfl
  have ty : Shared.TypeIs { s with heap := s.heap.push (emptySet w) } (.ref s.heap.objs.size) "set" := ⟨_, got, rfl⟩
  repeat (any_goals (first | assumption | wp_step))
  have hl1 : (s.heap.push (emptySet w)).IsList l items := hl.push _
  refine fill_listI (w := w) ns (by simp [hh]) got hl1 (Nat.ne_of_gt lt0) hit hb fun h' tk c hS hc hk => ?_
  refine wpAny_pure ?_
  repeat (any_goals (first | assumption | wp_step))
  exact h h' tk c hS hc fun b o e => hk b o (Nat.ne_of_lt (Heap.lt_size e)) (Heap.get?_push_of_some _ e)
end
section
variable {X : Cx}
/-- set(xs), xs a list of whole numbers: the set's members are told, their number is some c -/
def rSetOfI (K : PySem.W.Frag) (w : World) : List V → Hp → VK → Prop := fun xs H Q => ∃ (l : Addr) (ns : List Int), xs = [.ref l] ∧ SqL K H l (ns.map V.int) ∧ ns.length ≤ 1000 ∧
  ∀ (p : Addr) (c : Nat), c ≤ ns.length → H p = none → Q (.ref p) (upd H p (SetO w p (fun j => decide (j ∈ ns)) c))
theorem cr_setOfI (hc : X.calm = true) : CallR X (.type "set") (rSetOfI X.K X.w) := by
  intro pins s σ H xs us Q I r h
  obtain ⟨l, ns, rfl, hs, h10, q⟩ := h
  rw [Vals.ref1 r]
  obtain ⟨its, rv, pl, hz⟩ := I.list hs
  refine call_set_listI ns (I.ok.hd hc) pl.isList (by simpa using ints_of_vals rv) (by unfold scanBound; omega) fun h' tk c hS hc hk => ?_
  have hn : H s.heap.objs.size = none := I.hok.fresh (Nat.le_refl _)
  exact ⟨.ref _, _, I.laid (t' := tk) hk (Nat.le_refl _) (setO_new hS), rfl, q _ c hc hn⟩
end
end L2

namespace L2
open PySem PySem.Spec PyProof.Rows
open PpSet
/-! ### {e for x in xs}, e a whole number (SetBool has it of truth values) -/
/-- D is the new set; each turn's e joins it -/
def tScI (w : World) (wi : TI) (g : TG) (te : TE) (vs : List Nat) : TE := fun σ H Q => wi σ H fun J H1 => ∀ D, H1 D = none → ∃ W : Nat → Nat → Hp → Prop, (∃ m, W 0 m (upd H1 D (SetO w D (fun _ => false) 0))) ∧ ∀ i m H, W i m H →
  (J.stop i H ∧ Q (.ref D) H) ∨ (J.go i H ∧ ∃ Nx : Hp → Prop, (∀ H', Nx H' → ∃ m', m' < m ∧ W (i + 1) m' H') ∧ ∀ x H', J.yld i H x H' → g x (wipe σ vs) H' fun σ2 H2 => wipe σ2 vs = wipe σ vs ∧
    te σ2 H2 fun y H4 => ∃ (c : Int) (S : Int → Bool) (n : Nat), y = .int c ∧ H4 D = some (SetO w D S n) ∧ n + 1 < scanBound ∧ Nx (upd H4 D (SetO w D (fun j => S j || decide (j = c)) (if S c = true then n else n + 1))))
section
variable {X : Cx}
theorem joinI {pins : List (Addr × Obj)} {σ : L2.St} {H : Hp} {s : Shared} {E : Value → Shared → Prop} {D : Addr} {S : Int → Bool} {n : Nat} {y : Int} {tk : Tok} {Q : Value → Shared → Prop} (I : Inv X pins σ H s) (hD : H D = some (SetO X.w D S n)) (room : n + 1 < scanBound)
    (h : ∀ s', Inv X pins σ (upd H D (SetO X.w D (fun j => S j || decide (j = y)) (if S y = true then n else n + 1))) s' → Q .none s') : wpAny (model X.prog X.w) X.A (call (.builtin "set.add") [.ref D, .int y tk]) Q E s := by
  refine setR_add (setO_get I hD) room fun h' sb new => h _ ?_
  obtain ⟨o, _, _, _, ho, _⟩ := id new
  exact I.write (e := D) (t' := s.toks + 1) (by rw [hD]; trivial) (.inl rfl) (fun b u hb hu => (sb.2 b hb).trans hu) ⟨o, ho⟩ (setO_new new)
theorem pe_scI {elt tg iter : Expr} {scope : Scope} {own : List (PySem.Str × Nat)} {pos : Pos} {wi : TI} {g : TG} {te : TE} (hc : X.calm = true) (hN : X.N.Nodup) (hi : PI X tg iter wi) (ok : BlkOk X.N X.env.scope scope own)
    (hg : ∀ (s : Shared) (H : Hp) (C : Addr) (cl : List (PySem.Str × Addr)) (fp : List Addr), PG (X.blk s H scope (compEnvC scope cl C X.env) fp) tg g)
    (he : ∀ (s : Shared) (H : Hp) (C : Addr) (cl : List (PySem.Str × Addr)) (fp : List Addr), PE (X.blk s H scope (compEnvC scope cl C X.env) fp) elt te) (hs : ∀ x, foldedSetIterable iter X.env x = pure x := by intro _; rfl) :
    PE X (.SetComp elt [⟨tg, iter, [], 0⟩] scope pos) (tScI X.w wi g te (own.map (·.2))) := by
  refine ⟨fun pins s σ H Q I h => ?_⟩
  rw [eval_SetComp]
  have free : ∀ y ∈ scope.names, y.2 = .free → ∃ c, X.env.cells.lookup y.1 = some c := fun y hy e => (ok.free y hy e).elim (fun k => I.ok.has _ (.inl k)) (fun k => I.ok.has _ (.inr k))
  refine wpAny_comprehension_free rfl hs (closure_ok free) ok.kind (fun y hy e => by rw [ok.uniq y hy, e]) (thn (hi.run pins s σ H _ I h) fun xv s1 hx => thn hx fun itv s2 hw => ?_)
  obtain ⟨it, fp, tn, J, H2, rfl, I2, T, st2, f2, q⟩ := hw
  refine newSet_ok (newEnv_comp ?_)
  generalize eD : s2.heap.objs.size = D
  obtain ⟨W, ⟨m0, w0⟩, turn⟩ := q D (I2.hok.fresh (Nat.le_of_eq eD))
  -- the set that has just been made, then the block's own names
  obtain ⟨s3, e3⟩ : ∃ s3 : Shared, s3 = { s2 with heap := s2.heap.push (emptySet X.w) } := ⟨_, rfl⟩
  obtain ⟨H3, eH⟩ : ∃ H3 : Hp, H3 = upd H2 D (SetO X.w D (fun _ => false) 0) := ⟨_, rfl⟩
  rw [← eH] at w0
  have I3 : Inv X pins σ H3 s3 := by
    rw [e3, eH]
    refine I2.laid (t' := s2.toks) (fun b o e => Heap.get?_push_of_some _ e) (Nat.le_of_eq eD) ?_
    rw [← eD]
    exact setO_new (setR_fresh X.w)
  have kept : ∀ b o, s2.heap.get? b = some o → s3.heap.get? b = some o := fun b o e => by rw [e3]; exact Heap.get?_push_of_some _ e
  have below : ∀ b ∈ fp, b < D ∧ b < s3.heap.objs.size := fun b hb => by
    obtain ⟨o, e, _⟩ := T.obj _ _ st2 b hb
    exact ⟨by rw [← eD]; exact Heap.lt_size e, Heap.lt_size (kept b o e)⟩
  have f3 : ∀ b ∈ fp, FpOk X pins H3 b ∧ b < s3.heap.objs.size := fun b hb => ⟨⟨by rw [eH, upd_ne (Nat.ne_of_lt (below b hb).1)]; exact (f2 b hb).1, (f2 b hb).2⟩, (below b hb).2⟩
  have unseen : ∀ b ∈ fp, H3 b = none := fun b hb => (f3 b hb).1.1
  have I4 := block_start I3 ok hN f3
  have pg := hg s3 H3 s3.heap.objs.size (cellsFrom (s3.heap.objs.size + 1) scope.names (cloFrom X.env.cells scope.names [])) fp
  have pe := he s3 H3 s3.heap.objs.size (cellsFrom (s3.heap.objs.size + 1) scope.names (cloFrom X.env.cells scope.names [])) fp
  have goal : codeAny (model X.prog X.w) X.A (.compStart (.SetComp elt [⟨tg, iter, [], 0⟩] scope pos) 0 (.ref it) (.ref D) (compEnvC scope (cellsFrom (s3.heap.objs.size + 1) scope.names (cloFrom X.env.cells scope.names [])) s3.heap.objs.size X.env))
      (compPost (model X.prog X.w) X.A X.xe none (EP X pins σ Q) (.ref D) s3.heap.objs.size) { s3 with heap := pushCells (s3.heap.push { cls := .type "dict", data := .dict #[] }) scope.names } := ?_
  · rw [e3, ← eD] at goal
    rw [← eD]
    exact goal
  have st3 : tn 0 s3.heap := T.keep _ _ _ st2 fun b _ o e => kept b o e
  generalize eE : compEnvC scope (cellsFrom (s3.heap.objs.size + 1) scope.names (cloFrom X.env.cells scope.names [])) s3.heap.objs.size X.env = ce at I4 pg pe ⊢
  have loc : ce.locals = s3.heap.objs.size := by rw [← eE]; rfl
  obtain ⟨s4, e4⟩ : ∃ s4 : Shared, s4 = { s3 with heap := pushCells (s3.heap.push { cls := .type "dict", data := .dict #[] }) scope.names } := ⟨_, rfl⟩
  rw [← e4] at I4 ⊢
  have st4 : tn 0 s4.heap := T.keep _ _ _ st3 fun b _ o e => by rw [e4]; exact pushCells_keeps _ _ _ _ (Heap.get?_push_of_some _ e)
  -- the walker's own objects stay out of sight within the block
  have out : ∀ {σ' : L2.St} {H' : Hp} {s' : Shared}, Inv (X.blk s3 H3 scope ce fp) [] σ' H' s' → (∀ b ∈ fp, H' b = none) → ∀ b ∈ fp, FpOk (X.blk s3 H3 scope ce fp) [] H' b := fun {σ' H' s'} J' hn b hb =>
    ⟨hn b hb, (J'.ok.exf b hb).1, J'.ok.exfs b hb, .inl hb, fun x c e => (J'.ok.exf b hb).2 x c e, fun p hp => absurd (show p ∈ ([] : List (Addr × Obj)) ++ [] from hp) (by simp)⟩
  have loop : codeAny (model X.prog X.w) X.A (.compLoop (.SetComp elt [⟨tg, iter, [], 0⟩] scope pos) 0 (.ref it) (.ref D) ce) (compPost (model X.prog X.w) X.A X.xe none (EP X pins σ Q) (.ref D) s3.heap.objs.size) s4 := by
    refine compLoopS_any (fun n s' => ∃ i H', Inv (X.blk s3 H3 scope ce fp) [] (wipe σ (own.map (·.2))) H' s' ∧ tn i s'.heap ∧ (∀ b ∈ fp, H' b = none) ∧ W i n H') ?_ m0 ⟨0, H3, I4, st4, unseen, w0⟩
    rintro n s5 ⟨i, H5, I5, st5, n5, w5⟩
    rcases turn i n H5 w5 with ⟨stop, done⟩ | ⟨go, Nx, less, step⟩
    · refine thnF (T.done (X.blk s3 H3 scope ce fp) rfl rfl rfl hc i [] s5 _ H5 (fun _ _ => False) I5 (out I5 n5) st5 stop) fun r s6 hr => ?_
      obtain ⟨rfl, I6⟩ := hr
      have I7 : Inv X pins σ H5 s6 := I3.call' (ch := fp) I6.os I6.base I6.hok I6.bare fun b hb => ⟨(f3 b hb).1.2.2.2.1, (f3 b hb).1.2.1, (f3 b hb).1.2.2.2.2.1, (f3 b hb).1.2.2.2.2.2⟩
      have nL : H5 s3.heap.objs.size = none := by
        have z : H5 ce.locals = none := I6.free
        rwa [loc] at z
      obtain ⟨m, hm, _⟩ := I6.loc
      have hm : s6.heap.Ns ce.locals m := hm
      rw [loc] at hm
      refine ⟨m, hm, fun h'' sb => ?_⟩
      obtain ⟨f0, f1, _, g3, g4, g5⟩ := I3.fpOk (Nat.le_refl _) nL
      exact ⟨.ref D, H5, I7.turned (t' := s6.toks) (fun b o hb e => (sb.2 b hb).trans e) f0 f1 g3 g4 g5, rfl, done⟩
    · refine thnF (T.item (X.blk s3 H3 scope ce fp) rfl rfl rfl hc i [] s5 _ H5 (fun _ _ => False) I5 (out I5 n5) st5 go) fun r s6 hr => ?_
      obtain ⟨u, rfl, h6⟩ := hr
      refine thnF h6 fun _ s7 hy => ?_
      obtain ⟨x, H7, I7, r7, y7, st7, n7⟩ := hy
      refine thnF (pg.run _ s7 _ H7 x u _ (I7.pinned (out I7 n7) (T.obj _ _ st7)) r7 (step x H7 y7)) fun _ s8 hp => ?_
      obtain ⟨σ8, H8, I8, w8, q8⟩ := hp
      -- no test: on to the item
      refine wpAny_pure ?_
      simp only [if_true]
      refine thnF (pe.run _ s8 σ8 H8 _ I8 q8) fun z s9 hz => ?_
      obtain ⟨y, H9, I9, r9, c, S, k, rfl, hD9, room, nx⟩ := hz
      obtain ⟨tk, rfl⟩ := r9
      refine joinI (X := X.blk s3 H3 scope ce fp) I9 hD9 room fun s10 I10 => ?_
      obtain ⟨m', hm', w'⟩ := less _ nx
      have pin : ∀ b ∈ fp, ∀ o, s7.heap.get? b = some o → s10.heap.get? b = some o ∧ _ = none := fun b hb o e =>
        let z := I10.pin (b, o) (List.mem_append_right _ (List.mem_append_right _ (mem_pinsAt hb e)))
        ⟨z.1, z.2.1⟩
      refine ⟨m', hm', i + 1, _, (I10.unpinned (pins := [])).weak (by rw [← w8, wipe_length]) (fun j v e => ?_), T.keep _ _ _ st7 fun b hb o e => (pin b hb o e).1, fun b hb => ?_, w'⟩
      · rw [← w8] at e
        exact (wipe_some e).1
      · obtain ⟨o, e, _⟩ := T.obj _ _ st7 b hb
        exact (pin b hb o e).2
  exact codeAny_compStart_set loop (T.self X.A 0 _ _ _ st4 loop)
end
end L2

namespace L2
open PySem PySem.Spec PyProof.Rows
/-- a list comprehension that makes one new object a turn, whatever else it lays -/
theorem lc_made {α : Type} {J : It} {G : Hp → Prop} {as : List α} {g : α → V} (w : Walk J (as.map g).length G (YAt (as.map g))) {te : TE} {vs : List Nat} {σ : St} {H1 : Hp} {D : Addr} {Qd : Hp → Prop} {j : Nat} (o : α → HO)
    (hD : H1 D = none) (hG : ∀ H', Same H1 H' → G H') (hl : as.length ≤ 1000) (hw : ∀ x, wipe ((wipe σ vs).set j (some x)) vs = wipe σ vs)
    (he : ∀ a ∈ as, ∀ (H' : Hp) (Q : VK), Same H1 H' → (∀ t H'', Same H' H'' → H' t = none → H'' t = some (o a) → Q (.ref t) H'') → te ((wipe σ vs).set j (some (g a))) H' Q)
    (hd : ∀ (ps : List Addr) (H' : Hp), Same H1 H' → H' D = some (.lst (ps.map V.ref)) → Paired (fun p a => H' p = some (o a) ∧ H1 p = none) ps as → Qd H') (ho : ∀ a xs, o a ≠ .lst xs) :
    ∃ W : Nat → Nat → Hp → Prop, (∃ m, W 0 m (upd H1 D (.lst []))) ∧ ∀ i m H, W i m H →
      (J.stop i H ∧ Qd H) ∨ (J.go i H ∧ ∃ Nx : Hp → Prop, (∀ H', Nx H' → ∃ m', m' < m ∧ W (i + 1) m' H') ∧ ∀ x H', J.yld i H x H' → gName j x (wipe σ vs) H' fun σ2 H2 => wipe σ2 vs = wipe σ vs ∧ tYes σ2 H2 fun b H3 =>
        if b = true then te σ2 H3 fun y H4 => ∃ acc, H4 D = some (.lst acc) ∧ acc.length < sizeLine ∧ Nx (upd H4 D (.lst (acc ++ [y]))) else Nx H3) := by
  have ln : (as.map g).length = as.length := List.length_map _
  refine lc_it w (fun i H => ∃ ps : List Addr, Same H1 H ∧ H D = some (.lst (ps.map V.ref)) ∧ ps.length = i ∧ Paired (fun p a => H p = some (o a) ∧ H1 p = none) ps (as.take i)) ⟨[], same_of_none hD, upd_same, rfl, .nil⟩ (fun i H _ ⟨ps, s, _⟩ => hG _ s) (fun i x H H' hi h y => ?_) (fun H h => ?_)
  · obtain ⟨ps, s, hDl, hpl, hP⟩ := h
    obtain ⟨rfl, hx⟩ := y
    rw [List.getElem?_map] at hx
    obtain ⟨a, ha, rfl⟩ := Option.map_eq_some_iff.mp hx
    have hm : a ∈ as := List.mem_of_getElem? ha
    refine ⟨hw _, ?_⟩
    unfold tYes
    refine if_pos rfl |>.mpr (he a hm _ _ s fun t H2 s2 ht h2 => ?_)
    have hD2 := s2 _ _ hDl
    have htD : t ≠ D := fun z => by rw [z, hDl] at ht; cases ht
    refine ⟨_, hD2, small1000 (by rw [List.length_map]; omega), ps ++ [t], (s.trans s2).unseen hD, by rw [upd_same, List.map_append]; rfl, by rw [List.length_append, hpl]; rfl, ?_⟩
    rw [take_more ha]
    refine Paired.snoc (hP.mono fun p b h => ?_) ⟨by rw [upd_ne htD]; exact h2, s.free ht⟩
    have hpD : p ≠ D := fun z => by
      have h1 := h.1
      rw [z, hDl] at h1
      exact ho _ _ (Option.some.inj h1).symm
    exact ⟨by rw [upd_ne hpD]; exact s2 _ _ h.1, h.2⟩
  · obtain ⟨ps, s, hDl, _, hP⟩ := h
    rw [ln, List.take_length] at hP
    exact hd ps H s hDl hP
/-- a set comprehension of whole numbers whose parts touch nothing -/
theorem sc_am {wd : World} {α : Type} {J : It} {G : Hp → Prop} {as : List α} {g : α → V} (w : Walk J (as.map g).length G (YAt (as.map g))) {te : TE} {vs : List Nat} {σ : St} {H1 : Hp} {D : Addr} {Qd : Hp → Prop} {j : Nat} (f : α → Int)
    (hD : H1 D = none) (hG : ∀ H', Same H1 H' → G H') (hl : as.length ≤ 1000) (hw : ∀ x, wipe ((wipe σ vs).set j (some x)) vs = wipe σ vs)
    (he : ∀ a ∈ as, ∀ H', Same H1 H' → Is te ((wipe σ vs).set j (some (g a))) H' (.int (f a)))
    (hd : ∀ c, c ≤ as.length → Qd (upd H1 D (SetO wd D (fun k => decide (k ∈ as.map f)) c))) :
    ∃ W : Nat → Nat → Hp → Prop, (∃ m, W 0 m (upd H1 D (SetO wd D (fun _ => false) 0))) ∧ ∀ i m H, W i m H →
      (J.stop i H ∧ Qd H) ∨ (J.go i H ∧ ∃ Nx : Hp → Prop, (∀ H', Nx H' → ∃ m', m' < m ∧ W (i + 1) m' H') ∧ ∀ x H', J.yld i H x H' → gName j x (wipe σ vs) H' fun σ2 H2 => wipe σ2 vs = wipe σ vs ∧
        te σ2 H2 fun y H4 => ∃ (c : Int) (S : Int → Bool) (n : Nat), y = .int c ∧ H4 D = some (SetO wd D S n) ∧ n + 1 < scanBound ∧ Nx (upd H4 D (SetO wd D (fun j => S j || decide (j = c)) (if S c = true then n else n + 1)))) := by
  have sm : ∀ o, Same H1 (upd H1 D o) := fun o => same_of_none hD
  have ln : (as.map g).length = as.length := List.length_map _
  refine ⟨fun i m H => m = (as.map g).length - i ∧ i ≤ (as.map g).length ∧ ∃ c, c ≤ i ∧ H = upd H1 D (SetO wd D (fun k => decide (k ∈ (as.take i).map f)) c), ⟨(as.map g).length, by simp, Nat.zero_le _, 0, Nat.le_refl 0, by simp⟩, ?_⟩
  rintro i m H ⟨rfl, hi, c, hc, rfl⟩
  by_cases hlt : i < (as.map g).length
  · refine .inr ⟨w.goes i _ hlt (hG _ (sm _)), fun H => ∃ c, c ≤ i + 1 ∧ H = upd H1 D (SetO wd D (fun k => decide (k ∈ (as.take (i + 1)).map f)) c), fun H' p' => ⟨(as.map g).length - (i + 1), by omega, rfl, hlt, p'⟩, fun x H' y => ?_⟩
    obtain ⟨rfl, hx⟩ := w.yields i _ x H' hlt (hG _ (sm _)) y
    rw [List.getElem?_map] at hx
    obtain ⟨a, ha, rfl⟩ := Option.map_eq_some_iff.mp hx
    refine ⟨hw _, he a (List.mem_of_getElem? ha) _ (sm _) _ ⟨f a, _, c, rfl, upd_same, by unfold scanBound; omega, (if decide (f a ∈ (as.take i).map f) = true then c else c + 1), ?_, ?_⟩⟩
    · split <;> omega
    · rw [upd_upd]
      have : (fun j => decide (j ∈ (as.take i).map f) || decide (j = f a)) = fun k => decide (k ∈ (as.take (i + 1)).map f) := by
        funext k
        rw [take_more ha, List.map_append]
        simp [List.mem_append]
      rw [this]
  · have e : i = (as.map g).length := by omega
    subst e
    refine .inl ⟨w.stops _ (hG _ (sm _)), ?_⟩
    rw [ln, List.take_length]
    exact hd c (by omega)
theorem lv_of {am : Am} {ns : List Int} (h : ns.Pairwise (· < ·)) (hm : ∀ k : Int, k ∈ ns ↔ decide (k ∈ am.map (·.2)) = true) : IsLv am ns.reverse :=
  ⟨List.pairwise_reverse.mpr h, fun z => by rw [List.mem_reverse, hm z, decide_eq_true_iff]⟩
theorem tups_of {H1 H' : Hp} {f : Int → List Str} {ps : List Addr} {ns : List Int} (h : Paired (fun p z => H' p = some (.tup ((f z).map V.str)) ∧ H1 p = none) ps ns) : TupsAt H' (ps.map V.ref) (ns.map f) := by
  induction h with
  | nil => exact .nil
  | cons a _ ih => exact .cons a.1 ih
theorem new_of {H1 H' : Hp} {β : Type} {o : β → HO} {ps : List Addr} {ns : List β} (h : Paired (fun p z => H' p = some (o z) ∧ H1 p = none) ps ns) : ∀ v ∈ ps.map V.ref, ∃ t, v = .ref t ∧ H1 t = none := by
  induction h with
  | nil => exact fun _ h => nomatch h
  | @cons p z _ _ a _ ih =>
    intro v hv
    rcases List.mem_cons.mp hv with rfl | hv
    · exact ⟨p, rfl, a.2⟩
    · exact ih v hv
theorem ex_srt (a : Am) : ∃ sa : Am, sa.Perm a ∧ srt sa := by
  refine ⟨a.mergeSort (fun p q => !ltCps q.1.cps.toList p.1.cps.toList), List.mergeSort_perm _ _, sortedS_of_pairwise _ ?_⟩
  have h := List.pairwise_mergeSort (le := fun p q : Str × Int => !ltCps q.1.cps.toList p.1.cps.toList) (fun x y z h1 h2 => by
    rw [Bool.not_eq_true'] at h1 h2 ⊢
    exact leS_trans (x := x.1) (y := y.1) (z := z.1) h1 h2) (fun x y => by
    rw [ltCps_eq, ltCps_eq]
    by_cases h : y.1.cps.toList < x.1.cps.toList
    · have : ¬ x.1.cps.toList < y.1.cps.toList := List.lt_asymm h
      simp [this]
    · simp [h]) a
  unfold amS
  rw [List.pairwise_map]
  exact h.imp fun {x y} hxy => by rwa [Bool.not_eq_true'] at hxy
theorem TupsAt.put {H : Hp} {vs : List V} {l : List (List Str)} (h : TupsAt H vs l) {r : Addr} {xs ys : List V} (hr : H r = some (.lst xs)) : TupsAt (upd H r (.lst ys)) vs l := by
  induction h with
  | nil => exact .nil
  | @cons t ws _ _ a _ ih => exact .cons (by rw [upd_ne (fun z => by rw [z, hr] at a; cases a)]; exact a) ih
end L2

namespace L2
open PySem PySem.Spec PyProof.Rows
/-- a def that may raise, asked only where it doesn't -/
theorem passF {X : Cx} : Passes (L2.CX X.prog X.w) X E0 := by
  intro pins σ H s e s' I c
  obtain ⟨_, _, _, _, _, _, _, _, _, _, _, _, z⟩ := c
  exact False.elim z
end L2

namespace OwnIn
open PySem PySem.SeqAt PySem.W
open AutoSeq1 (wpAny_loadPart')
open MeetsSeq MeetsSeq2 MeetsSeq3 SeqRoads2
section
variable {prog : Program} {w : World} {A : Around} {R : Result → Shared → Prop}
/-- a built-in's body has ended, or goes on -/
abbrev FinOf (prog : Program) (w : World) (A : Around) (R : Result → Shared → Prop) : Fin → Shared → Prop := fun fin s' => match fin with
  | .done f => R (.ok f) s'
  | .again c' => c'.quiet = true ∧ codeAny (model prog w) A c' R s'
theorem call_here {T : String} {name : Str} {id : String} {B : Builtin} {u : Value} {us : List Value} {E : Value → Shared → Prop} {Q : Value → Shared → Prop} {s : Shared} (sl : Slot T name id) (hT : s.TypeIs u T) (en : entryFor table id = some B) (ar : argsOk id ⟨u :: us, []⟩)
    (h : wpAny (model prog w) A.in1 (B ⟨u :: us, []⟩) (FinOf prog w A (wants Q E)) (fun e s' => wants Q E (.error e) s') s) : wpAny (model prog w) A (call (.builtin id) (u :: us)) Q E s := by
  refine wpAny_call (codeAny_call_builtin sl.plain en (sl.check _ _ _ _ _ _ _ _ hT ar ?_))
  refine wpAny_mono h (fun fin s' q => ?_) fun _ _ e => e
  cases fin <;> exact q
/-- at each turn the list is read anew: N items, none of them equal to x -/
def ListC (prog : Program) (w : World) (A : Around) (E : Value → Shared → Prop) (l : Addr) (x : Value) (N : Nat) (I : Nat → Shared → Prop) : Prop :=
  ∀ i s, I i s → ∃ (items : Array Value) (n : Nat) (dd : Option Addr) (sl : Array (Option Value)), s.heap.get? l = some { cls := .type "list", dict := dd, data := .seq items n, slots := sl } ∧ items.size = N ∧
    ∀ (h1 : i < items.size), wpAny (model prog w) A.in1 (eqBool items[i] x) (fun r s' => r = false ∧ I (i + 1) s') E s
theorem contains_loopG (l : Addr) (x : Value) (N : Nat) (I : Nat → Shared → Prop) (hl : ListC prog w A (fun e s' => R (.error e) s') l x N I)
    (fin : ∀ s, I N s → R (.ok (.ret (.bool false))) s) (k : Nat) :
    ∀ i : Nat, N - i = k → i ≤ N → ∀ s, I i s →
      wpAny (model prog w) A.in1 (Builtin.«list.__contains__.loop» ⟨[.ref l, x, rawInt i], []⟩) (FinOf prog w A R) (fun e s' => R (.error e) s') s := by
  induction k with
  | zero =>
    intro i hk hi s h
    obtain ⟨items, n, dd, sl, hl1, hs1, _⟩ := hl _ _ h
    have hi' : i = N := by omega
    have hR : R (.ok (.ret (.bool false))) s := fin s (hi' ▸ h)
    obtain ⟨hp, g, d, tk, os⟩ := s
    wp_walk using wpAny_loadPart' hl1
    have hi1 : items[((i : Nat) : Int).toNat]? = none := by simp; omega
    rw [hi1]
    wp_walk
    exact hR
  | succ k ih =>
    intro i hk hi s h
    obtain ⟨items, n, dd, sl, hl1, hs1, turn⟩ := hl _ _ h
    have hlt : i < items.size := by omega
    have ht := turn hlt
    obtain ⟨hp, g, d, tk, os⟩ := s
    wp_walk using wpAny_loadPart' hl1
    have hi1 : items[((i : Nat) : Int).toNat]? = some items[i] := by simp [hlt]
    have hc : ((i : Int) + 1) = ((i + 1 : Nat) : Int) := by omega
    rw [hi1]
    refine wpAny_bind (wpAny_mono ht (fun r s2 h2 => ?_) fun _ _ x => x)
    obtain ⟨hr, h2⟩ := h2
    subst hr
    have hrec := ih (i + 1) (by omega) (by omega) s2 h2
    obtain ⟨hp2, g2, d2, tk2, os2⟩ := s2
    wp_walk
    rw [hc]
    exact ⟨plainId_quiet plain_contains_loop _, codeAny_builtin entry_contains_loop (by
      rw [Around.under_plainId plain_contains_loop _]
      exact hrec)⟩
theorem list_containsG (l : Addr) (x : Value) (N : Nat) (I : Nat → Shared → Prop) (hl : ListC prog w A (fun e s' => R (.error e) s') l x N I)
    (fin : ∀ s, I N s → R (.ok (.ret (.bool false))) s) {s : Shared} (h : I 0 s) :
    wpAny (model prog w) A.in1 (Builtin.«list.__contains__» ⟨[.ref l, x], []⟩) (FinOf prog w A R) (fun e s' => R (.error e) s') s := by
  obtain ⟨items, n, dd, sl, hl1, hs1, _⟩ := hl _ _ h
  have hrec := contains_loopG (A := A) (R := R) l x N I hl fin _ 0 rfl (Nat.zero_le _) s h
  obtain ⟨hp, g, d, tk, os⟩ := s
  wp_walk using wpAny_loadPart' hl1
  exact ⟨plainId_quiet plain_contains_loop _, codeAny_builtin entry_contains_loop (by
    rw [Around.under_plainId plain_contains_loop _]
    exact hrec)⟩
end
section
variable {prog : Program} {w : World} {A : Around} {E : Value → Shared → Prop} {s : Shared}
theorem in_listG {l : Addr} {x : Value} {N : Nat} {Q : Value → Shared → Prop} (I : Nat → Shared → Prop) (hl : ListC prog w A E l x N I)
    (fin : ∀ s, I N s → Q (.bool false) s) (h : I 0 s) : wpAny (model prog w) A (compareOp .In x (.ref l)) Q E s := by
  obtain ⟨items, n, dd, sl, hl1, hs1, _⟩ := hl _ _ h
  show wpAny _ A (do return .bool (← contains (.ref l) x)) Q E s
  refine wpAny_bind (wpAny_contains_slot ⟨_, hl1, rfl⟩ F.slot_list_contains (wpAny_mono (call_here (Q := fun v s' => v = .bool false ∧ Q (.bool false) s') F.slot_list_contains ⟨_, hl1, rfl⟩ F.entry_list_contains (F.args_list_contains_2 _ _) ?_) (fun v s' hv => ?_) fun _ _ e => e))
  · exact list_containsG (R := wants (fun v s' => v = .bool false ∧ Q (.bool false) s') E) l x N I hl (fun s' q => ⟨rfl, fin s' q⟩) h
  · obtain ⟨rfl, hq⟩ := hv
    exact wpAny_truthy_bool (wpAny_pure hq)
end
section
variable {prog : Program} {w : World} {A : Around} {E : Value → Shared → Prop} {s : Shared} {K : Frag} {b C g : Addr} {ob : Obj} {od : Option Obj}
/-- u == b, b an instance with its own __eq__ at g, which is asked behind a refusal -/
theorem rc_own {u : Value} {Q : Value → Shared → Prop} {T id : String} (hu : A.units < cLine) (X : K.In s.heap) (J : InstAt s.heap b ob C od) (hT : s.TypeIs u T) (slot : Slot T "__eq__" id)
    (hc : wpAny (model prog w) A (call (.builtin id) [u, .ref b]) (fun v s' => v = .notImplemented ∧ s' = s) E s) (h1 : oneThing? .Eq u (.ref b) = none) (hsub : subIn K (.ref C) (.type T) = some false)
    (hs : findIn K (.ref C) "__eq__" = some (some (.ref g))) (hf : isFn K (.ref g) = true)
    (h : wpAny (model prog w) A (call (.ref g) [.ref b, u]) (fun v s' => ∃ c, v = .bool c ∧ Q (.bool c) s') E s) : wpAny (model prog w) A (richCompare .Eq u (.ref b)) Q E s := by
  have two : wpAny (model prog w) A (tryCompare (.ref b) "__eq__" u) (fun r s' => ∃ c, r = some (.bool c) ∧ Q (.bool c) s') E s := by
    unfold tryCompare
    refine wpAny_bind (ifBound_K X J hs hf (wpAny_mono h (fun v s' hv => ?_) fun _ _ e => e))
    obtain ⟨c, rfl, q⟩ := hv
    exact wpAny_pure ⟨c, rfl, q⟩
  have one : wpAny (model prog w) A (tryCompare u "__eq__" (.ref b)) (fun r s' => r = none ∧ s' = s) E s :=
    wpAny_tryCompare_declines hT slot (wpAny_mono hc (fun v s' z => ⟨z.1, rfl, z.2⟩) fun _ _ e => e)
  simp only [richCompare, cmpInfo_Eq, h1]
  refine wpAny_holding (wpAny_bind (wpAny_cRoomFor hu ?_))
  refine wpAny_bind (wpAny_typeOf hT (wpAny_bind (J.type.here ?_)))
  split
  · refine wpAny_bind ((looks_subIn X hsub).here ?_)
    simp only [Bool.false_eq_true, if_false, Bool.not_false, if_true]
    refine wpAny_bind (m := tryCompare u _ (.ref b)) (wpAny_mono one (fun r s1 z => ?_) fun _ _ e => e)
    obtain ⟨z1, z2⟩ := z
    subst z1
    subst z2
    refine wpAny_bind (m := tryCompare (.ref b) _ u) (wpAny_mono two (fun r s2 z => ?_) fun _ _ e => e)
    obtain ⟨c, z1, q⟩ := z
    subst z1
    exact wpAny_pure q
  · rename_i q
    exact absurd (by simp) q
theorem eqBool_own {u : Value} {Q : Bool → Shared → Prop} (hne : (u == Value.ref b) = false) (h : wpAny (model prog w) A (richCompare .Eq u (.ref b)) (fun v s' => ∃ c, v = .bool c ∧ Q c s') E s) : wpAny (model prog w) A (eqBool u (.ref b)) Q E s := by
  have fin : wpAny (model prog w) A (richCompare .Eq u (.ref b) >>= fun v => truthOfDropped v) Q E s := wpAny_bind (wpAny_mono h (fun v s' hv => by
    obtain ⟨c, rfl, q⟩ := hv
    exact wpAny_truthy_bool q) fun _ _ e => e)
  unfold eqBool
  refine wpAny_holding ?_
  refine wpAny_ite_split (fun hab => by rw [hne] at hab; cases hab) (fun _ => ?_)
  cases u <;> exact fin
/-! ### built-in kinds refuse -/
theorem dec_none : wpAny (model prog w) A (call (.builtin "NoneType.__eq__") [.none, .ref b]) (fun v s' => v = .notImplemented ∧ s' = s) E s :=
  call_gives F.slot_NoneType_eq rfl F.entry_NoneType_eq (F.args_NoneType_eq_2 _ _) (NoneType___eq___none_ref_0 b) ⟨rfl, rfl⟩
theorem dec_int {i : Int} {t : Tok} (X : K.In s.heap) (hb : s.heap.get? b = some ob) (hd : ∀ i t, ob.data ≠ .prim (.int i t)) : wpAny (model prog w) A (call (.builtin "int.__eq__") [.int i t, .ref b]) (fun v s' => v = .notImplemented ∧ s' = s) E s := by
  refine call_here F.slot_int_eq rfl F.entry_int_eq (F.args_int_eq_2 _ _) ?_
  obtain ⟨hp, g, d, tk, os⟩ := s
  wp_walk using wpAny_loadPart' hb
  split
  · rename_i q
    exact absurd q (hd _ _)
  · wp_walk
    first | rfl | exact ⟨rfl, rfl⟩ | exact ⟨_, rfl, rfl, rfl⟩
theorem dec_str {i : Str} {t : Tok} (X : K.In s.heap) (hb : s.heap.get? b = some ob) (hd : ∀ i t, ob.data ≠ .prim (.str i t)) : wpAny (model prog w) A (call (.builtin "str.__eq__") [.str i t, .ref b]) (fun v s' => v = .notImplemented ∧ s' = s) E s := by
  refine call_here F.slot_str_eq rfl F.entry_str_eq (F.args_str_eq_2 _ _) ?_
  obtain ⟨hp, g, d, tk, os⟩ := s
  wp_walk using wpAny_loadPart' hb
  split
  · rename_i q
    exact absurd q (hd _ _)
  · wp_walk
    first | rfl | exact ⟨rfl, rfl⟩ | exact ⟨_, rfl, rfl, rfl⟩
theorem dec_list {l : Addr} (X : K.In s.heap) (J : InstAt s.heap b ob C od) (hl : s.TypeIs (.ref l) "list") (hsub : subIn K (.ref C) (.type "list") = some false) : wpAny (model prog w) A (call (.builtin "list.__eq__") [.ref l, .ref b]) (fun v s' => v = .notImplemented ∧ s' = s) E s := by
  refine call_here F.slot_list_eq hl F.entry_list_eq (F.args_list_eq_2 _ _) ?_
  have K2 := looks_subIn (M := model prog w) X hsub
  obtain ⟨hp, g, d, tk, os⟩ := s
  have hb := J.at_
  wp_walk using wpAny_loadPart' hb
  rw [J.cls]
  refine K2.here ?_
  wp_walk
  first | rfl | exact ⟨rfl, rfl⟩ | exact ⟨_, rfl, rfl, rfl⟩
theorem dec_tuple {l : Addr} (X : K.In s.heap) (J : InstAt s.heap b ob C od) (hl : s.TypeIs (.ref l) "tuple") (hsub : subIn K (.ref C) (.type "tuple") = some false) : wpAny (model prog w) A (call (.builtin "tuple.__eq__") [.ref l, .ref b]) (fun v s' => v = .notImplemented ∧ s' = s) E s := by
  refine call_here F.slot_tuple_eq hl F.entry_tuple_eq (F.args_tuple_eq_2 _ _) ?_
  have K2 := looks_subIn (M := model prog w) X hsub
  obtain ⟨hp, g, d, tk, os⟩ := s
  have hb := J.at_
  wp_walk using wpAny_loadPart' hb
  rw [J.cls]
  refine K2.here ?_
  wp_walk
  first | rfl | exact ⟨rfl, rfl⟩ | exact ⟨_, rfl, rfl, rfl⟩
theorem dec_dict {l : Addr} (X : K.In s.heap) (J : InstAt s.heap b ob C od) (hl : s.TypeIs (.ref l) "dict") (hsub : subIn K (.ref C) (.type "dict") = some false) : wpAny (model prog w) A (call (.builtin "dict.__eq__") [.ref l, .ref b]) (fun v s' => v = .notImplemented ∧ s' = s) E s := by
  refine call_here F.slot_dict_eq hl F.entry_dict_eq (F.args_dict_eq_2 _ _) ?_
  have K2 := looks_subIn (M := model prog w) X hsub
  obtain ⟨hp, g, d, tk, os⟩ := s
  have hb := J.at_
  wp_walk using wpAny_loadPart' hb
  rw [J.cls]
  refine K2.here ?_
  wp_walk
  first | rfl | exact ⟨rfl, rfl⟩ | exact ⟨_, rfl, rfl, rfl⟩
end
end OwnIn
namespace L2
open PySem PySem.Spec PyProof.Rows
/-- a value that knows no own __eq__ -/
inductive Dull (H : Hp) : V → Prop
  | non : Dull H .non
  | int (i : Int) : Dull H (.int i)
  | str (z : Str) : Dull H (.str z)
  | lst {p : Addr} {xs : List V} (h : H p = some (.lst xs)) : Dull H (.ref p)
  | tup {p : Addr} {xs : List V} (h : H p = some (.tup xs)) : Dull H (.ref p)
  | dic {p : Addr} {es : List (Key × V)} (h : H p = some (.dK es)) : Dull H (.ref p)
/-- a class under none of these kinds -/
structure EqN (K : PySem.W.Frag) (C : Addr) : Prop where
  none : PySem.W.subIn K (.ref C) (.type "NoneType") = some false
  int : PySem.W.subIn K (.ref C) (.type "int") = some false
  str : PySem.W.subIn K (.ref C) (.type "str") = some false
  list : PySem.W.subIn K (.ref C) (.type "list") = some false
  tuple : PySem.W.subIn K (.ref C) (.type "tuple") = some false
  dict : PySem.W.subIn K (.ref C) (.type "dict") = some false
/-- x in [..], x with its own __eq__, which tells nothing there equal -/
def rInOwn (C : Addr) (sp : Sp) (E : XK) : R2 := fun x y H Q => ∃ a dx fs p xs, x = .ref a ∧ H a = some (.ins C dx fs) ∧ y = .ref p ∧ H p = some (.lst xs) ∧ (∀ v ∈ xs, Dull H v ∧ ∀ Q' : VK, Q' (.bl false) H → sp [.ref a, v] H Q' E) ∧ Q (.bl false) H
theorem op_inOwn {X : Cx} {CX : CXT} {k : Nat} {C g : Addr} {fd : FuncData} {ps : List Str} {sp : Sp} {E : XK} (hs : PySem.W.findIn X.K (.ref C) "__eq__" = some (some (.ref g))) (hf : PySem.W.isFn X.K (.ref g) = true) (hn : EqN X.K C)
    (FO : FnOk X.prog X.w X.K X.mg X.base CX k g fd ps sp) (hr : Room (k + 1) X.A) (hb : Binds X.K fd ps []) (hx : Passes CX X E) : OpR X (compareOp .In) (rInOwn C sp E) := by
  intro pins s σ H x y v u Q I rx ry h
  obtain ⟨a, dx, fs, p, xs, rfl, ea, rfl, ep, hv, q⟩ := h
  obtain rfl : v = Value.ref a := rx
  obtain rfl : u = Value.ref p := ry
  refine OwnIn.in_listG (N := xs.length) (fun _ s' => Inv X pins σ H s') (fun i s' I' => ?_) (fun s' I' => ⟨.bl false, H, I', rfl, q⟩) I
  obtain ⟨_, its, n, vr, hlen, hl⟩ := I'.lstM ep
  refine ⟨its.toArray, n, none, #[], hl, by simp [hlen], fun h1 => ?_⟩
  have h2 : i < xs.length := by simpa [hlen] using h1
  obtain ⟨du, hsp⟩ := hv xs[i] (List.getElem_mem h2)
  have rel : RelV xs[i] its.toArray[i] := by
    obtain ⟨u', e', r'⟩ := vr.get (List.getElem?_eq_getElem h2)
    have e2 : its.toArray[i] = u' := by
      have e3 : its.toArray[i]? = some u' := by simpa using e'
      rw [Array.getElem?_eq_getElem h1] at e3
      exact Option.some.inj e3
    rw [e2]
    exact r'
  generalize its.toArray[i] = u at rel ⊢
  generalize xs[i] = z at rel du hsp
  obtain ⟨_, O, _, _, _, _⟩ := ins_get I'.hok ea
  obtain ⟨_, J, _⟩ := O.look
  have hun := hr.in1.un
  have hlen' : ([Value.ref a, u] ++ ([] : List Value)).length = ps.length := by
    rw [List.append_nil, ← (show Vals [V.ref a, z] [Value.ref a, u] from .cons rfl (.cons rel .nil)).length]
    exact FO.len _ _ _ _ (hsp (fun _ _ => True) trivial)
  have ask : wpAny (model X.prog X.w) X.A.in1 (call (.ref g) [.ref a, u]) (fun v s'' => ∃ c, v = .bool c ∧ (c = false ∧ Inv X pins σ H s'')) X.xe s' := by
    refine wpAny_call (codeAny_mono (FO.run X.A.in1 X.stack s' H ⟨[.ref a, u], []⟩ ([.ref a, u] ++ []) [.ref a, z] (fun v H' => v = .bl false ∧ H' = H) E hr.in1 I'.env0.in1 (hb s' [.ref a, u] I'.kIn hlen') (by rw [List.append_nil]; exact .cons rfl (.cons rel .nil)) (hsp _ ⟨rfl, rfl⟩)) fun r s'' hq => ?_)
    cases r with
    | error er => exact hx pins σ H s' er s'' I' hq
    | ok fl =>
      cases fl with
      | ret zz =>
        obtain ⟨z', H', I'', rz, rfl, rfl⟩ := I'.after hq
        cases (show zz = Value.bool false from rz)
        exact ⟨false, rfl, rfl, I''⟩
      | next => exact False.elim hq
      | brk => exact False.elim hq
      | cont => exact False.elim hq
  cases du with
  | non =>
    obtain rfl : u = Value.none := rel
    exact OwnIn.eqBool_own rfl (OwnIn.rc_own (Q := fun v s'' => ∃ c, v = Value.bool c ∧ c = false ∧ Inv X pins σ H s'') (by omega) I'.kIn J rfl F.slot_NoneType_eq OwnIn.dec_none rfl hn.none hs hf (wpAny_mono ask (fun v s'' hv => by obtain ⟨c, rfl, e⟩ := hv; exact ⟨c, rfl, c, rfl, e⟩) fun _ _ e => e))
  | int j =>
    obtain ⟨t, rfl⟩ := rel
    exact OwnIn.eqBool_own rfl (OwnIn.rc_own (Q := fun v s'' => ∃ c, v = Value.bool c ∧ c = false ∧ Inv X pins σ H s'') (by omega) I'.kIn J rfl F.slot_int_eq (OwnIn.dec_int I'.kIn J.at_ (fun _ _ => nofun)) rfl hn.int hs hf (wpAny_mono ask (fun v s'' hv => by obtain ⟨c, rfl, e⟩ := hv; exact ⟨c, rfl, c, rfl, e⟩) fun _ _ e => e))
  | str j =>
    obtain ⟨t, rfl⟩ := rel
    exact OwnIn.eqBool_own rfl (OwnIn.rc_own (Q := fun v s'' => ∃ c, v = Value.bool c ∧ c = false ∧ Inv X pins σ H s'') (by omega) I'.kIn J rfl F.slot_str_eq (OwnIn.dec_str I'.kIn J.at_ (fun _ _ => nofun)) rfl hn.str hs hf (wpAny_mono ask (fun v s'' hv => by obtain ⟨c, rfl, e⟩ := hv; exact ⟨c, rfl, c, rfl, e⟩) fun _ _ e => e))
  | lst h =>
    rename_i l xs'
    obtain rfl : u = Value.ref l := rel
    obtain ⟨_, its2, n2, _, _, hl2⟩ := I'.lstM h
    have ne : l ≠ a := fun e => by subst e; rw [h] at ea; cases ea
    exact OwnIn.eqBool_own (by simpa using ne) (OwnIn.rc_own (Q := fun v s'' => ∃ c, v = Value.bool c ∧ c = false ∧ Inv X pins σ H s'') (by omega) I'.kIn J ⟨_, hl2, rfl⟩ F.slot_list_eq (OwnIn.dec_list I'.kIn J ⟨_, hl2, rfl⟩ hn.list) (oneThing_ref _ _ _) hn.list hs hf (wpAny_mono ask (fun v s'' hv => by obtain ⟨c, rfl, e⟩ := hv; exact ⟨c, rfl, c, rfl, e⟩) fun _ _ e => e))
  | tup h =>
    rename_i l xs'
    obtain rfl : u = Value.ref l := rel
    obtain ⟨its2, _, hT, _⟩ := I'.tuple (SqT.of h)
    obtain ⟨⟨cls2, dd2, data2, sl2⟩, ho2, hc2, n2, hd2⟩ := id hT
    simp only at hc2 hd2
    subst hc2
    have ne : l ≠ a := fun e => by subst e; rw [h] at ea; cases ea
    exact OwnIn.eqBool_own (by simpa using ne) (OwnIn.rc_own (Q := fun v s'' => ∃ c, v = Value.bool c ∧ c = false ∧ Inv X pins σ H s'') (by omega) I'.kIn J ⟨_, ho2, rfl⟩ F.slot_tuple_eq (OwnIn.dec_tuple I'.kIn J ⟨_, ho2, rfl⟩ hn.tuple) (oneThing_ref _ _ _) hn.tuple hs hf (wpAny_mono ask (fun v s'' hv => by obtain ⟨c, rfl, e⟩ := hv; exact ⟨c, rfl, c, rfl, e⟩) fun _ _ e => e))
  | dic h =>
    rename_i l xs'
    obtain rfl : u = Value.ref l := rel
    obtain ⟨_, _, vs, _, o, es, ep, h1, h2, _⟩ := (show ObjOk X.prog X.w H s'.heap l (.dK xs') from I'.hok l _ h)
    have hT : s'.TypeIs (.ref l) "dict" := ⟨o, h1, h2.1⟩
    have ne : l ≠ a := fun e => by subst e; rw [h] at ea; cases ea
    exact OwnIn.eqBool_own (by simpa using ne) (OwnIn.rc_own (Q := fun v s'' => ∃ c, v = Value.bool c ∧ c = false ∧ Inv X pins σ H s'') (by omega) I'.kIn J hT F.slot_dict_eq (OwnIn.dec_dict I'.kIn J hT hn.dict) (oneThing_ref _ _ _) hn.dict hs hf (wpAny_mono ask (fun v s'' hv => by obtain ⟨c, rfl, e⟩ := hv; exact ⟨c, rfl, c, rfl, e⟩) fun _ _ e => e))
end L2

namespace L2
open PySem PySem.Spec PyProof.Rows
/-! ### what agrees tells -/
inductive TD
  | ag (c : Bool)
  | un (ws : List Str)
def TD.d : TD → PyData
  | .ag c => .list [.str "agrees", .bool c]
  | .un ws => .list [.str "unlike", tD ws]
def TDAt (H : Hp) (p : Addr) : TD → Prop
  | .ag c => H p = some (.lst [.str "agrees", .bl c])
  | .un ws => ∃ t, H p = some (.lst [.str "unlike", .ref t]) ∧ H t = some (.tup (ws.map V.str))
def TD.Of (a b : Am) (t : TD) : Prop := (amS a = amS b ∧ ∃ na nb, IsLv a na ∧ IsLv b nb ∧ t = .ag (decide (rks a na = rks b nb))) ∨ (amS a ≠ amS b ∧ t = .un (amS b))
theorem TD.Of.one {a b : Am} {t u : TD} (h : t.Of a b) (k : u.Of a b) : t = u := by
  rcases h with ⟨h, na, nb, l1, l2, rfl⟩ | ⟨h, rfl⟩
  · rcases k with ⟨_, ma, mb, m1, m2, rfl⟩ | ⟨k, _⟩
    · rw [isLv_one l1 m1, isLv_one l2 m2]
    · exact absurd h k
  · rcases k with ⟨k, _⟩ | ⟨_, rfl⟩
    · exact absurd k h
    · rfl
theorem TDAt.up {H H' : Hp} {p : Addr} {t : TD} (h : TDAt H p t) (e : Same H H') : TDAt H' p t := by
  cases t with
  | ag c => exact e _ _ h
  | un ws =>
    obtain ⟨t, h1, h2⟩ := h
    exact ⟨t, e _ _ h1, e _ _ h2⟩
theorem TDAt.dp {K : PySem.W.Frag} {H : Hp} {p : Addr} {t : TD} (h : TDAt H p t) : Dp K H (.ref p) t.d := by
  cases t with
  | ag c => exact .lst (SqL.of h) (.cons (.str _) (.cons (.bl _) .nil))
  | un ws =>
    obtain ⟨t, h1, h2⟩ := h
    exact .lst (SqL.of h1) (.cons (.str _) (.cons (dp_tD h2) .nil))
theorem TD.eqv_self (t : TD) : PyData.eqv t.d t.d = true := by
  cases t with
  | ag c => cases c <;> decide
  | un ws =>
    show PyData.eqv (.list [.str "unlike", tD ws]) (.list [.str "unlike", tD ws]) = true
    rw [PyData.eqv, PyData.eqvAll, PyData.eqvAll, PyData.eqvAll, eqv_tD, PyData.eqv]
    simp
theorem TD.eqv_two (t u : TD) : PyData.eqv (.list [t.d, u.d]) (.list [t.d, u.d]) = true := by
  rw [PyData.eqv, PyData.eqvAll, PyData.eqvAll, PyData.eqvAll, TD.eqv_self, TD.eqv_self]
  rfl
def TD.ok : TD → Prop
  | .ag _ => True
  | .un ws => ∀ w ∈ ws, good w = true
theorem TD.Of.ok {a b : Am} {t : TD} (h : t.Of a b) (k : AmOk b) : t.ok := by
  rcases h with ⟨_, _, _, _, _, rfl⟩ | ⟨_, rfl⟩
  · trivial
  · exact k.gd
theorem TD.lay {t : TD} (h : t.ok) : t.d.canLay0 = true ∧ t.d.depth ≤ 2 := by
  cases t with
  | ag c =>
    refine ⟨?_, ?_⟩
    · show PyData.canLayAll0 [.str "agrees", .bool c] = true
      cases c <;> decide +kernel
    · show PyData.depthAll [.str "agrees", .bool c] + 1 ≤ 2
      cases c <;> decide +kernel
  | un ws =>
    obtain ⟨h1, h2⟩ := lay_tD fun w hw => good_ok (h w hw)
    refine ⟨?_, ?_⟩
    · show (PyData.canLay0 (.str "unlike") && (PyData.canLay0 (tD ws) && PyData.canLayAll0 [])) = true
      rw [h1]
      decide +kernel
    · show max (PyData.depth (.str "unlike")) (max (PyData.depth (tD ws)) (PyData.depthAll [])) + 1 ≤ 2
      rw [h2]
      decide +kernel
theorem TD.shaped {t : TD} (h : t.ok) : SeqAt.shaped t.d = true := by
  obtain ⟨h1, h2⟩ := TD.lay h
  unfold SeqAt.shaped
  rw [Bool.and_eq_true]
  exact ⟨h1, decide_eq_true (by omega)⟩
theorem TD.shaped2 {t u : TD} (h : t.ok) (k : u.ok) : SeqAt.shaped (.list [t.d, u.d]) = true := by
  obtain ⟨h1, h2⟩ := TD.lay h
  obtain ⟨k1, k2⟩ := TD.lay k
  unfold SeqAt.shaped
  rw [Bool.and_eq_true]
  refine ⟨?_, decide_eq_true ?_⟩
  · show (PyData.canLay0 t.d && (PyData.canLay0 u.d && PyData.canLayAll0 [])) = true
    rw [h1, k1]
    rfl
  · show max (PyData.depth t.d) (max (PyData.depth u.d) (PyData.depthAll [])) + 1 ≤ 64
    have : PyData.depthAll [] = 0 := rfl
    omega
theorem dp_two {K : PySem.W.Frag} {H : Hp} {p p1 p2 : Addr} {t u : TD} (h : H p = some (.lst [.ref p1, .ref p2])) (h1 : TDAt H p1 t) (h2 : TDAt H p2 u) : Dp K H (.ref p) (.list [t.d, u.d]) := .lst (SqL.of h) (.cons h1.dp (.cons h2.dp .nil))
theorem due_of {H : Hp} {Q : VK} {E : XK} {g n : Addr} {a b sa sb : Am} (hg : H g = some (.dK (amK a))) (hn : H n = some (.dK (amK b))) (oka : AmOk a) (okb : AmOk b) (pa : sa.Perm a) (ra : srt sa) (pb : sb.Perm b) (rb : srt sb)
    (q : ∀ (t : TD) (p : Addr) (H' : Hp), t.Of sa sb → Same H H' → H p = none → TDAt H' p t → Q (.ref p) H') : spDue [.ref g, .ref n] H Q E := by
  refine ⟨g, n, a, b, rfl, hg, hn, oka, okb, fun ta tb pta rta ptb rtb => ?_⟩
  obtain rfl := srt_one oka.nd ra rta pa pta
  obtain rfl := srt_one okb.nd rb rtb pb ptb
  refine ⟨fun e p H' na nb l1 l2 s hp hp' => q _ p H' (.inl ⟨e, na, nb, l1, l2, rfl⟩) s hp hp', fun e p t H' s hp ht ht' hp' => q _ p H' (.inr ⟨e, rfl⟩) s hp ⟨t, hp', by rw [← amN_S]; exact ht'⟩⟩
theorem ix_listF {X : Cx} {K : PySem.W.Frag} (hk : X.K = K) : IxR X (rIxL K) := by subst hk; exact ix_list
/-- what isinstance says of plain values and the class at C -/
structure KitN (K : PySem.W.Frag) (C : Addr) : Prop where
  none : PySem.W.kitOne K (.type "NoneType") (.ref C) = some false
  int : PySem.W.kitOne K (.type "int") (.ref C) = some false
  str : PySem.W.kitOne K (.type "str") (.ref C) = some false
  list : PySem.W.kitOne K (.type "list") (.ref C) = some false
  tuple : PySem.W.kitOne K (.type "tuple") (.ref C) = some false
  dict : PySem.W.kitOne K (.type "dict") (.ref C) = some false
theorem Dull.kit {K : PySem.W.Frag} {H : Hp} {C : Addr} {v : V} (h : Dull H v) (k : KitN K C) : ∃ t, TyX K H v t ∧ PySem.W.kitOne K t (.ref C) = some false := by
  cases h with
  | non => exact ⟨_, .base .non, k.none⟩
  | int i => exact ⟨_, .base (.int i), k.int⟩
  | str z => exact ⟨_, .base (.str z), k.str⟩
  | lst h => exact ⟨_, .base (.lst h), k.list⟩
  | tup h => exact ⟨_, .base (.tup h), k.tuple⟩
  | dic h => exact ⟨_, .base (.dK h), k.dict⟩
/-- o.m(q = b): one place, one name -/
def g2 : List Value → List Value → List Value
  | [a], [b] => [a, b]
  | _, _ => []
def gV2 : List V → List V → List V
  | [a], [b] => [a, b]
  | _, _ => []
theorem kb_two {K : PySem.W.Frag} {x qual p q : Str} {st : Stmt} {f : Addr} {fd : FuncData} (F : Fun K x qual st f fd)
    (h : ∀ (kV doc pm : Value) (an : Option Addr) (cdv ct a b : Value), bindArgs (PySem.W.fnOf x qual (defArgs st) (defBody st) (defScope st) .none kV doc pm an cdv ct) ⟨[a], [(q, b)]⟩ = pure [(p, a), (q, b)]) :
    KBinds K fd [p, q] [q] g2 gV2 := by
  obtain ⟨oc, od, kV, doc, pm, an, cdv, ct, osl, rfl, lk, hcd⟩ := F.ex
  refine ⟨fun s us ws _ hl => ?_, fun r rz => ?_⟩
  · match us, ws, hl with
    | [a], [b], _ => exact .of_eq (h kV doc pm an cdv ct a b)
    | [], _, hl => exact absurd hl (by simp [g2])
    | _ :: _ :: _, _, hl => exact absurd hl (by simp [g2])
    | [_], [], hl => exact absurd hl (by simp [g2])
    | [_], _ :: _ :: _, hl => exact absurd hl (by simp [g2])
  · cases r with
    | nil => exact .nil
    | cons r1 r => cases r with
      | cons _ _ => exact .nil
      | nil => cases rz with
        | nil => exact .nil
        | cons z1 rz => cases rz with
          | cons _ _ => exact .nil
          | nil => exact .cons r1 (.cons z1 .nil)
/-- what a class of the program's own is to plain values -/
theorem cls_pair {K : PySem.W.Frag} {C : Addr} (i : PySem.W.isClsIn K C = true) (t : PySem.W.typeIn K (.ref C) = some (.type "type")) : ((PySem.W.clsIn K C).isSome && PySem.W.typeIn K (.ref C) == some (.type "type")) = true := by
  have h2 : (PySem.W.clsIn K C).isSome = true := i
  rw [h2, t]
  rfl
theorem kit_no {K : PySem.W.Frag} {C : Addr} {T : String} (i : PySem.W.isClsIn K C = true) (t : PySem.W.typeIn K (.ref C) = some (.type "type")) (h : PySem.W.subIn K (.type T) (.ref C) = some false) : PySem.W.kitOne K (.type T) (.ref C) = some false := by
  have e := cls_pair i t
  unfold PySem.W.kitOne
  rw [if_neg (by simp)]
  unfold PySem.W.kitCls
  dsimp only
  rw [if_pos e]
  exact h
theorem kit_self {K : PySem.W.Frag} {C : Addr} : PySem.W.kitOne K (.ref C) (.ref C) = some true := by
  unfold PySem.W.kitOne
  rw [if_pos (by simp)]
theorem first_self {K : PySem.W.Frag} {C : Addr} : PySem.W.notFirst K C (.ref C) = true := by
  unfold PySem.W.notFirst
  simp
theorem exm_me {K : PySem.W.Frag} {S : Addr} (b : PySem.W.subIn K (.ref S) (.type "BaseException") = some true) (i : PySem.W.isClsIn K S = true) (t : PySem.W.typeIn K (.ref S) = some (.type "type")) (m : PySem.W.subIn K (.ref S) (.ref S) = some true) : PySem.W.exmOne K (.ref S) (.ref S) = some true := by
  have e := cls_pair i t
  unfold PySem.W.exmOne
  rw [if_pos (by rw [b]; rfl)]
  unfold PySem.W.kitCls
  dsimp only
  rw [if_pos e]
  exact m
theorem no_sub {K : PySem.W.Frag} {C : Addr} {T : String} {l : List Value} (h : fastBuiltinMro T = some l) (hl : l.contains (.ref C) = false) : PySem.W.subIn K (.type T) (.ref C) = some false := by
  show (fastBuiltinMro T).map (·.contains (.ref C)) = some false
  rw [h]
  show some (l.contains (.ref C)) = some false
  rw [hl]
theorem no_NoneType {K : PySem.W.Frag} {C : Addr} : PySem.W.subIn K (.type "NoneType") (.ref C) = some false := no_sub (l := [.type "NoneType", .type "object"]) (by decide +kernel) (by first | rfl | simp)
theorem no_int {K : PySem.W.Frag} {C : Addr} : PySem.W.subIn K (.type "int") (.ref C) = some false := no_sub (l := [.type "int", .type "object"]) (by decide +kernel) (by first | rfl | simp)
theorem no_str {K : PySem.W.Frag} {C : Addr} : PySem.W.subIn K (.type "str") (.ref C) = some false := no_sub (l := [.type "str", .type "object"]) (by decide +kernel) (by first | rfl | simp)
theorem no_list {K : PySem.W.Frag} {C : Addr} : PySem.W.subIn K (.type "list") (.ref C) = some false := no_sub (l := [.type "list", .type "object"]) (by decide +kernel) (by first | rfl | simp)
theorem no_tuple {K : PySem.W.Frag} {C : Addr} : PySem.W.subIn K (.type "tuple") (.ref C) = some false := no_sub (l := [.type "tuple", .type "object"]) (by decide +kernel) (by first | rfl | simp)
theorem no_dict {K : PySem.W.Frag} {C : Addr} : PySem.W.subIn K (.type "dict") (.ref C) = some false := no_sub (l := [.type "dict", .type "object"]) (by decide +kernel) (by first | rfl | simp)
/-! ### a list of drawn amounts -/
theorem lc_given {K : PySem.W.Frag} {te : TE} {vs : List Nat} {σ : St} {j N : Nat} {G H : Hp} {s p : Addr} {ws : List Str} {Qd : Hp → Prop} {D : Addr} (v : View s N G H) (hp : G p = some (.lst (ws.map V.str))) (hl : ws.length ≤ 100) (hw : ∀ x, wipe ((wipe σ vs).set j (some x)) vs = wipe σ vs)
    (hte : ∀ (x : Str) (M : Nat) (G' H' : Hp) (Q' : VK), x ∈ ws → M ≤ N + 200 → View s M G' H' → (∀ (z : Int) (t : Addr) (H2 : Hp), z.natAbs < 2 ^ 100 → G' t = none → View s (M + 2) (upd G' t (.tup [.str x, .int z])) H2 → Q' (.ref t) H2) → te ((wipe σ vs).set j (some (.str x))) H' Q')
    (hD : H D = none)
    (hq : ∀ (G' H' : Hp) (am : Am) (ps : List Addr), amS am = ws → (∀ q ∈ am, q.2.natAbs < 2 ^ 100) → Same G G' → View s (N + 200) G' H' → G' D = some (.lst (ps.map V.ref)) → Paired (fun p (q : Key × V) => G' p = some (.tup [kV q.1, q.2])) ps (amK am) → Qd H') :
    ∃ W : Nat → Nat → Hp → Prop, (∃ m, W 0 m (upd H D (.lst []))) ∧ ∀ i m H, W i m H →
      ((Itl K p).stop i H ∧ Qd H) ∨ ((Itl K p).go i H ∧ ∃ Nx : Hp → Prop, (∀ H', Nx H' → ∃ m', m' < m ∧ W (i + 1) m' H') ∧ ∀ x H', (Itl K p).yld i H x H' → gName j x (wipe σ vs) H' fun σ2 H2 => wipe σ2 vs = wipe σ vs ∧ tYes σ2 H2 fun b H3 =>
        if b = true then te σ2 H3 fun y H4 => ∃ acc, H4 D = some (.lst acc) ∧ acc.length < sizeLine ∧ Nx (upd H4 D (.lst (acc ++ [y]))) else Nx H3) := by
  have ln : (ws.map V.str).length = ws.length := List.length_map _
  have hGD := v.free hD
  refine lc_it (walk_list (xs := ws.map V.str)) (fun i H => ∃ (G' : Hp) (am : Am) (ps : List Addr), amS am = ws.take i ∧ (∀ q ∈ am, q.2.natAbs < 2 ^ 100) ∧ Same G G' ∧ View s (N + 2 * i) G' H ∧ G' D = some (.lst (ps.map V.ref)) ∧ Paired (fun p (q : Key × V) => G' p = some (.tup [kV q.1, q.2])) ps (amK am)) ⟨_, [], [], rfl, (fun _ h => nomatch h), same_of_none hGD, v.new hD, upd_same, .nil⟩ (fun i H _ ⟨G', am, ps, _, _, sm, v, _⟩ => SqL.of (v.sub _ _ (sm _ _ hp))) (fun i x H H' hi h y => ?_) (fun H h => ?_)
  · obtain ⟨G', am, ps, e1, e2, sm, v, hDl, hP⟩ := h
    obtain ⟨rfl, hx⟩ := y
    rw [List.getElem?_map] at hx
    obtain ⟨a, ha, rfl⟩ := Option.map_eq_some_iff.mp hx
    have hm : a ∈ ws := List.mem_of_getElem? ha
    rw [ln] at hi
    have hlen : ps.length = i := by
      rw [hP.length, amK_len, ← amS_len, e1, List.length_take]
      omega
    refine ⟨hw _, ?_⟩
    unfold tYes
    refine if_pos rfl |>.mpr (hte a _ _ _ _ hm (by omega) v fun z t H2 hz ht v2 => ?_)
    have hDt : D ≠ t := ne_of_none hDl ht
    have hGD2 : upd G' t (.tup [.str a, .int z]) D = some (.lst (ps.map V.ref)) := by rw [upd_ne hDt]; exact hDl
    refine ⟨_, v2.sub _ _ hGD2, small1000 (by rw [List.length_map]; omega), _, am ++ [(a, z)], ps ++ [t], ?_, fun q hq => ?_, (sm.trans (same_of_none (o := .tup [.str a, .int z]) ht)).unseen (o := .lst ((ps ++ [t]).map V.ref)) hGD, ?_, by rw [upd_same], ?_⟩
    · rw [take_more ha, ← e1]; unfold amS; rw [List.map_append]; rfl
    · rcases List.mem_append.mp hq with hq | hq
      · exact e2 q hq
      · rw [List.mem_singleton.mp hq]; exact hz
    · have := v2.put (o := .lst ((ps ++ [t]).map V.ref)) hGD2
      rw [List.map_append] at this ⊢
      exact this
    · have e3 : amK (am ++ [(a, z)]) = amK am ++ [((Sum.inr a : Key), V.int z)] := by unfold amK; rw [List.map_append]; rfl
      rw [e3]
      refine Paired.snoc ?_ (by rw [upd_ne hDt.symm, upd_same]; rfl)
      refine hP.mono fun p q h => ?_
      have hpD : p ≠ D := fun z => by rw [z, hDl] at h; cases h
      rw [upd_ne hpD, upd_ne (ne_of_none h ht)]
      exact h
  · obtain ⟨G', am, ps, e1, e2, sm, v, hDl, hP⟩ := h
    rw [ln, List.take_length] at e1
    exact hq G' H am ps e1 e2 sm (v.mono (by rw [ln]; omega)) hDl hP
end L2

namespace L2
open PySem PySem.Spec PyProof.Rows
section
variable {X : Cx} {e : Expr} {es : List Expr} {ta : TA} {p pos : Pos}
/-- X(v) as a value: the class at C is an error with its own __init__ -/
def tErr (C : Addr) (sp : Sp) (ta : TA) : TE := fun σ H Q => ta σ H fun vs H1 => vs.length ≤ 1000 ∧ ∀ a, H1 a = none → sp (.ref a :: vs) (upd H1 a (exo a C none)) (fun v H2 => v = .non ∧ Q (.ref a) H2) (fun _ _ _ => False)
theorem pe_err {CX : CXT} {x : Str} {C fI : Addr} {k : Nat} {fd : FuncData} {ps : List Str} {sp : Sp} (T : OexC X.K C) (I1 : XIni X.K C fI) (F1 : FnOk X.prog X.w X.K X.mg X.base CX k fI fd ps sp) (hr : Room (k + 1) X.A) (hb : Binds X.K fd ps []) (hx : Passes CX X (fun _ _ _ => False))
    (hg : Gl X x) (hm : X.mg x = some (.ref C)) (ha : PA X (e :: es) ta) (hdb : (x == ("__debug__" : Str)) = false := by decide)
    (he : starEach (e :: es) X.env = (false, eval e X.env) :: starEach es X.env := by rfl) (hpl : (backTo pos (starEach es X.env)).any (·.1) = false := by rfl) : PE X (.Call (.Name x p) (e :: es) [] pos) (tErr C sp ta) := by
  refine ⟨fun pins s σ H Q I h => ?_⟩
  obtain ⟨nm, q, N, bs, bm, sn, sub, ab, col, dd, m0, m1, m2, m3, m5, hC, hbm⟩ := T.cls
  refine wpAny_Call_Name_kw (ld_glob I hg hm ?_ hdb)
  refine PySem.W.callWith_K (h₀ := X.base) I.ok.mod.kin T.kC (thn (ha.run pos pins s σ H _ I h) fun us s1 told => ?_) he hpl
  obtain ⟨vs, H1, J, r1, hz, q1⟩ := told
  refine ⟨J.kIn, ?_⟩
  show wpAny _ _ (call (.ref C) us) _ _ _
  obtain ⟨hp, g, dr, tk, os⟩ := s1
  have up : hp.objs.size ≤ hp.objs.size + 1 := Nat.le_succ _
  have none1 : H1 (hp.objs.size + 1) = none := J.hok.fresh up
  have ask := q1 (hp.objs.size + 1) none1
  have at1 : ((hp.push (PySem.W.kdv_tup us)).push (PySem.HandSPX.excO C hp.objs.size)).get? (hp.objs.size + 1) = some (PySem.HandSPX.excO C hp.objs.size) := by heap_get
  have J2 : Inv X pins σ (upd H1 (hp.objs.size + 1) (exo (hp.objs.size + 1) C none)) ⟨(hp.push (PySem.W.kdv_tup us)).push (PySem.HandSPX.excO C hp.objs.size), g, dr, tk, os⟩ :=
    J.laid (t' := tk) (a := hp.objs.size + 1) (o := exo (hp.objs.size + 1) C none) (h' := (hp.push (PySem.W.kdv_tup us)).push (PySem.HandSPX.excO C hp.objs.size)) (fun b o z => Heap.get?_push_of_some _ (Heap.get?_push_of_some _ z)) up (exo_ok at1)
  have r2 : Vals (V.ref (hp.objs.size + 1) :: vs) (Value.ref (hp.objs.size + 1) :: us) := .cons rfl r1
  have len2 : ((Value.ref (hp.objs.size + 1) :: us) ++ ([] : List Value)).length = ps.length := by
    rw [List.append_nil, ← r2.length]
    exact F1.len _ _ _ _ ask
  have few : us.length ≤ sizeLine := by
    rw [← Paired.length r1, sizeLine_eq]
    omega
  refine wpAny_call (PySem.HandSPX.call_own F.excBase_ValueError (fun Y => PySem.HandSPX.refsVE_contains Y bm hbm) (J.kIn _ _ hC) (PySem.W.looks_findIn J.kIn I1.iC) (fun self => PySem.W.bind_fn J.kIn self I1.tI) few
    (codeAny_mono (F1.run _ X.stack _ _ ⟨Value.ref (hp.objs.size + 1) :: us, []⟩ ((Value.ref (hp.objs.size + 1) :: us) ++ []) _ _ (fun _ _ _ => False) (hr.make C us []) (J2.env0.make C us []) (hb _ (Value.ref (hp.objs.size + 1) :: us) J2.kIn len2) (by rw [List.append_nil]; exact r2) ask) fun r s' got => ?_))
  cases r with
  | error er => exact hx pins σ _ _ er s' J2 got
  | ok fl =>
    cases fl with
    | ret u =>
      obtain ⟨v, H2, J3, rv, ev, q2⟩ := J2.after got
      subst ev
      exact ⟨rv, .ref (hp.objs.size + 1), H2, J3, rfl, q2⟩
    | next => exact False.elim got
    | brk => exact False.elim got
    | cont => exact False.elim got
end
end L2

namespace PySem.HandSPX
open PySem PySem.Spec PySem.Calls PyProof.Rows
section
variable {M : Model} {A : Around} {E : Value → Shared → Prop} {h : Heap} {g : Array GenState} {d : Drawn} {t : Nat} {os : OsState}
variable {nm q : Str} {C N : Addr} {bs bm bmB : List Value} {hdct : Bool} {sn : List Str} {sub : List Value} {ab : Bool} {col : Option Bool} {dd : Option Addr} {k0 k1 k2 k3 k5 : Option Value} {B newId initId : String}
theorem new_checked (F : ExcBaseFacts B newId initId bmB) (hT : ∀ X : String, bm.contains (.type X) = bmB.contains (.type X)) {f : Str} {v : Value} {Q : Unit → Shared → Prop}
    (hC : h.get? C = some (excClassObj nm q C N bs bm hdct sn sub ab col dd k0 k1 k2 k3 k5 newId)) (fin : Q () ⟨h, g, d, t, os⟩) : wpAny M A (checkBuiltinCall newId ⟨[.ref C], [(f, v)]⟩) Q E ⟨h, g, d, t, os⟩ := by
  have cB : (Value.ref C :: bm).contains (.type B) = true := by rw [List.contains_cons, hT, F.hasB, Bool.or_true]
  have star := F.noStar
  simp only [checkBuiltinCall, F.newKind, F.newSplit, F.newRow]
  repeat (first | refine wpAny_loadPart_at hC ?_ | (refine wpAny_isSubtype_exc hC ?_; rw [cB]) | refine wpAny_staticBase_exc hC ?_ | refine wpAny_madeBy_exc hC ?_ | simp only [bne_self_eq_false, Bool.false_eq_true, if_false] | wp_step)
  exact fin
theorem call_checked {f : Str} {v : Value} {Q : Unit → Shared → Prop} (hC : h.get? C = some (excClassObj nm q C N bs bm hdct sn sub ab col dd k0 k1 k2 k3 k5 newId)) (fin : Q () ⟨h, g, d, t, os⟩) : wpAny M A (checkBuiltinCall "type.__call__" ⟨[.ref C], [(f, v)]⟩) Q E ⟨h, g, d, t, os⟩ := by
  have sub1 := tc_sub
  have kind1 : (⟨h, g, d, t, os⟩ : Shared).TypeIs (.ref C) "type" := ⟨_, hC, rfl⟩
  simp only [checkBuiltinCall, tc_kind, tc_split]
  repeat (any_goals (first | assumption | with_reducible refine wpAny_loadPart_at hC ?_ | with_reducible refine wpAny_onRaise ?_ | with_reducible refine wpAny_map ?_ | wp_step))
end
section
variable {prog : Program} {w : World} {A : Around} {E : Value → Shared → Prop} {R : Result → Shared → Prop} {h : Heap} {g : Array GenState} {d : Drawn} {t : Nat} {os : OsState}
variable {nm q : Str} {C N : Addr} {bs bm bmB : List Value} {hdct : Bool} {sn : List Str} {sub : List Value} {ab : Bool} {col : Option Bool} {dd : Option Addr} {k0 k1 k2 k3 k5 : Option Value} {B newId initId : String}
theorem new_named (F : ExcBaseFacts B newId initId bmB) (hT : ∀ X : String, bm.contains (.type X) = bmB.contains (.type X)) {f : Str} {v : Value}
    (hC : h.get? C = some (excClassObj nm q C N bs bm hdct sn sub ab col dd k0 k1 k2 k3 k5 newId)) (fin : R (.ok (.ret (.ref (h.objs.size + 1)))) ⟨(h.push (W.kdv_tup [])).push (excO C h.objs.size), g, d, t, os⟩) :
    codeAny (model prog w) A (.builtin newId ⟨[.ref C], [(f, v)]⟩) R ⟨h, g, d, t, os⟩ := by
  have ends1 := F.ends
  have cB : (Value.ref C :: bm).contains (.type B) = true := by rw [List.contains_cons, hT, F.hasB, Bool.or_true]
  have cA : (Value.ref C :: bm).contains (.type "AttributeError") = false := by rw [List.contains_cons, hT, F.noAttr]; rfl
  have cN : (Value.ref C :: bm).contains (.type "NameError") = false := by rw [List.contains_cons, hT, F.noName]; rfl
  refine codeAny_builtinAt F.entry ?_
  unfold Builtin.«BaseException.__new__»
  refine wpAt_bind ?_
  show wpAt _ _ _ (stack >>= _) _ _ _
  refine wpAt_bind (wpAt_stack fun p below => wpAt_of_wpAny ?_)
  wp_walk
  refine wpAt_of_wpAny ?_
  rw [F.owner]
  repeat (first | with_reducible refine wpAny_madeHere_exc F.canon hC ?_ | with_reducible refine wpAny_loadPart_at hC ?_ | (with_reducible refine wpAny_isSubtype_exc hC ?_; first | rw [cB] | rw [cA] | rw [cN]) | wp_step)
  show R _ _
  rw [Heap.size_push]
  exact fin
theorem type_named (F : ExcBaseFacts B newId initId bmB) (hT : ∀ X : String, bm.contains (.type X) = bmB.contains (.type X)) {f : Str} {v : Value} {fI : Addr} {Q : Fin → Shared → Prop}
    (hC : h.get? C = some (excClassObj nm q C N bs bm hdct sn sub ab col dd k0 k1 k2 k3 k5 newId)) (hi : W.Looks (model prog w) h (typeLookup (.ref C) "__init__") (some (.ref fI))) (hb : ∀ self, W.Looks (model prog w) h (bindSpecial (.ref fI) self) (.ref fI, [self]))
    (fin : codeAny (model prog w) A (.call (.ref fI) ⟨[.ref (h.objs.size + 1)], [(f, v)]⟩)
      (fun r s' => match r with | .ok (.ret v) => v = .none ∧ Q (.done (.ret (.ref (h.objs.size + 1)))) s' | .ok _ => False | .error e => E e s') ⟨(h.push (W.kdv_tup [])).push (excO C h.objs.size), g, d, t, os⟩) :
    wpAny (model prog w) A (Builtin.«type.__call__» ⟨[.ref C], [(f, v)]⟩) Q E ⟨h, g, d, t, os⟩ := by
  repeat (first | with_reducible refine wpAny_loadPart_at hC ?_ | with_reducible refine wpAny_madeBy_exc hC ?_ | wp_step)
  refine codeAny_call_builtin_code (Code.quiet_builtin _ F.quiet) (new_checked F hT hC ?_)
  refine new_named F hT hC ?_
  show wpAny _ _ _ _ _ _
  have up : ∀ b o, h.get? b = some o → ((h.push (W.kdv_tup [])).push (excO C h.objs.size)).get? b = some o := fun b o e => Heap.get?_push_of_some _ (Heap.get?_push_of_some _ e)
  have hC2 := up _ _ hC
  have at2 : ((h.push (W.kdv_tup [])).push (excO C h.objs.size)).get? (h.objs.size + 1) = some (excO C h.objs.size) := by heap_get
  have me : (Value.ref C :: bm).contains (.ref C) = true := by simp
  have look2 := hi.keeps up
  have bind2 := (hb (.ref (h.objs.size + 1))).keeps up
  unfold isInstance
  repeat (first | with_reducible refine wpAny_loadPart_at at2 ?_ | (with_reducible refine wpAny_isSubtype_exc hC2 ?_; rw [me]) | wp_step)
  show wpAny _ _ (typeLookup (.ref C) _) _ _ _
  refine look2.at ?_
  refine wpAny_holding (wpAny_bind (bind2.at ?_))
  refine wpAny_bind (wpAny_call (codeAny_mono fin fun r s' z => ?_))
  rcases r with e | (v | _ | _ | _) <;> first | exact z | exact z.elim | skip
  obtain ⟨rfl, z⟩ := z
  first
    | exact wpAny_pure (wpAny_pure z)
    | (wp_walk; exact z)
theorem call_named (F : ExcBaseFacts B newId initId bmB) (hT : ∀ X : String, bm.contains (.type X) = bmB.contains (.type X)) {f : Str} {v : Value} {fI : Addr}
    (hC : h.get? C = some (excClassObj nm q C N bs bm hdct sn sub ab col dd k0 k1 k2 k3 k5 newId)) (hi : W.Looks (model prog w) h (typeLookup (.ref C) "__init__") (some (.ref fI))) (hb : ∀ self, W.Looks (model prog w) h (bindSpecial (.ref fI) self) (.ref fI, [self]))
    (fin : codeAny (model prog w) (A.under (.builtin "type.__call__" ⟨[.ref C], [(f, v)]⟩)) (.call (.ref fI) ⟨[.ref (h.objs.size + 1)], [(f, v)]⟩) (W.InitBack (h.objs.size + 1) R) ⟨(h.push (W.kdv_tup [])).push (excO C h.objs.size), g, d, t, os⟩) :
    codeAny (model prog w) A (.call (.ref C) ⟨[], [(f, v)]⟩) R ⟨h, g, d, t, os⟩ := by
  have look1 := tc_lookup
  have bind1 := tc_bind (.ref C)
  have kind1 : (⟨h, g, d, t, os⟩ : Shared).TypeIs (.ref C) "type" := ⟨_, hC, rfl⟩
  refine codeAny_of_tree ?_
  show wpAny _ _ (callAny (.ref C) _) _ _ _
  repeat (any_goals (first | assumption | with_reducible refine wpAny_loadPart_at hC ?_ | wp_step))
  refine ⟨rfl, ?_⟩
  refine codeAny_call_builtin_at (Code.quiet_builtin _ (by decide +kernel)) entry_typeCall (call_checked hC (type_named F hT hC hi hb ?_))
  refine codeAny_mono fin fun r s' z => ?_
  rcases r with e | (v | _ | _ | _) <;> exact z
end
end PySem.HandSPX

namespace L2
open PySem PySem.Spec PyProof.Rows
section
variable {X : Cx} {p pos : Pos}
/-- X(f=v) as a value -/
def tErrK (C : Addr) (sp : Sp) (tk : TA) : TE := fun σ H Q => tk σ H fun zs H1 => ∃ z, zs = [z] ∧ ∀ a, H1 a = none → sp [.ref a, z] (upd H1 a (exo a C none)) (fun v H2 => v = .non ∧ Q (.ref a) H2) (fun _ _ _ => False)
theorem pe_errK {CX : CXT} {x f q1 : Str} {C fI : Addr} {k : Nat} {fd : FuncData} {sp : Sp} {kws : List Keyword} {tk : TA} (T : OexC X.K C) (I1 : XIni X.K C fI) (F1 : FnOk X.prog X.w X.K X.mg X.base CX k fI fd [q1, f] sp) (hr : Room (k + 1) X.A) (hb : KBinds X.K fd [q1, f] [f] g2 gV2) (hx : Passes CX X (fun _ _ _ => False))
    (hg : Gl X x) (hm : X.mg x = some (.ref C)) (hkw : PK X kws tk) (hall : (backToKw pos (keywordEach kws X.env)).all (·.1.isSome) = true := by rfl) (hks : (backToKw pos (keywordEach kws X.env)).filterMap (·.1) = [f] := by rfl)
    (hdb : (x == ("__debug__" : Str)) = false := by decide) (hpl : ((backTo pos (starEach [] X.env)).any (·.1) || (backToKw pos (keywordEach kws X.env)).any (·.1.isNone)) = false := by rfl) : PE X (.Call (.Name x p) [] kws pos) (tErrK C sp tk) := by
  refine ⟨fun pins s σ H Q I h => ?_⟩
  obtain ⟨nm, q, N, bs, bm, sn, sub, ab, col, dd, m0, m1, m2, m3, m5, hC, hbm⟩ := T.cls
  refine wpAny_Call_Name_kw (ld_glob I hg hm ?_ hdb)
  refine PySem.W.callWith_KW0 (h₀ := X.base) I.ok.mod.kin T.kC hall ?_ hpl
  refine thn (hkw.run pos pins s σ H _ I h) fun ws s1 ⟨zs, H1, J, rz, z, ez, q2⟩ => ⟨J.kIn, ?_⟩
  subst ez
  have one : ∃ w1, ws = [w1] ∧ RelV z w1 := by
    cases rz with
    | cons r1 rn => cases rn with | nil => exact ⟨_, rfl, r1⟩
  obtain ⟨w1, rfl, r1⟩ := one
  · rw [hks]
    show wpAny _ _ (call (.ref C) [] [(f, w1)]) _ _ _
    obtain ⟨hp, g, dr, tk, os⟩ := s1
    have up : hp.objs.size ≤ hp.objs.size + 1 := Nat.le_succ _
    have none1 : H1 (hp.objs.size + 1) = none := J.hok.fresh up
    have ask := q2 (hp.objs.size + 1) none1
    have at1 : ((hp.push (PySem.W.kdv_tup [])).push (PySem.HandSPX.excO C hp.objs.size)).get? (hp.objs.size + 1) = some (PySem.HandSPX.excO C hp.objs.size) := by heap_get
    have J2 : Inv X pins σ (upd H1 (hp.objs.size + 1) (exo (hp.objs.size + 1) C none)) ⟨(hp.push (PySem.W.kdv_tup [])).push (PySem.HandSPX.excO C hp.objs.size), g, dr, tk, os⟩ :=
      J.laid (t' := tk) (a := hp.objs.size + 1) (o := exo (hp.objs.size + 1) C none) (h' := (hp.push (PySem.W.kdv_tup [])).push (PySem.HandSPX.excO C hp.objs.size)) (fun b o z => Heap.get?_push_of_some _ (Heap.get?_push_of_some _ z)) up (exo_ok at1)
    have r2 : Vals [V.ref (hp.objs.size + 1), z] [Value.ref (hp.objs.size + 1), w1] := .cons rfl (.cons r1 .nil)
    refine wpAny_call (PySem.HandSPX.call_named F.excBase_ValueError (fun Y => PySem.HandSPX.refsVE_contains Y bm hbm) (J.kIn _ _ hC) (PySem.W.looks_findIn J.kIn I1.iC) (fun self => PySem.W.bind_fn J.kIn self I1.tI)
      (codeAny_mono (F1.run _ X.stack _ _ ⟨[Value.ref (hp.objs.size + 1)], [(f, w1)]⟩ [Value.ref (hp.objs.size + 1), w1] _ _ (fun _ _ _ => False) (?hr) (?he) (hb.to _ [Value.ref (hp.objs.size + 1)] [w1] J2.kIn rfl) r2 ask) fun r s' got => ?_))
    case hr => exact hr.make C [] [(f, w1)]
    case he => exact J2.env0.make C [] [(f, w1)]
    cases r with
    | error er => exact hx pins σ _ _ er s' J2 got
    | ok fl =>
      cases fl with
      | ret u =>
        obtain ⟨v, H2, J3, rv, ev, q3⟩ := J2.after got
        subst ev
        exact ⟨rv, .ref (hp.objs.size + 1), H2, J3, rfl, q3⟩
      | next => exact False.elim got
      | brk => exact False.elim got
      | cont => exact False.elim got
end
end L2

set_option maxHeartbeats 400000
namespace L2
open PySem PySem.Spec PyProof.Rows
section
variable {X : Cx} {p pos : Pos}
/-- X(), an error without an own __init__ -/
def tErr0 (C : Addr) : TE := fun _ H Q => ∀ a, H a = none → Q (.ref a) (upd H a (exo a C none))
theorem pe_err0 {C : Addr} {bmB : List Value} {B newId initId : String} {x : Str} (F : ExcBaseFacts B newId initId bmB) (q : PySem.W.excIn X.K C bmB newId = true) (gC : X.mg x = some (.ref C)) (kC : PySem.W.keepIn X.K (.ref C) = true) (hg : Gl X x)
    (hdb : (x == ("__debug__" : Str)) = false := by decide) : PE X (.Call (.Name x p) [] [] pos) (tErr0 C) := by
  refine ⟨fun pins s σ H Q I h => ?_⟩
  refine wpAny_Call_Name_kw (ld_glob I hg gC ?_ hdb)
  have told : wpAny (model X.prog X.w) X.A (call (.ref C) []) (EP X pins σ Q) X.xe s := by
    obtain ⟨bm, N, nm, qn, bs, hdct, sn, sub, ab, col, dd, k0, k1, k2, k3, k5, mN, hC, hN, hni, T⟩ := exc_obj I.kIn q
    refine wpAny_call_exc_subT F T hC hN hni (fun h' a hm => ?_) (Nat.zero_le _)
    have hn : H a = none := I.hok.gone hm.new
    obtain ⟨t, ht, _, _⟩ := hm.there
    have J : Inv X pins σ (upd H a (exo a C none)) { s with heap := h' } := I.laidN hm.keeps hm.new hn (exo_ok ht)
    exact ⟨.ref a, upd H a (exo a C none), J, rfl, h a hn⟩
  exact PySem.W.callWith_K0 I.kIn kC told
end
end L2

set_option maxHeartbeats 400000
namespace L2
open PySem PySem.Spec PyProof.Rows
/-- what an error's class says, for isinstance -/
structure ErrC (K : PySem.W.Frag) (C : Addr) : Prop where
  cl : (PySem.W.clsIn K C).isSome = true
  xf : XfC K C
  ha : PySem.W.findIn K (.ref C) "__class__" = some (some (.builtin "object.__class__"))
  hn : PySem.W.specialIn K (.builtin "object.__class__") "__get__" = some (some (.builtin "getset_descriptor.__get__"))
  ht : PySem.W.takesIn K (.builtin "object.__class__") = some true
  hm : PySem.W.mroIn K C (.type "object") = some true
/-- an error's object with its own dict, if there is one -/
def ErrO (H : Hp) (e C : Addr) (fs : List (Str × V)) : Prop := (H e = some (exo e C none) ∧ fs = []) ∨ ∃ dx, H e = some (exo e C (some dx)) ∧ H dx = some (exd dx fs)
theorem ErrO.up {H H' : Hp} {e C : Addr} {fs : List (Str × V)} (h : ErrO H e C fs) (s : Same H H') : ErrO H' e C fs := by
  rcases h with ⟨h, h2⟩ | ⟨dx, h, h2⟩
  · exact .inl ⟨s _ _ h, h2⟩
  · exact .inr ⟨dx, s _ _ h, s _ _ h2⟩
theorem ErrO.inst {P : Program} {w : World} {H : Hp} {h : Heap} {e C : Addr} {fs : List (Str × V)} (ok : HOk P w H h) (k : ErrO H e C fs) : ∃ ox od, PySem.W.InstAt h e ox C od := by
  rcases k with ⟨he, _⟩ | ⟨dx, he, hd⟩
  · obtain ⟨⟨t1, hx⟩, _⟩ := (show ObjOk P w H h e (exo e C none) from ok e _ he)
    exact ⟨_, none, hx, rfl, rfl, trivial⟩
  · obtain ⟨⟨t1, hx⟩, _⟩ := (show ObjOk P w H h e (exo e C (some dx)) from ok e _ he)
    obtain ⟨⟨mA, hns, hr⟩, _⟩ := (show ObjOk P w H h dx (exd dx fs) from ok dx _ hd)
    obtain ⟨od, ho, hl⟩ := lookIn_ns hns
    exact ⟨_, some od, hx, rfl, rfl, ho⟩
section
variable {X : Cx}
/-- isinstance(e, c), e an error -/
def rIsX (K : PySem.W.Frag) : List V → Hp → VK → Prop := fun xs H Q => ∃ (e C : Addr) (fs : List (Str × V)) (c : V) (u : Value) (b : Bool), xs = [.ref e, c] ∧ ErrO H e C fs ∧ ErrC K C ∧ ClsV c u ∧ PySem.W.kitOne K (.ref C) u = some b ∧ Q (.bl b) H
theorem call_isX : CallR X (.builtin "isinstance") (rIsX X.K) := by
  intro pins s σ H xs us Q I r h
  obtain ⟨e, C, fs, c, u, b, rfl, he, k, hc, hk, q⟩ := h
  obtain ⟨u1, u2, rfl, r1, r2⟩ := vals2 r
  obtain rfl : u1 = Value.ref e := r1
  obtain rfl := hc.eq r2
  obtain ⟨ox, od, J⟩ := he.inst I.hok
  exact PySem.W.kia_one (PySem.W.kitx_exc k.cl k.xf.ga k.xf.gg k.xf.exC k.ha k.hn k.ht k.hm) I.kIn J hk (fun z => nomatch z) fun tk => ⟨.bl b, H, I.tok tk, rfl, q⟩
/-- e.f, e an error -/
def tErrF (K : PySem.W.Frag) (ta : TE) (f : Str) : TE := fun σ H Q => ta σ H fun x H1 => ∃ (e C : Addr) (fs : List (Str × V)) (v : V), x = .ref e ∧ ErrO H1 e C fs ∧ XfC K C ∧ PySem.W.findIn K (.ref C) f = some none ∧ fs.lookup f = some v ∧ Q v H1
theorem pe_errF {ex : Expr} {f : Str} {pos : Pos} {ta : TE} (he : PE X ex ta) (hb : attributeBase ex f X.env (eval ex X.env) = eval ex X.env := by rfl) : PE X (.Attribute ex f pos) (tErrF X.K ta f) := by
  refine ⟨fun pins s σ H Q I h => ?_⟩
  refine attr_of hb (thn (he.run pins s σ H _ I h) fun u s1 ⟨x, H1, I1, rx, e, C, fs, v, e1, ho, T, no, l, q⟩ => ?_)
  subst e1
  obtain rfl : u = Value.ref e := rx
  rcases ho with ⟨_, rfl⟩ | ⟨dx, he, hd⟩
  · cases l
  · obtain ⟨⟨t1, hx⟩, _⟩ := (show ObjOk X.prog X.w H1 s1.heap e (exo e C (some dx)) from I1.hok e _ he)
    obtain ⟨⟨mA, hns, hr⟩, _⟩ := (show ObjOk X.prog X.w H1 s1.heap dx (exd dx fs) from I1.hok dx _ hd)
    obtain ⟨od, hod, hl⟩ := lookIn_ns hns
    obtain ⟨u, hu, ru⟩ := RelO.some_of (v := v) (o := mA f) (by rw [← l]; exact hr f)
    exact HandSPX.exc_get I1.kIn (ox := { cls := .ref C, dict := some dx, data := .fields #[.ref t1, .none, .none, .none, .bool false, .none] }) (od := some od) ⟨hx, rfl, rfl, hod⟩ T.ga T.gg T.exC (PySem.W.findObj_own T.hdC no rfl (by rw [hl, hu])) (handed_of ru) ⟨v, H1, I1.tok _, ru, q⟩
end
end L2

set_option maxHeartbeats 400000
namespace L2
open PySem PySem.Spec PyProof.Rows
/-! ### the fifteen classes -/
structure ErM (P : Program) (w : World) (K : PySem.W.Frag) (mg : Str → Option Value) (base : Heap) (nm f : Str) where
  C : Addr
  g : mg nm = some (.ref C)
  T : OexC K C
  no : PySem.W.findIn K (.ref C) f = some none
  fI : Addr
  fd : FuncData
  I : XIni K C fI
  b : Binds K fd ["self", f] []
  kb : KBinds K fd ["self", f] [f] g2 gV2
  G : FnOk P w K mg base CX0 1 fI fd ["self", f] (spXI C f)
structure Er0 (K : PySem.W.Frag) (mg : Str → Option Value) (nm : Str) where
  C : Addr
  g : mg nm = some (.ref C)
  kC : PySem.W.keepIn K (.ref C) = true
  q : PySem.W.excIn K C [.type "ValueError", .type "Exception", .type "BaseException", .type "object"] "ValueError.__new__" = true
structure ErG (mg : Str → Option Value) (nm : Str) where
  C : Addr
  g : mg nm = some (.ref C)
structure Ers (P : Program) (w : World) (K : PySem.W.Frag) (mg : Str → Option Value) (base : Heap) where
  BadName : ErM P w K mg base "BadName" "name"
  DuplicateName : ErM P w K mg base "DuplicateName" "name"
  UnknownName : ErM P w K mg base "UnknownName" "name"
  BadCount : ErM P w K mg base "BadCount" "count"
  BadText : ErM P w K mg base "BadText" "text"
  BadSet : ErM P w K mg base "BadSet" "value"
  BadCell : ErM P w K mg base "BadCell" "value"
  BadSide : ErM P w K mg base "BadSide" "word"
  BadLine : ErM P w K mg base "BadLine" "number"
  BadWish : ErM P w K mg base "BadWish" "value"
  UnlikeOutcomes : ErM P w K mg base "UnlikeOutcomes" "names"
  NotFirm : ErM P w K mg base "NotFirm" "value"
  IsFirm : Er0 K mg "IsFirm"
  IsSmooth : Er0 K mg "IsSmooth"
  NothingToUndo : Er0 K mg "NothingToUndo"
  ChooserError : ErG mg "ChooserError"
section
variable {P : Program} {w : World} {K : PySem.W.Frag} {mg : Str → Option Value} {base : Heap}
def Ers.cs (R : Ers P w K mg base) : List Addr := [R.BadName.C, R.DuplicateName.C, R.UnknownName.C, R.BadCount.C, R.BadText.C, R.BadSet.C, R.BadCell.C, R.BadSide.C, R.BadLine.C, R.BadWish.C, R.UnlikeOutcomes.C, R.NotFirm.C, R.IsFirm.C, R.IsSmooth.C, R.NothingToUndo.C]
structure ErsOk (R : Ers P w K mg base) : Prop where
  E : ∀ C ∈ R.cs, ErrC K C
  kit : ∀ (i j : Nat) (Ci Cj : Addr), R.cs[i]? = some Ci → R.cs[j]? = some Cj → PySem.W.kitOne K (.ref Ci) (.ref Cj) = some (decide (j = i))
  ch : ∀ C ∈ R.cs, PySem.W.kitOne K (.ref C) (.ref R.ChooserError.C) = some true
  ve : ∀ C ∈ R.cs, PySem.W.kitOne K (.ref C) (.type "ValueError") = some true
/-! ### what is kept in an error -/
def fnames : List Str := ["name", "name", "name", "count", "text", "value", "value", "word", "number", "value", "names", "value"]
def fldAt (ts : List V) (i : Nat) : List (Str × V) := match fnames[i]?, ts[i]? with
  | some f, some v => [(f, v)]
  | _, _ => []
theorem exo_lst {e C : Addr} {d : Option Addr} {xs : List V} : exo e C d ≠ .lst xs := fun z => by
  have z' : HO.ext _ = HO.lst xs := z
  cases z'
theorem exo_dK {e C : Addr} {d : Option Addr} {xs : List (Key × V)} : exo e C d ≠ .dK xs := fun z => by
  have z' : HO.ext _ = HO.dK xs := z
  cases z'
theorem exd_lst {e : Addr} {fs : List (Str × V)} {xs : List V} : exd e fs ≠ .lst xs := fun z => by
  have z' : HO.ext _ = HO.lst xs := z
  cases z'
theorem exd_dK {e : Addr} {fs : List (Str × V)} {xs : List (Key × V)} : exd e fs ≠ .dK xs := fun z => by
  have z' : HO.ext _ = HO.dK xs := z
  cases z'
/-- an object of a plain kind -/
inductive Plain : HO → Prop
  | lst (xs : List V) : Plain (.lst xs)
  | dK (kvs : List (Key × V)) : Plain (.dK kvs)
theorem ErrO.put {H : Hp} {e C p : Addr} {fs : List (Str × V)} {u o : HO} (h : ErrO H e C fs) (hp : H p = some u) (pl : Plain u) : ErrO (upd H p o) e C fs := by
  have n : ∀ {a : Addr} {x : HO}, H a = some x → (∀ xs, x ≠ .lst xs) → (∀ xs, x ≠ .dK xs) → a ≠ p := fun {a x} ha n1 n2 z => by
    subst z
    rw [hp] at ha
    cases ha
    cases pl with
    | lst xs => exact n1 xs rfl
    | dK xs => exact n2 xs rfl
  rcases h with ⟨h, h2⟩ | ⟨dx, h, h2⟩
  · exact .inl ⟨by rw [upd_ne (n h (fun _ => exo_lst) (fun _ => exo_dK))]; exact h, h2⟩
  · exact .inr ⟨dx, by rw [upd_ne (n h (fun _ => exo_lst) (fun _ => exo_dK))]; exact h, by rw [upd_ne (n h2 (fun _ => exd_lst) (fun _ => exd_dK))]; exact h2⟩
/-- the list at m holds the fifteen errors over ts -/
def Made (R : Ers P w K mg base) (H : Hp) (m : Addr) (ts : List V) : Prop := ∃ es : List Addr, es.length = 15 ∧ H m = some (.lst (es.map V.ref)) ∧ ∀ i e C, es[i]? = some e → R.cs[i]? = some C → ErrO H e C (fldAt ts i)
theorem Made.up {R : Ers P w K mg base} {H H' : Hp} {m : Addr} {ts : List V} (h : Made R H m ts) (s : Same H H') : Made R H' m ts := by
  obtain ⟨es, h1, h2, h3⟩ := h
  exact ⟨es, h1, s _ _ h2, fun i e C a b => (h3 i e C a b).up s⟩
theorem Made.put {R : Ers P w K mg base} {H : Hp} {m p : Addr} {ts : List V} {u o : HO} (h : Made R H m ts) (hp : H p = some u) (pl : Plain u) (nm : ∀ es : List Addr, es.length = 15 → u ≠ .lst (es.map V.ref)) : Made R (upd H p o) m ts := by
  obtain ⟨es, h1, h2, h3⟩ := h
  have mp : m ≠ p := fun z => by
    subst z
    rw [hp] at h2
    exact nm es h1 (Option.some.inj h2)
  exact ⟨es, h1, by rw [upd_ne mp]; exact h2, fun i e C a b => (h3 i e C a b).put hp pl⟩
/-! ### what is handed in -/
inductive Thg (H : Hp) : V → Prop
  | non : Thg H .non
  | bl (b : Bool) : Thg H (.bl b)
  | int (i : Int) : Thg H (.int i)
  | str (z : Str) : Thg H (.str z)
  | lst {p : Addr} {xs : List V} (h : H p = some (.lst xs)) : Thg H (.ref p)
  | tup {p : Addr} {xs : List V} (h : H p = some (.tup xs)) : Thg H (.ref p)
  | dic {p : Addr} {es : List (Key × V)} (h : H p = some (.dK es)) : Thg H (.ref p)
theorem Thg.up {H H' : Hp} {v : V} (h : Thg H v) (s : Same H H') : Thg H' v := by
  cases h with
  | non => exact .non
  | bl b => exact .bl b
  | int i => exact .int i
  | str z => exact .str z
  | lst h => exact .lst (s _ _ h)
  | tup h => exact .tup (s _ _ h)
  | dic h => exact .dic (s _ _ h)
theorem Thg.put {H : Hp} {v : V} {p : Addr} {u o : HO} (h : Thg H v) (hp : H p = some u) (a : Plain u) (b : Plain o) : Thg (upd H p o) v := by
  have here : Thg (upd H p o) (.ref p) := by
    cases b with
    | lst xs => exact .lst upd_same
    | dK xs => exact .dic upd_same
  cases h with
  | non => exact .non
  | bl b => exact .bl b
  | int i => exact .int i
  | str z => exact .str z
  | @lst q xs h =>
    by_cases e : q = p
    · rw [e]; exact here
    · exact .lst (by rw [upd_ne e]; exact h)
  | @tup q xs h =>
    by_cases e : q = p
    · rw [e]; exact here
    · exact .tup (by rw [upd_ne e]; exact h)
  | @dic q xs h =>
    by_cases e : q = p
    · rw [e]; exact here
    · exact .dic (by rw [upd_ne e]; exact h)
def isBlV : V → Bool
  | .bl _ => true
  | _ => false
theorem Thg.kit {H : Hp} {v : V} (h : Thg H v) : ∃ t, TyX K H v t ∧ PySem.W.kitOne K t (.type "bool") = some (isBlV v) := by
  cases h with
  | non => exact ⟨_, .base .non, kit_ty (by decide +kernel)⟩
  | bl b => exact ⟨_, .base (.bl b), kit_ty (show kitB "bool" "bool" = some true by decide +kernel)⟩
  | int i => exact ⟨_, .base (.int i), kit_ty (show kitB "int" "bool" = some false by decide +kernel)⟩
  | str z => exact ⟨_, .base (.str z), kit_ty (show kitB "str" "bool" = some false by decide +kernel)⟩
  | lst h => exact ⟨_, .base (.lst h), kit_ty (show kitB "list" "bool" = some false by decide +kernel)⟩
  | tup h => exact ⟨_, .base (.tup h), kit_ty (show kitB "tuple" "bool" = some false by decide +kernel)⟩
  | dic h => exact ⟨_, .base (.dK h), kit_ty (show kitB "dict" "bool" = some false by decide +kernel)⟩
theorem Thg.eqv {H : Hp} {v : V} {n : Nat} (h : Thg H v) : Eqv K H n v v true := by
  cases h with
  | non => exact .flat rfl rfl
  | bl b => 
    have := Eqv.flat (K := K) (H := H) (n := n) (x := .bl b) (y := .bl b) rfl rfl
    rwa [show eqV (.bl b) (.bl b) = true by simp [eqV]] at this
  | int i =>
    have := Eqv.flat (K := K) (H := H) (n := n) (x := .int i) (y := .int i) rfl rfl
    rwa [show eqV (.int i) (.int i) = true by simp [eqV]] at this
  | str i =>
    have := Eqv.flat (K := K) (H := H) (n := n) (x := .str i) (y := .str i) rfl rfl
    rwa [show eqV (.str i) (.str i) = true by simp [eqV]] at this
  | lst h => exact .same
  | tup h => exact .same
  | dic h => exact .same
/-! ### making one -/
theorem err_of {C : Addr} {f : Str} {v : V} {H : Hp} {Q : Addr → Hp → Prop} {E : XK} (q : ∀ (a : Addr) (H2 : Hp), Same H H2 → H a = none → ErrO H2 a C [(f, v)] → Q a H2) :
    ∀ a, H a = none → spXI C f [.ref a, v] (upd H a (exo a C none)) (fun z H2 => z = .non ∧ Q a H2) E := fun a ha => by
  refine ⟨a, v, rfl, upd_same, fun dx hd hne => ⟨rfl, q a _ (fun b o hb => ?_) ha (.inr ⟨dx, upd_same, ?_⟩)⟩⟩
  · rw [upd_ne hne] at hd
    rw [upd_ne (ne_of_none hb ha), upd_ne (ne_of_none hb hd), upd_ne (ne_of_none hb ha)]
    exact hb
  · rw [upd_ne hne]
    exact upd_same
def spKinds (R : Ers P w K mg base) : Sp := fun vs H Q _ => ∃ (e C : Addr) (fs : List (Str × V)) (i : Nat), vs = [.ref e] ∧ ErrO H e C fs ∧ R.cs[i]? = some C ∧
  ∀ (p : Addr) (H' : Hp), Same H H' → H p = none → H' p = some (.lst ((List.range 15).map fun j => V.bl (decide (j = i)))) → Q (.ref p) H'
def spAll (R : Ers P w K mg base) : Sp := fun vs H Q _ => ∃ (t : Addr) (ts : List V), vs = [.ref t] ∧ H t = some (.lst ts) ∧ ts.length = 12 ∧ ∀ (m : Addr) (H' : Hp), Same H H' → H m = none → Made R H' m ts → Q (.ref m) H'
def spKeeps (R : Ers P w K mg base) : Sp := fun vs H Q _ => ∃ (m t : Addr) (ts : List V), vs = [.ref m, .ref t] ∧ Made R H m ts ∧ H t = some (.lst ts) ∧ ts.length = 12 ∧ (∀ v ∈ ts, Thg H v) ∧ ∀ H', Same H H' → Q (.bl true) H'
def spThing : Sp := fun vs H Q _ => ∃ (s : Addr) (N : Nat) (G : Hp), vs = [.ref s] ∧ View s N G H ∧ N ≤ 900000 ∧ ∀ (v : V) (G' H' : Hp), Same G G' → View s (N + 10) G' H' → Thg G' v → Q v H'
theorem call_isiF {X : Cx} {K : PySem.W.Frag} (hk : X.K = K) : CallR X (.builtin "isinstance") (rIsi K) := by subst hk; exact call_isi
theorem eqvAll_bools : ∀ l : List Bool, PyData.eqvAll (l.map .bool) (l.map .bool) = true
  | [] => by rw [List.map_nil, PyData.eqvAll]
  | b :: r => by
    rw [List.map_cons, PyData.eqvAll, eqvAll_bools r]
    cases b <;> rfl
theorem lay_bools : ∀ l : List Bool, PyData.canLayAll0 (l.map .bool) = true ∧ PyData.depthAll (l.map .bool) = 0
  | [] => ⟨rfl, rfl⟩
  | b :: r => by
    obtain ⟨h1, h2⟩ := lay_bools r
    refine ⟨?_, ?_⟩
    · show (PyData.canLay0 (.bool b) && PyData.canLayAll0 (r.map .bool)) = true
      rw [h1]
      rfl
    · show max (PyData.depth (.bool b)) (PyData.depthAll (r.map .bool)) = 0
      rw [h2]
      rfl
theorem shaped_bools (l : List Bool) : SeqAt.shaped (.list (l.map .bool)) = true := by
  obtain ⟨h1, h2⟩ := lay_bools l
  unfold SeqAt.shaped
  rw [Bool.and_eq_true]
  refine ⟨h1, decide_eq_true ?_⟩
  show PyData.depthAll (l.map .bool) + 1 ≤ 64
  omega
theorem dp_bools {H : Hp} {p : Addr} (l : List Bool) (h : H p = some (.lst (l.map V.bl))) : Dp K H (.ref p) (.list (l.map .bool)) := by
  refine .lst (SqL.of h) ?_
  clear h
  induction l with
  | nil => exact .nil
  | cons b r ih => exact .cons (.bl b) ih
theorem eqv_bools (l : List Bool) : PyData.eqv (.list (l.map .bool)) (.list (l.map .bool)) = true := by rw [PyData.eqv, eqvAll_bools]
theorem len12 {ts : List V} (h : ts.length = 12) : ∃ v0 v1 v2 v3 v4 v5 v6 v7 v8 v9 v10 v11, ts = [v0, v1, v2, v3, v4, v5, v6, v7, v8, v9, v10, v11] := by
  match ts, h with
  | [v0, v1, v2, v3, v4, v5, v6, v7, v8, v9, v10, v11], _ => exact ⟨_, _, _, _, _, _, _, _, _, _, _, _, rfl⟩
theorem len15 {es : List Addr} (h : es.length = 15) : ∃ e0 e1 e2 e3 e4 e5 e6 e7 e8 e9 e10 e11 e12 e13 e14, es = [e0, e1, e2, e3, e4, e5, e6, e7, e8, e9, e10, e11, e12, e13, e14] := by
  match es, h with
  | [e0, e1, e2, e3, e4, e5, e6, e7, e8, e9, e10, e11, e12, e13, e14], _ => exact ⟨_, _, _, _, _, _, _, _, _, _, _, _, _, _, _, rfl⟩
end
end L2

set_option maxHeartbeats 400000
namespace L2
open PySem PySem.Spec PyProof.Rows
/-- a list of objects, not empty -/
def Refs (xs : List V) : Prop := xs ≠ [] ∧ ∀ x ∈ xs, ∃ a, x = V.ref a
theorem refs_map {as : List Addr} (h : as ≠ []) : Refs (as.map V.ref) := ⟨fun e => h (List.map_eq_nil_iff.mp e), fun x hx => by
  obtain ⟨a, _, rfl⟩ := List.mem_map.mp hx
  exact ⟨a, rfl⟩⟩
theorem refs_ints {xs : List V} {zs : List Int} (h : Refs xs) : xs ≠ zs.map V.int := fun e => by
  cases xs with
  | nil => exact h.1 rfl
  | cons x r =>
    obtain ⟨a, rfl⟩ := h.2 x List.mem_cons_self
    cases zs with
    | nil => cases e
    | cons z s => cases e
/-- everything but the drawing state is seen -/
theorem View.all {s : Addr} {N : Nat} {G H : Hp} (v : View s N G H) : ∃ G' : Hp, View s N G' H ∧ Same G G' ∧ (∀ a o, H a = some o → (∀ xs, o ≠ .lst xs) → G' a = some o) ∧ ∀ a xs, H a = some (.lst xs) → Refs xs → G' a = some (.lst xs) := by
  obtain ⟨b, c, n, bs, cs, k, l⟩ := v
  refine ⟨fun a => if a = s ∨ a = b ∨ a = c then none else H a, ⟨b, c, n, bs, cs, { k with sub := fun a o h => ?_, gs := if_pos (.inl rfl), gb := if_pos (.inr (.inl rfl)), gc := if_pos (.inr (.inr rfl)) }, l⟩, fun a o h => ?_, fun a o h n => ?_, fun a xs h r => ?_⟩
  · dsimp only at h
    by_cases e : a = s ∨ a = b ∨ a = c
    · rw [if_pos e] at h; cases h
    · rw [if_neg e] at h; exact h
  · have e : ¬ (a = s ∨ a = b ∨ a = c) := fun e => by
      rcases e with e | e | e
      · rw [e, k.gs] at h; cases h
      · rw [e, k.gb] at h; cases h
      · rw [e, k.gc] at h; cases h
    show (if a = s ∨ a = b ∨ a = c then none else H a) = some o
    rw [if_neg e]
    exact k.sub _ _ h
  · have e : ¬ (a = s ∨ a = b ∨ a = c) := fun e => by
      rcases e with e | e | e
      · rw [e, k.hs] at h; cases h; exact n _ rfl
      · rw [e, k.hb] at h; cases h; exact n _ rfl
      · rw [e, k.hc] at h; cases h; exact n _ rfl
    show (if a = s ∨ a = b ∨ a = c then none else H a) = some o
    rw [if_neg e]
    exact h
  · have e : ¬ (a = s ∨ a = b ∨ a = c) := fun e => by
      rcases e with e | e | e
      · rw [e, k.hs] at h
        cases h
        obtain ⟨a, z⟩ := r.2 (.int n) (by simp)
        cases z
      · rw [e, k.hb] at h
        exact refs_ints r (HO.lst.inj (Option.some.inj h)).symm
      · rw [e, k.hc] at h
        exact refs_ints r (HO.lst.inj (Option.some.inj h)).symm
    show (if a = s ∨ a = b ∨ a = c then none else H a) = some (.lst xs)
    rw [if_neg e]
    exact h
section
variable {P : Program} {w : World} {K : PySem.W.Frag} {mg : Str → Option Value} {base : Heap}
theorem Made.seen {R : Ers P w K mg base} {G H : Hp} {m : Addr} {ts : List V} (h : Made R H m ts) (a1 : ∀ a o, H a = some o → (∀ xs, o ≠ .lst xs) → G a = some o) (a2 : ∀ a xs, H a = some (.lst xs) → Refs xs → G a = some (.lst xs)) : Made R G m ts := by
  obtain ⟨es, h1, h2, h3⟩ := h
  refine ⟨es, h1, a2 _ _ h2 (refs_map fun e => by rw [e] at h1; cases h1), fun i e C he hC => ?_⟩
  rcases h3 i e C he hC with ⟨k, k2⟩ | ⟨dx, k, k2⟩
  · exact .inl ⟨a1 _ _ k (fun _ => exo_lst), k2⟩
  · exact .inr ⟨dx, a1 _ _ k (fun _ => exo_lst), a1 _ _ k2 (fun _ => exd_lst)⟩
/-- a dict with 'a', then 'b' -/
def AB (kvs : List (Key × V)) : Prop := ∃ v : V, kvs = [((Sum.inr "a" : Key), v)] ∨ ∃ u, kvs = [((Sum.inr "a" : Key), v), ((Sum.inr "b" : Key), u)]
theorem AB.put {kvs : List (Key × V)} (h : AB kvs) (u : V) : AB (putK kvs (Sum.inr "b") u) := by
  obtain ⟨v, rfl | ⟨z, rfl⟩⟩ := h
  · exact ⟨v, .inr ⟨u, rfl⟩⟩
  · exact ⟨v, .inr ⟨u, rfl⟩⟩
theorem AB.get {kvs : List (Key × V)} (h : AB kvs) : ∃ v, valV kvs (Sum.inr "a" : Key) = some v := by
  obtain ⟨v, rfl | ⟨z, rfl⟩⟩ := h
  · exact ⟨v, rfl⟩
  · exact ⟨v, rfl⟩
theorem AB.len {kvs : List (Key × V)} (h : AB kvs) : kvs.length ≤ 2 := by
  obtain ⟨v, rfl | ⟨z, rfl⟩⟩ := h
  · exact (by decide : 1 ≤ 2)
  · exact Nat.le_refl 2
end
end L2
namespace L2
open PySem PySem.Spec PyProof.Rows
theorem mx_get {cs : List Addr} {f : Addr → Addr → Option Bool} {n : Nat} (h : (cs.map fun a => cs.map fun b => f a b) = (List.range n).map fun i => (List.range n).map fun j => some (decide (j = i))) {i j : Nat} {a b : Addr} (ha : cs[i]? = some a) (hb : cs[j]? = some b) : f a b = some (decide (j = i)) := by
  have len : cs.length = n := by
    have := congrArg List.length h
    simpa using this
  have hi : i < n := by rw [← len]; exact (List.getElem?_eq_some_iff.mp ha).1
  have hj : j < n := by rw [← len]; exact (List.getElem?_eq_some_iff.mp hb).1
  have h1 := congrArg (fun l => l[i]?) h
  simp only [List.getElem?_map, ha, List.getElem?_range hi, Option.map_some, Option.some.injEq] at h1
  have h2 := congrArg (fun l => l[j]?) h1
  simp only [List.getElem?_map, hb, List.getElem?_range hj, Option.map_some, Option.some.injEq] at h2
  exact h2
theorem all_true {cs : List Addr} {f : Addr → Option Bool} (h : cs.map f = cs.map fun _ => some true) {a : Addr} (ha : a ∈ cs) : f a = some true := List.map_inj_left.mp h a ha
theorem kit_of_sub {K : PySem.W.Frag} {A B : Addr} {b : Bool} (i : PySem.W.isClsIn K B = true) (t : PySem.W.typeIn K (.ref B) = some (.type "type")) (h : PySem.W.subIn K (.ref A) (.ref B) = some b) (s : A = B → b = true) : PySem.W.kitOne K (.ref A) (.ref B) = some b := by
  by_cases e : A = B
  · rw [e, s e]
    exact kit_self
  · have p := cls_pair i t
    unfold PySem.W.kitOne
    rw [if_neg (by simpa using e)]
    unfold PySem.W.kitCls
    dsimp only
    rw [if_pos p]
    exact h
end L2

set_option pp.deepTerms false
set_option pp.deepTerms.threshold 8
namespace K02
open PySem PySem.Spec PyProof.Rows L2
def top (i : Nat) : Stmt := PySem.Challenge.pw_twochoosers_k02_errors.main.body.getD i (.Pass ⟨0, 0, 0, 0⟩)
structure TxtB (mg : Str → Option Value) : Prop where
  z_ValueError : mg "ValueError" = none
  z_abs : mg "abs" = none
  z_bool : mg "bool" = none
  z_int : mg "int" = none
  z_isinstance : mg "isinstance" = none
  z_len : mg "len" = none
  z_list : mg "list" = none
  z_range : mg "range" = none
section
variable {P : Program} {w : World} {K : PySem.W.Frag} {mg : Str → Option Value} {base : Heap}
abbrev s_Lstart : Stmt := top 18
abbrev N_Lstart : List Str := ["_law_script", "_law_cell"]
theorem sc_Lstart : FnScope ["_law_script", "_law_cell"] ["_law_script"] (defScope s_Lstart) := ⟨rfl, rfl, rfl, by decide +kernel, rfl, by decide +kernel, by decide +kernel⟩
theorem ok_Lstart {f : Addr} {fd : FuncData} (F : Fun K "_law_start" "_law_start" s_Lstart f fd) (T : TxtB mg) : FnOk P w K mg base CX0 1 f fd ["_law_script"] (spStart K) := by
  refine F.ok sc_Lstart (fun vs H Q E h => ?_) (fun cdv A outer s H vs Q E hr h => ?_)
  · obtain ⟨a, ns, rfl, _⟩ := h
    rfl
  · obtain ⟨a, ns, rfl, hS, hlen, q⟩ := h
    refine ⟨_, (pss_one (ps_ret (pe_lst (pa_cons (pe_lc (own := [("_law_cell", 1)]) (g := gName 1) rfl sc_Lstart.nd (pi_list (pv 0)) (blkOk_by (own := [("_law_cell", 1)]) (N := N_Lstart) (sc := defScope s_Lstart) (by decide +kernel)) (fun _ _ _ _ _ => (pg_name (i := 1) sc_Lstart.nd rfl (.inl rfl))) (fun _ _ _ _ _ => (pts_one (pt_cmpR op_ge (pe_callB call_abs (by rfl) T.z_abs (by decide +kernel) (pa_cons (pv 1) pa_nil)) (pe_op op_pow pe_int pe_int) (nomark _)))) (fun _ _ _ _ _ => (pe_callB call_abs (by rfl) T.z_abs (by decide +kernel) (pa_cons (pv 1) pa_nil)))) (pa_cons (pe_op op_cat (pe_callTy call_list_of (by rfl) T.z_list (by decide +kernel) (pa_cons (pv 0) pa_nil)) (pe_lst (pa_cons pe_int pa_nil))) (pa_cons pe_int pa_nil)))))), ?_⟩
    refine ⟨_, rfl, a, rfl, ⟨_, hS⟩, fun D hD => lc_list (K := K) (a := a) (xs := ns.map V.int) (fun i H' => ∃ bs : List Int, H' = upd H D (.lst (bs.map V.int)) ∧ (∀ x ∈ bs, (0 : Int) ≤ x) ∧ bs.length ≤ i)
      ⟨[], rfl, (fun _ h => nomatch h), Nat.le_refl _⟩ (fun i H' _ ⟨bs, e, _⟩ => by rw [e]; exact (same_of_none hD).seq hS) ?_ ?_⟩
    · rintro i x H' hx ⟨bs, rfl, h0, hb⟩
      have hi : i < ns.length := by
        have := (List.getElem?_eq_some_iff.mp hx).1
        rwa [List.length_map] at this
      obtain ⟨z, rfl⟩ : ∃ z, x = V.int z := by
        rw [List.getElem?_map] at hx
        cases e : ns[i]? with
        | none => rw [e] at hx; cases hx
        | some u => rw [e] at hx; exact ⟨u, (Option.some.inj hx).symm⟩
      refine ⟨rfl, .int z, rfl, z, rfl, _, _, rfl, rfl, cpow1018, _, _, rfl, rfl, _, rfl, ite2 (fun _ => ?_) (fun _ => ⟨bs, rfl, h0, by omega⟩)⟩
      refine ⟨.int z, rfl, z, rfl, _, upd_same, ?_, ?_⟩
      · rw [List.length_map]; exact small1000 (by omega)
      · refine ⟨bs ++ [if z < 0 then -z else z], by rw [upd_upd, List.map_append]; rfl, fun x hx => ?_, by simp; omega⟩
        rcases List.mem_append.mp hx with hx | hx
        · exact h0 x hx
        · have e : x = if z < 0 then -z else z := by simpa using hx
          rw [e]
          split <;> omega
    · rintro H' ⟨bs, rfl, h0, hb⟩
      have s1 : Same H (upd H D (.lst (bs.map V.int))) := same_of_none hD
      refine ⟨.ref a, rfl, a, _, rfl, .inl (s1.seq hS), fun l hl => ?_⟩
      have s2 := same_of_none (o := HO.lst (ns.map V.int)) hl
      refine ⟨by show 1 ≤ sizeLine; decide, fun p hp => ?_⟩
      have s3 := same_of_none (o := HO.lst [V.int 5]) hp
      refine ⟨l, p, _, _, rfl, rfl, s3 _ _ upd_same, upd_same, ?_, fun c hc => ?_⟩
      · rw [List.length_map]
        show ns.length + 1 ≤ sizeLine
        exact Nat.le_of_lt (small1000 (by omega))
      have s4 := same_of_none (o := HO.lst (ns.map V.int ++ [V.int 5])) hc
      refine ⟨by show 3 ≤ sizeLine; decide, fun s hs => q s _ ?_⟩
      have s5 := same_of_none (o := HO.lst [.ref D, .ref c, V.int 0]) hs
      have sa : Same (upd H D (.lst (bs.map V.int))) _ := s2.trans (s3.trans s4)
      have hc0 : H c = none := s1.free ((s2.trans s3).free hc)
      have hs0 : H s = none := s1.free (sa.free hs)
      refine ⟨D, c, 0, bs, ns ++ [5], ⟨s1.trans (sa.trans s5), hs0, hD, hc0, ?_, ?_, ?_, upd_same, s5 _ _ (sa _ _ upd_same), s5 _ _ ?_, h0, by rw [List.length_map] at hb; omega, by simp; omega, Int.le_refl _⟩, Int.le_refl _⟩
      · exact ne_of_none (sa _ _ upd_same) hs
      · exact ne_of_none upd_same hs
      · exact ne_of_none ((s2.trans s3) _ _ upd_same) hc
      · rw [upd_same, List.map_append]
        rfl


abbrev s_Ldraw : Stmt := top 19
abbrev N_Ldraw : List Str := ["_law_state", "_law_size", "_law_digit", "_law_cell", "_law_one"]
theorem sc_Ldraw : FnScope ["_law_state", "_law_size", "_law_digit", "_law_cell", "_law_one"] ["_law_state", "_law_size"] (defScope s_Ldraw) := ⟨rfl, rfl, rfl, by decide +kernel, rfl, by decide +kernel, by decide +kernel⟩
set_option maxHeartbeats 20000000 in
theorem ok_Ldraw {f : Addr} {fd : FuncData} (F : Fun K "_law_draw" "_law_draw" s_Ldraw f fd) (T : TxtB mg) : FnOk P w K mg base CX0 1 f fd ["_law_state", "_law_size"] spDraw := by
  refine F.ok sc_Ldraw (fun vs H Q E h => ?_) (fun cdv A outer s H vs Q E hr h => ?_)
  · obtain ⟨s, N, G, m, rfl, _⟩ := h
    rfl
  · obtain ⟨s, N, G, m, rfl, ⟨b, c, n, bs, cs, k, hnN⟩, hN, hm, hm2, q⟩ := h
    refine ⟨_, (pss_cons (ps_augS (pv 0) pe_int pg_list pe_int ip_add set_list)
      (pss_cons (ps_while PassesOwn.never (PW.pt (pw_and (pt_cmpR (op_neD hr.units) (pe_ix ix_list (pv 0) pe_int (fun _ _ => rfl)) (pe_lst pa_nil) (nomark _)) (pw_and1 (pt_cmpR op_eq (pe_ix ix_list (pe_ix ix_list (pv 0) pe_int (fun _ _ => rfl)) pe_int (fun _ _ => rfl)) pe_int (nomark _))))) (pss_one (ps_asg (pe_slice sl_list (pe_ix ix_list (pv 0) pe_int (fun _ _ => rfl)) (po_some pe_int) po_none) (pg_sub (pv 0) pe_int set_list))))
      (pss_cons (ps_if (pt_cmpR (op_neD hr.units) (pe_ix ix_list (pv 0) pe_int (fun _ _ => rfl)) (pe_lst pa_nil) (nomark _)) (pss_cons (ps_set (i := 2) sc_Ldraw.nd rfl (.inl rfl) (pe_op op_modN (pe_callTy call_int1 (by rfl) T.z_int (by decide +kernel) (pa_cons (pe_ix ix_list (pe_ix ix_list (pv 0) pe_int (fun _ _ => rfl)) pe_int (fun _ _ => rfl)) pa_nil)) (pv 1)))
      (pss_cons (ps_asg (pe_op op_fdivW (pe_ix ix_list (pe_ix ix_list (pv 0) pe_int (fun _ _ => rfl)) pe_int (fun _ _ => rfl)) (pv 1)) (pg_sub (pe_ix ix_list (pv 0) pe_int (fun _ _ => rfl)) pe_int set_list))
      (pss_one (ps_ret (pv 2))))) pss_nil)
      (pss_cons (ps_set (i := 3) sc_Ldraw.nd rfl (.inl rfl) (pe_op op_modN (pe_callTy call_int1 (by rfl) T.z_int (by decide +kernel) (pa_cons (pe_ix ix_list (pe_ix ix_list (pv 0) pe_int (fun _ _ => rfl)) (pe_op op_modN (pe_callTy call_int1 (by rfl) T.z_int (by decide +kernel) (pa_cons (pe_ix ix_list (pv 0) pe_int (fun _ _ => rfl)) pa_nil)) (pe_callB call_len_seq (by rfl) T.z_len PySem.boot_len (pa_cons (pe_ix ix_list (pv 0) pe_int (fun _ _ => rfl)) pa_nil))) (fun _ _ => rfl)) pa_nil)) pe_int))
      (pss_cons (ps_set (i := 4) sc_Ldraw.nd rfl (.inl rfl) (pe_op op_modN (pe_callTy call_int1 (by rfl) T.z_int (by decide +kernel) (pa_cons (pe_op op_pow (pe_op op_add (pe_op op_add (pe_op op_mulW (pv 3) pe_int) (pe_op op_mulW (pe_ix ix_list (pv 0) pe_int (fun _ _ => rfl)) pe_int)) pe_int) pe_int) pa_nil)) pe_int))
      (pss_one (ps_ret (pe_op op_modN (pe_op op_modN (pe_callTy call_int1 (by rfl) T.z_int (by decide +kernel) (pa_cons (pe_op op_pow (pe_op op_add (pe_op op_add (pe_op op_mulW (pv 4) pe_int) (pe_op op_mulW (pe_ix ix_list (pv 0) pe_int (fun _ _ => rfl)) pe_int)) pe_int) pe_int) pa_nil)) pe_int) (pv 1))))))))), ?_⟩
    -- state[2] += 1
    refine ⟨.ref s, rfl, s, _, 2, _, rfl, rfl, SqL.of k.hs, atI_nat (j := 2) rfl, n, 1, rfl, rfl, s, _, 2, 2, rfl, rfl, k.hs, rfl, ?_⟩
    have k1 := k.count
    -- while state[0] != [] and state[0][0] == 0
    refine ⟨fun m' σ H' => ∃ b bs, bs.length = m' ∧ σ = [some (.ref s), some (.int m), none, none, none] ∧ VS s b c (n + 1) bs cs G H', ⟨bs.length, b, bs, rfl, rfl, k1⟩, ?_⟩
    rintro m' σ H' ⟨b, bs, rfl, rfl, k⟩
    refine ⟨.ref s, rfl, s, _, 0, _, rfl, rfl, SqL.of k.hs, atI_nat (j := 0) rfl, Nat.zero_le _, fun p hp => ?_⟩
    have kp := k.ext (same_of_none (o := .lst []) hp)
    refine ⟨.list (bs.map .int), .list [], .lst (SqL.of kp.hb) (dpAll_ints bs), .lst (SqL.of upd_same) .nil, shaped_ints bs, rfl, _, rfl, ?_⟩
    cases bs with
    | nil =>
      refine iteF (iteF ?_)
      refine ⟨.ref s, rfl, s, _, 0, _, rfl, rfl, SqL.of kp.hs, atI_nat (j := 0) rfl, Nat.zero_le _, fun p2 hp2 => ?_⟩
      have kq := kp.ext (same_of_none (o := .lst []) hp2)
      refine ⟨.list [], .list [], .lst (SqL.of kq.hb) .nil, .lst (SqL.of upd_same) .nil, rfl, rfl, _, rfl, iteF ?_⟩
      obtain ⟨j, z, hj, hz⟩ := ix_mod cs (n + 1) k.lc.1
      have hl : ((cs.map V.int).length : Int) ≠ 0 := by rw [List.length_map]; have := k.lc.1; omega
      refine ⟨.ref s, rfl, s, _, 1, _, rfl, rfl, SqL.of kq.hs, atI_nat (j := 1) rfl, .ref s, rfl, s, _, 2, _, rfl, rfl, SqL.of kq.hs, atI_nat (j := 2) rfl, .inl ⟨_, rfl, .ref s, rfl, s, _, 1, _, rfl, rfl, SqL.of kq.hs, atI_nat (j := 1) rfl, c, _, rfl, .inl (SqL.of kq.hc), n + 1, _, rfl, rfl, hl, c, _, _, .int z, rfl, rfl, SqL.of kq.hc, ?_, .inl ⟨_, rfl, z, 2147483647, rfl, rfl, nz1, ?_⟩⟩⟩
      · rw [List.length_map, hj]
        exact atI_nat (by rw [List.getElem?_map, hz]; rfl)
      obtain ⟨c0, c1⟩ := fmod_in z (m := 2147483647) (by decide)
      have hn0 := k.n0
      have hn1 : n + 1 ≤ 1000002 := by omega
      refine ⟨_, rfl, _, _, rfl, rfl, wmul c0 (by omega) (by decide) (by decide), .ref s, rfl, s, _, 2, _, rfl, rfl, SqL.of kq.hs, atI_nat (j := 2) rfl, _, _, rfl, rfl, wmul (by omega) (by omega) (by decide) (by decide), _, _, rfl, rfl, _, _, rfl, rfl, _, _, rfl, rfl, pow5 (by omega) (by omega), .inl ⟨_, rfl, _, _, rfl, rfl, nz1, ?_⟩⟩
      obtain ⟨d0, d1⟩ := fmod_in ((z.fmod 2147483647 * 48271 + (n + 1) * 69621 + 7) ^ (5 : Int).toNat) (m := 2147483647) (by decide)
      refine ⟨_, rfl, _, _, rfl, rfl, wmul d0 (by omega) (by decide) (by decide), .ref s, rfl, s, _, 2, _, rfl, rfl, SqL.of kq.hs, atI_nat (j := 2) rfl, _, _, rfl, rfl, wmul (by omega) (by omega) (by decide) (by decide), _, _, rfl, rfl, _, _, rfl, rfl, _, _, rfl, rfl, pow5 (by omega) (by omega), .inl ⟨_, rfl, _, _, rfl, rfl, nz2, _, rfl, _, _, rfl, rfl, by omega, ?_⟩⟩
      exact q _ _ (fmod_in _ hm).1 (fmod_in _ hm).2 ⟨b, c, n + 1, [], cs, kq, by omega⟩
    | cons y r =>
      refine iteT ?_
      refine ⟨.ref s, rfl, s, _, 0, _, rfl, rfl, SqL.of kp.hs, atI_nat (j := 0) rfl, b, _, 0, .int y, rfl, rfl, SqL.of kp.hb, atI_nat (j := 0) rfl, rfl, _, rfl, ?_⟩
      refine ite2 (fun e0 => ?_) (fun e0 => ?_)
      · have hy : y = 0 := V.int.inj (of_decide_eq_true e0)
        refine ⟨fun σ' H' => ∃ b, σ' = [some (.ref s), some (.int m), none, none, none] ∧ VS s b c (n + 1) r cs G H', fun σ' H' ⟨b, e, k⟩ => ⟨r.length, by simp, b, r, rfl, e, k⟩, ?_⟩
        refine ⟨.ref s, rfl, s, _, 0, _, rfl, rfl, SqL.of kp.hs, atI_nat (j := 0) rfl, 1, rfl, b, _, rfl, SqL.of kp.hb, fun p2 hp2 => ?_⟩
        have kq := kp.ext (same_of_none (o := .lst (cutV ((y :: r).map V.int) (some 1) none)) hp2)
        refine ⟨.ref s, rfl, s, _, 0, 0, rfl, rfl, kq.hs, rfl, p2, rfl, ?_⟩
        rw [show cutV ((y :: r).map V.int) (some 1) none = r.map V.int from cut1 _ _] at kq ⊢
        exact kp.big hp2
      · have hy : ¬ y = 0 := fun e => e0 (decide_eq_true (by rw [e]))
        have hy0 : 0 ≤ y := k.nn y List.mem_cons_self
        refine ⟨.ref s, rfl, s, _, 0, _, rfl, rfl, SqL.of kp.hs, atI_nat (j := 0) rfl, Nat.zero_le _, fun p2 hp2 => ?_⟩
        have kq := kp.ext (same_of_none (o := .lst []) hp2)
        refine ⟨.list ((y :: r).map .int), .list [], .lst (SqL.of kq.hb) (dpAll_ints _), .lst (SqL.of upd_same) .nil, shaped_ints _, rfl, _, rfl, iteT ?_⟩
        refine ⟨.ref s, rfl, s, _, 0, _, rfl, rfl, SqL.of kq.hs, atI_nat (j := 0) rfl, b, _, 0, .int y, rfl, rfl, SqL.of kq.hb, atI_nat (j := 0) rfl, .inl ⟨_, rfl, _, rfl, y, m, rfl, rfl, by omega, ?_⟩⟩
        refine ⟨.ref s, rfl, s, _, 0, _, rfl, rfl, SqL.of kq.hs, atI_nat (j := 0) rfl, b, _, 0, .int y, rfl, rfl, SqL.of kq.hb, atI_nat (j := 0) rfl, _, rfl, y, m, rfl, rfl, wide_div (b := 100) hm (by omega) (by decide) (by decide), .ref s, rfl, s, _, 0, _, rfl, rfl, SqL.of kq.hs, atI_nat (j := 0) rfl, b, _, 0, 0, rfl, rfl, kq.hb, ixN_zero, ?_⟩
        refine ⟨_, rfl, ?_⟩
        exact q _ _ (fmod_in _ hm).1 (fmod_in _ hm).2 ⟨b, c, n + 1, _, cs, kq.head (Int.ediv_nonneg hy0 (by omega)), by omega⟩


abbrev s_Lsigns : Stmt := top 20
abbrev N_Lsigns : List Str := ["_law_signs_here"]
theorem sc_Lsigns : FnScope ["_law_signs_here"] [] (defScope s_Lsigns) := ⟨rfl, rfl, rfl, by decide +kernel, rfl, by decide +kernel, by decide +kernel⟩
def spSigns : Sp := fun vs H Q _ => vs = [] ∧ Q (.str signsS) H
theorem ok_Lsigns {f : Addr} {fd : FuncData} (F : Fun K "_law_signs" "_law_signs" s_Lsigns f fd) : FnOk P w K mg base CX0 1 f fd [] spSigns := by
  refine F.ok sc_Lsigns (fun vs H Q E h => ?_) (fun cdv A outer s H vs Q E hr h => ?_)
  · obtain ⟨rfl, _⟩ := h
    rfl
  · obtain ⟨rfl, q⟩ := h
    refine ⟨_, (pss_cons (ps_set (i := 0) sc_Lsigns.nd rfl (.inl rfl) pe_str)
      (pss_one (ps_ret (pe_op op_add_str (pv 0) pe_str)))), ?_⟩
    exact ⟨_, rfl, _, _, rfl, rfl, by decide +kernel, q⟩

abbrev s_BadNameD_initD : Stmt := inClass (top 2) 0
abbrev N_BadNameD_initD : List Str := ["self", "name"]
theorem sc_BadNameD_initD : FnScope ["self", "name"] ["self", "name"] (defScope s_BadNameD_initD) := ⟨rfl, rfl, rfl, by decide +kernel, rfl, by decide +kernel, by decide +kernel⟩
theorem ok_BadNameD_initD {f : Addr} {fd : FuncData} (F : Fun K "__init__" "BadName.__init__" s_BadNameD_initD f fd) {C : Addr} (T : OexC K C) (no : PySem.W.findIn K (.ref C) "name" = some none) : FnOk P w K mg base CX0 1 f fd ["self", "name"] (spXI C "name") := by
  refine F.ok sc_BadNameD_initD (fun vs H Q E h => ?_) (fun cdv A outer s H vs Q E hr h => ?_)
  · obtain ⟨a, v, rfl, _⟩ := h
    rfl
  · obtain ⟨a, v, rfl, ha, q⟩ := h
    refine ⟨_, (pss_one (ps_ost (pv 0) (pv 1))), ?_⟩
    exact ⟨_, rfl, _, rfl, a, C, rfl, T, no, .inl ⟨ha, fun dx h1 h2 => q dx h1 h2⟩⟩

abbrev s_DuplicateNameD_initD : Stmt := inClass (top 3) 0
abbrev N_DuplicateNameD_initD : List Str := ["self", "name"]
theorem sc_DuplicateNameD_initD : FnScope ["self", "name"] ["self", "name"] (defScope s_DuplicateNameD_initD) := ⟨rfl, rfl, rfl, by decide +kernel, rfl, by decide +kernel, by decide +kernel⟩
theorem ok_DuplicateNameD_initD {f : Addr} {fd : FuncData} (F : Fun K "__init__" "DuplicateName.__init__" s_DuplicateNameD_initD f fd) {C : Addr} (T : OexC K C) (no : PySem.W.findIn K (.ref C) "name" = some none) : FnOk P w K mg base CX0 1 f fd ["self", "name"] (spXI C "name") := by
  refine F.ok sc_DuplicateNameD_initD (fun vs H Q E h => ?_) (fun cdv A outer s H vs Q E hr h => ?_)
  · obtain ⟨a, v, rfl, _⟩ := h
    rfl
  · obtain ⟨a, v, rfl, ha, q⟩ := h
    refine ⟨_, (pss_one (ps_ost (pv 0) (pv 1))), ?_⟩
    exact ⟨_, rfl, _, rfl, a, C, rfl, T, no, .inl ⟨ha, fun dx h1 h2 => q dx h1 h2⟩⟩

abbrev s_UnknownNameD_initD : Stmt := inClass (top 4) 0
abbrev N_UnknownNameD_initD : List Str := ["self", "name"]
theorem sc_UnknownNameD_initD : FnScope ["self", "name"] ["self", "name"] (defScope s_UnknownNameD_initD) := ⟨rfl, rfl, rfl, by decide +kernel, rfl, by decide +kernel, by decide +kernel⟩
theorem ok_UnknownNameD_initD {f : Addr} {fd : FuncData} (F : Fun K "__init__" "UnknownName.__init__" s_UnknownNameD_initD f fd) {C : Addr} (T : OexC K C) (no : PySem.W.findIn K (.ref C) "name" = some none) : FnOk P w K mg base CX0 1 f fd ["self", "name"] (spXI C "name") := by
  refine F.ok sc_UnknownNameD_initD (fun vs H Q E h => ?_) (fun cdv A outer s H vs Q E hr h => ?_)
  · obtain ⟨a, v, rfl, _⟩ := h
    rfl
  · obtain ⟨a, v, rfl, ha, q⟩ := h
    refine ⟨_, (pss_one (ps_ost (pv 0) (pv 1))), ?_⟩
    exact ⟨_, rfl, _, rfl, a, C, rfl, T, no, .inl ⟨ha, fun dx h1 h2 => q dx h1 h2⟩⟩

abbrev s_BadCountD_initD : Stmt := inClass (top 5) 0
abbrev N_BadCountD_initD : List Str := ["self", "count"]
theorem sc_BadCountD_initD : FnScope ["self", "count"] ["self", "count"] (defScope s_BadCountD_initD) := ⟨rfl, rfl, rfl, by decide +kernel, rfl, by decide +kernel, by decide +kernel⟩
theorem ok_BadCountD_initD {f : Addr} {fd : FuncData} (F : Fun K "__init__" "BadCount.__init__" s_BadCountD_initD f fd) {C : Addr} (T : OexC K C) (no : PySem.W.findIn K (.ref C) "count" = some none) : FnOk P w K mg base CX0 1 f fd ["self", "count"] (spXI C "count") := by
  refine F.ok sc_BadCountD_initD (fun vs H Q E h => ?_) (fun cdv A outer s H vs Q E hr h => ?_)
  · obtain ⟨a, v, rfl, _⟩ := h
    rfl
  · obtain ⟨a, v, rfl, ha, q⟩ := h
    refine ⟨_, (pss_one (ps_ost (pv 0) (pv 1))), ?_⟩
    exact ⟨_, rfl, _, rfl, a, C, rfl, T, no, .inl ⟨ha, fun dx h1 h2 => q dx h1 h2⟩⟩

abbrev s_BadTextD_initD : Stmt := inClass (top 6) 0
abbrev N_BadTextD_initD : List Str := ["self", "text"]
theorem sc_BadTextD_initD : FnScope ["self", "text"] ["self", "text"] (defScope s_BadTextD_initD) := ⟨rfl, rfl, rfl, by decide +kernel, rfl, by decide +kernel, by decide +kernel⟩
theorem ok_BadTextD_initD {f : Addr} {fd : FuncData} (F : Fun K "__init__" "BadText.__init__" s_BadTextD_initD f fd) {C : Addr} (T : OexC K C) (no : PySem.W.findIn K (.ref C) "text" = some none) : FnOk P w K mg base CX0 1 f fd ["self", "text"] (spXI C "text") := by
  refine F.ok sc_BadTextD_initD (fun vs H Q E h => ?_) (fun cdv A outer s H vs Q E hr h => ?_)
  · obtain ⟨a, v, rfl, _⟩ := h
    rfl
  · obtain ⟨a, v, rfl, ha, q⟩ := h
    refine ⟨_, (pss_one (ps_ost (pv 0) (pv 1))), ?_⟩
    exact ⟨_, rfl, _, rfl, a, C, rfl, T, no, .inl ⟨ha, fun dx h1 h2 => q dx h1 h2⟩⟩

abbrev s_BadSetD_initD : Stmt := inClass (top 7) 0
abbrev N_BadSetD_initD : List Str := ["self", "value"]
theorem sc_BadSetD_initD : FnScope ["self", "value"] ["self", "value"] (defScope s_BadSetD_initD) := ⟨rfl, rfl, rfl, by decide +kernel, rfl, by decide +kernel, by decide +kernel⟩
theorem ok_BadSetD_initD {f : Addr} {fd : FuncData} (F : Fun K "__init__" "BadSet.__init__" s_BadSetD_initD f fd) {C : Addr} (T : OexC K C) (no : PySem.W.findIn K (.ref C) "value" = some none) : FnOk P w K mg base CX0 1 f fd ["self", "value"] (spXI C "value") := by
  refine F.ok sc_BadSetD_initD (fun vs H Q E h => ?_) (fun cdv A outer s H vs Q E hr h => ?_)
  · obtain ⟨a, v, rfl, _⟩ := h
    rfl
  · obtain ⟨a, v, rfl, ha, q⟩ := h
    refine ⟨_, (pss_one (ps_ost (pv 0) (pv 1))), ?_⟩
    exact ⟨_, rfl, _, rfl, a, C, rfl, T, no, .inl ⟨ha, fun dx h1 h2 => q dx h1 h2⟩⟩

abbrev s_BadCellD_initD : Stmt := inClass (top 8) 0
abbrev N_BadCellD_initD : List Str := ["self", "value"]
theorem sc_BadCellD_initD : FnScope ["self", "value"] ["self", "value"] (defScope s_BadCellD_initD) := ⟨rfl, rfl, rfl, by decide +kernel, rfl, by decide +kernel, by decide +kernel⟩
theorem ok_BadCellD_initD {f : Addr} {fd : FuncData} (F : Fun K "__init__" "BadCell.__init__" s_BadCellD_initD f fd) {C : Addr} (T : OexC K C) (no : PySem.W.findIn K (.ref C) "value" = some none) : FnOk P w K mg base CX0 1 f fd ["self", "value"] (spXI C "value") := by
  refine F.ok sc_BadCellD_initD (fun vs H Q E h => ?_) (fun cdv A outer s H vs Q E hr h => ?_)
  · obtain ⟨a, v, rfl, _⟩ := h
    rfl
  · obtain ⟨a, v, rfl, ha, q⟩ := h
    refine ⟨_, (pss_one (ps_ost (pv 0) (pv 1))), ?_⟩
    exact ⟨_, rfl, _, rfl, a, C, rfl, T, no, .inl ⟨ha, fun dx h1 h2 => q dx h1 h2⟩⟩

abbrev s_BadSideD_initD : Stmt := inClass (top 9) 0
abbrev N_BadSideD_initD : List Str := ["self", "word"]
theorem sc_BadSideD_initD : FnScope ["self", "word"] ["self", "word"] (defScope s_BadSideD_initD) := ⟨rfl, rfl, rfl, by decide +kernel, rfl, by decide +kernel, by decide +kernel⟩
theorem ok_BadSideD_initD {f : Addr} {fd : FuncData} (F : Fun K "__init__" "BadSide.__init__" s_BadSideD_initD f fd) {C : Addr} (T : OexC K C) (no : PySem.W.findIn K (.ref C) "word" = some none) : FnOk P w K mg base CX0 1 f fd ["self", "word"] (spXI C "word") := by
  refine F.ok sc_BadSideD_initD (fun vs H Q E h => ?_) (fun cdv A outer s H vs Q E hr h => ?_)
  · obtain ⟨a, v, rfl, _⟩ := h
    rfl
  · obtain ⟨a, v, rfl, ha, q⟩ := h
    refine ⟨_, (pss_one (ps_ost (pv 0) (pv 1))), ?_⟩
    exact ⟨_, rfl, _, rfl, a, C, rfl, T, no, .inl ⟨ha, fun dx h1 h2 => q dx h1 h2⟩⟩

abbrev s_BadLineD_initD : Stmt := inClass (top 10) 0
abbrev N_BadLineD_initD : List Str := ["self", "number"]
theorem sc_BadLineD_initD : FnScope ["self", "number"] ["self", "number"] (defScope s_BadLineD_initD) := ⟨rfl, rfl, rfl, by decide +kernel, rfl, by decide +kernel, by decide +kernel⟩
theorem ok_BadLineD_initD {f : Addr} {fd : FuncData} (F : Fun K "__init__" "BadLine.__init__" s_BadLineD_initD f fd) {C : Addr} (T : OexC K C) (no : PySem.W.findIn K (.ref C) "number" = some none) : FnOk P w K mg base CX0 1 f fd ["self", "number"] (spXI C "number") := by
  refine F.ok sc_BadLineD_initD (fun vs H Q E h => ?_) (fun cdv A outer s H vs Q E hr h => ?_)
  · obtain ⟨a, v, rfl, _⟩ := h
    rfl
  · obtain ⟨a, v, rfl, ha, q⟩ := h
    refine ⟨_, (pss_one (ps_ost (pv 0) (pv 1))), ?_⟩
    exact ⟨_, rfl, _, rfl, a, C, rfl, T, no, .inl ⟨ha, fun dx h1 h2 => q dx h1 h2⟩⟩

abbrev s_BadWishD_initD : Stmt := inClass (top 11) 0
abbrev N_BadWishD_initD : List Str := ["self", "value"]
theorem sc_BadWishD_initD : FnScope ["self", "value"] ["self", "value"] (defScope s_BadWishD_initD) := ⟨rfl, rfl, rfl, by decide +kernel, rfl, by decide +kernel, by decide +kernel⟩
theorem ok_BadWishD_initD {f : Addr} {fd : FuncData} (F : Fun K "__init__" "BadWish.__init__" s_BadWishD_initD f fd) {C : Addr} (T : OexC K C) (no : PySem.W.findIn K (.ref C) "value" = some none) : FnOk P w K mg base CX0 1 f fd ["self", "value"] (spXI C "value") := by
  refine F.ok sc_BadWishD_initD (fun vs H Q E h => ?_) (fun cdv A outer s H vs Q E hr h => ?_)
  · obtain ⟨a, v, rfl, _⟩ := h
    rfl
  · obtain ⟨a, v, rfl, ha, q⟩ := h
    refine ⟨_, (pss_one (ps_ost (pv 0) (pv 1))), ?_⟩
    exact ⟨_, rfl, _, rfl, a, C, rfl, T, no, .inl ⟨ha, fun dx h1 h2 => q dx h1 h2⟩⟩

abbrev s_UnlikeOutcomesD_initD : Stmt := inClass (top 12) 0
abbrev N_UnlikeOutcomesD_initD : List Str := ["self", "names"]
theorem sc_UnlikeOutcomesD_initD : FnScope ["self", "names"] ["self", "names"] (defScope s_UnlikeOutcomesD_initD) := ⟨rfl, rfl, rfl, by decide +kernel, rfl, by decide +kernel, by decide +kernel⟩
theorem ok_UnlikeOutcomesD_initD {f : Addr} {fd : FuncData} (F : Fun K "__init__" "UnlikeOutcomes.__init__" s_UnlikeOutcomesD_initD f fd) {C : Addr} (T : OexC K C) (no : PySem.W.findIn K (.ref C) "names" = some none) : FnOk P w K mg base CX0 1 f fd ["self", "names"] (spXI C "names") := by
  refine F.ok sc_UnlikeOutcomesD_initD (fun vs H Q E h => ?_) (fun cdv A outer s H vs Q E hr h => ?_)
  · obtain ⟨a, v, rfl, _⟩ := h
    rfl
  · obtain ⟨a, v, rfl, ha, q⟩ := h
    refine ⟨_, (pss_one (ps_ost (pv 0) (pv 1))), ?_⟩
    exact ⟨_, rfl, _, rfl, a, C, rfl, T, no, .inl ⟨ha, fun dx h1 h2 => q dx h1 h2⟩⟩

abbrev s_NotFirmD_initD : Stmt := inClass (top 14) 0
abbrev N_NotFirmD_initD : List Str := ["self", "value"]
theorem sc_NotFirmD_initD : FnScope ["self", "value"] ["self", "value"] (defScope s_NotFirmD_initD) := ⟨rfl, rfl, rfl, by decide +kernel, rfl, by decide +kernel, by decide +kernel⟩
theorem ok_NotFirmD_initD {f : Addr} {fd : FuncData} (F : Fun K "__init__" "NotFirm.__init__" s_NotFirmD_initD f fd) {C : Addr} (T : OexC K C) (no : PySem.W.findIn K (.ref C) "value" = some none) : FnOk P w K mg base CX0 1 f fd ["self", "value"] (spXI C "value") := by
  refine F.ok sc_NotFirmD_initD (fun vs H Q E h => ?_) (fun cdv A outer s H vs Q E hr h => ?_)
  · obtain ⟨a, v, rfl, _⟩ := h
    rfl
  · obtain ⟨a, v, rfl, ha, q⟩ := h
    refine ⟨_, (pss_one (ps_ost (pv 0) (pv 1))), ?_⟩
    exact ⟨_, rfl, _, rfl, a, C, rfl, T, no, .inl ⟨ha, fun dx h1 h2 => q dx h1 h2⟩⟩

abbrev s_Lkinds : Stmt := top 21
abbrev N_Lkinds : List Str := ["_law_e", "_law_kinds_here"]
theorem sc_Lkinds : FnScope ["_law_e", "_law_kinds_here"] ["_law_e"] (defScope s_Lkinds) := ⟨rfl, rfl, rfl, by decide +kernel, rfl, by decide +kernel, by decide +kernel⟩
set_option maxHeartbeats 20000000 in
theorem ok_Lkinds {f : Addr} {fd : FuncData} (F : Fun K "_law_kinds" "_law_kinds" s_Lkinds f fd) (T : TxtB mg) (R : Ers P w K mg base) (O : ErsOk R) : FnOk P w K mg base CX0 1 f fd ["_law_e"] (spKinds R) := by
  refine F.ok sc_Lkinds (fun vs H Q E h => ?_) (fun cdv A outer s H vs Q E hr h => ?_)
  · obtain ⟨e, C, fs, i, rfl, _⟩ := h
    rfl
  · obtain ⟨e, C, fs, i, rfl, he, hC, q⟩ := h
    have k := O.E C (List.mem_of_getElem? hC)
    have kt : ∀ j Cj, R.cs[j]? = some Cj → PySem.W.kitOne K (.ref C) (.ref Cj) = some (decide (j = i)) := fun j Cj h => O.kit i j C Cj hC h
    refine ⟨_, (pss_cons (ps_set (i := 1) sc_Lkinds.nd rfl (.inl rfl) (pe_lst (pa_cons (pe_callB call_isX (by rfl) T.z_isinstance (by decide +kernel) (pa_cons (pv 0) (pa_cons (pe_glob (v := .ref R.BadName.C) (by rfl) R.BadName.g rfl) pa_nil))) (pa_cons (pe_callB call_isX (by rfl) T.z_isinstance (by decide +kernel) (pa_cons (pv 0) (pa_cons (pe_glob (v := .ref R.DuplicateName.C) (by rfl) R.DuplicateName.g rfl) pa_nil))) (pa_cons (pe_callB call_isX (by rfl) T.z_isinstance (by decide +kernel) (pa_cons (pv 0) (pa_cons (pe_glob (v := .ref R.UnknownName.C) (by rfl) R.UnknownName.g rfl) pa_nil))) pa_nil)))))
      (pss_cons (ps_set (i := 1) sc_Lkinds.nd rfl (.inl rfl) (pe_op op_cat (pv 1) (pe_lst (pa_cons (pe_callB call_isX (by rfl) T.z_isinstance (by decide +kernel) (pa_cons (pv 0) (pa_cons (pe_glob (v := .ref R.BadCount.C) (by rfl) R.BadCount.g rfl) pa_nil))) (pa_cons (pe_callB call_isX (by rfl) T.z_isinstance (by decide +kernel) (pa_cons (pv 0) (pa_cons (pe_glob (v := .ref R.BadText.C) (by rfl) R.BadText.g rfl) pa_nil))) (pa_cons (pe_callB call_isX (by rfl) T.z_isinstance (by decide +kernel) (pa_cons (pv 0) (pa_cons (pe_glob (v := .ref R.BadSet.C) (by rfl) R.BadSet.g rfl) pa_nil))) pa_nil))))))
      (pss_cons (ps_set (i := 1) sc_Lkinds.nd rfl (.inl rfl) (pe_op op_cat (pv 1) (pe_lst (pa_cons (pe_callB call_isX (by rfl) T.z_isinstance (by decide +kernel) (pa_cons (pv 0) (pa_cons (pe_glob (v := .ref R.BadCell.C) (by rfl) R.BadCell.g rfl) pa_nil))) (pa_cons (pe_callB call_isX (by rfl) T.z_isinstance (by decide +kernel) (pa_cons (pv 0) (pa_cons (pe_glob (v := .ref R.BadSide.C) (by rfl) R.BadSide.g rfl) pa_nil))) (pa_cons (pe_callB call_isX (by rfl) T.z_isinstance (by decide +kernel) (pa_cons (pv 0) (pa_cons (pe_glob (v := .ref R.BadLine.C) (by rfl) R.BadLine.g rfl) pa_nil))) pa_nil))))))
      (pss_cons (ps_set (i := 1) sc_Lkinds.nd rfl (.inl rfl) (pe_op op_cat (pv 1) (pe_lst (pa_cons (pe_callB call_isX (by rfl) T.z_isinstance (by decide +kernel) (pa_cons (pv 0) (pa_cons (pe_glob (v := .ref R.BadWish.C) (by rfl) R.BadWish.g rfl) pa_nil))) (pa_cons (pe_callB call_isX (by rfl) T.z_isinstance (by decide +kernel) (pa_cons (pv 0) (pa_cons (pe_glob (v := .ref R.UnlikeOutcomes.C) (by rfl) R.UnlikeOutcomes.g rfl) pa_nil))) (pa_cons (pe_callB call_isX (by rfl) T.z_isinstance (by decide +kernel) (pa_cons (pv 0) (pa_cons (pe_glob (v := .ref R.NotFirm.C) (by rfl) R.NotFirm.g rfl) pa_nil))) pa_nil))))))
      (pss_one (ps_ret (pe_op op_cat (pv 1) (pe_lst (pa_cons (pe_callB call_isX (by rfl) T.z_isinstance (by decide +kernel) (pa_cons (pv 0) (pa_cons (pe_glob (v := .ref R.IsFirm.C) (by rfl) R.IsFirm.g rfl) pa_nil))) (pa_cons (pe_callB call_isX (by rfl) T.z_isinstance (by decide +kernel) (pa_cons (pv 0) (pa_cons (pe_glob (v := .ref R.IsSmooth.C) (by rfl) R.IsSmooth.g rfl) pa_nil))) (pa_cons (pe_callB call_isX (by rfl) T.z_isinstance (by decide +kernel) (pa_cons (pv 0) (pa_cons (pe_glob (v := .ref R.NothingToUndo.C) (by rfl) R.NothingToUndo.g rfl) pa_nil))) pa_nil))))))))))), ?_⟩
    refine ⟨_, rfl, e, C, fs, _, _, _, rfl, he, k, .own _, kt 0 _ rfl, _, rfl, e, C, fs, _, _, _, rfl, he, k, .own _, kt 1 _ rfl, _, rfl, e, C, fs, _, _, _, rfl, he, k, .own _, kt 2 _ rfl, (show 3 ≤ sizeLine by decide), fun p1 h1 => ?_⟩
    have s1 := same_of_none (o := .lst [V.bl (decide (0 = i)), V.bl (decide (1 = i)), V.bl (decide (2 = i))]) h1
    have l1 : (upd H p1 (.lst [V.bl (decide (0 = i)), V.bl (decide (1 = i)), V.bl (decide (2 = i))])) p1 = some (.lst [V.bl (decide (0 = i)), V.bl (decide (1 = i)), V.bl (decide (2 = i))]) := upd_same
    generalize upd H p1 (.lst [V.bl (decide (0 = i)), V.bl (decide (1 = i)), V.bl (decide (2 = i))]) = H1 at s1 l1
    have he := he.up s1
    clear h1
    refine ⟨_, rfl, _, rfl, e, C, fs, _, _, _, rfl, he, k, .own _, kt 3 _ rfl, _, rfl, e, C, fs, _, _, _, rfl, he, k, .own _, kt 4 _ rfl, _, rfl, e, C, fs, _, _, _, rfl, he, k, .own _, kt 5 _ rfl, (show 3 ≤ sizeLine by decide), fun p h => ?_⟩
    have z1 := same_of_none (o := .lst [V.bl (decide (3 = i)), V.bl (decide (4 = i)), V.bl (decide (5 = i))]) h
    have k2 : (upd H1 p (.lst [V.bl (decide (3 = i)), V.bl (decide (4 = i)), V.bl (decide (5 = i))])) p = some (.lst [V.bl (decide (3 = i)), V.bl (decide (4 = i)), V.bl (decide (5 = i))]) := upd_same
    have k1 := z1 _ _ l1
    generalize upd H1 p (.lst [V.bl (decide (3 = i)), V.bl (decide (4 = i)), V.bl (decide (5 = i))]) = J1 at z1 k1 k2
    clear h
    refine ⟨p1, p, _, _, rfl, rfl, k1, k2, (show 3 + 3 ≤ sizeLine by decide), fun p2 h => ?_⟩
    have z2 := same_of_none (o := .lst ([V.bl (decide (0 = i)), V.bl (decide (1 = i)), V.bl (decide (2 = i))] ++ [V.bl (decide (3 = i)), V.bl (decide (4 = i)), V.bl (decide (5 = i))])) h
    have l2 : (upd J1 p2 (.lst ([V.bl (decide (0 = i)), V.bl (decide (1 = i)), V.bl (decide (2 = i))] ++ [V.bl (decide (3 = i)), V.bl (decide (4 = i)), V.bl (decide (5 = i))]))) p2 = some (.lst [V.bl (decide (0 = i)), V.bl (decide (1 = i)), V.bl (decide (2 = i)), V.bl (decide (3 = i)), V.bl (decide (4 = i)), V.bl (decide (5 = i))]) := upd_same
    generalize upd J1 p2 (.lst ([V.bl (decide (0 = i)), V.bl (decide (1 = i)), V.bl (decide (2 = i))] ++ [V.bl (decide (3 = i)), V.bl (decide (4 = i)), V.bl (decide (5 = i))])) = H2 at z2 l2
    have s2 := (s1.trans z1).trans z2
    have he := (he.up z1).up z2
    clear k1 k2 h z1 z2
    refine ⟨_, rfl, _, rfl, e, C, fs, _, _, _, rfl, he, k, .own _, kt 6 _ rfl, _, rfl, e, C, fs, _, _, _, rfl, he, k, .own _, kt 7 _ rfl, _, rfl, e, C, fs, _, _, _, rfl, he, k, .own _, kt 8 _ rfl, (show 3 ≤ sizeLine by decide), fun p h => ?_⟩
    have z1 := same_of_none (o := .lst [V.bl (decide (6 = i)), V.bl (decide (7 = i)), V.bl (decide (8 = i))]) h
    have k2 : (upd H2 p (.lst [V.bl (decide (6 = i)), V.bl (decide (7 = i)), V.bl (decide (8 = i))])) p = some (.lst [V.bl (decide (6 = i)), V.bl (decide (7 = i)), V.bl (decide (8 = i))]) := upd_same
    have k1 := z1 _ _ l2
    generalize upd H2 p (.lst [V.bl (decide (6 = i)), V.bl (decide (7 = i)), V.bl (decide (8 = i))]) = J2 at z1 k1 k2
    clear h
    refine ⟨p2, p, _, _, rfl, rfl, k1, k2, (show 6 + 3 ≤ sizeLine by decide), fun p3 h => ?_⟩
    have z2 := same_of_none (o := .lst ([V.bl (decide (0 = i)), V.bl (decide (1 = i)), V.bl (decide (2 = i)), V.bl (decide (3 = i)), V.bl (decide (4 = i)), V.bl (decide (5 = i))] ++ [V.bl (decide (6 = i)), V.bl (decide (7 = i)), V.bl (decide (8 = i))])) h
    have l3 : (upd J2 p3 (.lst ([V.bl (decide (0 = i)), V.bl (decide (1 = i)), V.bl (decide (2 = i)), V.bl (decide (3 = i)), V.bl (decide (4 = i)), V.bl (decide (5 = i))] ++ [V.bl (decide (6 = i)), V.bl (decide (7 = i)), V.bl (decide (8 = i))]))) p3 = some (.lst [V.bl (decide (0 = i)), V.bl (decide (1 = i)), V.bl (decide (2 = i)), V.bl (decide (3 = i)), V.bl (decide (4 = i)), V.bl (decide (5 = i)), V.bl (decide (6 = i)), V.bl (decide (7 = i)), V.bl (decide (8 = i))]) := upd_same
    generalize upd J2 p3 (.lst ([V.bl (decide (0 = i)), V.bl (decide (1 = i)), V.bl (decide (2 = i)), V.bl (decide (3 = i)), V.bl (decide (4 = i)), V.bl (decide (5 = i))] ++ [V.bl (decide (6 = i)), V.bl (decide (7 = i)), V.bl (decide (8 = i))])) = H3 at z2 l3
    have s3 := (s2.trans z1).trans z2
    have he := (he.up z1).up z2
    clear k1 k2 h z1 z2
    refine ⟨_, rfl, _, rfl, e, C, fs, _, _, _, rfl, he, k, .own _, kt 9 _ rfl, _, rfl, e, C, fs, _, _, _, rfl, he, k, .own _, kt 10 _ rfl, _, rfl, e, C, fs, _, _, _, rfl, he, k, .own _, kt 11 _ rfl, (show 3 ≤ sizeLine by decide), fun p h => ?_⟩
    have z1 := same_of_none (o := .lst [V.bl (decide (9 = i)), V.bl (decide (10 = i)), V.bl (decide (11 = i))]) h
    have k2 : (upd H3 p (.lst [V.bl (decide (9 = i)), V.bl (decide (10 = i)), V.bl (decide (11 = i))])) p = some (.lst [V.bl (decide (9 = i)), V.bl (decide (10 = i)), V.bl (decide (11 = i))]) := upd_same
    have k1 := z1 _ _ l3
    generalize upd H3 p (.lst [V.bl (decide (9 = i)), V.bl (decide (10 = i)), V.bl (decide (11 = i))]) = J3 at z1 k1 k2
    clear h
    refine ⟨p3, p, _, _, rfl, rfl, k1, k2, (show 9 + 3 ≤ sizeLine by decide), fun p4 h => ?_⟩
    have z2 := same_of_none (o := .lst ([V.bl (decide (0 = i)), V.bl (decide (1 = i)), V.bl (decide (2 = i)), V.bl (decide (3 = i)), V.bl (decide (4 = i)), V.bl (decide (5 = i)), V.bl (decide (6 = i)), V.bl (decide (7 = i)), V.bl (decide (8 = i))] ++ [V.bl (decide (9 = i)), V.bl (decide (10 = i)), V.bl (decide (11 = i))])) h
    have l4 : (upd J3 p4 (.lst ([V.bl (decide (0 = i)), V.bl (decide (1 = i)), V.bl (decide (2 = i)), V.bl (decide (3 = i)), V.bl (decide (4 = i)), V.bl (decide (5 = i)), V.bl (decide (6 = i)), V.bl (decide (7 = i)), V.bl (decide (8 = i))] ++ [V.bl (decide (9 = i)), V.bl (decide (10 = i)), V.bl (decide (11 = i))]))) p4 = some (.lst [V.bl (decide (0 = i)), V.bl (decide (1 = i)), V.bl (decide (2 = i)), V.bl (decide (3 = i)), V.bl (decide (4 = i)), V.bl (decide (5 = i)), V.bl (decide (6 = i)), V.bl (decide (7 = i)), V.bl (decide (8 = i)), V.bl (decide (9 = i)), V.bl (decide (10 = i)), V.bl (decide (11 = i))]) := upd_same
    generalize upd J3 p4 (.lst ([V.bl (decide (0 = i)), V.bl (decide (1 = i)), V.bl (decide (2 = i)), V.bl (decide (3 = i)), V.bl (decide (4 = i)), V.bl (decide (5 = i)), V.bl (decide (6 = i)), V.bl (decide (7 = i)), V.bl (decide (8 = i))] ++ [V.bl (decide (9 = i)), V.bl (decide (10 = i)), V.bl (decide (11 = i))])) = H4 at z2 l4
    have s4 := (s3.trans z1).trans z2
    have he := (he.up z1).up z2
    clear k1 k2 h z1 z2
    refine ⟨_, rfl, _, rfl, e, C, fs, _, _, _, rfl, he, k, .own _, kt 12 _ rfl, _, rfl, e, C, fs, _, _, _, rfl, he, k, .own _, kt 13 _ rfl, _, rfl, e, C, fs, _, _, _, rfl, he, k, .own _, kt 14 _ rfl, (show 3 ≤ sizeLine by decide), fun p h => ?_⟩
    have z1 := same_of_none (o := .lst [V.bl (decide (12 = i)), V.bl (decide (13 = i)), V.bl (decide (14 = i))]) h
    have k2 : (upd H4 p (.lst [V.bl (decide (12 = i)), V.bl (decide (13 = i)), V.bl (decide (14 = i))])) p = some (.lst [V.bl (decide (12 = i)), V.bl (decide (13 = i)), V.bl (decide (14 = i))]) := upd_same
    have k1 := z1 _ _ l4
    generalize upd H4 p (.lst [V.bl (decide (12 = i)), V.bl (decide (13 = i)), V.bl (decide (14 = i))]) = J4 at z1 k1 k2
    clear h
    refine ⟨p4, p, _, _, rfl, rfl, k1, k2, (show 12 + 3 ≤ sizeLine by decide), fun p5 h => ?_⟩
    exact q p5 _ ((s4.trans z1).trans (same_of_none h)) ((s4.trans z1).free h) upd_same

abbrev s_Lall : Stmt := top 23
abbrev N_Lall : List Str := ["_law_t", "_law_made"]
theorem sc_Lall : FnScope ["_law_t", "_law_made"] ["_law_t"] (defScope s_Lall) := ⟨rfl, rfl, rfl, by decide +kernel, rfl, by decide +kernel, by decide +kernel⟩
set_option maxHeartbeats 20000000 in
theorem ok_Lall {f : Addr} {fd : FuncData} (F : Fun K "_law_all" "_law_all" s_Lall f fd) (T : TxtB mg) (R : Ers P w K mg base) : FnOk P w K mg base CX0 3 f fd ["_law_t"] (spAll R) := by
  refine F.ok sc_Lall (fun vs H Q E h => ?_) (fun cdv A outer s H vs Q E hr h => ?_)
  · obtain ⟨t, ts, rfl, _⟩ := h
    rfl
  · obtain ⟨t, ts, rfl, ht, hl, q⟩ := h
    refine ⟨_, (pss_cons (ps_set (i := 1) sc_Lall.nd rfl (.inl rfl) (pe_lst (pa_cons (pe_err R.BadName.T R.BadName.I R.BadName.G (hr.mono (by decide)) R.BadName.b pass0 (by rfl) R.BadName.g (pa_cons (pe_ix ix_list (pv 0) pe_int (fun _ _ => rfl)) pa_nil)) (pa_cons (pe_err R.DuplicateName.T R.DuplicateName.I R.DuplicateName.G (hr.mono (by decide)) R.DuplicateName.b pass0 (by rfl) R.DuplicateName.g (pa_cons (pe_ix ix_list (pv 0) pe_int (fun _ _ => rfl)) pa_nil)) (pa_cons (pe_err R.UnknownName.T R.UnknownName.I R.UnknownName.G (hr.mono (by decide)) R.UnknownName.b pass0 (by rfl) R.UnknownName.g (pa_cons (pe_ix ix_list (pv 0) pe_int (fun _ _ => rfl)) pa_nil)) (pa_cons (pe_err R.BadCount.T R.BadCount.I R.BadCount.G (hr.mono (by decide)) R.BadCount.b pass0 (by rfl) R.BadCount.g (pa_cons (pe_ix ix_list (pv 0) pe_int (fun _ _ => rfl)) pa_nil)) (pa_cons (pe_err R.BadText.T R.BadText.I R.BadText.G (hr.mono (by decide)) R.BadText.b pass0 (by rfl) R.BadText.g (pa_cons (pe_ix ix_list (pv 0) pe_int (fun _ _ => rfl)) pa_nil)) (pa_cons (pe_err R.BadSet.T R.BadSet.I R.BadSet.G (hr.mono (by decide)) R.BadSet.b pass0 (by rfl) R.BadSet.g (pa_cons (pe_ix ix_list (pv 0) pe_int (fun _ _ => rfl)) pa_nil)) pa_nil))))))))
      (pss_cons (ps_set (i := 1) sc_Lall.nd rfl (.inl rfl) (pe_op op_cat (pv 1) (pe_lst (pa_cons (pe_err R.BadCell.T R.BadCell.I R.BadCell.G (hr.mono (by decide)) R.BadCell.b pass0 (by rfl) R.BadCell.g (pa_cons (pe_ix ix_list (pv 0) pe_int (fun _ _ => rfl)) pa_nil)) (pa_cons (pe_err R.BadSide.T R.BadSide.I R.BadSide.G (hr.mono (by decide)) R.BadSide.b pass0 (by rfl) R.BadSide.g (pa_cons (pe_ix ix_list (pv 0) pe_int (fun _ _ => rfl)) pa_nil)) (pa_cons (pe_err R.BadLine.T R.BadLine.I R.BadLine.G (hr.mono (by decide)) R.BadLine.b pass0 (by rfl) R.BadLine.g (pa_cons (pe_ix ix_list (pv 0) pe_int (fun _ _ => rfl)) pa_nil)) (pa_cons (pe_err R.BadWish.T R.BadWish.I R.BadWish.G (hr.mono (by decide)) R.BadWish.b pass0 (by rfl) R.BadWish.g (pa_cons (pe_ix ix_list (pv 0) pe_int (fun _ _ => rfl)) pa_nil)) (pa_cons (pe_err R.UnlikeOutcomes.T R.UnlikeOutcomes.I R.UnlikeOutcomes.G (hr.mono (by decide)) R.UnlikeOutcomes.b pass0 (by rfl) R.UnlikeOutcomes.g (pa_cons (pe_ix ix_list (pv 0) pe_int (fun _ _ => rfl)) pa_nil)) pa_nil))))))))
      (pss_one (ps_ret (pe_op op_cat (pv 1) (pe_lst (pa_cons (pe_err R.NotFirm.T R.NotFirm.I R.NotFirm.G (hr.mono (by decide)) R.NotFirm.b pass0 (by rfl) R.NotFirm.g (pa_cons (pe_ix ix_list (pv 0) pe_int (fun _ _ => rfl)) pa_nil)) (pa_cons (pe_err0 PySem.F.excBase_ValueError R.IsFirm.q R.IsFirm.g R.IsFirm.kC (by rfl)) (pa_cons (pe_err0 PySem.F.excBase_ValueError R.IsSmooth.q R.IsSmooth.g R.IsSmooth.kC (by rfl)) (pa_cons (pe_err0 PySem.F.excBase_ValueError R.NothingToUndo.q R.NothingToUndo.g R.NothingToUndo.kC (by rfl)) pa_nil)))))))))), ?_⟩
    obtain ⟨v0, v1, v2, v3, v4, v5, v6, v7, v8, v9, v10, v11, rfl⟩ := len12 hl
    have S : Same H H := fun _ _ h => h
    refine ⟨_, rfl, t, _, 0, v0, rfl, rfl, SqL.of ht, atI_nat (j := 0) rfl, (show 1 ≤ 1000 by decide), ?_⟩
    refine err_of (fun a0 H0 s0 n0 o0 => ?_)
    have ht := s0 _ _ ht
    have S := S.trans s0
    refine ⟨_, rfl, t, _, 1, v1, rfl, rfl, SqL.of ht, atI_nat (j := 1) rfl, (show 1 ≤ 1000 by decide), ?_⟩
    refine err_of (fun a1 H1 s1 n1 o1 => ?_)
    have ht := s1 _ _ ht
    have S := S.trans s1
    have o0 := o0.up s1
    refine ⟨_, rfl, t, _, 2, v2, rfl, rfl, SqL.of ht, atI_nat (j := 2) rfl, (show 1 ≤ 1000 by decide), ?_⟩
    refine err_of (fun a2 H2 s2 n2 o2 => ?_)
    have ht := s2 _ _ ht
    have S := S.trans s2
    have o0 := o0.up s2
    have o1 := o1.up s2
    refine ⟨_, rfl, t, _, 3, v3, rfl, rfl, SqL.of ht, atI_nat (j := 3) rfl, (show 1 ≤ 1000 by decide), ?_⟩
    refine err_of (fun a3 H3 s3 n3 o3 => ?_)
    have ht := s3 _ _ ht
    have S := S.trans s3
    have o0 := o0.up s3
    have o1 := o1.up s3
    have o2 := o2.up s3
    refine ⟨_, rfl, t, _, 4, v4, rfl, rfl, SqL.of ht, atI_nat (j := 4) rfl, (show 1 ≤ 1000 by decide), ?_⟩
    refine err_of (fun a4 H4 s4 n4 o4 => ?_)
    have ht := s4 _ _ ht
    have S := S.trans s4
    have o0 := o0.up s4
    have o1 := o1.up s4
    have o2 := o2.up s4
    have o3 := o3.up s4
    refine ⟨_, rfl, t, _, 5, v5, rfl, rfl, SqL.of ht, atI_nat (j := 5) rfl, (show 1 ≤ 1000 by decide), ?_⟩
    refine err_of (fun a5 H5 s5 n5 o5 => ?_)
    have ht := s5 _ _ ht
    have S := S.trans s5
    have o0 := o0.up s5
    have o1 := o1.up s5
    have o2 := o2.up s5
    have o3 := o3.up s5
    have o4 := o4.up s5
    refine ⟨(show 6 ≤ sizeLine by decide), fun p0 h => ?_⟩
    have z := same_of_none (o := .lst [V.ref a0, V.ref a1, V.ref a2, V.ref a3, V.ref a4, V.ref a5]) h
    have ln : (upd H5 p0 (.lst [V.ref a0, V.ref a1, V.ref a2, V.ref a3, V.ref a4, V.ref a5])) p0 = some (.lst [V.ref a0, V.ref a1, V.ref a2, V.ref a3, V.ref a4, V.ref a5]) := upd_same
    generalize upd H5 p0 (.lst [V.ref a0, V.ref a1, V.ref a2, V.ref a3, V.ref a4, V.ref a5]) = J0 at z ln
    clear h
    have ht := z _ _ ht
    have S := S.trans z
    have o0 := o0.up z
    have o1 := o1.up z
    have o2 := o2.up z
    have o3 := o3.up z
    have o4 := o4.up z
    have o5 := o5.up z
    have lc := ln
    clear ln
    refine ⟨_, rfl, _, rfl, t, _, 6, v6, rfl, rfl, SqL.of ht, atI_nat (j := 6) rfl, (show 1 ≤ 1000 by decide), ?_⟩
    refine err_of (fun a6 H6 s6 n6 o6 => ?_)
    have ht := s6 _ _ ht
    have S := S.trans s6
    have o0 := o0.up s6
    have o1 := o1.up s6
    have o2 := o2.up s6
    have o3 := o3.up s6
    have o4 := o4.up s6
    have o5 := o5.up s6
    have lc := s6 _ _ lc
    refine ⟨_, rfl, t, _, 7, v7, rfl, rfl, SqL.of ht, atI_nat (j := 7) rfl, (show 1 ≤ 1000 by decide), ?_⟩
    refine err_of (fun a7 H7 s7 n7 o7 => ?_)
    have ht := s7 _ _ ht
    have S := S.trans s7
    have o0 := o0.up s7
    have o1 := o1.up s7
    have o2 := o2.up s7
    have o3 := o3.up s7
    have o4 := o4.up s7
    have o5 := o5.up s7
    have o6 := o6.up s7
    have lc := s7 _ _ lc
    refine ⟨_, rfl, t, _, 8, v8, rfl, rfl, SqL.of ht, atI_nat (j := 8) rfl, (show 1 ≤ 1000 by decide), ?_⟩
    refine err_of (fun a8 H8 s8 n8 o8 => ?_)
    have ht := s8 _ _ ht
    have S := S.trans s8
    have o0 := o0.up s8
    have o1 := o1.up s8
    have o2 := o2.up s8
    have o3 := o3.up s8
    have o4 := o4.up s8
    have o5 := o5.up s8
    have o6 := o6.up s8
    have o7 := o7.up s8
    have lc := s8 _ _ lc
    refine ⟨_, rfl, t, _, 9, v9, rfl, rfl, SqL.of ht, atI_nat (j := 9) rfl, (show 1 ≤ 1000 by decide), ?_⟩
    refine err_of (fun a9 H9 s9 n9 o9 => ?_)
    have ht := s9 _ _ ht
    have S := S.trans s9
    have o0 := o0.up s9
    have o1 := o1.up s9
    have o2 := o2.up s9
    have o3 := o3.up s9
    have o4 := o4.up s9
    have o5 := o5.up s9
    have o6 := o6.up s9
    have o7 := o7.up s9
    have o8 := o8.up s9
    have lc := s9 _ _ lc
    refine ⟨_, rfl, t, _, 10, v10, rfl, rfl, SqL.of ht, atI_nat (j := 10) rfl, (show 1 ≤ 1000 by decide), ?_⟩
    refine err_of (fun a10 H10 s10 n10 o10 => ?_)
    have ht := s10 _ _ ht
    have S := S.trans s10
    have o0 := o0.up s10
    have o1 := o1.up s10
    have o2 := o2.up s10
    have o3 := o3.up s10
    have o4 := o4.up s10
    have o5 := o5.up s10
    have o6 := o6.up s10
    have o7 := o7.up s10
    have o8 := o8.up s10
    have o9 := o9.up s10
    have lc := s10 _ _ lc
    refine ⟨(show 5 ≤ sizeLine by decide), fun p1 h => ?_⟩
    have z := same_of_none (o := .lst [V.ref a6, V.ref a7, V.ref a8, V.ref a9, V.ref a10]) h
    have ln : (upd H10 p1 (.lst [V.ref a6, V.ref a7, V.ref a8, V.ref a9, V.ref a10])) p1 = some (.lst [V.ref a6, V.ref a7, V.ref a8, V.ref a9, V.ref a10]) := upd_same
    generalize upd H10 p1 (.lst [V.ref a6, V.ref a7, V.ref a8, V.ref a9, V.ref a10]) = J1 at z ln
    clear h
    have ht := z _ _ ht
    have S := S.trans z
    have o0 := o0.up z
    have o1 := o1.up z
    have o2 := o2.up z
    have o3 := o3.up z
    have o4 := o4.up z
    have o5 := o5.up z
    have o6 := o6.up z
    have o7 := o7.up z
    have o8 := o8.up z
    have o9 := o9.up z
    have o10 := o10.up z
    have lc := z _ _ lc
    refine ⟨p0, p1, _, _, rfl, rfl, lc, ln, (show 6 + 5 ≤ sizeLine by decide), fun c1 h => ?_⟩
    have z2 := same_of_none (o := .lst ([V.ref a0, V.ref a1, V.ref a2, V.ref a3, V.ref a4, V.ref a5] ++ [V.ref a6, V.ref a7, V.ref a8, V.ref a9, V.ref a10])) h
    have lc : (upd J1 c1 (.lst ([V.ref a0, V.ref a1, V.ref a2, V.ref a3, V.ref a4, V.ref a5] ++ [V.ref a6, V.ref a7, V.ref a8, V.ref a9, V.ref a10]))) c1 = some (.lst [V.ref a0, V.ref a1, V.ref a2, V.ref a3, V.ref a4, V.ref a5, V.ref a6, V.ref a7, V.ref a8, V.ref a9, V.ref a10]) := upd_same
    generalize upd J1 c1 (.lst ([V.ref a0, V.ref a1, V.ref a2, V.ref a3, V.ref a4, V.ref a5] ++ [V.ref a6, V.ref a7, V.ref a8, V.ref a9, V.ref a10])) = K1 at z2 lc
    clear h ln
    have ht := z2 _ _ ht
    have S := S.trans z2
    have o0 := o0.up z2
    have o1 := o1.up z2
    have o2 := o2.up z2
    have o3 := o3.up z2
    have o4 := o4.up z2
    have o5 := o5.up z2
    have o6 := o6.up z2
    have o7 := o7.up z2
    have o8 := o8.up z2
    have o9 := o9.up z2
    have o10 := o10.up z2
    refine ⟨_, rfl, _, rfl, t, _, 11, v11, rfl, rfl, SqL.of ht, atI_nat (j := 11) rfl, (show 1 ≤ 1000 by decide), ?_⟩
    refine err_of (fun a11 H11 s11 n11 o11 => ?_)
    have ht := s11 _ _ ht
    have S := S.trans s11
    have o0 := o0.up s11
    have o1 := o1.up s11
    have o2 := o2.up s11
    have o3 := o3.up s11
    have o4 := o4.up s11
    have o5 := o5.up s11
    have o6 := o6.up s11
    have o7 := o7.up s11
    have o8 := o8.up s11
    have o9 := o9.up s11
    have o10 := o10.up s11
    have lc := s11 _ _ lc
    intro a12 n12
    have s12 := same_of_none (o := exo a12 R.IsFirm.C none) n12
    have o12 : ErrO (upd H11 a12 (exo a12 R.IsFirm.C none)) a12 R.IsFirm.C [] := .inl ⟨upd_same, rfl⟩
    generalize upd H11 a12 (exo a12 R.IsFirm.C none) = H12 at s12 o12 ⊢
    have ht := s12 _ _ ht
    have S := S.trans s12
    have o0 := o0.up s12
    have o1 := o1.up s12
    have o2 := o2.up s12
    have o3 := o3.up s12
    have o4 := o4.up s12
    have o5 := o5.up s12
    have o6 := o6.up s12
    have o7 := o7.up s12
    have o8 := o8.up s12
    have o9 := o9.up s12
    have o10 := o10.up s12
    have o11 := o11.up s12
    have lc := s12 _ _ lc
    intro a13 n13
    have s13 := same_of_none (o := exo a13 R.IsSmooth.C none) n13
    have o13 : ErrO (upd H12 a13 (exo a13 R.IsSmooth.C none)) a13 R.IsSmooth.C [] := .inl ⟨upd_same, rfl⟩
    generalize upd H12 a13 (exo a13 R.IsSmooth.C none) = H13 at s13 o13 ⊢
    have ht := s13 _ _ ht
    have S := S.trans s13
    have o0 := o0.up s13
    have o1 := o1.up s13
    have o2 := o2.up s13
    have o3 := o3.up s13
    have o4 := o4.up s13
    have o5 := o5.up s13
    have o6 := o6.up s13
    have o7 := o7.up s13
    have o8 := o8.up s13
    have o9 := o9.up s13
    have o10 := o10.up s13
    have o11 := o11.up s13
    have o12 := o12.up s13
    have lc := s13 _ _ lc
    intro a14 n14
    have s14 := same_of_none (o := exo a14 R.NothingToUndo.C none) n14
    have o14 : ErrO (upd H13 a14 (exo a14 R.NothingToUndo.C none)) a14 R.NothingToUndo.C [] := .inl ⟨upd_same, rfl⟩
    generalize upd H13 a14 (exo a14 R.NothingToUndo.C none) = H14 at s14 o14 ⊢
    have ht := s14 _ _ ht
    have S := S.trans s14
    have o0 := o0.up s14
    have o1 := o1.up s14
    have o2 := o2.up s14
    have o3 := o3.up s14
    have o4 := o4.up s14
    have o5 := o5.up s14
    have o6 := o6.up s14
    have o7 := o7.up s14
    have o8 := o8.up s14
    have o9 := o9.up s14
    have o10 := o10.up s14
    have o11 := o11.up s14
    have o12 := o12.up s14
    have o13 := o13.up s14
    have lc := s14 _ _ lc
    refine ⟨(show 4 ≤ sizeLine by decide), fun p2 h => ?_⟩
    have z := same_of_none (o := .lst [V.ref a11, V.ref a12, V.ref a13, V.ref a14]) h
    have ln : (upd H14 p2 (.lst [V.ref a11, V.ref a12, V.ref a13, V.ref a14])) p2 = some (.lst [V.ref a11, V.ref a12, V.ref a13, V.ref a14]) := upd_same
    generalize upd H14 p2 (.lst [V.ref a11, V.ref a12, V.ref a13, V.ref a14]) = J2 at z ln
    clear h
    have ht := z _ _ ht
    have S := S.trans z
    have o0 := o0.up z
    have o1 := o1.up z
    have o2 := o2.up z
    have o3 := o3.up z
    have o4 := o4.up z
    have o5 := o5.up z
    have o6 := o6.up z
    have o7 := o7.up z
    have o8 := o8.up z
    have o9 := o9.up z
    have o10 := o10.up z
    have o11 := o11.up z
    have o12 := o12.up z
    have o13 := o13.up z
    have o14 := o14.up z
    have lc := z _ _ lc
    refine ⟨c1, p2, _, _, rfl, rfl, lc, ln, (show 11 + 4 ≤ sizeLine by decide), fun c2 h => ?_⟩
    refine q c2 _ (S.trans (same_of_none h)) (S.free h) ⟨[a0, a1, a2, a3, a4, a5, a6, a7, a8, a9, a10, a11, a12, a13, a14], rfl, upd_same, fun i e C he hC => ?_⟩
    have w := same_of_none (o := .lst ([V.ref a0, V.ref a1, V.ref a2, V.ref a3, V.ref a4, V.ref a5, V.ref a6, V.ref a7, V.ref a8, V.ref a9, V.ref a10] ++ [V.ref a11, V.ref a12, V.ref a13, V.ref a14])) h
    match i, he, hC with
    | 0, he, hC => cases he; cases hC; exact o0.up w
    | 1, he, hC => cases he; cases hC; exact o1.up w
    | 2, he, hC => cases he; cases hC; exact o2.up w
    | 3, he, hC => cases he; cases hC; exact o3.up w
    | 4, he, hC => cases he; cases hC; exact o4.up w
    | 5, he, hC => cases he; cases hC; exact o5.up w
    | 6, he, hC => cases he; cases hC; exact o6.up w
    | 7, he, hC => cases he; cases hC; exact o7.up w
    | 8, he, hC => cases he; cases hC; exact o8.up w
    | 9, he, hC => cases he; cases hC; exact o9.up w
    | 10, he, hC => cases he; cases hC; exact o10.up w
    | 11, he, hC => cases he; cases hC; exact o11.up w
    | 12, he, hC => cases he; cases hC; exact o12.up w
    | 13, he, hC => cases he; cases hC; exact o13.up w
    | 14, he, hC => cases he; cases hC; exact o14.up w
    | _ + 15, he, hC => cases he

abbrev s_Lnamed : Stmt := top 24
abbrev N_Lnamed : List Str := ["_law_t", "_law_made"]
theorem sc_Lnamed : FnScope ["_law_t", "_law_made"] ["_law_t"] (defScope s_Lnamed) := ⟨rfl, rfl, rfl, by decide +kernel, rfl, by decide +kernel, by decide +kernel⟩
set_option maxHeartbeats 20000000 in
theorem ok_Lnamed {f : Addr} {fd : FuncData} (F : Fun K "_law_named" "_law_named" s_Lnamed f fd) (T : TxtB mg) (R : Ers P w K mg base) : FnOk P w K mg base CX0 3 f fd ["_law_t"] (spAll R) := by
  refine F.ok sc_Lnamed (fun vs H Q E h => ?_) (fun cdv A outer s H vs Q E hr h => ?_)
  · obtain ⟨t, ts, rfl, _⟩ := h
    rfl
  · obtain ⟨t, ts, rfl, ht, hl, q⟩ := h
    refine ⟨_, (pss_cons (ps_set (i := 1) sc_Lnamed.nd rfl (.inl rfl) (pe_lst (pa_cons (pe_errK R.BadName.T R.BadName.I R.BadName.G (hr.mono (by decide)) R.BadName.kb pass0 (by rfl) R.BadName.g (pk_cons (pe_ix ix_list (pv 0) pe_int (fun _ _ => rfl)) pk_nil)) (pa_cons (pe_errK R.DuplicateName.T R.DuplicateName.I R.DuplicateName.G (hr.mono (by decide)) R.DuplicateName.kb pass0 (by rfl) R.DuplicateName.g (pk_cons (pe_ix ix_list (pv 0) pe_int (fun _ _ => rfl)) pk_nil)) (pa_cons (pe_errK R.UnknownName.T R.UnknownName.I R.UnknownName.G (hr.mono (by decide)) R.UnknownName.kb pass0 (by rfl) R.UnknownName.g (pk_cons (pe_ix ix_list (pv 0) pe_int (fun _ _ => rfl)) pk_nil)) (pa_cons (pe_errK R.BadCount.T R.BadCount.I R.BadCount.G (hr.mono (by decide)) R.BadCount.kb pass0 (by rfl) R.BadCount.g (pk_cons (pe_ix ix_list (pv 0) pe_int (fun _ _ => rfl)) pk_nil)) pa_nil))))))
      (pss_cons (ps_set (i := 1) sc_Lnamed.nd rfl (.inl rfl) (pe_op op_cat (pv 1) (pe_lst (pa_cons (pe_errK R.BadText.T R.BadText.I R.BadText.G (hr.mono (by decide)) R.BadText.kb pass0 (by rfl) R.BadText.g (pk_cons (pe_ix ix_list (pv 0) pe_int (fun _ _ => rfl)) pk_nil)) (pa_cons (pe_errK R.BadSet.T R.BadSet.I R.BadSet.G (hr.mono (by decide)) R.BadSet.kb pass0 (by rfl) R.BadSet.g (pk_cons (pe_ix ix_list (pv 0) pe_int (fun _ _ => rfl)) pk_nil)) (pa_cons (pe_errK R.BadCell.T R.BadCell.I R.BadCell.G (hr.mono (by decide)) R.BadCell.kb pass0 (by rfl) R.BadCell.g (pk_cons (pe_ix ix_list (pv 0) pe_int (fun _ _ => rfl)) pk_nil)) (pa_cons (pe_errK R.BadSide.T R.BadSide.I R.BadSide.G (hr.mono (by decide)) R.BadSide.kb pass0 (by rfl) R.BadSide.g (pk_cons (pe_ix ix_list (pv 0) pe_int (fun _ _ => rfl)) pk_nil)) pa_nil)))))))
      (pss_cons (ps_set (i := 1) sc_Lnamed.nd rfl (.inl rfl) (pe_op op_cat (pv 1) (pe_lst (pa_cons (pe_errK R.BadLine.T R.BadLine.I R.BadLine.G (hr.mono (by decide)) R.BadLine.kb pass0 (by rfl) R.BadLine.g (pk_cons (pe_ix ix_list (pv 0) pe_int (fun _ _ => rfl)) pk_nil)) (pa_cons (pe_errK R.BadWish.T R.BadWish.I R.BadWish.G (hr.mono (by decide)) R.BadWish.kb pass0 (by rfl) R.BadWish.g (pk_cons (pe_ix ix_list (pv 0) pe_int (fun _ _ => rfl)) pk_nil)) (pa_cons (pe_errK R.UnlikeOutcomes.T R.UnlikeOutcomes.I R.UnlikeOutcomes.G (hr.mono (by decide)) R.UnlikeOutcomes.kb pass0 (by rfl) R.UnlikeOutcomes.g (pk_cons (pe_ix ix_list (pv 0) pe_int (fun _ _ => rfl)) pk_nil)) (pa_cons (pe_errK R.NotFirm.T R.NotFirm.I R.NotFirm.G (hr.mono (by decide)) R.NotFirm.kb pass0 (by rfl) R.NotFirm.g (pk_cons (pe_ix ix_list (pv 0) pe_int (fun _ _ => rfl)) pk_nil)) pa_nil)))))))
      (pss_one (ps_ret (pe_op op_cat (pv 1) (pe_lst (pa_cons (pe_err0 PySem.F.excBase_ValueError R.IsFirm.q R.IsFirm.g R.IsFirm.kC (by rfl)) (pa_cons (pe_err0 PySem.F.excBase_ValueError R.IsSmooth.q R.IsSmooth.g R.IsSmooth.kC (by rfl)) (pa_cons (pe_err0 PySem.F.excBase_ValueError R.NothingToUndo.q R.NothingToUndo.g R.NothingToUndo.kC (by rfl)) pa_nil)))))))))), ?_⟩
    obtain ⟨v0, v1, v2, v3, v4, v5, v6, v7, v8, v9, v10, v11, rfl⟩ := len12 hl
    have S : Same H H := fun _ _ h => h
    refine ⟨_, rfl, t, _, 0, v0, rfl, rfl, SqL.of ht, atI_nat (j := 0) rfl, v0, rfl, ?_⟩
    refine err_of (fun a0 H0 s0 n0 o0 => ?_)
    have ht := s0 _ _ ht
    have S := S.trans s0
    refine ⟨_, rfl, t, _, 1, v1, rfl, rfl, SqL.of ht, atI_nat (j := 1) rfl, v1, rfl, ?_⟩
    refine err_of (fun a1 H1 s1 n1 o1 => ?_)
    have ht := s1 _ _ ht
    have S := S.trans s1
    have o0 := o0.up s1
    refine ⟨_, rfl, t, _, 2, v2, rfl, rfl, SqL.of ht, atI_nat (j := 2) rfl, v2, rfl, ?_⟩
    refine err_of (fun a2 H2 s2 n2 o2 => ?_)
    have ht := s2 _ _ ht
    have S := S.trans s2
    have o0 := o0.up s2
    have o1 := o1.up s2
    refine ⟨_, rfl, t, _, 3, v3, rfl, rfl, SqL.of ht, atI_nat (j := 3) rfl, v3, rfl, ?_⟩
    refine err_of (fun a3 H3 s3 n3 o3 => ?_)
    have ht := s3 _ _ ht
    have S := S.trans s3
    have o0 := o0.up s3
    have o1 := o1.up s3
    have o2 := o2.up s3
    refine ⟨(show 4 ≤ sizeLine by decide), fun p0 h => ?_⟩
    have z := same_of_none (o := .lst [V.ref a0, V.ref a1, V.ref a2, V.ref a3]) h
    have ln : (upd H3 p0 (.lst [V.ref a0, V.ref a1, V.ref a2, V.ref a3])) p0 = some (.lst [V.ref a0, V.ref a1, V.ref a2, V.ref a3]) := upd_same
    generalize upd H3 p0 (.lst [V.ref a0, V.ref a1, V.ref a2, V.ref a3]) = J0 at z ln
    clear h
    have ht := z _ _ ht
    have S := S.trans z
    have o0 := o0.up z
    have o1 := o1.up z
    have o2 := o2.up z
    have o3 := o3.up z
    have lc := ln
    clear ln
    refine ⟨_, rfl, _, rfl, t, _, 4, v4, rfl, rfl, SqL.of ht, atI_nat (j := 4) rfl, v4, rfl, ?_⟩
    refine err_of (fun a4 H4 s4 n4 o4 => ?_)
    have ht := s4 _ _ ht
    have S := S.trans s4
    have o0 := o0.up s4
    have o1 := o1.up s4
    have o2 := o2.up s4
    have o3 := o3.up s4
    have lc := s4 _ _ lc
    refine ⟨_, rfl, t, _, 5, v5, rfl, rfl, SqL.of ht, atI_nat (j := 5) rfl, v5, rfl, ?_⟩
    refine err_of (fun a5 H5 s5 n5 o5 => ?_)
    have ht := s5 _ _ ht
    have S := S.trans s5
    have o0 := o0.up s5
    have o1 := o1.up s5
    have o2 := o2.up s5
    have o3 := o3.up s5
    have o4 := o4.up s5
    have lc := s5 _ _ lc
    refine ⟨_, rfl, t, _, 6, v6, rfl, rfl, SqL.of ht, atI_nat (j := 6) rfl, v6, rfl, ?_⟩
    refine err_of (fun a6 H6 s6 n6 o6 => ?_)
    have ht := s6 _ _ ht
    have S := S.trans s6
    have o0 := o0.up s6
    have o1 := o1.up s6
    have o2 := o2.up s6
    have o3 := o3.up s6
    have o4 := o4.up s6
    have o5 := o5.up s6
    have lc := s6 _ _ lc
    refine ⟨_, rfl, t, _, 7, v7, rfl, rfl, SqL.of ht, atI_nat (j := 7) rfl, v7, rfl, ?_⟩
    refine err_of (fun a7 H7 s7 n7 o7 => ?_)
    have ht := s7 _ _ ht
    have S := S.trans s7
    have o0 := o0.up s7
    have o1 := o1.up s7
    have o2 := o2.up s7
    have o3 := o3.up s7
    have o4 := o4.up s7
    have o5 := o5.up s7
    have o6 := o6.up s7
    have lc := s7 _ _ lc
    refine ⟨(show 4 ≤ sizeLine by decide), fun p1 h => ?_⟩
    have z := same_of_none (o := .lst [V.ref a4, V.ref a5, V.ref a6, V.ref a7]) h
    have ln : (upd H7 p1 (.lst [V.ref a4, V.ref a5, V.ref a6, V.ref a7])) p1 = some (.lst [V.ref a4, V.ref a5, V.ref a6, V.ref a7]) := upd_same
    generalize upd H7 p1 (.lst [V.ref a4, V.ref a5, V.ref a6, V.ref a7]) = J1 at z ln
    clear h
    have ht := z _ _ ht
    have S := S.trans z
    have o0 := o0.up z
    have o1 := o1.up z
    have o2 := o2.up z
    have o3 := o3.up z
    have o4 := o4.up z
    have o5 := o5.up z
    have o6 := o6.up z
    have o7 := o7.up z
    have lc := z _ _ lc
    refine ⟨p0, p1, _, _, rfl, rfl, lc, ln, (show 4 + 4 ≤ sizeLine by decide), fun c1 h => ?_⟩
    have z2 := same_of_none (o := .lst ([V.ref a0, V.ref a1, V.ref a2, V.ref a3] ++ [V.ref a4, V.ref a5, V.ref a6, V.ref a7])) h
    have lc : (upd J1 c1 (.lst ([V.ref a0, V.ref a1, V.ref a2, V.ref a3] ++ [V.ref a4, V.ref a5, V.ref a6, V.ref a7]))) c1 = some (.lst [V.ref a0, V.ref a1, V.ref a2, V.ref a3, V.ref a4, V.ref a5, V.ref a6, V.ref a7]) := upd_same
    generalize upd J1 c1 (.lst ([V.ref a0, V.ref a1, V.ref a2, V.ref a3] ++ [V.ref a4, V.ref a5, V.ref a6, V.ref a7])) = K1 at z2 lc
    clear h ln
    have ht := z2 _ _ ht
    have S := S.trans z2
    have o0 := o0.up z2
    have o1 := o1.up z2
    have o2 := o2.up z2
    have o3 := o3.up z2
    have o4 := o4.up z2
    have o5 := o5.up z2
    have o6 := o6.up z2
    have o7 := o7.up z2
    refine ⟨_, rfl, _, rfl, t, _, 8, v8, rfl, rfl, SqL.of ht, atI_nat (j := 8) rfl, v8, rfl, ?_⟩
    refine err_of (fun a8 H8 s8 n8 o8 => ?_)
    have ht := s8 _ _ ht
    have S := S.trans s8
    have o0 := o0.up s8
    have o1 := o1.up s8
    have o2 := o2.up s8
    have o3 := o3.up s8
    have o4 := o4.up s8
    have o5 := o5.up s8
    have o6 := o6.up s8
    have o7 := o7.up s8
    have lc := s8 _ _ lc
    refine ⟨_, rfl, t, _, 9, v9, rfl, rfl, SqL.of ht, atI_nat (j := 9) rfl, v9, rfl, ?_⟩
    refine err_of (fun a9 H9 s9 n9 o9 => ?_)
    have ht := s9 _ _ ht
    have S := S.trans s9
    have o0 := o0.up s9
    have o1 := o1.up s9
    have o2 := o2.up s9
    have o3 := o3.up s9
    have o4 := o4.up s9
    have o5 := o5.up s9
    have o6 := o6.up s9
    have o7 := o7.up s9
    have o8 := o8.up s9
    have lc := s9 _ _ lc
    refine ⟨_, rfl, t, _, 10, v10, rfl, rfl, SqL.of ht, atI_nat (j := 10) rfl, v10, rfl, ?_⟩
    refine err_of (fun a10 H10 s10 n10 o10 => ?_)
    have ht := s10 _ _ ht
    have S := S.trans s10
    have o0 := o0.up s10
    have o1 := o1.up s10
    have o2 := o2.up s10
    have o3 := o3.up s10
    have o4 := o4.up s10
    have o5 := o5.up s10
    have o6 := o6.up s10
    have o7 := o7.up s10
    have o8 := o8.up s10
    have o9 := o9.up s10
    have lc := s10 _ _ lc
    refine ⟨_, rfl, t, _, 11, v11, rfl, rfl, SqL.of ht, atI_nat (j := 11) rfl, v11, rfl, ?_⟩
    refine err_of (fun a11 H11 s11 n11 o11 => ?_)
    have ht := s11 _ _ ht
    have S := S.trans s11
    have o0 := o0.up s11
    have o1 := o1.up s11
    have o2 := o2.up s11
    have o3 := o3.up s11
    have o4 := o4.up s11
    have o5 := o5.up s11
    have o6 := o6.up s11
    have o7 := o7.up s11
    have o8 := o8.up s11
    have o9 := o9.up s11
    have o10 := o10.up s11
    have lc := s11 _ _ lc
    refine ⟨(show 4 ≤ sizeLine by decide), fun p2 h => ?_⟩
    have z := same_of_none (o := .lst [V.ref a8, V.ref a9, V.ref a10, V.ref a11]) h
    have ln : (upd H11 p2 (.lst [V.ref a8, V.ref a9, V.ref a10, V.ref a11])) p2 = some (.lst [V.ref a8, V.ref a9, V.ref a10, V.ref a11]) := upd_same
    generalize upd H11 p2 (.lst [V.ref a8, V.ref a9, V.ref a10, V.ref a11]) = J2 at z ln
    clear h
    have ht := z _ _ ht
    have S := S.trans z
    have o0 := o0.up z
    have o1 := o1.up z
    have o2 := o2.up z
    have o3 := o3.up z
    have o4 := o4.up z
    have o5 := o5.up z
    have o6 := o6.up z
    have o7 := o7.up z
    have o8 := o8.up z
    have o9 := o9.up z
    have o10 := o10.up z
    have o11 := o11.up z
    have lc := z _ _ lc
    refine ⟨c1, p2, _, _, rfl, rfl, lc, ln, (show 8 + 4 ≤ sizeLine by decide), fun c2 h => ?_⟩
    have z2 := same_of_none (o := .lst ([V.ref a0, V.ref a1, V.ref a2, V.ref a3, V.ref a4, V.ref a5, V.ref a6, V.ref a7] ++ [V.ref a8, V.ref a9, V.ref a10, V.ref a11])) h
    have lc : (upd J2 c2 (.lst ([V.ref a0, V.ref a1, V.ref a2, V.ref a3, V.ref a4, V.ref a5, V.ref a6, V.ref a7] ++ [V.ref a8, V.ref a9, V.ref a10, V.ref a11]))) c2 = some (.lst [V.ref a0, V.ref a1, V.ref a2, V.ref a3, V.ref a4, V.ref a5, V.ref a6, V.ref a7, V.ref a8, V.ref a9, V.ref a10, V.ref a11]) := upd_same
    generalize upd J2 c2 (.lst ([V.ref a0, V.ref a1, V.ref a2, V.ref a3, V.ref a4, V.ref a5, V.ref a6, V.ref a7] ++ [V.ref a8, V.ref a9, V.ref a10, V.ref a11])) = K2 at z2 lc
    clear h ln
    have ht := z2 _ _ ht
    have S := S.trans z2
    have o0 := o0.up z2
    have o1 := o1.up z2
    have o2 := o2.up z2
    have o3 := o3.up z2
    have o4 := o4.up z2
    have o5 := o5.up z2
    have o6 := o6.up z2
    have o7 := o7.up z2
    have o8 := o8.up z2
    have o9 := o9.up z2
    have o10 := o10.up z2
    have o11 := o11.up z2
    refine ⟨_, rfl, ?_⟩
    intro a12 n12
    have s12 := same_of_none (o := exo a12 R.IsFirm.C none) n12
    have o12 : ErrO (upd K2 a12 (exo a12 R.IsFirm.C none)) a12 R.IsFirm.C [] := .inl ⟨upd_same, rfl⟩
    generalize upd K2 a12 (exo a12 R.IsFirm.C none) = H12 at s12 o12 ⊢
    have ht := s12 _ _ ht
    have S := S.trans s12
    have o0 := o0.up s12
    have o1 := o1.up s12
    have o2 := o2.up s12
    have o3 := o3.up s12
    have o4 := o4.up s12
    have o5 := o5.up s12
    have o6 := o6.up s12
    have o7 := o7.up s12
    have o8 := o8.up s12
    have o9 := o9.up s12
    have o10 := o10.up s12
    have o11 := o11.up s12
    have lc := s12 _ _ lc
    intro a13 n13
    have s13 := same_of_none (o := exo a13 R.IsSmooth.C none) n13
    have o13 : ErrO (upd H12 a13 (exo a13 R.IsSmooth.C none)) a13 R.IsSmooth.C [] := .inl ⟨upd_same, rfl⟩
    generalize upd H12 a13 (exo a13 R.IsSmooth.C none) = H13 at s13 o13 ⊢
    have ht := s13 _ _ ht
    have S := S.trans s13
    have o0 := o0.up s13
    have o1 := o1.up s13
    have o2 := o2.up s13
    have o3 := o3.up s13
    have o4 := o4.up s13
    have o5 := o5.up s13
    have o6 := o6.up s13
    have o7 := o7.up s13
    have o8 := o8.up s13
    have o9 := o9.up s13
    have o10 := o10.up s13
    have o11 := o11.up s13
    have o12 := o12.up s13
    have lc := s13 _ _ lc
    intro a14 n14
    have s14 := same_of_none (o := exo a14 R.NothingToUndo.C none) n14
    have o14 : ErrO (upd H13 a14 (exo a14 R.NothingToUndo.C none)) a14 R.NothingToUndo.C [] := .inl ⟨upd_same, rfl⟩
    generalize upd H13 a14 (exo a14 R.NothingToUndo.C none) = H14 at s14 o14 ⊢
    have ht := s14 _ _ ht
    have S := S.trans s14
    have o0 := o0.up s14
    have o1 := o1.up s14
    have o2 := o2.up s14
    have o3 := o3.up s14
    have o4 := o4.up s14
    have o5 := o5.up s14
    have o6 := o6.up s14
    have o7 := o7.up s14
    have o8 := o8.up s14
    have o9 := o9.up s14
    have o10 := o10.up s14
    have o11 := o11.up s14
    have o12 := o12.up s14
    have o13 := o13.up s14
    have lc := s14 _ _ lc
    refine ⟨(show 3 ≤ sizeLine by decide), fun p3 h => ?_⟩
    have z := same_of_none (o := .lst [V.ref a12, V.ref a13, V.ref a14]) h
    have ln : (upd H14 p3 (.lst [V.ref a12, V.ref a13, V.ref a14])) p3 = some (.lst [V.ref a12, V.ref a13, V.ref a14]) := upd_same
    generalize upd H14 p3 (.lst [V.ref a12, V.ref a13, V.ref a14]) = J3 at z ln
    clear h
    have ht := z _ _ ht
    have S := S.trans z
    have o0 := o0.up z
    have o1 := o1.up z
    have o2 := o2.up z
    have o3 := o3.up z
    have o4 := o4.up z
    have o5 := o5.up z
    have o6 := o6.up z
    have o7 := o7.up z
    have o8 := o8.up z
    have o9 := o9.up z
    have o10 := o10.up z
    have o11 := o11.up z
    have o12 := o12.up z
    have o13 := o13.up z
    have o14 := o14.up z
    have lc := z _ _ lc
    refine ⟨c2, p3, _, _, rfl, rfl, lc, ln, (show 12 + 3 ≤ sizeLine by decide), fun c3 h => ?_⟩
    refine q c3 _ (S.trans (same_of_none h)) (S.free h) ⟨[a0, a1, a2, a3, a4, a5, a6, a7, a8, a9, a10, a11, a12, a13, a14], rfl, upd_same, fun i e C he hC => ?_⟩
    have w := same_of_none (o := .lst ([V.ref a0, V.ref a1, V.ref a2, V.ref a3, V.ref a4, V.ref a5, V.ref a6, V.ref a7, V.ref a8, V.ref a9, V.ref a10, V.ref a11] ++ [V.ref a12, V.ref a13, V.ref a14])) h
    match i, he, hC with
    | 0, he, hC => cases he; cases hC; exact o0.up w
    | 1, he, hC => cases he; cases hC; exact o1.up w
    | 2, he, hC => cases he; cases hC; exact o2.up w
    | 3, he, hC => cases he; cases hC; exact o3.up w
    | 4, he, hC => cases he; cases hC; exact o4.up w
    | 5, he, hC => cases he; cases hC; exact o5.up w
    | 6, he, hC => cases he; cases hC; exact o6.up w
    | 7, he, hC => cases he; cases hC; exact o7.up w
    | 8, he, hC => cases he; cases hC; exact o8.up w
    | 9, he, hC => cases he; cases hC; exact o9.up w
    | 10, he, hC => cases he; cases hC; exact o10.up w
    | 11, he, hC => cases he; cases hC; exact o11.up w
    | 12, he, hC => cases he; cases hC; exact o12.up w
    | 13, he, hC => cases he; cases hC; exact o13.up w
    | 14, he, hC => cases he; cases hC; exact o14.up w
    | _ + 15, he, hC => cases he

abbrev s_Lthing : Stmt := top 22
abbrev N_Lthing : List Str := ["_law_state", "_law_amount", "_law_signs_here", "_law_scrap", "_law_k"]
theorem sc_Lthing : FnScope ["_law_state", "_law_amount", "_law_signs_here", "_law_scrap", "_law_k"] ["_law_state"] (defScope s_Lthing) := ⟨rfl, rfl, rfl, by decide +kernel, rfl, by decide +kernel, by decide +kernel⟩
theorem cpow1028 : CPow 10 28 := ⟨by decide, by decide, by decide⟩
set_option maxHeartbeats 20000000 in
theorem ok_Lthing {f : Addr} {fd : FuncData} (F : Fun K "_law_thing" "_law_thing" s_Lthing f fd) (T : TxtB mg) (c_Ldraw : Cal P w K mg base "_law_draw" CX0 1 ["_law_state", "_law_size"] spDraw) (c_Lsigns : Cal P w K mg base "_law_signs" CX0 1 [] spSigns) : FnOk P w K mg base CX0 2 f fd ["_law_state"] spThing := by
  refine F.ok sc_Lthing (fun vs H Q E h => ?_) (fun cdv A outer s H vs Q E hr h => ?_)
  · obtain ⟨s, N, G, rfl, _⟩ := h
    rfl
  · obtain ⟨s, N, G, rfl, v, hN, q⟩ := h
    refine ⟨_, (pss_cons (ps_set (i := 1) sc_Lthing.nd rfl (.inl rfl) (pe_op op_sub (pe_call c_Ldraw.G (hr.mono (by decide)) (by rfl) c_Ldraw.g c_Ldraw.kp c_Ldraw.b .nil pass0 (pa_cons (pv 0) (pa_cons pe_int pa_nil))) pe_int))
      (pss_cons (ps_set (i := 2) sc_Lthing.nd rfl (.inr rfl) (pe_call0 c_Lsigns.G (hr.mono (by decide)) (by rfl) c_Lsigns.g c_Lsigns.kp c_Lsigns.b .nil pass0))
      (pss_cons (ps_set (i := 3) sc_Lthing.nd rfl (.inl rfl) (pe_join pe_str (pe_lc (own := [("_law_k", 4)]) (g := gName 4) (tt := tYes) rfl sc_Lthing.nd (pi_range1 rfl T.z_range (pa_cons (pe_call c_Ldraw.G (hr.mono (by decide)) (by rfl) c_Ldraw.g c_Ldraw.kp c_Ldraw.b .nil pass0 (pa_cons (pv 0) (pa_cons pe_int pa_nil))) pa_nil)) (blkOk_by (own := [("_law_k", 4)]) (N := N_Lthing) (sc := defScope s_Lthing) (by decide +kernel)) (fun _ _ _ _ _ => (pg_name (i := 4) sc_Lthing.nd rfl (.inl rfl))) (fun _ _ _ _ _ => pts_nil) (fun _ _ _ _ _ => (pe_ix ix_str (pv 2) (pe_call c_Ldraw.G (hr.mono (by decide)) (by rfl) c_Ldraw.g c_Ldraw.kp c_Ldraw.b .nil pass0 (pa_cons (pv 0) (pa_cons (pe_callB call_len_str (by rfl) T.z_len PySem.boot_len (pa_cons (pv 2) pa_nil)) pa_nil))) (fun _ _ => rfl))))))
      (pss_one (ps_ret (pe_ix ix_list (pe_lst (pa_cons (pv 3) (pa_cons (pv 1) (pa_cons pe_non (pa_cons (pe_tup (pa_cons (pv 3) (pa_cons (pv 1) pa_nil))) (pa_cons (pe_op op_sub (pe_un un_neg (pe_op op_pow pe_int pe_int)) (pv 1)) (pa_cons pe_str (pa_cons pe_int (pa_cons pe_bl (pa_cons (pe_disp (pps_cons (pv 3) pe_int pps_nil) (by rfl) (by rfl) (fun z => by cases z) (by decide)) pa_nil)))))))))) (pe_call c_Ldraw.G (hr.mono (by decide)) (by rfl) c_Ldraw.g c_Ldraw.kp c_Ldraw.b .nil pass0 (pa_cons (pv 0) (pa_cons pe_int pa_nil))) (fun _ _ => rfl))))))), ?_⟩
    refine ⟨_, rfl, s, N, G, 2000001, rfl, v, by omega, by decide, by decide, fun d H1 d0 d1 v => ⟨d, 1000000, rfl, rfl, ?_⟩⟩
    refine ⟨rfl, ?_⟩
    refine ⟨⟨_, rfl⟩, _, rfl, s, _, _, 6, rfl, v, by omega, by decide, by decide, fun n5 H2 n0 n1 v => ⟨n5, rfl, by omega, by omega, fun D hD => ?_⟩⟩
    refine lc_signsD (n := n5.toNat) (S := signsS.cps.toList) v (by omega) ?_ ?_ (fun cs H3 hD hcl hcm v => ?_) hD
    · exact fun _ => rfl
    · intro x i G' H' Q' hi v k
      refine ⟨_, rfl, _, rfl, _, rfl, signsS, rfl, by decide +kernel, s, _, _, (signsS.length : Int), rfl, v, by omega, by decide +kernel, by decide +kernel, fun e H3 e0 e1 v => ?_⟩
      obtain ⟨ch, h1, h2⟩ := pick signsS e0 e1
      exact ⟨signsS, e, ch, rfl, rfl, by decide +kernel, h1, k ch H3 h2 v⟩
    refine ⟨Str.ofString "", D, cs.map (fun c => (⟨#[c]⟩ : Str)), rfl, rfl, .inl (SqL.of (by rw [sgn_strs]; exact v.sub _ _ upd_same)), ?_, ?_⟩
    · rw [ones_len, List.length_map, show (Str.ofString "").length = 0 by decide +kernel]
      omega
    have v := v.hide hD
    generalize Txt.join (Str.ofString "") (cs.map (fun c => (⟨#[c]⟩ : Str))) = sc
    refine ⟨_, rfl, _, rfl, _, rfl, _, rfl, (show 2 ≤ sizeLine by decide), fun t ht => ?_⟩
    have hGt := v.free ht
    have v := v.new (o := .tup [V.str sc, .int (d - 1000000)]) ht
    refine ⟨_, _, rfl, rfl, cpow1028, _, rfl, _, rfl, _, _, rfl, rfl, fun p hp => ?_⟩
    have hGp := v.free hp
    refine ⟨_, rfl, upd_same, [((Sum.inr sc : Key), V.int 1)], rfl, (show 1 ≤ 15 by decide), (show 9 ≤ sizeLine by decide), fun m hm => ?_⟩
    rw [upd_upd] at hm ⊢
    have v := v.new (o := .dK (mergeK [] [((Sum.inr sc : Key), V.int 1)])) hp
    have hGm := v.free hm
    have tp : t ≠ p := fun z => by rw [z, upd_same] at hGp; cases hGp
    have sG : Same G (upd (upd G t (.tup [V.str sc, .int (d - 1000000)])) p (.dK (mergeK [] [((Sum.inr sc : Key), V.int 1)]))) := (same_of_none hGt).trans (same_of_none hGp)
    have k1 : (upd (upd G t (.tup [V.str sc, .int (d - 1000000)])) p (.dK (mergeK [] [((Sum.inr sc : Key), V.int 1)]))) t = some (.tup [V.str sc, .int (d - 1000000)]) := by rw [upd_ne tp]; exact upd_same
    have k2 : (upd (upd G t (.tup [V.str sc, .int (d - 1000000)])) p (.dK (mergeK [] [((Sum.inr sc : Key), V.int 1)]))) p = some (.dK (mergeK [] [((Sum.inr sc : Key), V.int 1)])) := upd_same
    refine ⟨_, rfl, s, _, _, 9, rfl, v.new hm, by omega, by decide, by decide, fun x H4 x0 x1 v => ?_⟩
    have hl := v.sub _ _ upd_same
    have v := v.hide hGm
    generalize upd (upd G t (.tup [V.str sc, .int (d - 1000000)])) p (.dK (mergeK [] [((Sum.inr sc : Key), V.int 1)])) = G2 at v sG k1 k2
    have fin : ∀ u, Thg G2 u → Q u H4 := fun u k => q u G2 H4 sG (v.mono (by omega)) k
    obtain ⟨j, rfl⟩ := Int.eq_ofNat_of_zero_le x0
    have hj : j < 9 := by omega
    match j, hj with
    | 0, _ => exact ⟨m, _, _, _, rfl, rfl, SqL.of hl, atI_nat (j := 0) rfl, fin _ (.str _)⟩
    | 1, _ => exact ⟨m, _, _, _, rfl, rfl, SqL.of hl, atI_nat (j := 1) rfl, fin _ (.int _)⟩
    | 2, _ => exact ⟨m, _, _, _, rfl, rfl, SqL.of hl, atI_nat (j := 2) rfl, fin _ .non⟩
    | 3, _ => exact ⟨m, _, _, _, rfl, rfl, SqL.of hl, atI_nat (j := 3) rfl, fin _ (.tup k1)⟩
    | 4, _ => exact ⟨m, _, _, _, rfl, rfl, SqL.of hl, atI_nat (j := 4) rfl, fin _ (.int _)⟩
    | 5, _ => exact ⟨m, _, _, _, rfl, rfl, SqL.of hl, atI_nat (j := 5) rfl, fin _ (.str _)⟩
    | 6, _ => exact ⟨m, _, _, _, rfl, rfl, SqL.of hl, atI_nat (j := 6) rfl, fin _ (.int _)⟩
    | 7, _ => exact ⟨m, _, _, _, rfl, rfl, SqL.of hl, atI_nat (j := 7) rfl, fin _ (.bl _)⟩
    | 8, _ => exact ⟨m, _, _, _, rfl, rfl, SqL.of hl, atI_nat (j := 8) rfl, fin _ (.dic k2)⟩

abbrev s_Lkeeps : Stmt := top 25
abbrev N_Lkeeps : List Str := ["_law_made", "_law_t", "_law_k", "_law_told", "_law_truths", "_law_j", "_law_item"]
theorem sc_Lkeeps : FnScope ["_law_made", "_law_t", "_law_k", "_law_told", "_law_truths", "_law_j", "_law_item"] ["_law_made", "_law_t"] (defScope s_Lkeeps) := ⟨rfl, rfl, rfl, by decide +kernel, rfl, by decide +kernel, by decide +kernel⟩
theorem cond_ifS {tc : TT} {t u : TS} {D : Ends} {σ : L2.St} {H : Hp} (hc : ∀ K : Bool → Hp → Prop, (∀ H', Same H H' → K false H') → tc σ H K) (hu : ∀ H', Same H H' → u D σ H') : tIfS tc t u D σ H := hc _ fun H' s => by
  rw [if_neg Bool.false_ne_true]
  exact hu H' s
theorem cond_seq {tc : TT} {t u r : TS} {D : Ends} {σ : L2.St} {H : Hp} (hc : ∀ K : Bool → Hp → Prop, (∀ H', Same H H' → K false H') → tc σ H K) (hu : ∀ H', Same H H' → u { D with nx := r D } σ H') : tSeq (tIfS tc t u) r D σ H := cond_ifS hc hu
theorem kno {K : Bool → Hp → Prop} {H : Hp} {b : Bool} (k : K false H) (h : b = false) : K b H := by rw [h]; exact k
set_option maxHeartbeats 20000000 in
theorem ok_Lkeeps {f : Addr} {fd : FuncData} (F : Fun K "_law_keeps" "_law_keeps" s_Lkeeps f fd) (T : TxtB mg) (R : Ers P w K mg base) (O : ErsOk R) (c_Lkinds : Cal P w K mg base "_law_kinds" CX0 1 ["_law_e"] (spKinds R)) : FnOk P w K mg base CX0 2 f fd ["_law_made", "_law_t"] (spKeeps R) := by
  refine F.ok sc_Lkeeps (fun vs H Q E h => ?_) (fun cdv A outer s H vs Q E hr h => ?_)
  · obtain ⟨m, t, ts, rfl, _⟩ := h
    rfl
  · obtain ⟨m, t, ts, rfl, ⟨es, h15, hm, hE⟩, ht, hl, th, q⟩ := h
    refine ⟨_, (pss_cons (ps_for PassesOwn.never rfl (pi_range1 rfl T.z_range (pa_cons pe_int pa_nil)) (pg_name (i := 2) sc_Lkeeps.nd rfl (.inr rfl)) (pss_cons (ps_if (PW.pt (pw_or (pt_not (pt_val (pe_callB call_isX (by rfl) T.z_isinstance (by decide +kernel) (pa_cons (pe_ix ix_list (pv 0) (pv 2) (fun _ _ => rfl)) (pa_cons (pe_glob (v := .ref R.ChooserError.C) (by rfl) R.ChooserError.g rfl) pa_nil))))) (pw_or1 (pt_not (pt_val (pe_callB call_isX (by rfl) T.z_isinstance (by decide +kernel) (pa_cons (pe_ix ix_list (pv 0) (pv 2) (fun _ _ => rfl)) (pa_cons (pe_bltn (v := .ty "ValueError") (by rfl) T.z_ValueError (by decide +kernel) rfl) pa_nil)))))))) (pss_one (ps_ret pe_bl)) pss_nil)
      (pss_one (ps_if (pt_cmpR (op_neD hr.units) (pe_call c_Lkinds.G (hr.mono (by decide)) (by rfl) c_Lkinds.g c_Lkinds.kp c_Lkinds.b .nil pass0 (pa_cons (pe_ix ix_list (pv 0) (pv 2) (fun _ _ => rfl)) pa_nil)) (pe_lc (own := [("_law_j", 5)]) (g := gName 5) (tt := tYes) rfl sc_Lkeeps.nd (pi_range1 rfl T.z_range (pa_cons pe_int pa_nil)) (blkOk_by (own := [("_law_j", 5)]) (N := N_Lkeeps) (sc := defScope s_Lkeeps) (by decide +kernel)) (fun _ _ _ _ _ => (pg_name (i := 5) sc_Lkeeps.nd rfl (.inl rfl))) (fun _ _ _ _ _ => pts_nil) (fun _ _ _ _ _ => (pe_cmpR op_eq (pv 5) (pv 2) (nomark _)))) (nomark _)) (pss_one (ps_ret pe_bl)) pss_nil))))
      (pss_cons (ps_set (i := 3) sc_Lkeeps.nd rfl (.inl rfl) (pe_lst (pa_cons (pe_errF (pe_ix ix_list (pv 0) pe_int (fun _ _ => rfl))) (pa_cons (pe_errF (pe_ix ix_list (pv 0) pe_int (fun _ _ => rfl))) (pa_cons (pe_errF (pe_ix ix_list (pv 0) pe_int (fun _ _ => rfl))) (pa_cons (pe_errF (pe_ix ix_list (pv 0) pe_int (fun _ _ => rfl))) (pa_cons (pe_errF (pe_ix ix_list (pv 0) pe_int (fun _ _ => rfl))) (pa_cons (pe_errF (pe_ix ix_list (pv 0) pe_int (fun _ _ => rfl))) pa_nil))))))))
      (pss_cons (ps_set (i := 3) sc_Lkeeps.nd rfl (.inl rfl) (pe_op op_cat (pv 3) (pe_lst (pa_cons (pe_errF (pe_ix ix_list (pv 0) pe_int (fun _ _ => rfl))) (pa_cons (pe_errF (pe_ix ix_list (pv 0) pe_int (fun _ _ => rfl))) (pa_cons (pe_errF (pe_ix ix_list (pv 0) pe_int (fun _ _ => rfl))) (pa_cons (pe_errF (pe_ix ix_list (pv 0) pe_int (fun _ _ => rfl))) (pa_cons (pe_errF (pe_ix ix_list (pv 0) pe_int (fun _ _ => rfl))) (pa_cons (pe_errF (pe_ix ix_list (pv 0) pe_int (fun _ _ => rfl))) pa_nil)))))))))
      (pss_cons (ps_setLc (i := 4) (own := [("_law_item", 6)]) (g := gName 6) (tt := tYes) rfl sc_Lkeeps.nd rfl rfl (sw_true rfl rfl rfl (by decide +kernel)) (pi_list (pv 3)) (blkOk_by (own := [("_law_item", 6)]) (N := N_Lkeeps) (sc := defScope s_Lkeeps) (by decide +kernel)) (fun _ _ _ _ _ => (pg_name (i := 6) sc_Lkeeps.nd rfl (.inl rfl))) (fun _ _ _ _ _ => pts_nil) (fun _ _ _ _ _ => (pe_callB (call_isiF (K := K) rfl) (by rfl) T.z_isinstance (by decide +kernel) (pa_cons (pv 6) (pa_cons (pe_bltn (v := .ty "bool") (by rfl) T.z_bool (by decide +kernel) rfl) pa_nil)))))
      (pss_one (ps_ret (pe_and (pe_cmpR (op_eqT (hu100 hr)) (pv 3) (pv 1) (nomark _)) (pe_one (pe_cmpR (op_eqD hr.units) (pv 4) (pe_lc (own := [("_law_item", 6)]) (g := gName 6) (tt := tYes) rfl sc_Lkeeps.nd (pi_list (pv 1)) (blkOk_by (own := [("_law_item", 6)]) (N := N_Lkeeps) (sc := defScope s_Lkeeps) (by decide +kernel)) (fun _ _ _ _ _ => (pg_name (i := 6) sc_Lkeeps.nd rfl (.inl rfl))) (fun _ _ _ _ _ => pts_nil) (fun _ _ _ _ _ => (pe_callB (call_isiF (K := K) rfl) (by rfl) T.z_isinstance (by decide +kernel) (pa_cons (pv 6) (pa_cons (pe_bltn (v := .ty "bool") (by rfl) T.z_bool (by decide +kernel) rfl) pa_nil))))) (nomark _)))))))))), ?_⟩
    refine ⟨15, rfl, by decide, by decide, for_range (lo := 0) (n := 15) (fun i σ H' => (∃ a2, σ = [some (.ref m), some (.ref t), a2, none, none, none, none]) ∧ Same H H') ⟨⟨none, rfl⟩, fun _ _ h => h⟩ (fun i σ' H' hi hP => ?_) (fun σ' H' hP => ?_)⟩
    · obtain ⟨⟨a2, rfl⟩, S⟩ := hP
      obtain ⟨e, he⟩ : ∃ e, es[i]? = some e := ⟨_, List.getElem?_eq_getElem (by omega)⟩
      obtain ⟨C, hC⟩ : ∃ C, R.cs[i]? = some C := ⟨_, List.getElem?_eq_getElem (show i < 15 from hi)⟩
      have hm := S _ _ hm
      have hO := (hE i e C he hC).up S
      have mem := List.mem_of_getElem? hC
      have k := O.E C mem
      have hat : atI (es.map V.ref) (0 + (i : Int)) = some (.ref e) := by
        rw [Int.zero_add]
        exact atI_nat (by rw [List.getElem?_map, he]; rfl)
      dsimp only [gName]
      refine cond_seq (fun kk qq => ?_) (fun H2 s2 => ?_)
      · refine ⟨_, rfl, _, rfl, m, _, _, _, rfl, rfl, SqL.of hm, hat, e, C, _, _, _, _, rfl, hO, k, .own _, O.ch C mem, _, rfl, dec_false rfl ?_⟩
        exact ⟨_, rfl, _, rfl, m, _, _, _, rfl, rfl, SqL.of hm, hat, e, C, _, _, _, _, rfl, hO, k, .ty _, O.ve C mem, _, rfl, kno (qq _ (fun _ _ h => h)) rfl⟩
      have hm := s2 _ _ hm
      have hO := hO.up s2
      have S := S.trans s2
      dsimp only [tNext]
      refine cond_ifS (fun kk qq => ?_) (fun H3 s3 => ⟨⟨_, rfl⟩, S.trans s3⟩)
      refine ⟨_, rfl, _, rfl, m, _, _, _, rfl, rfl, SqL.of hm, hat, ?_⟩
      dsimp only [tNil]
      refine ⟨e, C, _, i, rfl, hO, hC, fun p H3 s3 n3 hp => ?_⟩
      refine ⟨15, rfl, by decide, by decide, fun D hD => ?_⟩
      refine lc_range (lo := 0) (n := 15) (fun j Hx => Hx = upd H3 D (.lst (((List.range j).map fun x => decide (x = i)).map V.bl))) rfl ?_ ?_
      · rintro j Hx hj rfl
        refine ⟨rfl, _, rfl, _, rfl, rfl, _, upd_same, small1000 (by rw [List.length_map, List.length_map, List.length_range]; omega), ?_⟩
        rw [upd_upd, List.range_succ, List.map_append, List.map_append]
        have : decide (V.int (0 + (j : Int)) = V.int (0 + (i : Int))) = decide (j = i) := by
          rw [decide_eq_decide]
          exact ⟨fun z => by have := V.int.inj z; omega, fun z => by rw [z]⟩
        show upd H3 D (.lst (((List.range j).map fun x => decide (x = i)).map V.bl ++ [V.bl (decide (V.int (0 + (j : Int)) = V.int (0 + (i : Int))))])) = _
        rw [this]
        rfl
      · rintro Hx rfl
        have s4 := same_of_none (o := .lst (((List.range 15).map fun x => decide (x = i)).map V.bl)) hD
        have hp4 := s4 _ _ hp
        refine ⟨_, _, dp_bools ((List.range 15).map fun x => decide (x = i)) (by rw [hp4, List.map_map]; rfl), dp_bools ((List.range 15).map fun x => decide (x = i)) upd_same, shaped_bools _, shaped_bools _, _, rfl, kno (qq _ (s3.trans s4)) ?_⟩
        rw [eqv_bools]
        rfl
    obtain ⟨⟨a2, rfl⟩, S⟩ := hP
    obtain ⟨v0, v1, v2, v3, v4, v5, v6, v7, v8, v9, v10, v11, rfl⟩ := len12 hl
    obtain ⟨e0, e1, e2, e3, e4, e5, e6, e7, e8, e9, e10, e11, e12, e13, e14, rfl⟩ := len15 h15
    have hm := S _ _ hm
    have ht := S _ _ ht
    have o0 : ErrO H' e0 R.BadName.C [(fnames[0], v0)] := (hE 0 e0 _ rfl rfl).up S
    have x0 := (O.E R.BadName.C (List.mem_of_getElem? (i := 0) rfl)).xf
    have o1 : ErrO H' e1 R.DuplicateName.C [(fnames[1], v1)] := (hE 1 e1 _ rfl rfl).up S
    have x1 := (O.E R.DuplicateName.C (List.mem_of_getElem? (i := 1) rfl)).xf
    have o2 : ErrO H' e2 R.UnknownName.C [(fnames[2], v2)] := (hE 2 e2 _ rfl rfl).up S
    have x2 := (O.E R.UnknownName.C (List.mem_of_getElem? (i := 2) rfl)).xf
    have o3 : ErrO H' e3 R.BadCount.C [(fnames[3], v3)] := (hE 3 e3 _ rfl rfl).up S
    have x3 := (O.E R.BadCount.C (List.mem_of_getElem? (i := 3) rfl)).xf
    have o4 : ErrO H' e4 R.BadText.C [(fnames[4], v4)] := (hE 4 e4 _ rfl rfl).up S
    have x4 := (O.E R.BadText.C (List.mem_of_getElem? (i := 4) rfl)).xf
    have o5 : ErrO H' e5 R.BadSet.C [(fnames[5], v5)] := (hE 5 e5 _ rfl rfl).up S
    have x5 := (O.E R.BadSet.C (List.mem_of_getElem? (i := 5) rfl)).xf
    have o6 : ErrO H' e6 R.BadCell.C [(fnames[6], v6)] := (hE 6 e6 _ rfl rfl).up S
    have x6 := (O.E R.BadCell.C (List.mem_of_getElem? (i := 6) rfl)).xf
    have o7 : ErrO H' e7 R.BadSide.C [(fnames[7], v7)] := (hE 7 e7 _ rfl rfl).up S
    have x7 := (O.E R.BadSide.C (List.mem_of_getElem? (i := 7) rfl)).xf
    have o8 : ErrO H' e8 R.BadLine.C [(fnames[8], v8)] := (hE 8 e8 _ rfl rfl).up S
    have x8 := (O.E R.BadLine.C (List.mem_of_getElem? (i := 8) rfl)).xf
    have o9 : ErrO H' e9 R.BadWish.C [(fnames[9], v9)] := (hE 9 e9 _ rfl rfl).up S
    have x9 := (O.E R.BadWish.C (List.mem_of_getElem? (i := 9) rfl)).xf
    have o10 : ErrO H' e10 R.UnlikeOutcomes.C [(fnames[10], v10)] := (hE 10 e10 _ rfl rfl).up S
    have x10 := (O.E R.UnlikeOutcomes.C (List.mem_of_getElem? (i := 10) rfl)).xf
    have o11 : ErrO H' e11 R.NotFirm.C [(fnames[11], v11)] := (hE 11 e11 _ rfl rfl).up S
    have x11 := (O.E R.NotFirm.C (List.mem_of_getElem? (i := 11) rfl)).xf
    refine ⟨_, rfl, m, _, 0, .ref e0, rfl, rfl, SqL.of hm, atI_nat (j := 0) rfl, e0, _, _, v0, rfl, o0, x0, R.BadName.no, rfl, _, rfl, m, _, 1, .ref e1, rfl, rfl, SqL.of hm, atI_nat (j := 1) rfl, e1, _, _, v1, rfl, o1, x1, R.DuplicateName.no, rfl, _, rfl, m, _, 2, .ref e2, rfl, rfl, SqL.of hm, atI_nat (j := 2) rfl, e2, _, _, v2, rfl, o2, x2, R.UnknownName.no, rfl, _, rfl, m, _, 3, .ref e3, rfl, rfl, SqL.of hm, atI_nat (j := 3) rfl, e3, _, _, v3, rfl, o3, x3, R.BadCount.no, rfl, _, rfl, m, _, 4, .ref e4, rfl, rfl, SqL.of hm, atI_nat (j := 4) rfl, e4, _, _, v4, rfl, o4, x4, R.BadText.no, rfl, _, rfl, m, _, 5, .ref e5, rfl, rfl, SqL.of hm, atI_nat (j := 5) rfl, e5, _, _, v5, rfl, o5, x5, R.BadSet.no, rfl, (show 6 ≤ sizeLine by decide), fun p1 h1 => ?_⟩
    have z1 := same_of_none (o := .lst [v0, v1, v2, v3, v4, v5]) h1
    have l1 : (upd H' p1 (.lst [v0, v1, v2, v3, v4, v5])) p1 = some (.lst [v0, v1, v2, v3, v4, v5]) := upd_same
    generalize upd H' p1 (.lst [v0, v1, v2, v3, v4, v5]) = H1 at z1 l1
    have hm := z1 _ _ hm
    have ht := z1 _ _ ht
    have S := S.trans z1
    have o6 := o6.up z1
    have o7 := o7.up z1
    have o8 := o8.up z1
    have o9 := o9.up z1
    have o10 := o10.up z1
    have o11 := o11.up z1
    refine ⟨_, rfl, _, rfl, m, _, 6, .ref e6, rfl, rfl, SqL.of hm, atI_nat (j := 6) rfl, e6, _, _, v6, rfl, o6, x6, R.BadCell.no, rfl, _, rfl, m, _, 7, .ref e7, rfl, rfl, SqL.of hm, atI_nat (j := 7) rfl, e7, _, _, v7, rfl, o7, x7, R.BadSide.no, rfl, _, rfl, m, _, 8, .ref e8, rfl, rfl, SqL.of hm, atI_nat (j := 8) rfl, e8, _, _, v8, rfl, o8, x8, R.BadLine.no, rfl, _, rfl, m, _, 9, .ref e9, rfl, rfl, SqL.of hm, atI_nat (j := 9) rfl, e9, _, _, v9, rfl, o9, x9, R.BadWish.no, rfl, _, rfl, m, _, 10, .ref e10, rfl, rfl, SqL.of hm, atI_nat (j := 10) rfl, e10, _, _, v10, rfl, o10, x10, R.UnlikeOutcomes.no, rfl, _, rfl, m, _, 11, .ref e11, rfl, rfl, SqL.of hm, atI_nat (j := 11) rfl, e11, _, _, v11, rfl, o11, x11, R.NotFirm.no, rfl, (show 6 ≤ sizeLine by decide), fun p2 h2 => ?_⟩
    have z2 := same_of_none (o := .lst [v6, v7, v8, v9, v10, v11]) h2
    have l2 : (upd H1 p2 (.lst [v6, v7, v8, v9, v10, v11])) p2 = some (.lst [v6, v7, v8, v9, v10, v11]) := upd_same
    have l1 := z2 _ _ l1
    generalize upd H1 p2 (.lst [v6, v7, v8, v9, v10, v11]) = H2 at z2 l1 l2
    refine ⟨p1, p2, _, _, rfl, rfl, l1, l2, (show 6 + 6 ≤ sizeLine by decide), fun p3 h3 => ?_⟩
    have z3 := same_of_none (o := .lst ([v0, v1, v2, v3, v4, v5] ++ [v6, v7, v8, v9, v10, v11])) h3
    have l3 : (upd H2 p3 (.lst ([v0, v1, v2, v3, v4, v5] ++ [v6, v7, v8, v9, v10, v11]))) p3 = some (.lst [v0, v1, v2, v3, v4, v5, v6, v7, v8, v9, v10, v11]) := upd_same
    generalize upd H2 p3 (.lst ([v0, v1, v2, v3, v4, v5] ++ [v6, v7, v8, v9, v10, v11])) = H3 at z3 l3
    have ht := z3 _ _ (z2 _ _ ht)
    have S := (S.trans z2).trans z3
    clear l1 l2 h1 h2 h3 z1 z2 z3 hm hE o0 x0 o1 x1 o2 x2 o3 x3 o4 x4 o5 x5 o6 x6 o7 x7 o8 x8 o9 x9 o10 x10 o11 x11
    have len : ([v0, v1, v2, v3, v4, v5, v6, v7, v8, v9, v10, v11] : List V).length ≤ 1000 := by show 12 ≤ 1000; decide
    generalize ([v0, v1, v2, v3, v4, v5, v6, v7, v8, v9, v10, v11] : List V) = ts at *
    -- truths
    refine ⟨_, rfl, p3, rfl, ⟨_, SqL.of l3⟩, fun D hD => ?_⟩
    have id1 : ts.map (fun v => v) = ts := List.map_id' ts
    have tell : ∀ a ∈ ts, ∀ (H4 : Hp), Same H H4 → ∀ Q' : VK, Q' (V.bl (isBlV a)) H4 → rIsi K [a, .ty "bool"] H4 Q' := fun a ha H4 s4 Q' k' => by
      obtain ⟨ty, h1, h2⟩ := ((th a ha).up s4).kit (K := K)
      exact ⟨a, .ty "bool", ty, .type "bool", _, rfl, .ty _, h1, h2, k'⟩
    refine lc_am walk_list (as := ts) (g := fun v => v) (fun _ => true) (fun v => .bl (isBlV v)) hD (fun H4 e => by rw [id1]; exact SqL.of (e _ _ l3)) len (fun _ => rfl) (fun _ _ _ _ _ q => q) (fun a ha _ H4 e Q' k' => ⟨_, rfl, tell a ha H4 (S.trans e) Q' k'⟩) ?_
    rw [List.filter_eq_self.mpr fun _ _ => rfl]
    have z4 := same_of_none (o := .lst (ts.map fun v => V.bl (isBlV v))) hD
    have l4 : (upd H3 D (.lst (ts.map fun v => V.bl (isBlV v)))) D = some (.lst (ts.map fun v => V.bl (isBlV v))) := upd_same
    generalize upd H3 D (.lst (ts.map fun v => V.bl (isBlV v))) = H4 at z4 l4
    have l3 := z4 _ _ l3
    have ht := z4 _ _ ht
    have S := S.trans z4
    refine ⟨_, rfl, _, rfl, .inl ⟨p3, t, ts, ts, fun _ => true, rfl, rfl, SqL.of l3, SqL.of ht, rfl, fun j x y hx hy => ?_, ?_⟩⟩
    · rw [hx] at hy
      cases hy
      exact ((th x (List.mem_of_getElem? hx)).up S).eqv
    rw [show (List.range ts.length).all (fun _ => true) = true by simp]
    refine ⟨_, rfl, dec_true rfl ?_⟩
    refine ⟨_, rfl, _, rfl, t, rfl, ⟨_, SqL.of ht⟩, fun D2 hD2 => ?_⟩
    refine lc_am walk_list (as := ts) (g := fun v => v) (fun _ => true) (fun v => .bl (isBlV v)) hD2 (fun H5 e => by rw [id1]; exact SqL.of (e _ _ ht)) len (fun _ => rfl) (fun _ _ _ _ _ q => q) (fun a ha _ H5 e Q' k' => ⟨_, rfl, tell a ha H5 (S.trans e) Q' k'⟩) ?_
    rw [List.filter_eq_self.mpr fun _ _ => rfl]
    have z5 := same_of_none (o := .lst (ts.map fun v => V.bl (isBlV v))) hD2
    refine ⟨_, _, dp_bools (ts.map isBlV) (by rw [z5 _ _ l4, List.map_map]; rfl), dp_bools (ts.map isBlV) (by rw [upd_same, List.map_map]; rfl), shaped_bools _, shaped_bools _, ?_⟩
    rw [eqv_bools]
    exact q _ (S.trans z5)

end
end K02

set_option pp.deepTerms false
set_option pp.deepTerms.threshold 8
namespace K02
open PySem PySem.Spec PyProof.Rows L2
section
variable {P : Program} {w : World} {K : PySem.W.Frag} {mg : Str → Option Value} {base : Heap}
abbrev s_law : Stmt := top 26
abbrev N_law : List Str := ["_law_script", "_law_state", "_law_t", "_law_lists", "_law_both", "_law_row", "_law_dicts", "_law_k"]
theorem sc_law : FnScope ["_law_script", "_law_state", "_law_t", "_law_lists", "_law_both", "_law_row", "_law_dicts", "_law_k"] ["_law_script"] (defScope s_law) := ⟨rfl, rfl, rfl, by decide +kernel, rfl, by decide +kernel, by decide +kernel⟩
def spLaw (K : PySem.W.Frag) : Sp := fun vs H Q _ => ∃ (a : Addr) (ns : List Int), vs = [.ref a] ∧ SqL K H a (ns.map V.int) ∧ ns.length ≤ 63 ∧ ∀ H', Q (.bl true) H'
set_option maxHeartbeats 20000000 in
theorem ok_law {f : Addr} {fd : FuncData} (F : Fun K "law" "law" s_law f fd) (T : TxtB mg) (R : Ers P w K mg base) (c_Lstart : Cal P w K mg base "_law_start" CX0 1 ["_law_script"] (spStart K)) (c_Ldraw : Cal P w K mg base "_law_draw" CX0 1 ["_law_state", "_law_size"] spDraw)
    (c_Lthing : Cal P w K mg base "_law_thing" CX0 2 ["_law_state"] spThing) (c_Lall : Cal P w K mg base "_law_all" CX0 3 ["_law_t"] (spAll R)) (c_Lnamed : Cal P w K mg base "_law_named" CX0 3 ["_law_t"] (spAll R)) (c_Lkeeps : Cal P w K mg base "_law_keeps" CX0 2 ["_law_made", "_law_t"] (spKeeps R)) :
    FnOk P w K mg base CX0 4 f fd ["_law_script"] (spLaw K) := by
  refine F.ok sc_law (fun vs H Q E h => ?_) (fun cdv A outer s H vs Q E hr h => ?_)
  · obtain ⟨a, ns, rfl, _⟩ := h
    rfl
  · obtain ⟨a, ns, rfl, hS, hlen, q⟩ := h
    refine ⟨_, (pss_cons (ps_set (i := 1) sc_law.nd rfl (.inr rfl) (pe_call c_Lstart.G (hr.mono (by decide)) (by rfl) c_Lstart.g c_Lstart.kp c_Lstart.b .nil pass0 (pa_cons (pv 0) pa_nil)))
      (pss_cons (ps_setLc (i := 2) (own := [("_law_k", 7)]) (g := gName 7) (tt := tYes) rfl sc_law.nd rfl rfl (sw_true rfl rfl rfl (by decide +kernel)) (pi_range1 rfl T.z_range (pa_cons pe_int pa_nil)) (blkOk_by (own := [("_law_k", 7)]) (N := N_law) (sc := defScope s_law) (by decide +kernel)) (fun _ _ _ _ _ => (pg_name (i := 7) sc_law.nd rfl (.inl rfl))) (fun _ _ _ _ _ => pts_nil) (fun _ _ _ _ _ => (pe_call c_Lthing.G (hr.mono (by decide)) (by rfl) c_Lthing.g c_Lthing.kp c_Lthing.b .nil pass0 (pa_cons (pv 1) pa_nil))))
      (pss_cons (ps_if (PW.pt (pw_or (pt_not (pt_val (pe_call c_Lkeeps.G (hr.mono (by decide)) (by rfl) c_Lkeeps.g c_Lkeeps.kp c_Lkeeps.b .nil pass0 (pa_cons (pe_call c_Lall.G (hr.mono (by decide)) (by rfl) c_Lall.g c_Lall.kp c_Lall.b .nil pass0 (pa_cons (pv 2) pa_nil)) (pa_cons (pv 2) pa_nil))))) (pw_or1 (pt_not (pt_val (pe_call c_Lkeeps.G (hr.mono (by decide)) (by rfl) c_Lkeeps.g c_Lkeeps.kp c_Lkeeps.b .nil pass0 (pa_cons (pe_call c_Lnamed.G (hr.mono (by decide)) (by rfl) c_Lnamed.g c_Lnamed.kp c_Lnamed.b .nil pass0 (pa_cons (pv 2) pa_nil)) (pa_cons (pv 2) pa_nil)))))))) (pss_one (ps_ret pe_bl)) pss_nil)
      (pss_cons (ps_setLc (i := 3) (own := [("_law_k", 7)]) (g := gName 7) (tt := tYes) rfl sc_law.nd rfl rfl (sw_true rfl rfl rfl (by decide +kernel)) (pi_range1 rfl T.z_range (pa_cons pe_int pa_nil)) (blkOk_by (own := [("_law_k", 7)]) (N := N_law) (sc := defScope s_law) (by decide +kernel)) (fun _ _ _ _ _ => (pg_name (i := 7) sc_law.nd rfl (.inl rfl))) (fun _ _ _ _ _ => pts_nil) (fun _ _ _ _ _ => (pe_lst (pa_cons (pe_call c_Ldraw.G (hr.mono (by decide)) (by rfl) c_Ldraw.g c_Ldraw.kp c_Ldraw.b .nil pass0 (pa_cons (pv 1) (pa_cons pe_int pa_nil))) pa_nil))))
      (pss_cons (ps_set (i := 4) sc_law.nd rfl (.inl rfl) (pe_lst (pa_cons (pe_call c_Lall.G (hr.mono (by decide)) (by rfl) c_Lall.g c_Lall.kp c_Lall.b .nil pass0 (pa_cons (pv 3) pa_nil)) (pa_cons (pe_call c_Lnamed.G (hr.mono (by decide)) (by rfl) c_Lnamed.g c_Lnamed.kp c_Lnamed.b .nil pass0 (pa_cons (pv 3) pa_nil)) pa_nil))))
      (pss_cons (ps_for PassesOwn.never rfl (pi_list (pv 3)) (pg_name (i := 5) sc_law.nd rfl (.inl rfl)) (pss_one (ps_expr (pe_bm PySem.F.plainAttrs_list PySem.F.slot_list_append PySem.F.type_list_append mt_append (pv 5) (pa_cons (pe_call c_Ldraw.G (hr.mono (by decide)) (by rfl) c_Ldraw.g c_Ldraw.kp c_Ldraw.b .nil pass0 (pa_cons (pv 1) (pa_cons pe_int pa_nil))) pa_nil)))))
      (pss_cons (ps_if (PW.pt (pw_or (pt_not (pt_val (pe_call c_Lkeeps.G (hr.mono (by decide)) (by rfl) c_Lkeeps.g c_Lkeeps.kp c_Lkeeps.b .nil pass0 (pa_cons (pe_ix ix_list (pv 4) pe_int (fun _ _ => rfl)) (pa_cons (pv 3) pa_nil))))) (pw_or1 (pt_not (pt_val (pe_call c_Lkeeps.G (hr.mono (by decide)) (by rfl) c_Lkeeps.g c_Lkeeps.kp c_Lkeeps.b .nil pass0 (pa_cons (pe_ix ix_list (pv 4) pe_int (fun _ _ => rfl)) (pa_cons (pv 3) pa_nil)))))))) (pss_one (ps_ret pe_bl)) pss_nil)
      (pss_cons (ps_setLc (i := 6) (own := [("_law_k", 7)]) (g := gName 7) (tt := tYes) rfl sc_law.nd rfl rfl (sw_true rfl rfl rfl (by decide +kernel)) (pi_range1 rfl T.z_range (pa_cons pe_int pa_nil)) (blkOk_by (own := [("_law_k", 7)]) (N := N_law) (sc := defScope s_law) (by decide +kernel)) (fun _ _ _ _ _ => (pg_name (i := 7) sc_law.nd rfl (.inl rfl))) (fun _ _ _ _ _ => pts_nil) (fun _ _ _ _ _ => (pe_disp (pps_cons pe_str (pe_call c_Ldraw.G (hr.mono (by decide)) (by rfl) c_Ldraw.g c_Ldraw.kp c_Ldraw.b .nil pass0 (pa_cons (pv 1) (pa_cons pe_int pa_nil))) pps_nil) (by rfl) (by rfl) (fun z => by cases z) (by decide))))
      (pss_cons (ps_set (i := 4) sc_law.nd rfl (.inl rfl) (pe_lst (pa_cons (pe_call c_Lall.G (hr.mono (by decide)) (by rfl) c_Lall.g c_Lall.kp c_Lall.b .nil pass0 (pa_cons (pv 6) pa_nil)) (pa_cons (pe_call c_Lnamed.G (hr.mono (by decide)) (by rfl) c_Lnamed.g c_Lnamed.kp c_Lnamed.b .nil pass0 (pa_cons (pv 6) pa_nil)) pa_nil))))
      (pss_cons (ps_for PassesOwn.never rfl (pi_list (pv 6)) (pg_name (i := 5) sc_law.nd rfl (.inl rfl)) (pss_one (ps_dput (hu_of hr) (pv 5) pe_str (pe_lst (pa_cons (pe_dget (hu_of hr) (pv 5) pe_str (fun _ _ => rfl)) pa_nil)) rfl)))
      (pss_one (ps_ret (pe_and (pe_call c_Lkeeps.G (hr.mono (by decide)) (by rfl) c_Lkeeps.g c_Lkeeps.kp c_Lkeeps.b .nil pass0 (pa_cons (pe_ix ix_list (pv 4) pe_int (fun _ _ => rfl)) (pa_cons (pv 6) pa_nil))) (pe_one (pe_call c_Lkeeps.G (hr.mono (by decide)) (by rfl) c_Lkeeps.g c_Lkeeps.kp c_Lkeeps.b .nil pass0 (pa_cons (pe_ix ix_list (pv 4) pe_int (fun _ _ => rfl)) (pa_cons (pv 6) pa_nil))))))))))))))))), ?_⟩
    refine ⟨_, rfl, a, ns, rfl, hS, hlen, fun s H1 v => ?_⟩
    clear hS
    generalize H = G at v
    -- t
    refine ⟨12, rfl, by decide, by decide, fun D hD => ?_⟩
    refine lc_range (lo := 0) (n := 12) (fun i H' => ∃ (G' : Hp) (ts : List V), ts.length = i ∧ View s (10 * i) G' H' ∧ G' D = some (.lst ts) ∧ ∀ u ∈ ts, Thg G' u) ⟨_, [], rfl, v.new hD, upd_same, fun _ h => nomatch h⟩ ?_ ?_
    · rintro i H' hi ⟨G', ts, hl, v, hDl, th⟩
      refine ⟨rfl, _, rfl, s, _, G', rfl, v, by omega, fun u G2 H2 sG v hu => ?_⟩
      have hDl := sG _ _ hDl
      refine ⟨ts, v.sub _ _ hDl, small1000 (by omega), _, ts ++ [u], by rw [List.length_append, hl]; rfl, (v.put hDl).mono (by omega), upd_same, fun x hx => ?_⟩
      rcases List.mem_append.mp hx with hx | hx
      · exact ((th x hx).up sG).put hDl (.lst _) (.lst _)
      · rw [List.mem_singleton.mp hx]
        exact hu.put hDl (.lst _) (.lst _)
    rintro H' ⟨G', ts, hl, v, hDl, th⟩
    have hDH := v.sub _ _ hDl
    have thH : ∀ u ∈ ts, Thg H' u := fun u hu => (th u hu).up v.sub
    -- the things
    dsimp only [gName]
    refine cond_seq (fun k qq => ?_) (fun H2 s2 => ?_)
    · refine ⟨_, rfl, D, ts, rfl, hDH, hl, fun m1 Ha sa na mk => ⟨_, rfl, m1, D, ts, rfl, mk, sa _ _ hDH, hl, fun u hu => (thH u hu).up sa, fun Hb sb => ⟨_, rfl, dec_false rfl ?_⟩⟩⟩
      have s3 := sa.trans sb
      exact ⟨_, rfl, D, ts, rfl, s3 _ _ hDH, hl, fun m2 Hc sc nc mk2 => ⟨_, rfl, m2, D, ts, rfl, mk2, sc _ _ (s3 _ _ hDH), hl, fun u hu => ((thH u hu).up s3).up sc, fun Hd sd => ⟨_, rfl, kno (qq _ ((s3.trans sc).trans sd)) rfl⟩⟩⟩
    have v : View s 120 G' H2 := (v.ext s2).mono (by omega)
    clear hDH thH s2 hDl th
    generalize G' = G at v
    -- lists
    dsimp only [tNext]
    refine ⟨12, rfl, by decide, by decide, fun D2 hD2 => ?_⟩
    refine lc_range (lo := 0) (n := 12) (fun i H' => ∃ (G' : Hp) (ps : List Addr), ps.length = i ∧ View s (120 + i) G' H' ∧ G' D2 = some (.lst (ps.map V.ref)) ∧ ∀ p ∈ ps, p ≠ D2 ∧ ∃ zs : List Int, G' p = some (.lst (zs.map V.int)) ∧ zs.length ≤ 1) ⟨_, [], rfl, v.new hD2, upd_same, fun _ h => nomatch h⟩ ?_ ?_
    · rintro i H' hi ⟨G', ps, hl, v, hDl, th⟩
      refine ⟨rfl, _, rfl, s, _, _, 9, rfl, v, by omega, by decide, by decide, fun d H3 d0 d1 v => ⟨(show 1 ≤ sizeLine by decide), fun p hp => ?_⟩⟩
      have hGp := v.free hp
      have v := v.new (o := .lst [V.int d]) hp
      have sG := same_of_none (o := .lst [V.int d]) hGp
      have pD : p ≠ D2 := (ne_of_none hDl hGp).symm
      have hDl := sG _ _ hDl
      have hpp : (upd G' p (.lst [V.int d])) p = some (.lst ([d].map V.int)) := upd_same
      have th : ∀ p' ∈ ps ++ [p], p' ≠ D2 ∧ ∃ zs : List Int, (upd G' p (.lst [V.int d])) p' = some (.lst (zs.map V.int)) ∧ zs.length ≤ 1 := fun p' hp' => by
        rcases List.mem_append.mp hp' with h | h
        · obtain ⟨ne, zs, h1, h2⟩ := th p' h
          exact ⟨ne, zs, sG _ _ h1, h2⟩
        · rw [List.mem_singleton.mp h]
          exact ⟨pD, [d], hpp, Nat.le_refl 1⟩
      generalize upd G' p (.lst [V.int d]) = G2 at v hDl th
      refine ⟨ps.map V.ref, v.sub _ _ hDl, small1000 (by rw [List.length_map]; omega), upd G2 D2 (.lst ((ps ++ [p]).map V.ref)), ps ++ [p], by rw [List.length_append, hl]; rfl, ?_, upd_same, fun p' hp' => ?_⟩
      · have := v.put (o := .lst (ps.map V.ref ++ [V.ref p])) hDl
        rw [List.map_append]
        exact this.mono (by omega)
      · obtain ⟨ne, zs, h1, h2⟩ := th p' hp'
        exact ⟨ne, zs, by rw [upd_ne ne]; exact h1, h2⟩
    rintro H' ⟨G', ps, hl, v, hDl, th⟩
    have hl2 : (ps.map V.ref).length = 12 := by rw [List.length_map]; exact hl
    have ps0 : ps ≠ [] := fun e => by rw [e] at hl; cases hl
    -- both
    have hDH := v.sub _ _ hDl
    refine ⟨_, rfl, D2, _, rfl, hDH, hl2, fun m1 Ha sa na mk1 => ⟨_, rfl, D2, _, rfl, sa _ _ hDH, hl2, fun m2 Hb sb nb mk2 => ⟨(show 2 ≤ sizeLine by decide), fun pb hpb => ?_⟩⟩⟩
    have sc := same_of_none (o := .lst [V.ref m1, .ref m2]) hpb
    have v := v.ext ((sa.trans sb).trans sc)
    have mk1 := (mk1.up sb).up sc
    have mk2 := mk2.up sc
    have hb : (upd Hb pb (.lst [V.ref m1, .ref m2])) pb = some (.lst [V.ref m1, .ref m2]) := upd_same
    generalize upd Hb pb (.lst [V.ref m1, .ref m2]) = Hc at v mk1 mk2 hb
    obtain ⟨G2, v, sG, a1, a2⟩ := v.all
    have mk1 := mk1.seen a1 a2
    have mk2 := mk2.seen a1 a2
    have hb := a2 _ _ hb (refs_map (as := [m1, m2]) (by simp))
    have hDl := sG _ _ hDl
    have th : ∀ p ∈ ps, ∃ zs : List Int, G2 p = some (.lst (zs.map V.int)) ∧ zs.length ≤ 1 := fun p hp => by
      obtain ⟨_, zs, h1, h2⟩ := th p hp
      exact ⟨zs, sG _ _ h1, h2⟩
    clear sa sb sc sG a1 a2 hDH na nb hpb
    have v := v.mono (show 120 + 12 ≤ 140 by decide)
    -- they grow
    refine ⟨_, rfl, D2, rfl, ⟨_, SqL.of (v.sub _ _ hDl)⟩, for_list (xs := ps.map V.ref) (fun i σ H' => ∃ (G' : Hp) (a5 : Option V), σ = [some (.ref a), some (.ref s), some (.ref D), some (.ref D2), some (.ref pb), a5, none, none] ∧ View s (140 + i) G' H' ∧ G' D2 = some (.lst (ps.map V.ref)) ∧ G' pb = some (.lst [.ref m1, .ref m2]) ∧ Made R G' m1 (ps.map V.ref) ∧ Made R G' m2 (ps.map V.ref) ∧ ∀ p ∈ ps, ∃ zs : List Int, G' p = some (.lst (zs.map V.int)) ∧ zs.length ≤ 1 + i)
      ⟨G2, none, rfl, v, hDl, hb, mk1, mk2, th⟩ (fun i σ H' _ h => by obtain ⟨G', a5, _, v, hDl, _⟩ := h; exact SqL.of (v.sub _ _ hDl)) ?_ ?_⟩
    · rintro i y σ H' hy ⟨G', a5, rfl, v, hDl, hb, mk1, mk2, th⟩
      have hi : i < 12 := by rw [← hl2]; exact (List.getElem?_eq_some_iff.mp hy).1
      obtain ⟨p, hp, rfl⟩ := List.mem_map.mp (List.mem_of_getElem? hy)
      obtain ⟨zs, hz, hzl⟩ := th p hp
      have up : ∀ xs, Refs xs → xs ≠ zs.map V.int := fun xs h => refs_ints h
      refine ⟨_, rfl, tyL_ok (SqL.of (v.sub _ _ hz)), _, rfl, s, _, _, 9, rfl, v, by omega, by decide, by decide, fun d H3 d0 d1 v => ?_⟩
      refine ⟨p, zs.map V.int, .int d, rfl, rfl, v.sub _ _ hz, small1000 (by rw [List.length_map]; omega), ?_⟩
      have pl := Plain.lst (zs.map V.int)
      have n1 : D2 ≠ p := fun e => by rw [← e, hDl] at hz; exact up _ (refs_map ps0) (HO.lst.inj (Option.some.inj hz))
      have n2 : pb ≠ p := fun e => by rw [← e, hb] at hz; exact up _ (refs_map (as := [m1, m2]) (by simp)) (HO.lst.inj (Option.some.inj hz))
      have nm : ∀ es : List Addr, es.length = 15 → HO.lst (zs.map V.int) ≠ .lst (es.map V.ref) := fun es h e => up _ (refs_map (as := es) (fun z => by rw [z] at h; cases h)) (HO.lst.inj e).symm
      refine ⟨upd G' p (.lst (zs.map V.int ++ [V.int d])), _, rfl, (v.put hz).mono (by omega), by rw [upd_ne n1]; exact hDl, by rw [upd_ne n2]; exact hb, mk1.put hz pl nm, mk2.put hz pl nm, fun p' hp' => ?_⟩
      by_cases e : p' = p
      · exact ⟨zs ++ [d], by rw [e, upd_same, List.map_append]; rfl, by rw [List.length_append]; show zs.length + 1 ≤ _; omega⟩
      · obtain ⟨z2, h1, h2⟩ := th p' hp'
        exact ⟨z2, by rw [upd_ne e]; exact h1, by omega⟩
    clear v hDl hb mk1 mk2 th
    rintro σ H' ⟨G', a5, rfl, v, hDl, hb, mk1, mk2, th⟩
    rw [hl2] at v
    have v := v.mono (show 140 + 12 ≤ 160 by decide)
    have thG : ∀ u ∈ ps.map V.ref, Thg G' u := fun u hu => by
      obtain ⟨p, hp, rfl⟩ := List.mem_map.mp hu
      obtain ⟨zs, h1, _⟩ := th p hp
      exact .lst h1
    clear th
    have S := v.sub
    dsimp only [tNext]
    refine cond_seq (fun k qq => ?_) (fun H2 s2 => ?_)
    · refine ⟨_, rfl, pb, _, 0, .ref m1, rfl, rfl, SqL.of (S _ _ hb), atI_nat (j := 0) rfl, _, rfl, m1, D2, _, rfl, mk1.up S, S _ _ hDl, hl2, fun u hu => (thG u hu).up S, fun Ha sa => ⟨_, rfl, dec_false rfl ?_⟩⟩
      have S := S.trans sa
      exact ⟨_, rfl, pb, _, 1, .ref m2, rfl, rfl, SqL.of (S _ _ hb), atI_nat (j := 1) rfl, _, rfl, m2, D2, _, rfl, mk2.up S, S _ _ hDl, hl2, fun u hu => (thG u hu).up S, fun Hb sb => ⟨_, rfl, kno (qq _ (sa.trans sb)) rfl⟩⟩
    have v := v.ext s2
    clear S s2 hDl hb mk1 mk2 thG ps0 hl2 hl
    generalize G' = G at v
    -- dicts
    dsimp only [tNext]
    refine ⟨12, rfl, by decide, by decide, fun D3 hD3 => ?_⟩
    refine lc_range (lo := 0) (n := 12) (fun i H' => ∃ (G' : Hp) (ps : List Addr), ps.length = i ∧ View s (160 + i) G' H' ∧ G' D3 = some (.lst (ps.map V.ref)) ∧ ∀ p ∈ ps, p ≠ D3 ∧ ∃ kvs : List (Key × V), G' p = some (.dK kvs) ∧ AB kvs) ⟨_, [], rfl, v.new hD3, upd_same, fun _ h => nomatch h⟩ ?_ ?_
    · rintro i H' hi ⟨G', ps, hl, v, hDl, th⟩
      refine ⟨rfl, fun p hp => ?_⟩
      have hGp := v.free hp
      have v := v.new (o := .dK []) hp
      refine ⟨_, rfl, s, _, _, 9, rfl, v, by omega, by decide, by decide, fun d H3 d0 d1 v => ⟨v.sub _ _ upd_same, [((Sum.inr "a" : Key), V.int d)], rfl, (show 1 ≤ 15 by decide), ?_⟩⟩
      have v := v.put (o := .dK (mergeK [] [((Sum.inr "a" : Key), V.int d)])) upd_same
      rw [upd_upd] at v
      have sG := same_of_none (o := .dK (mergeK [] [((Sum.inr "a" : Key), V.int d)])) hGp
      have pD : p ≠ D3 := (ne_of_none hDl hGp).symm
      have hDl := sG _ _ hDl
      have hpp : (upd G' p (.dK (mergeK [] [((Sum.inr "a" : Key), V.int d)]))) p = some (.dK [((Sum.inr "a" : Key), V.int d)]) := upd_same
      have th : ∀ p' ∈ ps ++ [p], p' ≠ D3 ∧ ∃ kvs : List (Key × V), (upd G' p (.dK (mergeK [] [((Sum.inr "a" : Key), V.int d)]))) p' = some (.dK kvs) ∧ AB kvs := fun p' hp' => by
        rcases List.mem_append.mp hp' with h | h
        · obtain ⟨ne, kvs, h1, h2⟩ := th p' h
          exact ⟨ne, kvs, sG _ _ h1, h2⟩
        · rw [List.mem_singleton.mp h]
          exact ⟨pD, _, hpp, _, .inl rfl⟩
      generalize upd G' p (.dK (mergeK [] [((Sum.inr "a" : Key), V.int d)])) = G2 at v hDl th
      refine ⟨ps.map V.ref, v.sub _ _ hDl, small1000 (by rw [List.length_map]; omega), upd G2 D3 (.lst ((ps ++ [p]).map V.ref)), ps ++ [p], by rw [List.length_append, hl]; rfl, ?_, upd_same, fun p' hp' => ?_⟩
      · have := v.put (o := .lst (ps.map V.ref ++ [V.ref p])) hDl
        rw [List.map_append]
        exact this.mono (by omega)
      · obtain ⟨ne, kvs, h1, h2⟩ := th p' hp'
        exact ⟨ne, kvs, by rw [upd_ne ne]; exact h1, h2⟩
    rintro H' ⟨G', ps, hl, v, hDl, th⟩
    have hl2 : (ps.map V.ref).length = 12 := by rw [List.length_map]; exact hl
    -- both
    have hDH := v.sub _ _ hDl
    refine ⟨_, rfl, D3, _, rfl, hDH, hl2, fun m1 Ha sa na mk1 => ⟨_, rfl, D3, _, rfl, sa _ _ hDH, hl2, fun m2 Hb sb nb mk2 => ⟨(show 2 ≤ sizeLine by decide), fun pc hpc => ?_⟩⟩⟩
    have sc := same_of_none (o := .lst [V.ref m1, .ref m2]) hpc
    have v := v.ext ((sa.trans sb).trans sc)
    have mk1 := (mk1.up sb).up sc
    have mk2 := mk2.up sc
    have hb : (upd Hb pc (.lst [V.ref m1, .ref m2])) pc = some (.lst [V.ref m1, .ref m2]) := upd_same
    generalize upd Hb pc (.lst [V.ref m1, .ref m2]) = Hc at v mk1 mk2 hb
    obtain ⟨G2, v, sG, a1, a2⟩ := v.all
    have mk1 := mk1.seen a1 a2
    have mk2 := mk2.seen a1 a2
    have hb := a2 _ _ hb (refs_map (as := [m1, m2]) (by simp))
    have hDl := sG _ _ hDl
    have th : ∀ p ∈ ps, ∃ kvs : List (Key × V), G2 p = some (.dK kvs) ∧ AB kvs := fun p hp => by
      obtain ⟨_, kvs, h1, h2⟩ := th p hp
      exact ⟨kvs, sG _ _ h1, h2⟩
    clear sa sb sc sG a1 a2 hDH na nb hpc
    have v := v.mono (show 160 + 12 ≤ 180 by decide)
    -- they grow
    refine ⟨_, rfl, D3, rfl, ⟨_, SqL.of (v.sub _ _ hDl)⟩, for_list (xs := ps.map V.ref) (fun i σ H' => ∃ (G' : Hp) (a5 : Option V), σ = [some (.ref a), some (.ref s), some (.ref D), some (.ref D2), some (.ref pc), a5, some (.ref D3), none] ∧ View s 180 G' H' ∧ G' D3 = some (.lst (ps.map V.ref)) ∧ G' pc = some (.lst [.ref m1, .ref m2]) ∧ Made R G' m1 (ps.map V.ref) ∧ Made R G' m2 (ps.map V.ref) ∧ ∀ p ∈ ps, ∃ kvs : List (Key × V), G' p = some (.dK kvs) ∧ AB kvs)
      ⟨G2, _, rfl, v, hDl, hb, mk1, mk2, th⟩ (fun i σ H' _ h => by obtain ⟨G', a5, _, v, hDl, _⟩ := h; exact SqL.of (v.sub _ _ hDl)) ?_ ?_⟩
    · rintro i y σ H' hy ⟨G', a5, rfl, v, hDl, hb, mk1, mk2, th⟩
      obtain ⟨p, hp, rfl⟩ := List.mem_map.mp (List.mem_of_getElem? hy)
      obtain ⟨kvs, hz, hab⟩ := th p hp
      obtain ⟨av, hav⟩ := hab.get
      refine ⟨_, rfl, p, av, rfl, .inl ⟨kvs, .inr "a", .inl (v.sub _ _ hz), rfl, hav.symm⟩, (show 1 ≤ sizeLine by decide), fun l hll => ?_⟩
      have hGl := v.free hll
      have v := v.new (o := .lst [av]) hll
      have sG := same_of_none (o := .lst [av]) hGl
      have hz := sG _ _ hz
      have hDl := sG _ _ hDl
      have hb := sG _ _ hb
      have mk1 := mk1.up sG
      have mk2 := mk2.up sG
      have th : ∀ p ∈ ps, ∃ kvs : List (Key × V), (upd G' l (.lst [av])) p = some (.dK kvs) ∧ AB kvs := fun p hp => by
        obtain ⟨kvs, h1, h2⟩ := th p hp
        exact ⟨kvs, sG _ _ h1, h2⟩
      generalize upd G' l (.lst [av]) = G2 at v hz hDl hb mk1 mk2 th
      refine ⟨_, rfl, p, _, rfl, .inl ⟨kvs, .inr "b", v.sub _ _ hz, rfl, small1000 (by have := hab.len; omega), rfl⟩, ?_⟩
      have pl := Plain.dK kvs
      have n1 : D3 ≠ p := fun e => by rw [← e, hDl] at hz; cases hz
      have n2 : pc ≠ p := fun e => by rw [← e, hb] at hz; cases hz
      have nm : ∀ es : List Addr, es.length = 15 → HO.dK kvs ≠ .lst (es.map V.ref) := fun _ _ e => nomatch e
      refine ⟨upd G2 p (.dK (putK kvs (Sum.inr "b") (.ref l))), _, rfl, v.put hz, by rw [upd_ne n1]; exact hDl, by rw [upd_ne n2]; exact hb, mk1.put hz pl nm, mk2.put hz pl nm, fun p' hp' => ?_⟩
      by_cases e : p' = p
      · exact ⟨_, by rw [e]; exact upd_same, hab.put _⟩
      · obtain ⟨z2, h1, h2⟩ := th p' hp'
        exact ⟨z2, by rw [upd_ne e]; exact h1, h2⟩
    clear v hDl hb mk1 mk2 th
    rintro σ H' ⟨G', a5, rfl, v, hDl, hb, mk1, mk2, th⟩
    have thG : ∀ u ∈ ps.map V.ref, Thg G' u := fun u hu => by
      obtain ⟨p, hp, rfl⟩ := List.mem_map.mp hu
      obtain ⟨zs, h1, _⟩ := th p hp
      exact .dic h1
    have S := v.sub
    refine ⟨_, rfl, pc, _, 0, .ref m1, rfl, rfl, SqL.of (S _ _ hb), atI_nat (j := 0) rfl, _, rfl, m1, D3, _, rfl, mk1.up S, S _ _ hDl, hl2, fun u hu => (thG u hu).up S, fun Ha sa => ⟨_, rfl, dec_true rfl ?_⟩⟩
    have S := S.trans sa
    exact ⟨_, rfl, pc, _, 1, .ref m2, rfl, rfl, SqL.of (S _ _ hb), atI_nat (j := 1) rfl, _, rfl, m2, D3, _, rfl, mk2.up S, S _ _ hDl, hl2, fun u hu => (thG u hu).up S, fun Hb sb => q _⟩

end
end K02

set_option pp.deepTerms false
set_option pp.deepTerms.threshold 8
namespace K02
open PySem PySem.Spec PyProof.Rows L2
set_option maxHeartbeats 20000000 in
theorem all_mk {l : PySem.W.OpenLaw} {w : World} {K : PySem.W.Frag} {h : Heap} {mg : Str → Option Value} {fa : Addr} (X : K.In h) (G : h.Ns mainGlobals mg) (hfa : mg "law" = some (.ref fa))
    {CBadName : Addr}
    {CDuplicateName : Addr}
    {CUnknownName : Addr}
    {CBadCount : Addr}
    {CBadText : Addr}
    {CBadSet : Addr}
    {CBadCell : Addr}
    {CBadSide : Addr}
    {CBadLine : Addr}
    {CBadWish : Addr}
    {CUnlikeOutcomes : Addr}
    {CNotFirm : Addr}
    {CIsFirm : Addr}
    {CIsSmooth : Addr}
    {CNothingToUndo : Addr}
    {CChooserError : Addr}
    {nmBadName qqBadName : Str} {NBadName : Addr} {bsBadName bmBadName : List Value} {snBadName : List Str} {subBadName : List Value} {abBadName : Bool} {colBadName : Option Bool} {ddBadName : Option Addr} {mABadName mBBadName mCBadName mDBadName mEBadName : Option Value}
    {f1 : Addr} {od1 an1 : Option Addr} {sl1 : Array (Option Value)} {oc1 kV1 dc1 pm1 cd1 ct1 : Value}
    {nmDuplicateName qqDuplicateName : Str} {NDuplicateName : Addr} {bsDuplicateName bmDuplicateName : List Value} {snDuplicateName : List Str} {subDuplicateName : List Value} {abDuplicateName : Bool} {colDuplicateName : Option Bool} {ddDuplicateName : Option Addr} {mADuplicateName mBDuplicateName mCDuplicateName mDDuplicateName mEDuplicateName : Option Value}
    {f2 : Addr} {od2 an2 : Option Addr} {sl2 : Array (Option Value)} {oc2 kV2 dc2 pm2 cd2 ct2 : Value}
    {nmUnknownName qqUnknownName : Str} {NUnknownName : Addr} {bsUnknownName bmUnknownName : List Value} {snUnknownName : List Str} {subUnknownName : List Value} {abUnknownName : Bool} {colUnknownName : Option Bool} {ddUnknownName : Option Addr} {mAUnknownName mBUnknownName mCUnknownName mDUnknownName mEUnknownName : Option Value}
    {f3 : Addr} {od3 an3 : Option Addr} {sl3 : Array (Option Value)} {oc3 kV3 dc3 pm3 cd3 ct3 : Value}
    {nmBadCount qqBadCount : Str} {NBadCount : Addr} {bsBadCount bmBadCount : List Value} {snBadCount : List Str} {subBadCount : List Value} {abBadCount : Bool} {colBadCount : Option Bool} {ddBadCount : Option Addr} {mABadCount mBBadCount mCBadCount mDBadCount mEBadCount : Option Value}
    {f4 : Addr} {od4 an4 : Option Addr} {sl4 : Array (Option Value)} {oc4 kV4 dc4 pm4 cd4 ct4 : Value}
    {nmBadText qqBadText : Str} {NBadText : Addr} {bsBadText bmBadText : List Value} {snBadText : List Str} {subBadText : List Value} {abBadText : Bool} {colBadText : Option Bool} {ddBadText : Option Addr} {mABadText mBBadText mCBadText mDBadText mEBadText : Option Value}
    {f5 : Addr} {od5 an5 : Option Addr} {sl5 : Array (Option Value)} {oc5 kV5 dc5 pm5 cd5 ct5 : Value}
    {nmBadSet qqBadSet : Str} {NBadSet : Addr} {bsBadSet bmBadSet : List Value} {snBadSet : List Str} {subBadSet : List Value} {abBadSet : Bool} {colBadSet : Option Bool} {ddBadSet : Option Addr} {mABadSet mBBadSet mCBadSet mDBadSet mEBadSet : Option Value}
    {f6 : Addr} {od6 an6 : Option Addr} {sl6 : Array (Option Value)} {oc6 kV6 dc6 pm6 cd6 ct6 : Value}
    {nmBadCell qqBadCell : Str} {NBadCell : Addr} {bsBadCell bmBadCell : List Value} {snBadCell : List Str} {subBadCell : List Value} {abBadCell : Bool} {colBadCell : Option Bool} {ddBadCell : Option Addr} {mABadCell mBBadCell mCBadCell mDBadCell mEBadCell : Option Value}
    {f7 : Addr} {od7 an7 : Option Addr} {sl7 : Array (Option Value)} {oc7 kV7 dc7 pm7 cd7 ct7 : Value}
    {nmBadSide qqBadSide : Str} {NBadSide : Addr} {bsBadSide bmBadSide : List Value} {snBadSide : List Str} {subBadSide : List Value} {abBadSide : Bool} {colBadSide : Option Bool} {ddBadSide : Option Addr} {mABadSide mBBadSide mCBadSide mDBadSide mEBadSide : Option Value}
    {f8 : Addr} {od8 an8 : Option Addr} {sl8 : Array (Option Value)} {oc8 kV8 dc8 pm8 cd8 ct8 : Value}
    {nmBadLine qqBadLine : Str} {NBadLine : Addr} {bsBadLine bmBadLine : List Value} {snBadLine : List Str} {subBadLine : List Value} {abBadLine : Bool} {colBadLine : Option Bool} {ddBadLine : Option Addr} {mABadLine mBBadLine mCBadLine mDBadLine mEBadLine : Option Value}
    {f9 : Addr} {od9 an9 : Option Addr} {sl9 : Array (Option Value)} {oc9 kV9 dc9 pm9 cd9 ct9 : Value}
    {nmBadWish qqBadWish : Str} {NBadWish : Addr} {bsBadWish bmBadWish : List Value} {snBadWish : List Str} {subBadWish : List Value} {abBadWish : Bool} {colBadWish : Option Bool} {ddBadWish : Option Addr} {mABadWish mBBadWish mCBadWish mDBadWish mEBadWish : Option Value}
    {f10 : Addr} {od10 an10 : Option Addr} {sl10 : Array (Option Value)} {oc10 kV10 dc10 pm10 cd10 ct10 : Value}
    {nmUnlikeOutcomes qqUnlikeOutcomes : Str} {NUnlikeOutcomes : Addr} {bsUnlikeOutcomes bmUnlikeOutcomes : List Value} {snUnlikeOutcomes : List Str} {subUnlikeOutcomes : List Value} {abUnlikeOutcomes : Bool} {colUnlikeOutcomes : Option Bool} {ddUnlikeOutcomes : Option Addr} {mAUnlikeOutcomes mBUnlikeOutcomes mCUnlikeOutcomes mDUnlikeOutcomes mEUnlikeOutcomes : Option Value}
    {f11 : Addr} {od11 an11 : Option Addr} {sl11 : Array (Option Value)} {oc11 kV11 dc11 pm11 cd11 ct11 : Value}
    {nmNotFirm qqNotFirm : Str} {NNotFirm : Addr} {bsNotFirm bmNotFirm : List Value} {snNotFirm : List Str} {subNotFirm : List Value} {abNotFirm : Bool} {colNotFirm : Option Bool} {ddNotFirm : Option Addr} {mANotFirm mBNotFirm mCNotFirm mDNotFirm mENotFirm : Option Value}
    {f12 : Addr} {od12 an12 : Option Addr} {sl12 : Array (Option Value)} {oc12 kV12 dc12 pm12 cd12 ct12 : Value}
    {f13 : Addr} {od13 an13 : Option Addr} {sl13 : Array (Option Value)} {oc13 kV13 dc13 pm13 cd13 ct13 : Value}
    {f14 : Addr} {od14 an14 : Option Addr} {sl14 : Array (Option Value)} {oc14 kV14 dc14 pm14 cd14 ct14 : Value}
    {f15 : Addr} {od15 an15 : Option Addr} {sl15 : Array (Option Value)} {oc15 kV15 dc15 pm15 cd15 ct15 : Value}
    {f16 : Addr} {od16 an16 : Option Addr} {sl16 : Array (Option Value)} {oc16 kV16 dc16 pm16 cd16 ct16 : Value}
    {f17 : Addr} {od17 an17 : Option Addr} {sl17 : Array (Option Value)} {oc17 kV17 dc17 pm17 cd17 ct17 : Value}
    {f18 : Addr} {od18 an18 : Option Addr} {sl18 : Array (Option Value)} {oc18 kV18 dc18 pm18 cd18 ct18 : Value}
    {f19 : Addr} {od19 an19 : Option Addr} {sl19 : Array (Option Value)} {oc19 kV19 dc19 pm19 cd19 ct19 : Value}
    {f20 : Addr} {od20 an20 : Option Addr} {sl20 : Array (Option Value)} {oc20 kV20 dc20 pm20 cd20 ct20 : Value}
    {f21 : Addr} {od21 an21 : Option Addr} {sl21 : Array (Option Value)} {oc21 kV21 dc21 pm21 cd21 ct21 : Value}
    (qBadName : PySem.W.nsIn K mainGlobals "BadName" = some (some (.ref CBadName)))
    (qDuplicateName : PySem.W.nsIn K mainGlobals "DuplicateName" = some (some (.ref CDuplicateName)))
    (qUnknownName : PySem.W.nsIn K mainGlobals "UnknownName" = some (some (.ref CUnknownName)))
    (qBadCount : PySem.W.nsIn K mainGlobals "BadCount" = some (some (.ref CBadCount)))
    (qBadText : PySem.W.nsIn K mainGlobals "BadText" = some (some (.ref CBadText)))
    (qBadSet : PySem.W.nsIn K mainGlobals "BadSet" = some (some (.ref CBadSet)))
    (qBadCell : PySem.W.nsIn K mainGlobals "BadCell" = some (some (.ref CBadCell)))
    (qBadSide : PySem.W.nsIn K mainGlobals "BadSide" = some (some (.ref CBadSide)))
    (qBadLine : PySem.W.nsIn K mainGlobals "BadLine" = some (some (.ref CBadLine)))
    (qBadWish : PySem.W.nsIn K mainGlobals "BadWish" = some (some (.ref CBadWish)))
    (qUnlikeOutcomes : PySem.W.nsIn K mainGlobals "UnlikeOutcomes" = some (some (.ref CUnlikeOutcomes)))
    (qNotFirm : PySem.W.nsIn K mainGlobals "NotFirm" = some (some (.ref CNotFirm)))
    (qIsFirm : PySem.W.nsIn K mainGlobals "IsFirm" = some (some (.ref CIsFirm)))
    (qIsSmooth : PySem.W.nsIn K mainGlobals "IsSmooth" = some (some (.ref CIsSmooth)))
    (qNothingToUndo : PySem.W.nsIn K mainGlobals "NothingToUndo" = some (some (.ref CNothingToUndo)))
    (qChooserError : PySem.W.nsIn K mainGlobals "ChooserError" = some (some (.ref CChooserError)))
    (xBadName : K.lookup CBadName = some (excClassObj nmBadName qqBadName CBadName NBadName bsBadName bmBadName true snBadName subBadName abBadName colBadName ddBadName mABadName mBBadName mCBadName mDBadName mEBadName "ValueError.__new__"))
    (a1 : PySem.W.findIn K (.ref CBadName) "__init__" = some (some (.ref f1)))
    (l1 : K.lookup f1 = some ⟨oc1, od1, .func (PySem.W.fnOf "__init__" "BadName.__init__" (defArgs s_BadNameD_initD) (defBody s_BadNameD_initD) (defScope s_BadNameD_initD) .none kV1 dc1 pm1 an1 cd1 ct1), sl1⟩)
    (c1 : PySem.W.codeIn K cd1 "BadName.__init__" = true)
    (k1 : PySem.W.keepIn K (.ref f1) = true)
    (tIBadName : PySem.W.typeIn K (.ref f1) = some (.type "function"))
    (rBadName : PySem.HandSPX.refsVE bmBadName = true)
    (saBadName : PySem.W.findIn K (.ref CBadName) "__setattr__" = some (some (.builtin "object.__setattr__")))
    (noBadName : PySem.W.findIn K (.ref CBadName) "name" = some none)
    (xDuplicateName : K.lookup CDuplicateName = some (excClassObj nmDuplicateName qqDuplicateName CDuplicateName NDuplicateName bsDuplicateName bmDuplicateName true snDuplicateName subDuplicateName abDuplicateName colDuplicateName ddDuplicateName mADuplicateName mBDuplicateName mCDuplicateName mDDuplicateName mEDuplicateName "ValueError.__new__"))
    (a2 : PySem.W.findIn K (.ref CDuplicateName) "__init__" = some (some (.ref f2)))
    (l2 : K.lookup f2 = some ⟨oc2, od2, .func (PySem.W.fnOf "__init__" "DuplicateName.__init__" (defArgs s_DuplicateNameD_initD) (defBody s_DuplicateNameD_initD) (defScope s_DuplicateNameD_initD) .none kV2 dc2 pm2 an2 cd2 ct2), sl2⟩)
    (c2 : PySem.W.codeIn K cd2 "DuplicateName.__init__" = true)
    (k2 : PySem.W.keepIn K (.ref f2) = true)
    (tIDuplicateName : PySem.W.typeIn K (.ref f2) = some (.type "function"))
    (rDuplicateName : PySem.HandSPX.refsVE bmDuplicateName = true)
    (saDuplicateName : PySem.W.findIn K (.ref CDuplicateName) "__setattr__" = some (some (.builtin "object.__setattr__")))
    (noDuplicateName : PySem.W.findIn K (.ref CDuplicateName) "name" = some none)
    (xUnknownName : K.lookup CUnknownName = some (excClassObj nmUnknownName qqUnknownName CUnknownName NUnknownName bsUnknownName bmUnknownName true snUnknownName subUnknownName abUnknownName colUnknownName ddUnknownName mAUnknownName mBUnknownName mCUnknownName mDUnknownName mEUnknownName "ValueError.__new__"))
    (a3 : PySem.W.findIn K (.ref CUnknownName) "__init__" = some (some (.ref f3)))
    (l3 : K.lookup f3 = some ⟨oc3, od3, .func (PySem.W.fnOf "__init__" "UnknownName.__init__" (defArgs s_UnknownNameD_initD) (defBody s_UnknownNameD_initD) (defScope s_UnknownNameD_initD) .none kV3 dc3 pm3 an3 cd3 ct3), sl3⟩)
    (c3 : PySem.W.codeIn K cd3 "UnknownName.__init__" = true)
    (k3 : PySem.W.keepIn K (.ref f3) = true)
    (tIUnknownName : PySem.W.typeIn K (.ref f3) = some (.type "function"))
    (rUnknownName : PySem.HandSPX.refsVE bmUnknownName = true)
    (saUnknownName : PySem.W.findIn K (.ref CUnknownName) "__setattr__" = some (some (.builtin "object.__setattr__")))
    (noUnknownName : PySem.W.findIn K (.ref CUnknownName) "name" = some none)
    (xBadCount : K.lookup CBadCount = some (excClassObj nmBadCount qqBadCount CBadCount NBadCount bsBadCount bmBadCount true snBadCount subBadCount abBadCount colBadCount ddBadCount mABadCount mBBadCount mCBadCount mDBadCount mEBadCount "ValueError.__new__"))
    (a4 : PySem.W.findIn K (.ref CBadCount) "__init__" = some (some (.ref f4)))
    (l4 : K.lookup f4 = some ⟨oc4, od4, .func (PySem.W.fnOf "__init__" "BadCount.__init__" (defArgs s_BadCountD_initD) (defBody s_BadCountD_initD) (defScope s_BadCountD_initD) .none kV4 dc4 pm4 an4 cd4 ct4), sl4⟩)
    (c4 : PySem.W.codeIn K cd4 "BadCount.__init__" = true)
    (k4 : PySem.W.keepIn K (.ref f4) = true)
    (tIBadCount : PySem.W.typeIn K (.ref f4) = some (.type "function"))
    (rBadCount : PySem.HandSPX.refsVE bmBadCount = true)
    (saBadCount : PySem.W.findIn K (.ref CBadCount) "__setattr__" = some (some (.builtin "object.__setattr__")))
    (noBadCount : PySem.W.findIn K (.ref CBadCount) "count" = some none)
    (xBadText : K.lookup CBadText = some (excClassObj nmBadText qqBadText CBadText NBadText bsBadText bmBadText true snBadText subBadText abBadText colBadText ddBadText mABadText mBBadText mCBadText mDBadText mEBadText "ValueError.__new__"))
    (a5 : PySem.W.findIn K (.ref CBadText) "__init__" = some (some (.ref f5)))
    (l5 : K.lookup f5 = some ⟨oc5, od5, .func (PySem.W.fnOf "__init__" "BadText.__init__" (defArgs s_BadTextD_initD) (defBody s_BadTextD_initD) (defScope s_BadTextD_initD) .none kV5 dc5 pm5 an5 cd5 ct5), sl5⟩)
    (c5 : PySem.W.codeIn K cd5 "BadText.__init__" = true)
    (k5 : PySem.W.keepIn K (.ref f5) = true)
    (tIBadText : PySem.W.typeIn K (.ref f5) = some (.type "function"))
    (rBadText : PySem.HandSPX.refsVE bmBadText = true)
    (saBadText : PySem.W.findIn K (.ref CBadText) "__setattr__" = some (some (.builtin "object.__setattr__")))
    (noBadText : PySem.W.findIn K (.ref CBadText) "text" = some none)
    (xBadSet : K.lookup CBadSet = some (excClassObj nmBadSet qqBadSet CBadSet NBadSet bsBadSet bmBadSet true snBadSet subBadSet abBadSet colBadSet ddBadSet mABadSet mBBadSet mCBadSet mDBadSet mEBadSet "ValueError.__new__"))
    (a6 : PySem.W.findIn K (.ref CBadSet) "__init__" = some (some (.ref f6)))
    (l6 : K.lookup f6 = some ⟨oc6, od6, .func (PySem.W.fnOf "__init__" "BadSet.__init__" (defArgs s_BadSetD_initD) (defBody s_BadSetD_initD) (defScope s_BadSetD_initD) .none kV6 dc6 pm6 an6 cd6 ct6), sl6⟩)
    (c6 : PySem.W.codeIn K cd6 "BadSet.__init__" = true)
    (k6 : PySem.W.keepIn K (.ref f6) = true)
    (tIBadSet : PySem.W.typeIn K (.ref f6) = some (.type "function"))
    (rBadSet : PySem.HandSPX.refsVE bmBadSet = true)
    (saBadSet : PySem.W.findIn K (.ref CBadSet) "__setattr__" = some (some (.builtin "object.__setattr__")))
    (noBadSet : PySem.W.findIn K (.ref CBadSet) "value" = some none)
    (xBadCell : K.lookup CBadCell = some (excClassObj nmBadCell qqBadCell CBadCell NBadCell bsBadCell bmBadCell true snBadCell subBadCell abBadCell colBadCell ddBadCell mABadCell mBBadCell mCBadCell mDBadCell mEBadCell "ValueError.__new__"))
    (a7 : PySem.W.findIn K (.ref CBadCell) "__init__" = some (some (.ref f7)))
    (l7 : K.lookup f7 = some ⟨oc7, od7, .func (PySem.W.fnOf "__init__" "BadCell.__init__" (defArgs s_BadCellD_initD) (defBody s_BadCellD_initD) (defScope s_BadCellD_initD) .none kV7 dc7 pm7 an7 cd7 ct7), sl7⟩)
    (c7 : PySem.W.codeIn K cd7 "BadCell.__init__" = true)
    (k7 : PySem.W.keepIn K (.ref f7) = true)
    (tIBadCell : PySem.W.typeIn K (.ref f7) = some (.type "function"))
    (rBadCell : PySem.HandSPX.refsVE bmBadCell = true)
    (saBadCell : PySem.W.findIn K (.ref CBadCell) "__setattr__" = some (some (.builtin "object.__setattr__")))
    (noBadCell : PySem.W.findIn K (.ref CBadCell) "value" = some none)
    (xBadSide : K.lookup CBadSide = some (excClassObj nmBadSide qqBadSide CBadSide NBadSide bsBadSide bmBadSide true snBadSide subBadSide abBadSide colBadSide ddBadSide mABadSide mBBadSide mCBadSide mDBadSide mEBadSide "ValueError.__new__"))
    (a8 : PySem.W.findIn K (.ref CBadSide) "__init__" = some (some (.ref f8)))
    (l8 : K.lookup f8 = some ⟨oc8, od8, .func (PySem.W.fnOf "__init__" "BadSide.__init__" (defArgs s_BadSideD_initD) (defBody s_BadSideD_initD) (defScope s_BadSideD_initD) .none kV8 dc8 pm8 an8 cd8 ct8), sl8⟩)
    (c8 : PySem.W.codeIn K cd8 "BadSide.__init__" = true)
    (k8 : PySem.W.keepIn K (.ref f8) = true)
    (tIBadSide : PySem.W.typeIn K (.ref f8) = some (.type "function"))
    (rBadSide : PySem.HandSPX.refsVE bmBadSide = true)
    (saBadSide : PySem.W.findIn K (.ref CBadSide) "__setattr__" = some (some (.builtin "object.__setattr__")))
    (noBadSide : PySem.W.findIn K (.ref CBadSide) "word" = some none)
    (xBadLine : K.lookup CBadLine = some (excClassObj nmBadLine qqBadLine CBadLine NBadLine bsBadLine bmBadLine true snBadLine subBadLine abBadLine colBadLine ddBadLine mABadLine mBBadLine mCBadLine mDBadLine mEBadLine "ValueError.__new__"))
    (a9 : PySem.W.findIn K (.ref CBadLine) "__init__" = some (some (.ref f9)))
    (l9 : K.lookup f9 = some ⟨oc9, od9, .func (PySem.W.fnOf "__init__" "BadLine.__init__" (defArgs s_BadLineD_initD) (defBody s_BadLineD_initD) (defScope s_BadLineD_initD) .none kV9 dc9 pm9 an9 cd9 ct9), sl9⟩)
    (c9 : PySem.W.codeIn K cd9 "BadLine.__init__" = true)
    (k9 : PySem.W.keepIn K (.ref f9) = true)
    (tIBadLine : PySem.W.typeIn K (.ref f9) = some (.type "function"))
    (rBadLine : PySem.HandSPX.refsVE bmBadLine = true)
    (saBadLine : PySem.W.findIn K (.ref CBadLine) "__setattr__" = some (some (.builtin "object.__setattr__")))
    (noBadLine : PySem.W.findIn K (.ref CBadLine) "number" = some none)
    (xBadWish : K.lookup CBadWish = some (excClassObj nmBadWish qqBadWish CBadWish NBadWish bsBadWish bmBadWish true snBadWish subBadWish abBadWish colBadWish ddBadWish mABadWish mBBadWish mCBadWish mDBadWish mEBadWish "ValueError.__new__"))
    (a10 : PySem.W.findIn K (.ref CBadWish) "__init__" = some (some (.ref f10)))
    (l10 : K.lookup f10 = some ⟨oc10, od10, .func (PySem.W.fnOf "__init__" "BadWish.__init__" (defArgs s_BadWishD_initD) (defBody s_BadWishD_initD) (defScope s_BadWishD_initD) .none kV10 dc10 pm10 an10 cd10 ct10), sl10⟩)
    (c10 : PySem.W.codeIn K cd10 "BadWish.__init__" = true)
    (k10 : PySem.W.keepIn K (.ref f10) = true)
    (tIBadWish : PySem.W.typeIn K (.ref f10) = some (.type "function"))
    (rBadWish : PySem.HandSPX.refsVE bmBadWish = true)
    (saBadWish : PySem.W.findIn K (.ref CBadWish) "__setattr__" = some (some (.builtin "object.__setattr__")))
    (noBadWish : PySem.W.findIn K (.ref CBadWish) "value" = some none)
    (xUnlikeOutcomes : K.lookup CUnlikeOutcomes = some (excClassObj nmUnlikeOutcomes qqUnlikeOutcomes CUnlikeOutcomes NUnlikeOutcomes bsUnlikeOutcomes bmUnlikeOutcomes true snUnlikeOutcomes subUnlikeOutcomes abUnlikeOutcomes colUnlikeOutcomes ddUnlikeOutcomes mAUnlikeOutcomes mBUnlikeOutcomes mCUnlikeOutcomes mDUnlikeOutcomes mEUnlikeOutcomes "ValueError.__new__"))
    (a11 : PySem.W.findIn K (.ref CUnlikeOutcomes) "__init__" = some (some (.ref f11)))
    (l11 : K.lookup f11 = some ⟨oc11, od11, .func (PySem.W.fnOf "__init__" "UnlikeOutcomes.__init__" (defArgs s_UnlikeOutcomesD_initD) (defBody s_UnlikeOutcomesD_initD) (defScope s_UnlikeOutcomesD_initD) .none kV11 dc11 pm11 an11 cd11 ct11), sl11⟩)
    (c11 : PySem.W.codeIn K cd11 "UnlikeOutcomes.__init__" = true)
    (k11 : PySem.W.keepIn K (.ref f11) = true)
    (tIUnlikeOutcomes : PySem.W.typeIn K (.ref f11) = some (.type "function"))
    (rUnlikeOutcomes : PySem.HandSPX.refsVE bmUnlikeOutcomes = true)
    (saUnlikeOutcomes : PySem.W.findIn K (.ref CUnlikeOutcomes) "__setattr__" = some (some (.builtin "object.__setattr__")))
    (noUnlikeOutcomes : PySem.W.findIn K (.ref CUnlikeOutcomes) "names" = some none)
    (xNotFirm : K.lookup CNotFirm = some (excClassObj nmNotFirm qqNotFirm CNotFirm NNotFirm bsNotFirm bmNotFirm true snNotFirm subNotFirm abNotFirm colNotFirm ddNotFirm mANotFirm mBNotFirm mCNotFirm mDNotFirm mENotFirm "ValueError.__new__"))
    (a12 : PySem.W.findIn K (.ref CNotFirm) "__init__" = some (some (.ref f12)))
    (l12 : K.lookup f12 = some ⟨oc12, od12, .func (PySem.W.fnOf "__init__" "NotFirm.__init__" (defArgs s_NotFirmD_initD) (defBody s_NotFirmD_initD) (defScope s_NotFirmD_initD) .none kV12 dc12 pm12 an12 cd12 ct12), sl12⟩)
    (c12 : PySem.W.codeIn K cd12 "NotFirm.__init__" = true)
    (k12 : PySem.W.keepIn K (.ref f12) = true)
    (tINotFirm : PySem.W.typeIn K (.ref f12) = some (.type "function"))
    (rNotFirm : PySem.HandSPX.refsVE bmNotFirm = true)
    (saNotFirm : PySem.W.findIn K (.ref CNotFirm) "__setattr__" = some (some (.builtin "object.__setattr__")))
    (noNotFirm : PySem.W.findIn K (.ref CNotFirm) "value" = some none)
    (q0IsFirm : PySem.W.excIn K CIsFirm [.type "ValueError", .type "Exception", .type "BaseException", .type "object"] "ValueError.__new__" = true)
    (q0IsSmooth : PySem.W.excIn K CIsSmooth [.type "ValueError", .type "Exception", .type "BaseException", .type "object"] "ValueError.__new__" = true)
    (q0NothingToUndo : PySem.W.excIn K CNothingToUndo [.type "ValueError", .type "Exception", .type "BaseException", .type "object"] "ValueError.__new__" = true)
    (kpBadName : PySem.W.keepIn K (.ref CBadName) = true)
    (exBadName : PySem.W.subIn K (.ref CBadName) (.type "BaseException") = some true)
    (tyBadName : PySem.W.typeIn K (.ref CBadName) = some (.type "type"))
    (gaBadName : PySem.W.findIn K (.ref CBadName) "__getattribute__" = some (some (.builtin "BaseException.__getattribute__")))
    (ggBadName : PySem.W.findIn K (.ref CBadName) "__getattr__" = some none)
    (hdBadName : PySem.W.hasDictIn K CBadName = true)
    (icBadName : PySem.W.isClsIn K CBadName = true)
    (hcBadName : PySem.W.findIn K (.ref CBadName) "__class__" = some (some (.builtin "object.__class__")))
    (hmBadName : PySem.W.mroIn K CBadName (.type "object") = some true)
    (kpDuplicateName : PySem.W.keepIn K (.ref CDuplicateName) = true)
    (exDuplicateName : PySem.W.subIn K (.ref CDuplicateName) (.type "BaseException") = some true)
    (tyDuplicateName : PySem.W.typeIn K (.ref CDuplicateName) = some (.type "type"))
    (gaDuplicateName : PySem.W.findIn K (.ref CDuplicateName) "__getattribute__" = some (some (.builtin "BaseException.__getattribute__")))
    (ggDuplicateName : PySem.W.findIn K (.ref CDuplicateName) "__getattr__" = some none)
    (hdDuplicateName : PySem.W.hasDictIn K CDuplicateName = true)
    (icDuplicateName : PySem.W.isClsIn K CDuplicateName = true)
    (hcDuplicateName : PySem.W.findIn K (.ref CDuplicateName) "__class__" = some (some (.builtin "object.__class__")))
    (hmDuplicateName : PySem.W.mroIn K CDuplicateName (.type "object") = some true)
    (kpUnknownName : PySem.W.keepIn K (.ref CUnknownName) = true)
    (exUnknownName : PySem.W.subIn K (.ref CUnknownName) (.type "BaseException") = some true)
    (tyUnknownName : PySem.W.typeIn K (.ref CUnknownName) = some (.type "type"))
    (gaUnknownName : PySem.W.findIn K (.ref CUnknownName) "__getattribute__" = some (some (.builtin "BaseException.__getattribute__")))
    (ggUnknownName : PySem.W.findIn K (.ref CUnknownName) "__getattr__" = some none)
    (hdUnknownName : PySem.W.hasDictIn K CUnknownName = true)
    (icUnknownName : PySem.W.isClsIn K CUnknownName = true)
    (hcUnknownName : PySem.W.findIn K (.ref CUnknownName) "__class__" = some (some (.builtin "object.__class__")))
    (hmUnknownName : PySem.W.mroIn K CUnknownName (.type "object") = some true)
    (kpBadCount : PySem.W.keepIn K (.ref CBadCount) = true)
    (exBadCount : PySem.W.subIn K (.ref CBadCount) (.type "BaseException") = some true)
    (tyBadCount : PySem.W.typeIn K (.ref CBadCount) = some (.type "type"))
    (gaBadCount : PySem.W.findIn K (.ref CBadCount) "__getattribute__" = some (some (.builtin "BaseException.__getattribute__")))
    (ggBadCount : PySem.W.findIn K (.ref CBadCount) "__getattr__" = some none)
    (hdBadCount : PySem.W.hasDictIn K CBadCount = true)
    (icBadCount : PySem.W.isClsIn K CBadCount = true)
    (hcBadCount : PySem.W.findIn K (.ref CBadCount) "__class__" = some (some (.builtin "object.__class__")))
    (hmBadCount : PySem.W.mroIn K CBadCount (.type "object") = some true)
    (kpBadText : PySem.W.keepIn K (.ref CBadText) = true)
    (exBadText : PySem.W.subIn K (.ref CBadText) (.type "BaseException") = some true)
    (tyBadText : PySem.W.typeIn K (.ref CBadText) = some (.type "type"))
    (gaBadText : PySem.W.findIn K (.ref CBadText) "__getattribute__" = some (some (.builtin "BaseException.__getattribute__")))
    (ggBadText : PySem.W.findIn K (.ref CBadText) "__getattr__" = some none)
    (hdBadText : PySem.W.hasDictIn K CBadText = true)
    (icBadText : PySem.W.isClsIn K CBadText = true)
    (hcBadText : PySem.W.findIn K (.ref CBadText) "__class__" = some (some (.builtin "object.__class__")))
    (hmBadText : PySem.W.mroIn K CBadText (.type "object") = some true)
    (kpBadSet : PySem.W.keepIn K (.ref CBadSet) = true)
    (exBadSet : PySem.W.subIn K (.ref CBadSet) (.type "BaseException") = some true)
    (tyBadSet : PySem.W.typeIn K (.ref CBadSet) = some (.type "type"))
    (gaBadSet : PySem.W.findIn K (.ref CBadSet) "__getattribute__" = some (some (.builtin "BaseException.__getattribute__")))
    (ggBadSet : PySem.W.findIn K (.ref CBadSet) "__getattr__" = some none)
    (hdBadSet : PySem.W.hasDictIn K CBadSet = true)
    (icBadSet : PySem.W.isClsIn K CBadSet = true)
    (hcBadSet : PySem.W.findIn K (.ref CBadSet) "__class__" = some (some (.builtin "object.__class__")))
    (hmBadSet : PySem.W.mroIn K CBadSet (.type "object") = some true)
    (kpBadCell : PySem.W.keepIn K (.ref CBadCell) = true)
    (exBadCell : PySem.W.subIn K (.ref CBadCell) (.type "BaseException") = some true)
    (tyBadCell : PySem.W.typeIn K (.ref CBadCell) = some (.type "type"))
    (gaBadCell : PySem.W.findIn K (.ref CBadCell) "__getattribute__" = some (some (.builtin "BaseException.__getattribute__")))
    (ggBadCell : PySem.W.findIn K (.ref CBadCell) "__getattr__" = some none)
    (hdBadCell : PySem.W.hasDictIn K CBadCell = true)
    (icBadCell : PySem.W.isClsIn K CBadCell = true)
    (hcBadCell : PySem.W.findIn K (.ref CBadCell) "__class__" = some (some (.builtin "object.__class__")))
    (hmBadCell : PySem.W.mroIn K CBadCell (.type "object") = some true)
    (kpBadSide : PySem.W.keepIn K (.ref CBadSide) = true)
    (exBadSide : PySem.W.subIn K (.ref CBadSide) (.type "BaseException") = some true)
    (tyBadSide : PySem.W.typeIn K (.ref CBadSide) = some (.type "type"))
    (gaBadSide : PySem.W.findIn K (.ref CBadSide) "__getattribute__" = some (some (.builtin "BaseException.__getattribute__")))
    (ggBadSide : PySem.W.findIn K (.ref CBadSide) "__getattr__" = some none)
    (hdBadSide : PySem.W.hasDictIn K CBadSide = true)
    (icBadSide : PySem.W.isClsIn K CBadSide = true)
    (hcBadSide : PySem.W.findIn K (.ref CBadSide) "__class__" = some (some (.builtin "object.__class__")))
    (hmBadSide : PySem.W.mroIn K CBadSide (.type "object") = some true)
    (kpBadLine : PySem.W.keepIn K (.ref CBadLine) = true)
    (exBadLine : PySem.W.subIn K (.ref CBadLine) (.type "BaseException") = some true)
    (tyBadLine : PySem.W.typeIn K (.ref CBadLine) = some (.type "type"))
    (gaBadLine : PySem.W.findIn K (.ref CBadLine) "__getattribute__" = some (some (.builtin "BaseException.__getattribute__")))
    (ggBadLine : PySem.W.findIn K (.ref CBadLine) "__getattr__" = some none)
    (hdBadLine : PySem.W.hasDictIn K CBadLine = true)
    (icBadLine : PySem.W.isClsIn K CBadLine = true)
    (hcBadLine : PySem.W.findIn K (.ref CBadLine) "__class__" = some (some (.builtin "object.__class__")))
    (hmBadLine : PySem.W.mroIn K CBadLine (.type "object") = some true)
    (kpBadWish : PySem.W.keepIn K (.ref CBadWish) = true)
    (exBadWish : PySem.W.subIn K (.ref CBadWish) (.type "BaseException") = some true)
    (tyBadWish : PySem.W.typeIn K (.ref CBadWish) = some (.type "type"))
    (gaBadWish : PySem.W.findIn K (.ref CBadWish) "__getattribute__" = some (some (.builtin "BaseException.__getattribute__")))
    (ggBadWish : PySem.W.findIn K (.ref CBadWish) "__getattr__" = some none)
    (hdBadWish : PySem.W.hasDictIn K CBadWish = true)
    (icBadWish : PySem.W.isClsIn K CBadWish = true)
    (hcBadWish : PySem.W.findIn K (.ref CBadWish) "__class__" = some (some (.builtin "object.__class__")))
    (hmBadWish : PySem.W.mroIn K CBadWish (.type "object") = some true)
    (kpUnlikeOutcomes : PySem.W.keepIn K (.ref CUnlikeOutcomes) = true)
    (exUnlikeOutcomes : PySem.W.subIn K (.ref CUnlikeOutcomes) (.type "BaseException") = some true)
    (tyUnlikeOutcomes : PySem.W.typeIn K (.ref CUnlikeOutcomes) = some (.type "type"))
    (gaUnlikeOutcomes : PySem.W.findIn K (.ref CUnlikeOutcomes) "__getattribute__" = some (some (.builtin "BaseException.__getattribute__")))
    (ggUnlikeOutcomes : PySem.W.findIn K (.ref CUnlikeOutcomes) "__getattr__" = some none)
    (hdUnlikeOutcomes : PySem.W.hasDictIn K CUnlikeOutcomes = true)
    (icUnlikeOutcomes : PySem.W.isClsIn K CUnlikeOutcomes = true)
    (hcUnlikeOutcomes : PySem.W.findIn K (.ref CUnlikeOutcomes) "__class__" = some (some (.builtin "object.__class__")))
    (hmUnlikeOutcomes : PySem.W.mroIn K CUnlikeOutcomes (.type "object") = some true)
    (kpNotFirm : PySem.W.keepIn K (.ref CNotFirm) = true)
    (exNotFirm : PySem.W.subIn K (.ref CNotFirm) (.type "BaseException") = some true)
    (tyNotFirm : PySem.W.typeIn K (.ref CNotFirm) = some (.type "type"))
    (gaNotFirm : PySem.W.findIn K (.ref CNotFirm) "__getattribute__" = some (some (.builtin "BaseException.__getattribute__")))
    (ggNotFirm : PySem.W.findIn K (.ref CNotFirm) "__getattr__" = some none)
    (hdNotFirm : PySem.W.hasDictIn K CNotFirm = true)
    (icNotFirm : PySem.W.isClsIn K CNotFirm = true)
    (hcNotFirm : PySem.W.findIn K (.ref CNotFirm) "__class__" = some (some (.builtin "object.__class__")))
    (hmNotFirm : PySem.W.mroIn K CNotFirm (.type "object") = some true)
    (kpIsFirm : PySem.W.keepIn K (.ref CIsFirm) = true)
    (exIsFirm : PySem.W.subIn K (.ref CIsFirm) (.type "BaseException") = some true)
    (tyIsFirm : PySem.W.typeIn K (.ref CIsFirm) = some (.type "type"))
    (gaIsFirm : PySem.W.findIn K (.ref CIsFirm) "__getattribute__" = some (some (.builtin "BaseException.__getattribute__")))
    (ggIsFirm : PySem.W.findIn K (.ref CIsFirm) "__getattr__" = some none)
    (hdIsFirm : PySem.W.hasDictIn K CIsFirm = true)
    (icIsFirm : PySem.W.isClsIn K CIsFirm = true)
    (hcIsFirm : PySem.W.findIn K (.ref CIsFirm) "__class__" = some (some (.builtin "object.__class__")))
    (hmIsFirm : PySem.W.mroIn K CIsFirm (.type "object") = some true)
    (kpIsSmooth : PySem.W.keepIn K (.ref CIsSmooth) = true)
    (exIsSmooth : PySem.W.subIn K (.ref CIsSmooth) (.type "BaseException") = some true)
    (tyIsSmooth : PySem.W.typeIn K (.ref CIsSmooth) = some (.type "type"))
    (gaIsSmooth : PySem.W.findIn K (.ref CIsSmooth) "__getattribute__" = some (some (.builtin "BaseException.__getattribute__")))
    (ggIsSmooth : PySem.W.findIn K (.ref CIsSmooth) "__getattr__" = some none)
    (hdIsSmooth : PySem.W.hasDictIn K CIsSmooth = true)
    (icIsSmooth : PySem.W.isClsIn K CIsSmooth = true)
    (hcIsSmooth : PySem.W.findIn K (.ref CIsSmooth) "__class__" = some (some (.builtin "object.__class__")))
    (hmIsSmooth : PySem.W.mroIn K CIsSmooth (.type "object") = some true)
    (kpNothingToUndo : PySem.W.keepIn K (.ref CNothingToUndo) = true)
    (exNothingToUndo : PySem.W.subIn K (.ref CNothingToUndo) (.type "BaseException") = some true)
    (tyNothingToUndo : PySem.W.typeIn K (.ref CNothingToUndo) = some (.type "type"))
    (gaNothingToUndo : PySem.W.findIn K (.ref CNothingToUndo) "__getattribute__" = some (some (.builtin "BaseException.__getattribute__")))
    (ggNothingToUndo : PySem.W.findIn K (.ref CNothingToUndo) "__getattr__" = some none)
    (hdNothingToUndo : PySem.W.hasDictIn K CNothingToUndo = true)
    (icNothingToUndo : PySem.W.isClsIn K CNothingToUndo = true)
    (hcNothingToUndo : PySem.W.findIn K (.ref CNothingToUndo) "__class__" = some (some (.builtin "object.__class__")))
    (hmNothingToUndo : PySem.W.mroIn K CNothingToUndo (.type "object") = some true)
    (kg : PySem.W.specialIn K (.builtin "object.__class__") "__get__" = some (some (.builtin "getset_descriptor.__get__")))
    (kt : PySem.W.takesIn K (.builtin "object.__class__") = some true)
    (mx : (([CBadName, CDuplicateName, CUnknownName, CBadCount, CBadText, CBadSet, CBadCell, CBadSide, CBadLine, CBadWish, CUnlikeOutcomes, CNotFirm, CIsFirm, CIsSmooth, CNothingToUndo] : List Addr).map fun a => ([CBadName, CDuplicateName, CUnknownName, CBadCount, CBadText, CBadSet, CBadCell, CBadSide, CBadLine, CBadWish, CUnlikeOutcomes, CNotFirm, CIsFirm, CIsSmooth, CNothingToUndo] : List Addr).map fun b => PySem.W.subIn K (.ref a) (.ref b)) = (List.range 15).map fun i => (List.range 15).map fun j => some (decide (j = i)))
    (mc : (([CBadName, CDuplicateName, CUnknownName, CBadCount, CBadText, CBadSet, CBadCell, CBadSide, CBadLine, CBadWish, CUnlikeOutcomes, CNotFirm, CIsFirm, CIsSmooth, CNothingToUndo] : List Addr).map fun a => PySem.W.subIn K (.ref a) (.ref CChooserError)) = ([CBadName, CDuplicateName, CUnknownName, CBadCount, CBadText, CBadSet, CBadCell, CBadSide, CBadLine, CBadWish, CUnlikeOutcomes, CNotFirm, CIsFirm, CIsSmooth, CNothingToUndo] : List Addr).map fun _ => some true)
    (mv : (([CBadName, CDuplicateName, CUnknownName, CBadCount, CBadText, CBadSet, CBadCell, CBadSide, CBadLine, CBadWish, CUnlikeOutcomes, CNotFirm, CIsFirm, CIsSmooth, CNothingToUndo] : List Addr).map fun a => PySem.W.kitOne K (.ref a) (.type "ValueError")) = ([CBadName, CDuplicateName, CUnknownName, CBadCount, CBadText, CBadSet, CBadCell, CBadSide, CBadLine, CBadWish, CUnlikeOutcomes, CNotFirm, CIsFirm, CIsSmooth, CNothingToUndo] : List Addr).map fun _ => some true)
    (icCh : PySem.W.isClsIn K CChooserError = true)
    (tyCh : PySem.W.typeIn K (.ref CChooserError) = some (.type "type"))
    (a13 : PySem.W.nsIn K mainGlobals "_law_start" = some (some (.ref f13)))
    (l13 : K.lookup f13 = some ⟨oc13, od13, .func (PySem.W.fnOf "_law_start" "_law_start" (defArgs s_Lstart) (defBody s_Lstart) (defScope s_Lstart) .none kV13 dc13 pm13 an13 cd13 ct13), sl13⟩)
    (c13 : PySem.W.codeIn K cd13 "_law_start" = true)
    (k13 : PySem.W.keepIn K (.ref f13) = true)
    (a14 : PySem.W.nsIn K mainGlobals "_law_draw" = some (some (.ref f14)))
    (l14 : K.lookup f14 = some ⟨oc14, od14, .func (PySem.W.fnOf "_law_draw" "_law_draw" (defArgs s_Ldraw) (defBody s_Ldraw) (defScope s_Ldraw) .none kV14 dc14 pm14 an14 cd14 ct14), sl14⟩)
    (c14 : PySem.W.codeIn K cd14 "_law_draw" = true)
    (k14 : PySem.W.keepIn K (.ref f14) = true)
    (a15 : PySem.W.nsIn K mainGlobals "_law_signs" = some (some (.ref f15)))
    (l15 : K.lookup f15 = some ⟨oc15, od15, .func (PySem.W.fnOf "_law_signs" "_law_signs" (defArgs s_Lsigns) (defBody s_Lsigns) (defScope s_Lsigns) .none kV15 dc15 pm15 an15 cd15 ct15), sl15⟩)
    (c15 : PySem.W.codeIn K cd15 "_law_signs" = true)
    (k15 : PySem.W.keepIn K (.ref f15) = true)
    (a16 : PySem.W.nsIn K mainGlobals "_law_kinds" = some (some (.ref f16)))
    (l16 : K.lookup f16 = some ⟨oc16, od16, .func (PySem.W.fnOf "_law_kinds" "_law_kinds" (defArgs s_Lkinds) (defBody s_Lkinds) (defScope s_Lkinds) .none kV16 dc16 pm16 an16 cd16 ct16), sl16⟩)
    (c16 : PySem.W.codeIn K cd16 "_law_kinds" = true)
    (k16 : PySem.W.keepIn K (.ref f16) = true)
    (a17 : PySem.W.nsIn K mainGlobals "_law_thing" = some (some (.ref f17)))
    (l17 : K.lookup f17 = some ⟨oc17, od17, .func (PySem.W.fnOf "_law_thing" "_law_thing" (defArgs s_Lthing) (defBody s_Lthing) (defScope s_Lthing) .none kV17 dc17 pm17 an17 cd17 ct17), sl17⟩)
    (c17 : PySem.W.codeIn K cd17 "_law_thing" = true)
    (k17 : PySem.W.keepIn K (.ref f17) = true)
    (a18 : PySem.W.nsIn K mainGlobals "_law_all" = some (some (.ref f18)))
    (l18 : K.lookup f18 = some ⟨oc18, od18, .func (PySem.W.fnOf "_law_all" "_law_all" (defArgs s_Lall) (defBody s_Lall) (defScope s_Lall) .none kV18 dc18 pm18 an18 cd18 ct18), sl18⟩)
    (c18 : PySem.W.codeIn K cd18 "_law_all" = true)
    (k18 : PySem.W.keepIn K (.ref f18) = true)
    (a19 : PySem.W.nsIn K mainGlobals "_law_named" = some (some (.ref f19)))
    (l19 : K.lookup f19 = some ⟨oc19, od19, .func (PySem.W.fnOf "_law_named" "_law_named" (defArgs s_Lnamed) (defBody s_Lnamed) (defScope s_Lnamed) .none kV19 dc19 pm19 an19 cd19 ct19), sl19⟩)
    (c19 : PySem.W.codeIn K cd19 "_law_named" = true)
    (k19 : PySem.W.keepIn K (.ref f19) = true)
    (a20 : PySem.W.nsIn K mainGlobals "_law_keeps" = some (some (.ref f20)))
    (l20 : K.lookup f20 = some ⟨oc20, od20, .func (PySem.W.fnOf "_law_keeps" "_law_keeps" (defArgs s_Lkeeps) (defBody s_Lkeeps) (defScope s_Lkeeps) .none kV20 dc20 pm20 an20 cd20 ct20), sl20⟩)
    (c20 : PySem.W.codeIn K cd20 "_law_keeps" = true)
    (k20 : PySem.W.keepIn K (.ref f20) = true)
    (a21 : PySem.W.nsIn K mainGlobals "law" = some (some (.ref f21)))
    (l21 : K.lookup f21 = some ⟨oc21, od21, .func (PySem.W.fnOf "law" "law" (defArgs s_law) (defBody s_law) (defScope s_law) .none kV21 dc21 pm21 an21 cd21 ct21), sl21⟩)
    (c21 : PySem.W.codeIn K cd21 "law" = true)
    (k21 : PySem.W.keepIn K (.ref f21) = true)
    (z_ValueError : PySem.W.nsIn K mainGlobals "ValueError" = some none)
    (z_abs : PySem.W.nsIn K mainGlobals "abs" = some none)
    (z_bool : PySem.W.nsIn K mainGlobals "bool" = some none)
    (z_int : PySem.W.nsIn K mainGlobals "int" = some none)
    (z_isinstance : PySem.W.nsIn K mainGlobals "isinstance" = some none)
    (z_len : PySem.W.nsIn K mainGlobals "len" = some none)
    (z_list : PySem.W.nsIn K mainGlobals "list" = some none)
    (z_range : PySem.W.nsIn K mainGlobals "range" = some none) :
    ∃ fd : FuncData, (∀ (s : Shared) (v : Value), BindsTo s fd ⟨[v], []⟩ [("_law_script", v)]) ∧ ∀ base : Heap, K.In base → base.Ns mainGlobals mg → FnOk l.prog w K mg base CX0 4 fa fd ["_law_script"] (spLaw K) := by
  have e := hfa.symm.trans (PySem.W.mg_of X G a21)
  cases e
  have F1 := fun_mk (st := s_BadNameD_initD) l1 c1 k1
  have F2 := fun_mk (st := s_DuplicateNameD_initD) l2 c2 k2
  have F3 := fun_mk (st := s_UnknownNameD_initD) l3 c3 k3
  have F4 := fun_mk (st := s_BadCountD_initD) l4 c4 k4
  have F5 := fun_mk (st := s_BadTextD_initD) l5 c5 k5
  have F6 := fun_mk (st := s_BadSetD_initD) l6 c6 k6
  have F7 := fun_mk (st := s_BadCellD_initD) l7 c7 k7
  have F8 := fun_mk (st := s_BadSideD_initD) l8 c8 k8
  have F9 := fun_mk (st := s_BadLineD_initD) l9 c9 k9
  have F10 := fun_mk (st := s_BadWishD_initD) l10 c10 k10
  have F11 := fun_mk (st := s_UnlikeOutcomesD_initD) l11 c11 k11
  have F12 := fun_mk (st := s_NotFirmD_initD) l12 c12 k12
  have F13 := fun_mk (st := s_Lstart) l13 c13 k13
  have F14 := fun_mk (st := s_Ldraw) l14 c14 k14
  have F15 := fun_mk (st := s_Lsigns) l15 c15 k15
  have F16 := fun_mk (st := s_Lkinds) l16 c16 k16
  have F17 := fun_mk (st := s_Lthing) l17 c17 k17
  have F18 := fun_mk (st := s_Lall) l18 c18 k18
  have F19 := fun_mk (st := s_Lnamed) l19 c19 k19
  have F20 := fun_mk (st := s_Lkeeps) l20 c20 k20
  have F21 := fun_mk (st := s_law) l21 c21 k21
  have b1 := F1.binds (ps := ["self", "name"]) fun _ _ _ _ _ _ us hl => match us, hl with | [_, _], _ => rfl
  have b2 := F2.binds (ps := ["self", "name"]) fun _ _ _ _ _ _ us hl => match us, hl with | [_, _], _ => rfl
  have b3 := F3.binds (ps := ["self", "name"]) fun _ _ _ _ _ _ us hl => match us, hl with | [_, _], _ => rfl
  have b4 := F4.binds (ps := ["self", "count"]) fun _ _ _ _ _ _ us hl => match us, hl with | [_, _], _ => rfl
  have b5 := F5.binds (ps := ["self", "text"]) fun _ _ _ _ _ _ us hl => match us, hl with | [_, _], _ => rfl
  have b6 := F6.binds (ps := ["self", "value"]) fun _ _ _ _ _ _ us hl => match us, hl with | [_, _], _ => rfl
  have b7 := F7.binds (ps := ["self", "value"]) fun _ _ _ _ _ _ us hl => match us, hl with | [_, _], _ => rfl
  have b8 := F8.binds (ps := ["self", "word"]) fun _ _ _ _ _ _ us hl => match us, hl with | [_, _], _ => rfl
  have b9 := F9.binds (ps := ["self", "number"]) fun _ _ _ _ _ _ us hl => match us, hl with | [_, _], _ => rfl
  have b10 := F10.binds (ps := ["self", "value"]) fun _ _ _ _ _ _ us hl => match us, hl with | [_, _], _ => rfl
  have b11 := F11.binds (ps := ["self", "names"]) fun _ _ _ _ _ _ us hl => match us, hl with | [_, _], _ => rfl
  have b12 := F12.binds (ps := ["self", "value"]) fun _ _ _ _ _ _ us hl => match us, hl with | [_, _], _ => rfl
  have b13 := F13.binds (ps := ["_law_script"]) fun _ _ _ _ _ _ us hl => match us, hl with | [_], _ => rfl
  have b14 := F14.binds (ps := ["_law_state", "_law_size"]) fun _ _ _ _ _ _ us hl => match us, hl with | [_, _], _ => rfl
  have b15 := F15.binds (ps := []) fun _ _ _ _ _ _ us hl => match us, hl with | [], _ => rfl
  have b16 := F16.binds (ps := ["_law_e"]) fun _ _ _ _ _ _ us hl => match us, hl with | [_], _ => rfl
  have b17 := F17.binds (ps := ["_law_state"]) fun _ _ _ _ _ _ us hl => match us, hl with | [_], _ => rfl
  have b18 := F18.binds (ps := ["_law_t"]) fun _ _ _ _ _ _ us hl => match us, hl with | [_], _ => rfl
  have b19 := F19.binds (ps := ["_law_t"]) fun _ _ _ _ _ _ us hl => match us, hl with | [_], _ => rfl
  have b20 := F20.binds (ps := ["_law_made", "_law_t"]) fun _ _ _ _ _ _ us hl => match us, hl with | [_, _], _ => rfl
  have b21 := F21.binds (ps := ["_law_script"]) fun _ _ _ _ _ _ us hl => match us, hl with | [_], _ => rfl
  have T : TxtB mg := { z_ValueError := PySem.W.mg_none_of X G z_ValueError, z_abs := PySem.W.mg_none_of X G z_abs, z_bool := PySem.W.mg_none_of X G z_bool, z_int := PySem.W.mg_none_of X G z_int, z_isinstance := PySem.W.mg_none_of X G z_isinstance, z_len := PySem.W.mg_none_of X G z_len, z_list := PySem.W.mg_none_of X G z_list, z_range := PySem.W.mg_none_of X G z_range }
  have EBadName : ErrC K CBadName := ⟨icBadName, ⟨gaBadName, ggBadName, exBadName, hdBadName⟩, hcBadName, kg, kt, hmBadName⟩
  have EDuplicateName : ErrC K CDuplicateName := ⟨icDuplicateName, ⟨gaDuplicateName, ggDuplicateName, exDuplicateName, hdDuplicateName⟩, hcDuplicateName, kg, kt, hmDuplicateName⟩
  have EUnknownName : ErrC K CUnknownName := ⟨icUnknownName, ⟨gaUnknownName, ggUnknownName, exUnknownName, hdUnknownName⟩, hcUnknownName, kg, kt, hmUnknownName⟩
  have EBadCount : ErrC K CBadCount := ⟨icBadCount, ⟨gaBadCount, ggBadCount, exBadCount, hdBadCount⟩, hcBadCount, kg, kt, hmBadCount⟩
  have EBadText : ErrC K CBadText := ⟨icBadText, ⟨gaBadText, ggBadText, exBadText, hdBadText⟩, hcBadText, kg, kt, hmBadText⟩
  have EBadSet : ErrC K CBadSet := ⟨icBadSet, ⟨gaBadSet, ggBadSet, exBadSet, hdBadSet⟩, hcBadSet, kg, kt, hmBadSet⟩
  have EBadCell : ErrC K CBadCell := ⟨icBadCell, ⟨gaBadCell, ggBadCell, exBadCell, hdBadCell⟩, hcBadCell, kg, kt, hmBadCell⟩
  have EBadSide : ErrC K CBadSide := ⟨icBadSide, ⟨gaBadSide, ggBadSide, exBadSide, hdBadSide⟩, hcBadSide, kg, kt, hmBadSide⟩
  have EBadLine : ErrC K CBadLine := ⟨icBadLine, ⟨gaBadLine, ggBadLine, exBadLine, hdBadLine⟩, hcBadLine, kg, kt, hmBadLine⟩
  have EBadWish : ErrC K CBadWish := ⟨icBadWish, ⟨gaBadWish, ggBadWish, exBadWish, hdBadWish⟩, hcBadWish, kg, kt, hmBadWish⟩
  have EUnlikeOutcomes : ErrC K CUnlikeOutcomes := ⟨icUnlikeOutcomes, ⟨gaUnlikeOutcomes, ggUnlikeOutcomes, exUnlikeOutcomes, hdUnlikeOutcomes⟩, hcUnlikeOutcomes, kg, kt, hmUnlikeOutcomes⟩
  have ENotFirm : ErrC K CNotFirm := ⟨icNotFirm, ⟨gaNotFirm, ggNotFirm, exNotFirm, hdNotFirm⟩, hcNotFirm, kg, kt, hmNotFirm⟩
  have EIsFirm : ErrC K CIsFirm := ⟨icIsFirm, ⟨gaIsFirm, ggIsFirm, exIsFirm, hdIsFirm⟩, hcIsFirm, kg, kt, hmIsFirm⟩
  have EIsSmooth : ErrC K CIsSmooth := ⟨icIsSmooth, ⟨gaIsSmooth, ggIsSmooth, exIsSmooth, hdIsSmooth⟩, hcIsSmooth, kg, kt, hmIsSmooth⟩
  have ENothingToUndo : ErrC K CNothingToUndo := ⟨icNothingToUndo, ⟨gaNothingToUndo, ggNothingToUndo, exNothingToUndo, hdNothingToUndo⟩, hcNothingToUndo, kg, kt, hmNothingToUndo⟩
  refine ⟨PySem.W.fnOf "law" "law" (defArgs s_law) (defBody s_law) (defScope s_law) .none kV21 dc21 pm21 an21 cd21 ct21, fun s v => .of_eq rfl, fun base _ _ => ?_⟩
  have TBadName : OexC K CBadName := ⟨⟨nmBadName, qqBadName, NBadName, bsBadName, bmBadName, snBadName, subBadName, abBadName, colBadName, ddBadName, mABadName, mBBadName, mCBadName, mDBadName, mEBadName, xBadName, rBadName⟩, saBadName, exBadName, tyBadName, kpBadName⟩
  let MBadName : ErM l.prog w K mg base "BadName" "name" := { C := CBadName, g := PySem.W.mg_of X G qBadName, T := TBadName, no := noBadName, fI := f1, fd := _, I := ⟨a1, tIBadName⟩, b := b1, kb := kb_two F1 fun _ _ _ _ _ _ _ _ => rfl, G := ok_BadNameD_initD F1 TBadName noBadName }
  have TDuplicateName : OexC K CDuplicateName := ⟨⟨nmDuplicateName, qqDuplicateName, NDuplicateName, bsDuplicateName, bmDuplicateName, snDuplicateName, subDuplicateName, abDuplicateName, colDuplicateName, ddDuplicateName, mADuplicateName, mBDuplicateName, mCDuplicateName, mDDuplicateName, mEDuplicateName, xDuplicateName, rDuplicateName⟩, saDuplicateName, exDuplicateName, tyDuplicateName, kpDuplicateName⟩
  let MDuplicateName : ErM l.prog w K mg base "DuplicateName" "name" := { C := CDuplicateName, g := PySem.W.mg_of X G qDuplicateName, T := TDuplicateName, no := noDuplicateName, fI := f2, fd := _, I := ⟨a2, tIDuplicateName⟩, b := b2, kb := kb_two F2 fun _ _ _ _ _ _ _ _ => rfl, G := ok_DuplicateNameD_initD F2 TDuplicateName noDuplicateName }
  have TUnknownName : OexC K CUnknownName := ⟨⟨nmUnknownName, qqUnknownName, NUnknownName, bsUnknownName, bmUnknownName, snUnknownName, subUnknownName, abUnknownName, colUnknownName, ddUnknownName, mAUnknownName, mBUnknownName, mCUnknownName, mDUnknownName, mEUnknownName, xUnknownName, rUnknownName⟩, saUnknownName, exUnknownName, tyUnknownName, kpUnknownName⟩
  let MUnknownName : ErM l.prog w K mg base "UnknownName" "name" := { C := CUnknownName, g := PySem.W.mg_of X G qUnknownName, T := TUnknownName, no := noUnknownName, fI := f3, fd := _, I := ⟨a3, tIUnknownName⟩, b := b3, kb := kb_two F3 fun _ _ _ _ _ _ _ _ => rfl, G := ok_UnknownNameD_initD F3 TUnknownName noUnknownName }
  have TBadCount : OexC K CBadCount := ⟨⟨nmBadCount, qqBadCount, NBadCount, bsBadCount, bmBadCount, snBadCount, subBadCount, abBadCount, colBadCount, ddBadCount, mABadCount, mBBadCount, mCBadCount, mDBadCount, mEBadCount, xBadCount, rBadCount⟩, saBadCount, exBadCount, tyBadCount, kpBadCount⟩
  let MBadCount : ErM l.prog w K mg base "BadCount" "count" := { C := CBadCount, g := PySem.W.mg_of X G qBadCount, T := TBadCount, no := noBadCount, fI := f4, fd := _, I := ⟨a4, tIBadCount⟩, b := b4, kb := kb_two F4 fun _ _ _ _ _ _ _ _ => rfl, G := ok_BadCountD_initD F4 TBadCount noBadCount }
  have TBadText : OexC K CBadText := ⟨⟨nmBadText, qqBadText, NBadText, bsBadText, bmBadText, snBadText, subBadText, abBadText, colBadText, ddBadText, mABadText, mBBadText, mCBadText, mDBadText, mEBadText, xBadText, rBadText⟩, saBadText, exBadText, tyBadText, kpBadText⟩
  let MBadText : ErM l.prog w K mg base "BadText" "text" := { C := CBadText, g := PySem.W.mg_of X G qBadText, T := TBadText, no := noBadText, fI := f5, fd := _, I := ⟨a5, tIBadText⟩, b := b5, kb := kb_two F5 fun _ _ _ _ _ _ _ _ => rfl, G := ok_BadTextD_initD F5 TBadText noBadText }
  have TBadSet : OexC K CBadSet := ⟨⟨nmBadSet, qqBadSet, NBadSet, bsBadSet, bmBadSet, snBadSet, subBadSet, abBadSet, colBadSet, ddBadSet, mABadSet, mBBadSet, mCBadSet, mDBadSet, mEBadSet, xBadSet, rBadSet⟩, saBadSet, exBadSet, tyBadSet, kpBadSet⟩
  let MBadSet : ErM l.prog w K mg base "BadSet" "value" := { C := CBadSet, g := PySem.W.mg_of X G qBadSet, T := TBadSet, no := noBadSet, fI := f6, fd := _, I := ⟨a6, tIBadSet⟩, b := b6, kb := kb_two F6 fun _ _ _ _ _ _ _ _ => rfl, G := ok_BadSetD_initD F6 TBadSet noBadSet }
  have TBadCell : OexC K CBadCell := ⟨⟨nmBadCell, qqBadCell, NBadCell, bsBadCell, bmBadCell, snBadCell, subBadCell, abBadCell, colBadCell, ddBadCell, mABadCell, mBBadCell, mCBadCell, mDBadCell, mEBadCell, xBadCell, rBadCell⟩, saBadCell, exBadCell, tyBadCell, kpBadCell⟩
  let MBadCell : ErM l.prog w K mg base "BadCell" "value" := { C := CBadCell, g := PySem.W.mg_of X G qBadCell, T := TBadCell, no := noBadCell, fI := f7, fd := _, I := ⟨a7, tIBadCell⟩, b := b7, kb := kb_two F7 fun _ _ _ _ _ _ _ _ => rfl, G := ok_BadCellD_initD F7 TBadCell noBadCell }
  have TBadSide : OexC K CBadSide := ⟨⟨nmBadSide, qqBadSide, NBadSide, bsBadSide, bmBadSide, snBadSide, subBadSide, abBadSide, colBadSide, ddBadSide, mABadSide, mBBadSide, mCBadSide, mDBadSide, mEBadSide, xBadSide, rBadSide⟩, saBadSide, exBadSide, tyBadSide, kpBadSide⟩
  let MBadSide : ErM l.prog w K mg base "BadSide" "word" := { C := CBadSide, g := PySem.W.mg_of X G qBadSide, T := TBadSide, no := noBadSide, fI := f8, fd := _, I := ⟨a8, tIBadSide⟩, b := b8, kb := kb_two F8 fun _ _ _ _ _ _ _ _ => rfl, G := ok_BadSideD_initD F8 TBadSide noBadSide }
  have TBadLine : OexC K CBadLine := ⟨⟨nmBadLine, qqBadLine, NBadLine, bsBadLine, bmBadLine, snBadLine, subBadLine, abBadLine, colBadLine, ddBadLine, mABadLine, mBBadLine, mCBadLine, mDBadLine, mEBadLine, xBadLine, rBadLine⟩, saBadLine, exBadLine, tyBadLine, kpBadLine⟩
  let MBadLine : ErM l.prog w K mg base "BadLine" "number" := { C := CBadLine, g := PySem.W.mg_of X G qBadLine, T := TBadLine, no := noBadLine, fI := f9, fd := _, I := ⟨a9, tIBadLine⟩, b := b9, kb := kb_two F9 fun _ _ _ _ _ _ _ _ => rfl, G := ok_BadLineD_initD F9 TBadLine noBadLine }
  have TBadWish : OexC K CBadWish := ⟨⟨nmBadWish, qqBadWish, NBadWish, bsBadWish, bmBadWish, snBadWish, subBadWish, abBadWish, colBadWish, ddBadWish, mABadWish, mBBadWish, mCBadWish, mDBadWish, mEBadWish, xBadWish, rBadWish⟩, saBadWish, exBadWish, tyBadWish, kpBadWish⟩
  let MBadWish : ErM l.prog w K mg base "BadWish" "value" := { C := CBadWish, g := PySem.W.mg_of X G qBadWish, T := TBadWish, no := noBadWish, fI := f10, fd := _, I := ⟨a10, tIBadWish⟩, b := b10, kb := kb_two F10 fun _ _ _ _ _ _ _ _ => rfl, G := ok_BadWishD_initD F10 TBadWish noBadWish }
  have TUnlikeOutcomes : OexC K CUnlikeOutcomes := ⟨⟨nmUnlikeOutcomes, qqUnlikeOutcomes, NUnlikeOutcomes, bsUnlikeOutcomes, bmUnlikeOutcomes, snUnlikeOutcomes, subUnlikeOutcomes, abUnlikeOutcomes, colUnlikeOutcomes, ddUnlikeOutcomes, mAUnlikeOutcomes, mBUnlikeOutcomes, mCUnlikeOutcomes, mDUnlikeOutcomes, mEUnlikeOutcomes, xUnlikeOutcomes, rUnlikeOutcomes⟩, saUnlikeOutcomes, exUnlikeOutcomes, tyUnlikeOutcomes, kpUnlikeOutcomes⟩
  let MUnlikeOutcomes : ErM l.prog w K mg base "UnlikeOutcomes" "names" := { C := CUnlikeOutcomes, g := PySem.W.mg_of X G qUnlikeOutcomes, T := TUnlikeOutcomes, no := noUnlikeOutcomes, fI := f11, fd := _, I := ⟨a11, tIUnlikeOutcomes⟩, b := b11, kb := kb_two F11 fun _ _ _ _ _ _ _ _ => rfl, G := ok_UnlikeOutcomesD_initD F11 TUnlikeOutcomes noUnlikeOutcomes }
  have TNotFirm : OexC K CNotFirm := ⟨⟨nmNotFirm, qqNotFirm, NNotFirm, bsNotFirm, bmNotFirm, snNotFirm, subNotFirm, abNotFirm, colNotFirm, ddNotFirm, mANotFirm, mBNotFirm, mCNotFirm, mDNotFirm, mENotFirm, xNotFirm, rNotFirm⟩, saNotFirm, exNotFirm, tyNotFirm, kpNotFirm⟩
  let MNotFirm : ErM l.prog w K mg base "NotFirm" "value" := { C := CNotFirm, g := PySem.W.mg_of X G qNotFirm, T := TNotFirm, no := noNotFirm, fI := f12, fd := _, I := ⟨a12, tINotFirm⟩, b := b12, kb := kb_two F12 fun _ _ _ _ _ _ _ _ => rfl, G := ok_NotFirmD_initD F12 TNotFirm noNotFirm }
  let MIsFirm : Er0 K mg "IsFirm" := { C := CIsFirm, g := PySem.W.mg_of X G qIsFirm, kC := kpIsFirm, q := q0IsFirm }
  let MIsSmooth : Er0 K mg "IsSmooth" := { C := CIsSmooth, g := PySem.W.mg_of X G qIsSmooth, kC := kpIsSmooth, q := q0IsSmooth }
  let MNothingToUndo : Er0 K mg "NothingToUndo" := { C := CNothingToUndo, g := PySem.W.mg_of X G qNothingToUndo, kC := kpNothingToUndo, q := q0NothingToUndo }
  let R : Ers l.prog w K mg base := { BadName := MBadName, DuplicateName := MDuplicateName, UnknownName := MUnknownName, BadCount := MBadCount, BadText := MBadText, BadSet := MBadSet, BadCell := MBadCell, BadSide := MBadSide, BadLine := MBadLine, BadWish := MBadWish, UnlikeOutcomes := MUnlikeOutcomes, NotFirm := MNotFirm, IsFirm := MIsFirm, IsSmooth := MIsSmooth, NothingToUndo := MNothingToUndo, ChooserError := ⟨CChooserError, PySem.W.mg_of X G qChooserError⟩ }
  have hcs : R.cs = [CBadName, CDuplicateName, CUnknownName, CBadCount, CBadText, CBadSet, CBadCell, CBadSide, CBadLine, CBadWish, CUnlikeOutcomes, CNotFirm, CIsFirm, CIsSmooth, CNothingToUndo] := rfl
  have mem : ∀ C ∈ ([CBadName, CDuplicateName, CUnknownName, CBadCount, CBadText, CBadSet, CBadCell, CBadSide, CBadLine, CBadWish, CUnlikeOutcomes, CNotFirm, CIsFirm, CIsSmooth, CNothingToUndo] : List Addr), ErrC K C ∧ PySem.W.isClsIn K C = true ∧ PySem.W.typeIn K (.ref C) = some (.type "type") := by
    intro C hC
    simp only [List.mem_cons, List.not_mem_nil, or_false] at hC
    rcases hC with rfl | rfl | rfl | rfl | rfl | rfl | rfl | rfl | rfl | rfl | rfl | rfl | rfl | rfl | rfl
    · exact ⟨EBadName, icBadName, tyBadName⟩
    · exact ⟨EDuplicateName, icDuplicateName, tyDuplicateName⟩
    · exact ⟨EUnknownName, icUnknownName, tyUnknownName⟩
    · exact ⟨EBadCount, icBadCount, tyBadCount⟩
    · exact ⟨EBadText, icBadText, tyBadText⟩
    · exact ⟨EBadSet, icBadSet, tyBadSet⟩
    · exact ⟨EBadCell, icBadCell, tyBadCell⟩
    · exact ⟨EBadSide, icBadSide, tyBadSide⟩
    · exact ⟨EBadLine, icBadLine, tyBadLine⟩
    · exact ⟨EBadWish, icBadWish, tyBadWish⟩
    · exact ⟨EUnlikeOutcomes, icUnlikeOutcomes, tyUnlikeOutcomes⟩
    · exact ⟨ENotFirm, icNotFirm, tyNotFirm⟩
    · exact ⟨EIsFirm, icIsFirm, tyIsFirm⟩
    · exact ⟨EIsSmooth, icIsSmooth, tyIsSmooth⟩
    · exact ⟨ENothingToUndo, icNothingToUndo, tyNothingToUndo⟩
  have O : ErsOk R := by
    refine ⟨fun C hC => (mem C hC).1, fun i j Ci Cj hi hj => ?_, fun C hC => ?_, fun C hC => all_true mv hC⟩
    · obtain ⟨_, ic, ty⟩ := mem Cj (List.mem_of_getElem? hj)
      refine kit_of_sub ic ty (mx_get mx hi hj) (fun e => ?_)
      have h1 := mx_get mx hj hj
      have h2 := mx_get mx hi hj
      rw [e, h1] at h2
      rw [← Option.some.inj h2]
      exact decide_eq_true rfl
    · exact kit_of_sub icCh tyCh (all_true mc hC) (fun _ => rfl)
  let cS : Cal l.prog w K mg base "_law_start" CX0 1 ["_law_script"] (spStart K) := ⟨f13, _, PySem.W.mg_of X G a13, k13, b13, ok_Lstart F13 T⟩
  let cD : Cal l.prog w K mg base "_law_draw" CX0 1 ["_law_state", "_law_size"] spDraw := ⟨f14, _, PySem.W.mg_of X G a14, k14, b14, ok_Ldraw F14 T⟩
  let cG : Cal l.prog w K mg base "_law_signs" CX0 1 [] spSigns := ⟨f15, _, PySem.W.mg_of X G a15, k15, b15, ok_Lsigns F15 ⟩
  let cK : Cal l.prog w K mg base "_law_kinds" CX0 1 ["_law_e"] (spKinds R) := ⟨f16, _, PySem.W.mg_of X G a16, k16, b16, ok_Lkinds F16 T R O⟩
  let cT : Cal l.prog w K mg base "_law_thing" CX0 2 ["_law_state"] spThing := ⟨f17, _, PySem.W.mg_of X G a17, k17, b17, ok_Lthing F17 T cD cG⟩
  let cA : Cal l.prog w K mg base "_law_all" CX0 3 ["_law_t"] (spAll R) := ⟨f18, _, PySem.W.mg_of X G a18, k18, b18, ok_Lall F18 T R⟩
  let cN : Cal l.prog w K mg base "_law_named" CX0 3 ["_law_t"] (spAll R) := ⟨f19, _, PySem.W.mg_of X G a19, k19, b19, ok_Lnamed F19 T R⟩
  let cP : Cal l.prog w K mg base "_law_keeps" CX0 2 ["_law_made", "_law_t"] (spKeeps R) := ⟨f20, _, PySem.W.mg_of X G a20, k20, b20, ok_Lkeeps F20 T R O cK⟩
  exact ok_law F21 T R cS cD cT cA cN cP
end K02

open PySem PySem.W PyProof.Rows in
set_option maxRecDepth 100000 in
set_option maxHeartbeats 0 in
theorem PySem.Challenge.cw_twochoosers_k02_errors_holds : PySem.Challenge.rw_twochoosers_k02_errors.Holds := by
  w_on; o_law; k_head; (case hw => w_witness2)
  k_fill
  refine L2.walk_of (l := PySem.Challenge.rw_twochoosers_k02_errors) (n := 63) (k := 4) (x := "_law_script") (CX := fun _ => L2.CX0) (sp := fun w => K02.spLaw _) rfl (by decide) rfl ⟨rfl, by decide, by decide⟩ (fun w h Y => PySem.W.kIn_of Y) ?F (fun _ _ a ns hl _ hS => ⟨a, ns, rfl, hS, hl, fun _ => rfl⟩) (fun _ _ _ _ _ h => h)
  case F =>
    intro w mg fa h KX G hmg
    refine' K02.all_mk KX G hmg ?qBadName ?qDuplicateName ?qUnknownName ?qBadCount ?qBadText ?qBadSet ?qBadCell ?qBadSide ?qBadLine ?qBadWish ?qUnlikeOutcomes ?qNotFirm ?qIsFirm ?qIsSmooth ?qNothingToUndo ?qChooserError ?xBadName ?a1 ?l1 ?c1 ?k1 ?tIBadName ?rBadName ?saBadName ?noBadName ?xDuplicateName ?a2 ?l2 ?c2 ?k2 ?tIDuplicateName ?rDuplicateName ?saDuplicateName ?noDuplicateName ?xUnknownName ?a3 ?l3 ?c3 ?k3 ?tIUnknownName ?rUnknownName ?saUnknownName ?noUnknownName ?xBadCount ?a4 ?l4 ?c4 ?k4 ?tIBadCount ?rBadCount ?saBadCount ?noBadCount ?xBadText ?a5 ?l5 ?c5 ?k5 ?tIBadText ?rBadText ?saBadText ?noBadText ?xBadSet ?a6 ?l6 ?c6 ?k6 ?tIBadSet ?rBadSet ?saBadSet ?noBadSet ?xBadCell ?a7 ?l7 ?c7 ?k7 ?tIBadCell ?rBadCell ?saBadCell ?noBadCell ?xBadSide ?a8 ?l8 ?c8 ?k8 ?tIBadSide ?rBadSide ?saBadSide ?noBadSide ?xBadLine ?a9 ?l9 ?c9 ?k9 ?tIBadLine ?rBadLine ?saBadLine ?noBadLine ?xBadWish ?a10 ?l10 ?c10 ?k10 ?tIBadWish ?rBadWish ?saBadWish ?noBadWish ?xUnlikeOutcomes ?a11 ?l11 ?c11 ?k11 ?tIUnlikeOutcomes ?rUnlikeOutcomes ?saUnlikeOutcomes ?noUnlikeOutcomes ?xNotFirm ?a12 ?l12 ?c12 ?k12 ?tINotFirm ?rNotFirm ?saNotFirm ?noNotFirm ?q0IsFirm ?q0IsSmooth ?q0NothingToUndo ?kpBadName ?exBadName ?tyBadName ?gaBadName ?ggBadName ?hdBadName ?icBadName ?hcBadName ?hmBadName ?kpDuplicateName ?exDuplicateName ?tyDuplicateName ?gaDuplicateName ?ggDuplicateName ?hdDuplicateName ?icDuplicateName ?hcDuplicateName ?hmDuplicateName ?kpUnknownName ?exUnknownName ?tyUnknownName ?gaUnknownName ?ggUnknownName ?hdUnknownName ?icUnknownName ?hcUnknownName ?hmUnknownName ?kpBadCount ?exBadCount ?tyBadCount ?gaBadCount ?ggBadCount ?hdBadCount ?icBadCount ?hcBadCount ?hmBadCount ?kpBadText ?exBadText ?tyBadText ?gaBadText ?ggBadText ?hdBadText ?icBadText ?hcBadText ?hmBadText ?kpBadSet ?exBadSet ?tyBadSet ?gaBadSet ?ggBadSet ?hdBadSet ?icBadSet ?hcBadSet ?hmBadSet ?kpBadCell ?exBadCell ?tyBadCell ?gaBadCell ?ggBadCell ?hdBadCell ?icBadCell ?hcBadCell ?hmBadCell ?kpBadSide ?exBadSide ?tyBadSide ?gaBadSide ?ggBadSide ?hdBadSide ?icBadSide ?hcBadSide ?hmBadSide ?kpBadLine ?exBadLine ?tyBadLine ?gaBadLine ?ggBadLine ?hdBadLine ?icBadLine ?hcBadLine ?hmBadLine ?kpBadWish ?exBadWish ?tyBadWish ?gaBadWish ?ggBadWish ?hdBadWish ?icBadWish ?hcBadWish ?hmBadWish ?kpUnlikeOutcomes ?exUnlikeOutcomes ?tyUnlikeOutcomes ?gaUnlikeOutcomes ?ggUnlikeOutcomes ?hdUnlikeOutcomes ?icUnlikeOutcomes ?hcUnlikeOutcomes ?hmUnlikeOutcomes ?kpNotFirm ?exNotFirm ?tyNotFirm ?gaNotFirm ?ggNotFirm ?hdNotFirm ?icNotFirm ?hcNotFirm ?hmNotFirm ?kpIsFirm ?exIsFirm ?tyIsFirm ?gaIsFirm ?ggIsFirm ?hdIsFirm ?icIsFirm ?hcIsFirm ?hmIsFirm ?kpIsSmooth ?exIsSmooth ?tyIsSmooth ?gaIsSmooth ?ggIsSmooth ?hdIsSmooth ?icIsSmooth ?hcIsSmooth ?hmIsSmooth ?kpNothingToUndo ?exNothingToUndo ?tyNothingToUndo ?gaNothingToUndo ?ggNothingToUndo ?hdNothingToUndo ?icNothingToUndo ?hcNothingToUndo ?hmNothingToUndo ?kg ?kt ?mx ?mc ?mv ?icCh ?tyCh ?a13 ?l13 ?c13 ?k13 ?a14 ?l14 ?c14 ?k14 ?a15 ?l15 ?c15 ?k15 ?a16 ?l16 ?c16 ?k16 ?a17 ?l17 ?c17 ?k17 ?a18 ?l18 ?c18 ?k18 ?a19 ?l19 ?c19 ?k19 ?a20 ?l20 ?c20 ?k20 ?a21 ?l21 ?c21 ?k21 ?z_ValueError ?z_abs ?z_bool ?z_int ?z_isinstance ?z_len ?z_list ?z_range
    (case qBadName => k_is)
    (case qDuplicateName => k_is)
    (case qUnknownName => k_is)
    (case qBadCount => k_is)
    (case qBadText => k_is)
    (case qBadSet => k_is)
    (case qBadCell => k_is)
    (case qBadSide => k_is)
    (case qBadLine => k_is)
    (case qBadWish => k_is)
    (case qUnlikeOutcomes => k_is)
    (case qNotFirm => k_is)
    (case qIsFirm => k_is)
    (case qIsSmooth => k_is)
    (case qNothingToUndo => k_is)
    (case qChooserError => k_is)
    (case xBadName => k_is)
    (case a1 => k_is)
    (case l1 => k_is)
    (case c1 => k_is)
    (case k1 => k_is)
    (case tIBadName => k_is)
    (case rBadName => decide +kernel)
    (case saBadName => k_is)
    (case noBadName => k_is)
    (case xDuplicateName => k_is)
    (case a2 => k_is)
    (case l2 => k_is)
    (case c2 => k_is)
    (case k2 => k_is)
    (case tIDuplicateName => k_is)
    (case rDuplicateName => decide +kernel)
    (case saDuplicateName => k_is)
    (case noDuplicateName => k_is)
    (case xUnknownName => k_is)
    (case a3 => k_is)
    (case l3 => k_is)
    (case c3 => k_is)
    (case k3 => k_is)
    (case tIUnknownName => k_is)
    (case rUnknownName => decide +kernel)
    (case saUnknownName => k_is)
    (case noUnknownName => k_is)
    (case xBadCount => k_is)
    (case a4 => k_is)
    (case l4 => k_is)
    (case c4 => k_is)
    (case k4 => k_is)
    (case tIBadCount => k_is)
    (case rBadCount => decide +kernel)
    (case saBadCount => k_is)
    (case noBadCount => k_is)
    (case xBadText => k_is)
    (case a5 => k_is)
    (case l5 => k_is)
    (case c5 => k_is)
    (case k5 => k_is)
    (case tIBadText => k_is)
    (case rBadText => decide +kernel)
    (case saBadText => k_is)
    (case noBadText => k_is)
    (case xBadSet => k_is)
    (case a6 => k_is)
    (case l6 => k_is)
    (case c6 => k_is)
    (case k6 => k_is)
    (case tIBadSet => k_is)
    (case rBadSet => decide +kernel)
    (case saBadSet => k_is)
    (case noBadSet => k_is)
    (case xBadCell => k_is)
    (case a7 => k_is)
    (case l7 => k_is)
    (case c7 => k_is)
    (case k7 => k_is)
    (case tIBadCell => k_is)
    (case rBadCell => decide +kernel)
    (case saBadCell => k_is)
    (case noBadCell => k_is)
    (case xBadSide => k_is)
    (case a8 => k_is)
    (case l8 => k_is)
    (case c8 => k_is)
    (case k8 => k_is)
    (case tIBadSide => k_is)
    (case rBadSide => decide +kernel)
    (case saBadSide => k_is)
    (case noBadSide => k_is)
    (case xBadLine => k_is)
    (case a9 => k_is)
    (case l9 => k_is)
    (case c9 => k_is)
    (case k9 => k_is)
    (case tIBadLine => k_is)
    (case rBadLine => decide +kernel)
    (case saBadLine => k_is)
    (case noBadLine => k_is)
    (case xBadWish => k_is)
    (case a10 => k_is)
    (case l10 => k_is)
    (case c10 => k_is)
    (case k10 => k_is)
    (case tIBadWish => k_is)
    (case rBadWish => decide +kernel)
    (case saBadWish => k_is)
    (case noBadWish => k_is)
    (case xUnlikeOutcomes => k_is)
    (case a11 => k_is)
    (case l11 => k_is)
    (case c11 => k_is)
    (case k11 => k_is)
    (case tIUnlikeOutcomes => k_is)
    (case rUnlikeOutcomes => decide +kernel)
    (case saUnlikeOutcomes => k_is)
    (case noUnlikeOutcomes => k_is)
    (case xNotFirm => k_is)
    (case a12 => k_is)
    (case l12 => k_is)
    (case c12 => k_is)
    (case k12 => k_is)
    (case tINotFirm => k_is)
    (case rNotFirm => decide +kernel)
    (case saNotFirm => k_is)
    (case noNotFirm => k_is)
    (case q0IsFirm => first | k_is | rfl | kernel_rfl)
    (case q0IsSmooth => first | k_is | rfl | kernel_rfl)
    (case q0NothingToUndo => first | k_is | rfl | kernel_rfl)
    (case kpBadName => k_is)
    (case exBadName => k_is)
    (case tyBadName => k_is)
    (case gaBadName => k_is)
    (case ggBadName => k_is)
    (case hdBadName => k_is)
    (case icBadName => k_is)
    (case hcBadName => k_is)
    (case hmBadName => k_is)
    (case kpDuplicateName => k_is)
    (case exDuplicateName => k_is)
    (case tyDuplicateName => k_is)
    (case gaDuplicateName => k_is)
    (case ggDuplicateName => k_is)
    (case hdDuplicateName => k_is)
    (case icDuplicateName => k_is)
    (case hcDuplicateName => k_is)
    (case hmDuplicateName => k_is)
    (case kpUnknownName => k_is)
    (case exUnknownName => k_is)
    (case tyUnknownName => k_is)
    (case gaUnknownName => k_is)
    (case ggUnknownName => k_is)
    (case hdUnknownName => k_is)
    (case icUnknownName => k_is)
    (case hcUnknownName => k_is)
    (case hmUnknownName => k_is)
    (case kpBadCount => k_is)
    (case exBadCount => k_is)
    (case tyBadCount => k_is)
    (case gaBadCount => k_is)
    (case ggBadCount => k_is)
    (case hdBadCount => k_is)
    (case icBadCount => k_is)
    (case hcBadCount => k_is)
    (case hmBadCount => k_is)
    (case kpBadText => k_is)
    (case exBadText => k_is)
    (case tyBadText => k_is)
    (case gaBadText => k_is)
    (case ggBadText => k_is)
    (case hdBadText => k_is)
    (case icBadText => k_is)
    (case hcBadText => k_is)
    (case hmBadText => k_is)
    (case kpBadSet => k_is)
    (case exBadSet => k_is)
    (case tyBadSet => k_is)
    (case gaBadSet => k_is)
    (case ggBadSet => k_is)
    (case hdBadSet => k_is)
    (case icBadSet => k_is)
    (case hcBadSet => k_is)
    (case hmBadSet => k_is)
    (case kpBadCell => k_is)
    (case exBadCell => k_is)
    (case tyBadCell => k_is)
    (case gaBadCell => k_is)
    (case ggBadCell => k_is)
    (case hdBadCell => k_is)
    (case icBadCell => k_is)
    (case hcBadCell => k_is)
    (case hmBadCell => k_is)
    (case kpBadSide => k_is)
    (case exBadSide => k_is)
    (case tyBadSide => k_is)
    (case gaBadSide => k_is)
    (case ggBadSide => k_is)
    (case hdBadSide => k_is)
    (case icBadSide => k_is)
    (case hcBadSide => k_is)
    (case hmBadSide => k_is)
    (case kpBadLine => k_is)
    (case exBadLine => k_is)
    (case tyBadLine => k_is)
    (case gaBadLine => k_is)
    (case ggBadLine => k_is)
    (case hdBadLine => k_is)
    (case icBadLine => k_is)
    (case hcBadLine => k_is)
    (case hmBadLine => k_is)
    (case kpBadWish => k_is)
    (case exBadWish => k_is)
    (case tyBadWish => k_is)
    (case gaBadWish => k_is)
    (case ggBadWish => k_is)
    (case hdBadWish => k_is)
    (case icBadWish => k_is)
    (case hcBadWish => k_is)
    (case hmBadWish => k_is)
    (case kpUnlikeOutcomes => k_is)
    (case exUnlikeOutcomes => k_is)
    (case tyUnlikeOutcomes => k_is)
    (case gaUnlikeOutcomes => k_is)
    (case ggUnlikeOutcomes => k_is)
    (case hdUnlikeOutcomes => k_is)
    (case icUnlikeOutcomes => k_is)
    (case hcUnlikeOutcomes => k_is)
    (case hmUnlikeOutcomes => k_is)
    (case kpNotFirm => k_is)
    (case exNotFirm => k_is)
    (case tyNotFirm => k_is)
    (case gaNotFirm => k_is)
    (case ggNotFirm => k_is)
    (case hdNotFirm => k_is)
    (case icNotFirm => k_is)
    (case hcNotFirm => k_is)
    (case hmNotFirm => k_is)
    (case kpIsFirm => k_is)
    (case exIsFirm => k_is)
    (case tyIsFirm => k_is)
    (case gaIsFirm => k_is)
    (case ggIsFirm => k_is)
    (case hdIsFirm => k_is)
    (case icIsFirm => k_is)
    (case hcIsFirm => k_is)
    (case hmIsFirm => k_is)
    (case kpIsSmooth => k_is)
    (case exIsSmooth => k_is)
    (case tyIsSmooth => k_is)
    (case gaIsSmooth => k_is)
    (case ggIsSmooth => k_is)
    (case hdIsSmooth => k_is)
    (case icIsSmooth => k_is)
    (case hcIsSmooth => k_is)
    (case hmIsSmooth => k_is)
    (case kpNothingToUndo => k_is)
    (case exNothingToUndo => k_is)
    (case tyNothingToUndo => k_is)
    (case gaNothingToUndo => k_is)
    (case ggNothingToUndo => k_is)
    (case hdNothingToUndo => k_is)
    (case icNothingToUndo => k_is)
    (case hcNothingToUndo => k_is)
    (case hmNothingToUndo => k_is)
    (case kg => k_is)
    (case kt => k_is)
    (case mx => first | rfl | kernel_rfl)
    (case mc => first | rfl | kernel_rfl)
    (case mv => first | rfl | kernel_rfl)
    (case icCh => k_is)
    (case tyCh => k_is)
    (case a13 => k_is)
    (case l13 => k_is)
    (case c13 => k_is)
    (case k13 => k_is)
    (case a14 => k_is)
    (case l14 => k_is)
    (case c14 => k_is)
    (case k14 => k_is)
    (case a15 => k_is)
    (case l15 => k_is)
    (case c15 => k_is)
    (case k15 => k_is)
    (case a16 => k_is)
    (case l16 => k_is)
    (case c16 => k_is)
    (case k16 => k_is)
    (case a17 => k_is)
    (case l17 => k_is)
    (case c17 => k_is)
    (case k17 => k_is)
    (case a18 => k_is)
    (case l18 => k_is)
    (case c18 => k_is)
    (case k18 => k_is)
    (case a19 => k_is)
    (case l19 => k_is)
    (case c19 => k_is)
    (case k19 => k_is)
    (case a20 => k_is)
    (case l20 => k_is)
    (case c20 => k_is)
    (case k20 => k_is)
    (case a21 => k_is)
    (case l21 => k_is)
    (case c21 => k_is)
    (case k21 => k_is)
    (case z_ValueError => k_is)
    (case z_abs => k_is)
    (case z_bool => k_is)
    (case z_int => k_is)
    (case z_isinstance => k_is)
    (case z_len => k_is)
    (case z_list => k_is)
    (case z_range => k_is)
#print axioms PySem.Challenge.cw_twochoosers_k02_errors_holds
