import PyProof.Rows.All
import Wide.All
import OpenK.AllK
import Wide.FinOn
import HandS.ForMost
import HandS.ForExc
import HandS.Walk
import HandS.IsInst
import HandS.Wide
import HandS.Style
import HandS.Evl
import HandS.TryMany
import HandS.ExcInit
import HandS.ExcField
import HandS.Property
import HandS.DictComp
import HandS.MakeKw
import KE.KEqNest
import HandS.WordsDict
import PyProof.Rows.StrMeet
import HandS.Small
import HandS.SlotsOwn
import PyProof.InstEq
import HandS.SetFor
import HandS.Strs
import HandS.SetBool
import PyProof.EqAt
import PyProof.EqKinds
import PySem.Challenge.RW_twochoosers_k04_wishes_compared
set_option Elab.async false
set_option linter.all false
set_option maxRecDepth 100000
set_option maxHeartbeats 4000000
namespace L2
open PySem PySem.Spec PyProof.Rows
section
variable {X : Cx}
theorem pg_list : PGet X (rIxL X.K) := by
  intro pins s σ H x y v u Q I rx ry h
  obtain ⟨p, xs, i, z, rfl, rfl, hq, he, q⟩ := h
  cases rx
  obtain ⟨t, rfl⟩ := ry
  obtain ⟨its, r, pl, hz⟩ := I.list hq
  obtain ⟨j, h1, h2, h3, h4, h5⟩ := atI_get he
  obtain ⟨w, ew, rw'⟩ := r.get h2
  have hl := r.length
  have hn := line63
  have fin : EP X pins σ Q w s := ⟨z, H, I, rw', q⟩
  by_cases h0 : 0 ≤ i
  · have hj : i.toNat = j := by
      rw [seqIndex_of h0 h5] at h1
      exact Option.some.inj h1
    exact wpAny_getItem_list pl.isList h0 (by omega) (by rw [hj]; simpa using ew) fin
  · have hj : (i + (its.toArray.size : Int)).toNat = j := by
      rw [seqIndex_neg (by omega) h4] at h1
      rw [List.size_toArray, ← hl]
      exact Option.some.inj h1
    exact wpAny_getItem_list_neg pl.isList (by omega) (by rw [List.size_toArray] <;> omega) (by omega) (by rw [hj]; simpa using ew) fin
/-- s[::-1] of a text -/
def revS (z : Str) : Str := ⟨z.cps.toList.reverse.toArray⟩
theorem rev_all {α : Type} (xs : Array α) : (List.range xs.size).filterMap (xs[·]?) = xs.toList := by
  have h := pick_run xs 0 xs.size
  have e : (List.range xs.size).map (0 + ·) = List.range xs.size := by
    rw [show ((0 + ·) : Nat → Nat) = id from funext fun k => Nat.zero_add k, List.map_id]
  rw [e, List.drop_zero, List.take_of_length_le (by rw [Array.length_toList]; exact Nat.le_refl _)] at h
  exact h
theorem rev_ix (z : Str) : (Builtin.Str.strSliceIndices none none (-1) z.length).filterMap (z.cps[·]?) = z.cps.toList.reverse := by
  show (sliceRange ((z.length : Int) - 1) (-1) (-1)).filterMap (z.cps[·]?) = _
  rw [PySem.W.krv_sliceRange, PySem.W.krv_range, List.filterMap_reverse]
  rw [show z.length = z.cps.size from rfl, rev_all]
def tRevS (te : TE) : TE := fun σ H Q => te σ H fun x H1 => ∃ z, x = .str z ∧ z.length ≤ sizeLine ∧ Q (.str (revS z)) H1
theorem pe_revS {e : Expr} {te : TE} {k : Nat} {p1 p2 p3 pos : Pos} (he : PE X e te) : PE X (.Subscript e (.Slice none none (some (.UnaryOp .USub (.Constant (.int 1) k p1) p2)) p3) pos) (tRevS te) := by
  refine ⟨fun pins s σ H Q I h => ?_⟩
  refine Subscript_ (thn (he.run pins s σ H _ I h) fun v s1 ⟨x, H1, I1, r1, q1⟩ => ?_)
  obtain ⟨z, ex, hz, q⟩ := q1
  subst ex
  obtain ⟨t, rfl⟩ := r1
  have hst : PO X (some (.UnaryOp .USub (.Constant (.int 1) k p1) p2)) (tPart (tUn (rU fun i => .int (-i)) (tC (.int 1)))) := po_some (pe_un un_neg pe_int)
  refine wpAny_Slice (thn (po_none.run pins s1 σ H1 (fun o H2 => o = none ∧ H2 = H1) I1 ⟨rfl, rfl⟩) fun vl s2 ⟨l, H2, I2, pl, el, e2⟩ => ?_)
  subst el e2
  refine thn (po_none.run pins s2 σ H2 (fun o H3 => o = none ∧ H3 = H2) I2 ⟨rfl, rfl⟩) fun vu s3 ⟨u, H3, I3, pu, eu, e3⟩ => ?_
  subst eu e3
  refine thn (hst.run pins s3 σ H3 (fun o H4 => o = some (-1) ∧ H4 = H3) I3 ⟨1, rfl, -1, rfl, rfl, rfl⟩) fun vs s4 ⟨o, H4, I4, ps, eo, e4⟩ => ?_
  subst eo e4
  have I5 : Inv X pins σ H4 { s4 with heap := s4.heap.push { cls := .type "slice", data := .fields #[vl, vu, vs] } } := I4.kept (t' := s4.toks) fun b ob q => Heap.get?_push_of_some _ q
  obtain ⟨l, rfl, el⟩ := IsPart.raw pl
  obtain ⟨u, rfl, eu⟩ := IsPart.raw pu
  obtain ⟨st, rfl, e3⟩ := IsPart.raw ps
  have e1 : l = none := by cases l with | none => rfl | some _ => cases el
  have e2 : u = none := by cases u with | none => rfl | some _ => cases eu
  subst e1 e2
  show wpAny (model X.prog X.w) X.A (subscriptTail e (.Slice none none (some (.UnaryOp .USub (.Constant (.int 1) k p1) p2)) p3) (.str z t) (.ref s4.heap.objs.size)) (EP X pins σ Q) X.xe { s4 with heap := s4.heap.push { cls := .type "slice", data := .fields #[partValue none, partValue none, partValue st] } }
  refine tail_any (ops := [.str z t, .ref s4.heap.objs.size]) (typeIs_str _ z t) F.slot_str_getitem.lookup ?_ (by with_unfolding_all rfl)
  refine wpAny_getItem_str_slice (l := none) (u := none) (st := st) ⟨_, Heap.get?_push_size _ rfl, rfl, rfl⟩ (by rw [e3]; rfl) ?_
  unfold sliceMade slicePicked
  rw [e3]
  show Made.post (if ((-1 : Int) == 1 && _) = true then Made.val (.str z t) else Made.str ⟨((Builtin.Str.strSliceIndices none none (-1) z.length).filterMap (z.cps[·]?)).toArray⟩) _ _
  rw [if_neg (by simp), rev_ix]
  refine ⟨?_, .str _, _, I5.tok _, ⟨_, rfl⟩, q⟩
  show z.cps.toList.reverse.toArray.size ≤ sizeLine
  rw [List.size_toArray, List.length_reverse, Array.length_toList]
  exact hz
end
section
variable {X : Cx} {k : Nat} {f : Addr} {fd : FuncData} {ps ks : List Str} {sp : Sp} {CX : CXT} {E : XK} {g : List Value → List Value → List Value} {gV : List V → List V → List V}
/-- f(k = v, ..) -/
theorem pe_callK0 {x : Str} {p pos : Pos} {kws : List Keyword} {tk : TA} (F : FnOk X.prog X.w X.K X.mg X.base CX k f fd ps sp) (hr : Room k X.A) (hg : Gl X x) (hm : X.mg x = some (.ref f)) (hk : PySem.W.keepIn X.K (.ref f) = true) (hb : KBinds X.K fd ps ks g gV) (hx : Passes CX X E)
    (hkw : PK X kws tk) (hall : (backToKw pos (keywordEach kws X.env)).all (·.1.isSome) = true := by rfl) (hks : (backToKw pos (keywordEach kws X.env)).filterMap (·.1) = ks := by rfl)
    (hdb : (x == ("__debug__" : Str)) = false := by decide)
    (hpl : ((backTo pos (starEach [] X.env)).any (·.1) || (backToKw pos (keywordEach kws X.env)).any (·.1.isNone)) = false := by rfl) :
    PE X (.Call (.Name x p) [] kws pos) (tCallK sp gV E tNil tk) := by
  refine ⟨fun pins s σ H Q I h => ?_⟩
  refine wpAny_Call_Name_kw (ld_glob I hg hm ?_ hdb)
  refine PySem.W.callWith_KW0 (h₀ := X.base) I.ok.mod.kin hk hall ?_ hpl
  refine thn (hkw.run pos pins s σ H _ I h) fun ws s2 ⟨zs, H2, I2, rz, q2⟩ => ⟨I2.kIn, ?_⟩
  rw [hks]
  exact run_fnk F hr hb hx I2 .nil rz q2
end
end L2

namespace L2
open PySem PySem.Spec PyProof.Rows
section
variable {X : Cx} {CX : CXT} {k : Nat} {C g : Addr} {fd : FuncData} {ps ks : List Str} {sp : Sp} {E : XK} {e i : Expr} {pos : Pos} {ta ti : TE}
/-- o[i] of a class with its own __getitem__ -/
def rOwnIx (C : Addr) (sp : Sp) (E : XK) : R2 := fun x y H Q => ∃ a dx fs, x = .ref a ∧ H a = some (.ins C dx fs) ∧ sp [.ref a, y] H Q E
theorem pe_ixOwn (c : Cls X.K C) (hs : PySem.W.findIn X.K (.ref C) "__getitem__" = some (some (.ref g))) (hf : PySem.W.fnIn X.K g = true) (hfn : PySem.W.isFn X.K (.ref g) = true)
    (F : FnOk X.prog X.w X.K X.mg X.base CX k g fd ps sp) (hr : Room (k + 1) X.A) (hb : Binds X.K fd ps []) (hx : Passes CX X E) (he : PE X e ta) (hi : PE X i ti)
    (hsl : ∀ v u, subscripted i true v u = runValue (.builtin "lifetime.subscript" ⟨[v, u], []⟩) := by intros; with_unfolding_all rfl) : PE X (.Subscript e i pos) (tOp (rOwnIx C sp E) ta ti) := by
  refine ⟨fun pins s σ H Q I h => Subscript_ (binT he hi I h fun v u s2 x y H2 I2 rx ry q => ?_)⟩
  obtain ⟨a, dx, fs, rfl, ea, q⟩ := q
  obtain rfl : v = Value.ref a := rx
  obtain ⟨mA, O, _, _, _, _⟩ := ins_get I2.hok ea
  obtain ⟨od, J, _⟩ := O.look
  obtain ⟨m, fr⟩ := I2.fr
  have hv : Vals [V.ref a, y] [Value.ref a, u] := .cons rfl (.cons ry .nil)
  have hl : ([Value.ref a, u] ++ ([] : List Value)).length = ps.length := by
    rw [List.append_nil, ← hv.length]
    exact F.len _ _ _ _ q
  refine PySem.W.sub_K fr I2.ok.mod.kin J hs hf hfn (wpAny_call (codeAny_mono (F.run X.A.in1 X.stack s2 H2 ⟨[.ref a, u], []⟩ ([.ref a, u] ++ []) [.ref a, y] Q E hr.in1 I2.env0.in1 (hb s2 [.ref a, u] I2.kIn hl) (by rw [List.append_nil]; exact hv) q) fun r s' hq => ?_)) (hsl _ _)
  cases r with
  | error er => exact hx pins σ H2 s2 er s' I2 hq
  | ok fl =>
    cases fl with
    | ret z => exact I2.after hq
    | next => exact False.elim hq
    | brk => exact False.elim hq
    | cont => exact False.elim hq
variable {gf : List Value → List Value → List Value} {gV : List V → List V → List V} {f : Addr} {m : Str} {o : Expr} {apos : Pos} {kws : List Keyword} {tk : TA}
/-- o.m(k = v, ..): the receiver stands first -/
def tMethK (C : Addr) (m : Str) (sp : Sp) (gV : List V → List V → List V) (E : XK) (ta : TE) (tk : TA) : TE := fun σ H Q => ta σ H fun x H1 => ∃ a dx fs, x = .ref a ∧ H1 a = some (.ins C dx fs) ∧ fs.lookup m = none ∧
  tk σ H1 fun zs H2 => sp (gV [.ref a] zs) H2 Q E
theorem pe_methK0 {pl : Sem Bool} (he : PE X o ta) (c : Cls X.K C) (hm : Meth X.K C m f) (F : FnOk X.prog X.w X.K X.mg X.base CX k f fd ps sp) (hr : Room k X.A) (hb : KBinds X.K fd ps ks gf gV) (hx : Passes CX X E) (hkw : PK X kws tk)
    (hall : (backToKw pos (keywordEach kws X.env)).all (·.1.isSome) = true := by rfl) (hks : (backToKw pos (keywordEach kws X.env)).filterMap (·.1) = ks := by rfl)
    (hpl : ((backTo pos (starEach [] X.env)).any (·.1) || (backToKw pos (keywordEach kws X.env)).any (·.1.isNone)) = false := by rfl)
    (ht : eval (.Call (.Attribute o m apos) [] kws pos) X.env = (do
      let ov ← eval o X.env
      standAt apos.atName
      let (f, first) ← holding [ov] (getMethod ov m pl)
      callWith pos f first (backTo pos (starEach [] X.env)) (backToKw pos (keywordEach kws X.env))) := by rfl) :
    PE X (.Call (.Attribute o m apos) [] kws pos) (tMethK C m sp gV E ta tk) := by
  refine ⟨fun pins s σ H Q I h => PySem.W.methodCall_KW (pl := pl) (thn (he.run pins s σ H _ I h) fun u s1 ⟨x, H1, I1, rx, a, dx, fs, ex, ea, l, q⟩ => ?_) ht⟩
  subst ex
  obtain rfl : u = Value.ref a := rx
  refine getmeth_ok I1 ea c hm l (PySem.W.callWith_KW0 (first := [.ref a]) (h₀ := X.base) I.ok.mod.kin hm.kp hall ?_ hpl)
  refine thn (hkw.run pos pins s1 σ H1 _ I1 q) fun ws s2 ⟨zs, H2, I2, rz, q2⟩ => ⟨I2.kIn, ?_⟩
  rw [hks]
  exact run_fnk (us := [.ref a]) (vs := [.ref a]) F hr hb hx I2 (.cons rfl .nil) rz q2
end
/-! ### several except clauses, each with a name -/
/-- what the clauses wish of an exception; slot i is the name's -/
def wManyAs (K : PySem.W.Frag) (Wout : WX) (D : Ends) : List (Value × Nat × (Addr → Value → Option Addr → TS)) → WX
  | [] => Wout
  | (c, i, ts) :: r => fun cls d σ H => ∃ b, PySem.W.exmOne K cls c = some b ∧
      (b = true → ∀ a, H a = none → ts a cls d { nx := fun σ' H' => D.nx (σ'.set i none) H', rt := D.rt, bk := fun σ' H' => D.bk (σ'.set i none) H', ct := fun σ' H' => D.ct (σ'.set i none) H' } (σ.set i (some (.ref a))) H) ∧
      (b = false → wManyAs K Wout D r cls d σ H)
inductive HdsAs (X : Cx) : List ExceptHandler → List (Value × Nat × (Addr → Value → Option Addr → TS)) → Prop
  | nil : HdsAs X [] []
  | cons {x n : Str} {c : Value} {i : Nat} {ts : Addr → Value → Option Addr → TS} {b₀ : Stmt} {suite : List Stmt} {np pos' : Pos} {hds : List ExceptHandler} {l : List (Value × Nat × (Addr → Value → Option Addr → TS))}
      (hi : X.N[i]? = some n) (hln : X.env.kindOf n = some .local) (hc : Names X x c)
      (hsu : ∀ (a : Addr) (oe : Obj) (cls : Value) (d : Option Addr) (pn : List (Addr × Obj)), Zc cls d oe → (∃ vs, oe.data = .fields vs) → PSs (X.suite a ((a, oe) :: pn)) (b₀ :: suite) (ts a cls d)) (r : HdsAs X hds l) :
      HdsAs X (.ExceptHandler (some (.Name x np)) (some n) (b₀ :: suite) pos' :: hds) ((c, i, ts) :: l)
section
variable {X : Cx} {body : List Stmt} {h₀ : ExceptHandler} {hds : List ExceptHandler} {l : List (Value × Nat × (Addr → Value → Option Addr → TS))} {pos : Pos} {tb : WX → TS} {Wout : WX}
theorem ps_try_manyAs (hs : X.stack = X.env :: X.outer) (hf : X.env.frame = some X.env.locals) (hN : X.N.Nodup) (tk : Takes X Wout)
    (hb : ∀ (W : WX) (pn : List (Addr × Obj)) (xe : Value → Shared → Prop), Takes (X.tr pn xe) W → PassesOwn (model X.prog X.w) X.A X.env xe → PSs (X.tr pn xe) body (tb W))
    (hh : HdsAs X (h₀ :: hds) l) : PS X (.Try body (h₀ :: hds) [] [] pos) (fun D σ H => tb (wManyAs X.K Wout D l) D σ H) := by
  refine ⟨fun pins s σ H D I h => wpAny_Try_except ?_⟩
  have ok := I.ok
  have hfr : X.A.frames = some (X.env :: X.outer) := by rw [ok.frames, hs]
  refine wpAny_mono ((hb (wManyAs X.K Wout D l) (X.pn ++ pins) (fun e s₁ => wpAny (model X.prog X.w) X.A (noteFrame e X.env) (fun _ s₂ => wpAny (model X.prog X.w) X.A (setFlight e none) (fun _ s₃ =>
    wpAny (model X.prog X.w) X.A (handleBy e X.env (h₀ :: hds)) (SP X pins D) X.xe s₃) X.xe s₂) X.xe s₁) (fun u s' xx => ?_) PassesOwn.looking).run [] s σ H D (I.toTry _) h) (fun f s1 hsp => ?_) (fun e s1 he => he)
  · obtain ⟨a, B, sI, pins', σ', H', cls, d, rfl, J', nb, up, sky, na, os, ag, w⟩ := xx
    have J : Inv X pins σ' H' sI := J'.ofTry ok
    have sky' : Sky B (X.env :: X.outer) a (Zc cls d) X.env.locals s'.heap := by rw [← hs]; exact sky
    refine Sky.land Zc.steady hfr hf sky' fun h3 fl3 up3 => ?_
    have J3 : Inv X pins σ' H' { s' with heap := h3 } := J.landed nb fl3.1 (up.trans up3) os ag
    obtain ⟨oe3, vs3, he3, hz3, hd3⟩ := fl3.there
    have nfr : a ∉ frs (X.env :: X.outer) := fun hm => by
      obtain ⟨_, o', e', hnf⟩ := fl3.2.2.1.mem hm
      rw [he3] at e'
      cases e'
      exact hnf _ hd3
    have nL : a ≠ X.env.locals := fun z => nfr (List.mem_filterMap.mpr ⟨X.env, List.mem_cons_self, by rw [hf, z]⟩)
    have nF : a ∉ X.fs := fun hm => by
      obtain ⟨e, he, q⟩ := List.mem_filterMap.mp hm
      exact nfr (List.mem_filterMap.mpr ⟨e, List.mem_cons_of_mem _ he, q⟩)
    have S3 := J3.suite he3 hd3 na nL nF
    have go : ∀ {hds' : List ExceptHandler} {l' : List (Value × Nat × (Addr → Value → Option Addr → TS))}, HdsAs X hds' l' → wManyAs X.K Wout D l' cls d σ' H' →
        wpAny (model X.prog X.w) X.A (handleBy (.ref a) X.env hds') (SP X pins D) X.xe { s' with heap := h3 } := by
      intro hds' l' hk
      induction hk with
      | nil =>
        intro w
        refine wpAny_handleBy_nil ?_
        obtain ⟨k1, k2, k3, oe, vs, T, oT, ts', he, hz, hd, h1, hr⟩ := id fl3
        have fin : wpAny (model X.prog X.w) X.A (setFlight (.ref a) X.env.frame) (fun _ s4 => wpAny (model X.prog X.w) X.A (throw (.ref a) : Sem Flow) (SP X pins D) X.xe s4) X.xe { s' with heap := h3 } := by
          rw [hf]
          exact HandSPX.setFlight_upZ fl3 fun h4 hh4 up4 => wpAny_throw (tk _ _ ⟨a, B, sI, pins, σ', H', cls, d, rfl, J, nb, (up.trans up3).trans up4, .inr (.inr (by rw [hs]; exact hh4)), na, os, ag, w⟩)
        unfold PySem.passOn
        refine wpAny_bind (wpAny_field he hd h1 ?_)
        rw [if_neg (show ¬ ((Value.ref T == Value.none) = true) from by simp)]
        first
          | exact wpAny_bind (wpAny_pure (wpAny_bind fin))
          | exact wpAny_bind fin
      | @cons x n c i ts b₀ suite np pos' hds2 l2 hi hln hc hsu r ih =>
        intro w
        obtain ⟨b, hb1, hyes, hno⟩ := w
        refine wpAny_handleBy_cons (codeAny_handlers_test ?_) (by intro q; cases q)
        have LT : PySem.W.Looks (model X.prog X.w) h3 (typeOf (.ref a)) cls := fun A Q E s k q => wpAny_typeOf_ref (k _ _ he3) (by rw [hz3.1]; exact q)
        have LM := PySem.W.exm_one (M := model X.prog X.w) J3.kIn LT hb1
        have test : ∀ {Q : Value → Shared → Prop} {E : Value → Shared → Prop}, Q c { s' with heap := h3 } → wpAny (model X.prog X.w) (X.A.mark (some (.ref a))) (eval (.Name x np) X.env) Q E { s' with heap := h3 } := fun {Q E} q => by
          obtain ⟨hg, hdbg, hm⟩ := hc
          rcases hm with hm | ⟨hm, hv, hnn⟩
          · exact ld_glob (X := X.suite a ((a, oe3) :: (X.pn ++ pins))) S3 hg hm q hdbg
          · exact ld_blt (X := X.suite a ((a, oe3) :: (X.pn ++ pins))) S3 hg hm hv q hnn hdbg
        refine test (LM.here ?_)
        cases b with
        | false => exact ih (hno rfl)
        | true =>
          refine codeAny_handlers_suite_as (HandSPX.lands_againZ fl3 fun h4 fl4 up4 => ?_)
          have J4 : Inv X pins σ' H' { s' with heap := h4 } := J.landed nb fl4.1 ((up.trans up3).trans up4) os ag
          obtain ⟨oe4, vs4, he4, hz4, hd4⟩ := fl4.there
          have S4 := J4.suite he4 hd4 na nL nF
          refine store_ok (X := X.suite a ((a, oe4) :: (X.pn ++ pins))) (v := .ref a) S4 hN hi (.inl hln) rfl (fun s5 S5 => ?_) (.inr hln)
          refine wpAny_mono ((hsu a oe4 cls d (X.pn ++ pins) hz4 ⟨_, hd4⟩).run [] s5 _ H' _ S5 (hyes rfl a na)) (fun f s6 hsp => ?_) (fun _ _ z => False.elim z)
          have fin : ∀ {σ6 : St} {H6 : Hp} {Q : Shared → Prop}, Inv (X.suite a ((a, oe4) :: (X.pn ++ pins))) [] σ6 H6 s6 → (∀ s7, Inv X pins (σ6.set i none) H6 s7 → Q s7) →
              wpAny (model X.prog X.w) X.A (do bindName X.env n .none; unbindBehindTheSuite X.env n pos') (fun _ s7 => Q s7) X.xe s6 := fun {σ6 H6 Q} S6 hq => gone_ok (S6.unsuite ok) hN hi hln hq
          cases f with
          | next =>
            obtain ⟨σ6, H6, S6, q6⟩ := hsp
            exact fin S6 fun s7 J7 => ⟨_, _, J7, q6⟩
          | brk =>
            obtain ⟨σ6, H6, S6, q6⟩ := hsp
            exact fin S6 fun s7 J7 => ⟨_, _, J7, q6⟩
          | cont =>
            obtain ⟨σ6, H6, S6, q6⟩ := hsp
            exact fin S6 fun s7 J7 => ⟨_, _, J7, q6⟩
          | ret u =>
            obtain ⟨v6, σ6, H6, S6, r6, q6⟩ := hsp
            exact fin S6 fun s7 J7 => ⟨_, _, _, J7, r6, q6⟩
    exact go hh w
  · cases f with
    | next =>
      obtain ⟨σ', H', J', q⟩ := hsp
      exact wpAny_execs_nil ⟨σ', H', J'.ofTry ok, q⟩
    | brk =>
      obtain ⟨σ', H', J', q⟩ := hsp
      exact ⟨σ', H', J'.ofTry ok, q⟩
    | cont =>
      obtain ⟨σ', H', J', q⟩ := hsp
      exact ⟨σ', H', J'.ofTry ok, q⟩
    | ret u =>
      obtain ⟨v, σ', H', J', r, q⟩ := hsp
      exact ⟨v, σ', H', J'.ofTry ok, r, q⟩
end
end L2

/-! ### != of two lists whose items are compared within one model -/
namespace PySem.SeqAt
open AutoSeq1 (wpAny_loadPart')
open MeetsSeq MeetsSeq2 MeetsSeq3 SeqRoads2
section
variable {prog : Program} {w : World}
theorem neIn_go (l b : Addr) (xs ys : Array Value) (n n2 : Nat) (dd dd2 : Option Addr) (sl sl2 : Array (Option Value)) (hsz : xs.size = ys.size) (e : Nat → Bool) (k : Nat) :
    ∀ i : Nat, xs.size - i = k → MeetsIn prog w (Builtin.«list.__eq__.loop» ⟨[.ref l, .ref b, rawInt i, rawInt 3], []⟩)
      (fun A R s => s.heap.get? l = some { cls := .type "list", dict := dd, data := .seq xs n, slots := sl } ∧ s.heap.get? b = some { cls := .type "list", dict := dd2, data := .seq ys n2, slots := sl2 } ∧
        (∀ j (h1 : j < xs.size) (h2 : j < ys.size), EqIn prog w A.in1 s xs[j] ys[j] (e j)) ∧ R (.ok (.ret (.bool (!((List.range xs.size).drop i).all e)))) s) := by
  induction k with
  | zero =>
    intro i hk A R s h
    obtain ⟨hp, g, d, tk, os⟩ := s
    obtain ⟨hl, hb, he, h⟩ := h
    wp_walk using wpAny_loadPart' hl, wpAny_loadPart' hb
    rw [show ((List.range xs.size).drop i) = [] by simp; omega] at h
    rw [show xs[((i : Nat) : Int).toNat]? = none by simp; omega, show ys[((i : Nat) : Int).toNat]? = none by simp; omega]
    wp_walk using wpAny_loadPart' hl, wpAny_loadPart' hb
    show R (.ok (.ret (.bool (xs.size != ys.size)))) _
    rw [hsz]
    simpa using h
  | succ k ih =>
    intro i hk A R s h
    obtain ⟨hp, g, d, tk, os⟩ := s
    obtain ⟨hl, hb, he, h⟩ := h
    wp_walk using wpAny_loadPart' hl, wpAny_loadPart' hb
    have l1 : i < xs.size := by omega
    have l2 : i < ys.size := by omega
    have g1 : xs[((i : Nat) : Int).toNat]? = some xs[i] := by simp [l1]
    have g2 : ys[((i : Nat) : Int).toNat]? = some ys[i] := by simp [l2]
    rw [show (List.range xs.size).drop i = i :: (List.range xs.size).drop (i + 1) by simp [List.drop_eq_getElem_cons, l1], List.all_cons] at h
    rw [g1, g2]
    refine wpAny_bind (he i l1 l2 _ _ ?_)
    cases hv : e i with
    | true =>
      rw [hv] at h
      wp_walk
      rw [show ((i : Int) + 1) = ((i + 1 : Nat) : Int) by push_cast; rfl]
      exact ⟨plainId_quiet plain_eq_loop _, codeAny_builtin entry_eq_loop (by
        rw [Around.under_plainId plain_eq_loop _]
        exact ih (i + 1) (by omega) A R _ ⟨hl, hb, he, by simpa using h⟩)⟩
    | false =>
      rw [hv] at h
      wp_walk using wpAny_loadPart' hl, wpAny_loadPart' hb
      rw [g1, g2]
      wp_walk
      simpa using h
theorem neIn_list (l b : Addr) (xs ys : Array Value) (n n2 : Nat) (dd dd2 : Option Addr) (sl sl2 : Array (Option Value)) (hsz : xs.size = ys.size) (e : Nat → Bool) :
    MeetsIn prog w (Builtin.«list.__ne__» ⟨[.ref l, .ref b], []⟩)
      (fun A R s => s.heap.get? l = some { cls := .type "list", dict := dd, data := .seq xs n, slots := sl } ∧ s.heap.get? b = some { cls := .type "list", dict := dd2, data := .seq ys n2, slots := sl2 } ∧
        (∀ j (h1 : j < xs.size) (h2 : j < ys.size), EqIn prog w A.in1 s xs[j] ys[j] (e j)) ∧ R (.ok (.ret (.bool (!(List.range xs.size).all e)))) s) := by
  intro A R s h
  obtain ⟨hp, g, d, tk, os⟩ := s
  obtain ⟨hl, hb, he, h⟩ := h
  have f3 := AutoSeq1.sub_list_list
  have hne : ¬ (xs.size != ys.size) = true := by simp [hsz]
  wp_walk using wpAny_loadPart' hl, wpAny_loadPart' hb
  exact ⟨plainId_quiet plain_eq_loop _, codeAny_builtin entry_eq_loop (by
    rw [Around.under_plainId plain_eq_loop _]
    exact neIn_go l b xs ys n n2 dd dd2 sl sl2 hsz e _ 0 rfl A R _ ⟨hl, hb, he, by simpa using h⟩)⟩
theorem neIn_lists {A : Around} {s : Shared} {E : Value → Shared → Prop} {l b : Addr} {xs ys : Array Value} {e : Nat → Bool} {Q : Value → Shared → Prop} (hl : s.heap.IsList l xs) (hb : s.heap.IsList b ys) (hsz : xs.size = ys.size) (hu : A.units < cLine)
    (he : ∀ j (h1 : j < xs.size) (h2 : j < ys.size), EqIn prog w A.in1 s xs[j] ys[j] (e j)) (h : Q (.bool (!(List.range xs.size).all e)) s) : wpAny (model prog w) A (richCompare .NotEq (.ref l) (.ref b)) Q E s := by
  obtain ⟨⟨cls, dd, data, sl⟩, ho, hc, n, hd⟩ := id hl
  obtain ⟨⟨cls2, dd2, data2, sl2⟩, ho2, hc2, n2, hd2⟩ := id hb
  simp only at hc hd hc2 hd2
  subst hc hd hc2 hd2
  exact wpAny_richCompare_same_room (T := "list") (op := .NotEq) ⟨_, ho, rfl⟩ ⟨_, ho2, rfl⟩ F.slot_list_ne (call_meetsIn F.slot_list_ne ⟨_, ho, rfl⟩ F.entry_list_ne (F.args_list_ne_2 _ _) (neIn_list l b xs ys n n2 dd dd2 sl sl2 hsz e)
    ⟨ho, ho2, he, show Value.bool (!(List.range xs.size).all e) ≠ Value.notImplemented ∧ Q (.bool (!(List.range xs.size).all e)) s from ⟨(fun x => nomatch x), h⟩⟩) hu
end
end PySem.SeqAt
namespace PySem.W
open PySem.SeqAt (EqAt)
theorem KeqHits.of_all {K : Type} [DecidableEq K] {A : Around} {s : Shared} {kb : List (K × Value)} {e : K → Bool} : ∀ (r : List (K × Value)), (∀ k v y, (k, v) ∈ r → valueAt kb k = some y → EqAt A s v y (e k)) →
    KeqHits A s kb r (r.all fun p => (valueAt kb p.1).isSome && e p.1)
  | [], _ => .nil
  | (k, v) :: r, h => by
    cases hv : valueAt kb k with
    | none =>
      rw [show (((k, v) :: r).all fun p => (valueAt kb p.1).isSome && e p.1) = false by simp [hv]]
      exact .miss hv
    | some y =>
      rw [show (((k, v) :: r).all fun p => (valueAt kb p.1).isSome && e p.1) = (e k && r.all fun p => (valueAt kb p.1).isSome && e p.1) by simp [hv]]
      exact .hit hv (h k v y List.mem_cons_self hv) (KeqHits.of_all r fun k' v' y' hm hv' => h k' v' y' (List.mem_cons_of_mem _ hm) hv')
end PySem.W
namespace L2
open PySem PySem.Spec PyProof.Rows
/-- x == y answers the Bool, nested at most n deep; data of plain kinds want 64 -/
inductive Eqv (K : PySem.W.Frag) (H : Hp) : Nat → V → V → Bool → Prop
  | flat {n : Nat} {x y : V} : flatV x = true → flatV y = true → Eqv K H n x y (eqV x y)
  | same {n : Nat} {a : Addr} : Eqv K H n (.ref a) (.ref a) true
  | data {n : Nat} {x y : V} {d e : PyData} : 64 ≤ n → Dp K H x d → Dp K H y e → SeqAt.shaped d = true → SeqAt.shaped e = true → Eqv K H n x y (PyData.eqv d e)
  | lists {n : Nat} {a b : Addr} {xs ys : List V} {e : Nat → Bool} : a ≠ b → SqL K H a xs → SqL K H b ys → xs.length = ys.length → (∀ j x y, xs[j]? = some x → ys[j]? = some y → Eqv K H n x y (e j)) →
      Eqv K H (n + 1) (.ref a) (.ref b) ((List.range xs.length).all e)
  | listsLen {n : Nat} {a b : Addr} {xs ys : List V} : a ≠ b → SqL K H a xs → SqL K H b ys → xs.length ≠ ys.length → Eqv K H (n + 1) (.ref a) (.ref b) false
  | tups {n : Nat} {a b : Addr} {xs ys : List V} {e : Nat → Bool} : a ≠ b → SqT K H a xs → SqT K H b ys → (∀ j x y, xs[j]? = some x → ys[j]? = some y → Eqv K H n x y (e j)) →
      Eqv K H (n + 1) (.ref a) (.ref b) ((List.range (min xs.length ys.length)).all e && xs.length == ys.length)
  | dicts {n : Nat} {a b : Addr} {ks ls : List (Key × V)} {e : Key → Bool} : a ≠ b → H a = some (.dK ks) → H b = some (.dK ls) → (∀ k v y, (k, v) ∈ ks → valV ls k = some y → Eqv K H n v y (e k)) →
      Eqv K H (n + 1) (.ref a) (.ref b) (ks.length == ls.length && ks.all fun p => (valV ls p.1).isSome && e p.1)
section
variable {X : Cx} {pins : List (Addr × Obj)} {σ : St} {H : Hp} {s : Shared}
theorem kv_mem {kvs : List (Key × V)} {vs : List (Key × Value)} (r : KV kvs vs) : ∀ {k : Key} {u : Value}, (k, u) ∈ vs → ∃ v, (k, v) ∈ kvs ∧ RelV v u := by
  unfold KV at r
  induction r with
  | nil => intro k u h; cases h
  | @cons p q ps qs h t ih =>
    intro k u hm
    rcases List.mem_cons.mp hm with e | hm
    · subst e
      obtain ⟨h1, h2⟩ := h
      exact ⟨p.2, by rw [← show p.1 = k from h1]; exact List.mem_cons_self, h2⟩
    · obtain ⟨v, h1, h2⟩ := ih hm
      exact ⟨v, List.mem_cons_of_mem _ h1, h2⟩
theorem vals_at {xs : List V} {us : List Value} (r : Vals xs us) (j : Nat) (h : j < us.toArray.size) : ∃ x, xs[j]? = some x ∧ RelV x us.toArray[j] := by
  have hj : j < us.length := by simpa using h
  have hx : j < xs.length := by rw [r.length]; exact hj
  obtain ⟨u, hu, ru⟩ := r.get (List.getElem?_eq_getElem hx)
  refine ⟨_, List.getElem?_eq_getElem hx, ?_⟩
  rw [List.getElem?_eq_getElem hj] at hu
  have e : us.toArray[j] = u := by
    rw [← Option.some.inj hu]
    simp
  rw [e]
  exact ru
theorem tup_of {h : Heap} {a : Addr} {its : Array Value} (t : IsTup h a its) : h.IsTuple a its := by
  obtain ⟨o, h1, h2, n, h3⟩ := t
  exact ⟨o, h1, h2, n, h3⟩
theorem val_is {ls : List (Key × V)} {vb : List (Key × Value)} (rb : KV ls vb) {k : Key} {y : Value} (hv : valueAt vb k = some y) : ∃ y0, valV ls k = some y0 ∧ RelV y0 y := by
  have q := rb.val k
  rw [hv] at q
  cases h3 : valV ls k with
  | none => rw [h3] at q; exact q.elim
  | some y0 => rw [h3] at q; exact ⟨y0, rfl, q⟩
theorem hits_allV {ks ls : List (Key × V)} {va vb : List (Key × Value)} (e : Key → Bool) (ra : KV ks va) (rb : KV ls vb) : (ks.all fun p => (valV ls p.1).isSome && e p.1) = va.all fun p => (valueAt vb p.1).isSome && e p.1 := by
  have hk : ks.map (·.1) = va.map (·.1) := ra.keys
  have hs : ∀ k : Key, (valV ls k).isSome = (valueAt vb k).isSome := fun k => by
    have q := rb.val k
    cases h3 : valV ls k <;> cases h4 : valueAt vb k <;> rw [h3, h4] at q <;> first | rfl | exact q.elim
  have f : ∀ l : List (Key × V), (l.all fun p => (valV ls p.1).isSome && e p.1) = (l.map (·.1)).all fun k => (valueAt vb k).isSome && e k := fun l => by
    rw [List.all_map]
    congr 1
    funext p
    rw [hs p.1]
    rfl
  rw [f, hk, List.all_map]
  rfl
theorem Eqv.tree (I : Inv X pins σ H s) {n : Nat} {x y : V} {r : Bool} (t : Eqv X.K H n x y r) : ∀ {v u : Value}, RelV x v → RelV y u → PySem.W.EqTree X.prog X.w s n v u r := by
  induction t with
  | flat h1 h2 => exact fun rv ru => .leaf fun A _ => eqAt_V rv ru h1 h2
  | same =>
    intro v u rv ru
    obtain rfl : v = _ := rv
    obtain rfl : u = _ := ru
    exact .same
  | data hn d1 d2 s1 s2 =>
    intro v u rv ru
    obtain ⟨as, r1⟩ := Dp.reads I _ _ _ d1 rv
    obtain ⟨bs, r2⟩ := Dp.reads I _ _ _ d2 ru
    exact .leaf fun A hu => SeqAt.eqAt_reads _ _ A s _ _ _ _ r1 r2 (SeqAt.canLay_of_shaped s1) (SeqAt.canLay_of_shaped s2) (SeqAt.room_of_shaped s1 (by omega))
  | @lists n a b xs ys e hne h1 h2 hl _ ih =>
    intro v u rv ru
    obtain rfl : v = _ := rv
    obtain rfl : u = _ := ru
    obtain ⟨us, r1, p1, _⟩ := I.list h1
    obtain ⟨ws, r2, p2, _⟩ := I.list h2
    have e1 : xs.length = us.toArray.size := by rw [r1.length]; simp
    have e2 : ys.length = ws.toArray.size := by rw [r2.length]; simp
    rw [e1]
    refine .lists hne p1.isList p2.isList (by rw [← e1, ← e2, hl]) fun j j1 j2 => ?_
    obtain ⟨x, hx, rx⟩ := vals_at r1 j j1
    obtain ⟨y, hy, ry⟩ := vals_at r2 j j2
    exact ih j x y hx hy rx ry
  | @listsLen n a b xs ys hne h1 h2 hl =>
    intro v u rv ru
    obtain rfl : v = _ := rv
    obtain rfl : u = _ := ru
    obtain ⟨us, r1, p1, _⟩ := I.list h1
    obtain ⟨ws, r2, p2, _⟩ := I.list h2
    refine .listsLen hne p1.isList p2.isList ?_
    have e1 := r1.length
    have e2 := r2.length
    simp only [List.size_toArray, bne_iff_ne]
    omega
  | @tups n a b xs ys e hne h1 h2 _ ih =>
    intro v u rv ru
    obtain rfl : v = _ := rv
    obtain rfl : u = _ := ru
    obtain ⟨us, r1, p1, _⟩ := I.tuple h1
    obtain ⟨ws, r2, p2, _⟩ := I.tuple h2
    have e1 : xs.length = us.toArray.size := by rw [r1.length]; simp
    have e2 : ys.length = ws.toArray.size := by rw [r2.length]; simp
    rw [e1, e2]
    refine .tuples hne (tup_of p1) (tup_of p2) fun j j1 j2 => ?_
    obtain ⟨x, hx, rx⟩ := vals_at r1 j j1
    obtain ⟨y, hy, ry⟩ := vals_at r2 j j2
    exact ih j x y hx hy rx ry
  | @dicts n a b ks ls e hne h1 h2 _ ih =>
    intro v u rv ru
    obtain rfl : v = _ := rv
    obtain rfl : u = _ := ru
    obtain ⟨_, ya, va, ra, da⟩ := (show ObjOk X.prog X.w H s.heap a (.dK ks) from I.hok a _ h1)
    obtain ⟨_, yb, vb, rb, db⟩ := (show ObjOk X.prog X.w H s.heap b (.dK ls) from I.hok b _ h2)
    have ea : ks.length = va.length := ra.length
    have eb : ls.length = vb.length := rb.length
    have eall := hits_allV e ra rb
    rw [eall, ea, eb]
    refine .dicts hne ya yb da db fun k v y hm hv => ?_
    obtain ⟨v0, hm0, rv0⟩ := kv_mem ra hm
    obtain ⟨y0, hy0, ry0⟩ := val_is rb hv
    exact ih k v0 y0 hm0 hy0 rv0 ry0
end
section
variable {X : Cx}
/-- a == b of two lists, two tuples, two dicts -/
def rEqT (K : PySem.W.Frag) : R2 := fun x y H Q =>
  (∃ a b xs ys e, x = .ref a ∧ y = .ref b ∧ SqL K H a xs ∧ SqL K H b ys ∧ xs.length = ys.length ∧ (∀ j x y, xs[j]? = some x → ys[j]? = some y → Eqv K H 70 x y (e j)) ∧ Q (.bl ((List.range xs.length).all e)) H) ∨
  (∃ a b xs ys e, x = .ref a ∧ y = .ref b ∧ SqT K H a xs ∧ SqT K H b ys ∧ (∀ j x y, xs[j]? = some x → ys[j]? = some y → Eqv K H 70 x y (e j)) ∧ Q (.bl ((List.range (min xs.length ys.length)).all e && xs.length == ys.length)) H) ∨
  (∃ (a b : Addr) (ks ls : List (Key × V)) (e : Key → Bool), x = .ref a ∧ y = .ref b ∧ H a = some (.dK ks) ∧ H b = some (.dK ls) ∧ (∀ k v y, (k, v) ∈ ks → valV ls k = some y → Eqv K H 70 v y (e k)) ∧ Q (.bl (ks.length == ls.length && ks.all fun p => (valV ls p.1).isSome && e p.1)) H)
theorem op_eqT (hu : X.A.units + 100 < cLine) : OpR X (compareOp .Eq) (rEqT X.K) := by
  intro pins s σ H x y v u Q I rx ry h
  rcases h with ⟨a, b, xs, ys, e, rfl, rfl, h1, h2, hl, he, q⟩ | ⟨a, b, xs, ys, e, rfl, rfl, h1, h2, he, q⟩ | ⟨a, b, ks, ls, e, rfl, rfl, h1, h2, he, q⟩
  · obtain rfl : v = _ := rx
    obtain rfl : u = _ := ry
    obtain ⟨us, r1, p1, _⟩ := I.list h1
    obtain ⟨ws, r2, p2, _⟩ := I.list h2
    have e1 : xs.length = us.toArray.size := by rw [r1.length]; simp
    have e2 : ys.length = ws.toArray.size := by rw [r2.length]; simp
    refine PySem.W.eq_listsT (n := 70) (e := e) p1.isList p2.isList (by rw [← e1, ← e2, hl]) (fun j j1 j2 => ?_) (by omega) ⟨.bl _, H, I, rfl, by rw [← e1]; exact q⟩
    obtain ⟨x, hx, rx⟩ := vals_at r1 j j1
    obtain ⟨y, hy, ry⟩ := vals_at r2 j j2
    exact (he j x y hx hy).tree I rx ry
  · obtain rfl : v = _ := rx
    obtain rfl : u = _ := ry
    obtain ⟨us, r1, p1, _⟩ := I.tuple h1
    obtain ⟨ws, r2, p2, _⟩ := I.tuple h2
    have e1 : xs.length = us.toArray.size := by rw [r1.length]; simp
    have e2 : ys.length = ws.toArray.size := by rw [r2.length]; simp
    refine PySem.W.eq_tuplesT (n := 70) (e := e) (tup_of p1) (tup_of p2) (fun j j1 j2 => ?_) (by omega) ⟨.bl _, H, I, rfl, by rw [← e1, ← e2]; exact q⟩
    obtain ⟨x, hx, rx⟩ := vals_at r1 j j1
    obtain ⟨y, hy, ry⟩ := vals_at r2 j j2
    exact (he j x y hx hy).tree I rx ry
  · obtain rfl : v = _ := rx
    obtain rfl : u = _ := ry
    obtain ⟨_, ya, va, ra, da⟩ := (show ObjOk X.prog X.w H s.heap a (.dK ks) from I.hok a _ h1)
    obtain ⟨_, yb, vb, rb, db⟩ := (show ObjOk X.prog X.w H s.heap b (.dK ls) from I.hok b _ h2)
    refine PySem.W.eq_dictsT (n := 70) (e := e) ya yb da db (fun k v y hm hv => ?_) (by omega) ⟨.bl _, H, I, rfl, by rw [← hits_allV e ra rb, ← show ks.length = va.length from ra.length, ← show ls.length = vb.length from rb.length]; exact q⟩
    obtain ⟨v0, hm0, rv0⟩ := kv_mem ra hm
    obtain ⟨y0, hy0, ry0⟩ := val_is rb hv
    exact (he k v0 y0 hm0 hy0).tree I rv0 ry0
/-- a != b of two lists -/
def rNeT (K : PySem.W.Frag) : R2 := fun x y H Q => ∃ (a b : Addr) (xs ys : List V) (e : Nat → Bool), x = .ref a ∧ y = .ref b ∧ SqL K H a xs ∧ SqL K H b ys ∧ xs.length = ys.length ∧ (∀ j x y, xs[j]? = some x → ys[j]? = some y → Eqv K H 70 x y (e j)) ∧
  Q (.bl (!(List.range xs.length).all e)) H
theorem op_neT (hu : X.A.units + 100 < cLine) : OpR X (compareOp .NotEq) (rNeT X.K) := by
  intro pins s σ H x y v u Q I rx ry h
  obtain ⟨a, b, xs, ys, e, rfl, rfl, h1, h2, hl, he, q⟩ := h
  obtain rfl : v = _ := rx
  obtain rfl : u = _ := ry
  obtain ⟨us, r1, p1, _⟩ := I.list h1
  obtain ⟨ws, r2, p2, _⟩ := I.list h2
  have e1 : xs.length = us.toArray.size := by rw [r1.length]; simp
  have e2 : ys.length = ws.toArray.size := by rw [r2.length]; simp
  refine SeqAt.neIn_lists (e := e) p1.isList p2.isList (by rw [← e1, ← e2, hl]) (by omega) (fun j j1 j2 => ?_) ⟨.bl _, H, I, rfl, by rw [← e1]; exact q⟩
  obtain ⟨x, hx, rx⟩ := vals_at r1 j j1
  obtain ⟨y, hy, ry⟩ := vals_at r2 j j2
  exact ((he j x y hx hy).tree I rx ry).at X.A.in1 (by show X.A.units + 1 + 70 < cLine; omega)
/-- a != b of two dicts of the same keys and equal plain values -/
def rNeDc (K : PySem.W.Frag) : R2 := fun x y H Q => ∃ (a b : Addr) (ks ls : List (Key × V)) (e : Key → Bool), x = .ref a ∧ y = .ref b ∧ H a = some (.dK ks) ∧ H b = some (.dK ls) ∧
  (∀ k v y, (k, v) ∈ ks → valV ls k = some y → (flatV v = true ∧ flatV y = true ∧ e k = eqV v y) ∨ ((∃ a, v = .ref a ∧ y = .ref a) ∧ e k = true)) ∧ Q (.bl (!(ks.length == ls.length && ks.all fun p => (valV ls p.1).isSome && e p.1))) H
theorem op_neDc (hu : X.A.units + 100 < cLine) : OpR X (compareOp .NotEq) (rNeDc X.K) := by
  intro pins s σ H x y v u Q I rx ry h
  obtain ⟨a, b, ks, ls, e, rfl, rfl, h1, h2, he, q⟩ := h
  obtain rfl : v = _ := rx
  obtain rfl : u = _ := ry
  obtain ⟨_, ya, va, ra, da⟩ := (show ObjOk X.prog X.w H s.heap a (.dK ks) from I.hok a _ h1)
  obtain ⟨_, yb, vb, rb, db⟩ := (show ObjOk X.prog X.w H s.heap b (.dK ls) from I.hok b _ h2)
  refine PySem.W.keq_ne ya yb da db (by omega) (fun _ => PySem.W.KeqHits.of_all (e := e) va fun k v y hm hv => ?_) ⟨.bl _, H, I, rfl, by rw [← hits_allV e ra rb, ← show ks.length = va.length from ra.length, ← show ls.length = vb.length from rb.length]; exact q⟩
  obtain ⟨v0, hm0, rv0⟩ := kv_mem ra hm
  obtain ⟨y0, hy0, ry0⟩ := val_is rb hv
  rcases he k v0 y0 hm0 hy0 with ⟨f1, f2, f3⟩ | ⟨⟨a, rfl, rfl⟩, f3⟩
  · rw [f3]
    exact eqAt_V rv0 ry0 f1 f2
  · obtain rfl : v = _ := rv0
    obtain rfl : y = _ := ry0
    rw [f3]
    exact SeqAt.EqAt.same _
end
end L2

namespace L2
open PySem PySem.Spec PyProof.Rows
/-! ### the drawing state: s holds [big, cells, counter]; G is what the others see -/
structure VS (s b c : Addr) (n : Int) (bs cs : List Int) (G H : Hp) : Prop where
  sub : Same G H
  gs : G s = none
  gb : G b = none
  gc : G c = none
  bs' : b ≠ s
  cs' : c ≠ s
  bc : b ≠ c
  hs : H s = some (.lst [.ref b, .ref c, .int n])
  hb : H b = some (.lst (bs.map V.int))
  hc : H c = some (.lst (cs.map V.int))
  nn : ∀ x ∈ bs, (0 : Int) ≤ x
  lb : bs.length ≤ 63
  lc : 0 < cs.length ∧ cs.length ≤ 64
  n0 : 0 ≤ n
def View (s : Addr) (N : Nat) (G H : Hp) : Prop := ∃ b c n bs cs, VS s b c n bs cs G H ∧ n ≤ (N : Int)
theorem same_of_none {H : Hp} {p : Addr} {o : HO} (h : H p = none) : Same H (upd H p o) := fun b x e => by
  rw [upd_ne (ne_of_none e h)]
  exact e
/-- what the others do not see may change -/
theorem Same.unseen {G H : Hp} {p : Addr} {o : HO} (e : Same G H) (h : G p = none) : Same G (upd H p o) := fun b x g => by
  rw [upd_ne (ne_of_none g h)]
  exact e _ _ g
theorem View.sub {s : Addr} {N : Nat} {G H : Hp} (v : View s N G H) : Same G H := let ⟨_, _, _, _, _, k, _⟩ := v; k.sub
theorem View.gs {s : Addr} {N : Nat} {G H : Hp} (v : View s N G H) : G s = none := let ⟨_, _, _, _, _, k, _⟩ := v; k.gs
theorem View.mono {s : Addr} {N M : Nat} {G H : Hp} (v : View s N G H) (h : N ≤ M) : View s M G H :=
  let ⟨b, c, n, bs, cs, k, l⟩ := v; ⟨b, c, n, bs, cs, k, by omega⟩
theorem VS.ext {s b c : Addr} {n : Int} {bs cs : List Int} {G H H' : Hp} (k : VS s b c n bs cs G H) (e : Same H H') : VS s b c n bs cs G H' :=
  { k with sub := k.sub.trans e, hs := e _ _ k.hs, hb := e _ _ k.hb, hc := e _ _ k.hc }
theorem View.ext {s : Addr} {N : Nat} {G H H' : Hp} (v : View s N G H) (e : Same H H') : View s N G H' :=
  let ⟨b, c, n, bs, cs, k, l⟩ := v; ⟨b, c, n, bs, cs, k.ext e, l⟩
/-- a new object, seen from now on -/
theorem View.see {s : Addr} {N : Nat} {G H H' : Hp} {p : Addr} {o : HO} (v : View s N G H) (e : Same H H') (n : H p = none) (h : H' p = some o) : View s N (upd G p o) H' := by
  obtain ⟨b, c, i, bs, cs, k, l⟩ := v
  have f : ∀ q u, H q = some u → p ≠ q := fun q u hq z => by rw [z, hq] at n; cases n
  refine ⟨b, c, i, bs, cs, { k.ext e with sub := fun q u hq => ?_, gs := ?_, gb := ?_, gc := ?_ }, l⟩
  · by_cases hqp : q = p
    · subst hqp
      rw [upd_same] at hq
      cases hq
      exact h
    · rw [upd_ne hqp] at hq
      exact e _ _ (k.sub _ _ hq)
  · rw [upd_ne (f _ _ k.hs).symm]; exact k.gs
  · rw [upd_ne (f _ _ k.hb).symm]; exact k.gb
  · rw [upd_ne (f _ _ k.hc).symm]; exact k.gc
theorem View.new {s : Addr} {N : Nat} {G H : Hp} {p : Addr} {o : HO} (v : View s N G H) (n : H p = none) : View s N (upd G p o) (upd H p o) := v.see (same_of_none n) n upd_same
/-- an object that is seen, stored to -/
theorem View.put {s : Addr} {N : Nat} {G H : Hp} {p : Addr} {u o : HO} (v : View s N G H) (h : G p = some u) : View s N (upd G p o) (upd H p o) := by
  obtain ⟨b, c, i, bs, cs, k, l⟩ := v
  have f : ∀ q, G q = none → q ≠ p := fun q hq z => by rw [z, h] at hq; cases hq
  refine ⟨b, c, i, bs, cs, ⟨fun q x hq => ?_, ?_, ?_, ?_, k.bs', k.cs', k.bc, ?_, ?_, ?_, k.nn, k.lb, k.lc, k.n0⟩, l⟩
  · by_cases hqp : q = p
    · subst hqp
      rw [upd_same] at hq ⊢
      exact hq
    · rw [upd_ne hqp] at hq ⊢
      exact k.sub _ _ hq
  · rw [upd_ne (f _ k.gs)]; exact k.gs
  · rw [upd_ne (f _ k.gb)]; exact k.gb
  · rw [upd_ne (f _ k.gc)]; exact k.gc
  · rw [upd_ne (f _ k.gs)]; exact k.hs
  · rw [upd_ne (f _ k.gb)]; exact k.hb
  · rw [upd_ne (f _ k.gc)]; exact k.hc
theorem VS.count {s b c : Addr} {n : Int} {bs cs : List Int} {G H : Hp} (k : VS s b c n bs cs G H) : VS s b c (n + 1) bs cs G (upd H s (.lst [.ref b, .ref c, .int (n + 1)])) where
  sub := k.sub.unseen k.gs
  gs := k.gs
  gb := k.gb
  gc := k.gc
  bs' := k.bs'
  cs' := k.cs'
  bc := k.bc
  hs := upd_same
  hb := by rw [upd_ne k.bs']; exact k.hb
  hc := by rw [upd_ne k.cs']; exact k.hc
  nn := k.nn
  lb := k.lb
  lc := k.lc
  n0 := by have := k.n0; omega
/-- another big list in the first place -/
theorem VS.big {s b c p : Addr} {n y : Int} {r cs : List Int} {G H : Hp} (k : VS s b c n (y :: r) cs G H) (hp : H p = none) :
    VS s p c n r cs G (upd (upd H p (.lst (r.map V.int))) s (.lst [.ref p, .ref c, .int n])) := by
  have ps : p ≠ s := fun z => by rw [z, k.hs] at hp; cases hp
  have pc : p ≠ c := fun z => by rw [z, k.hc] at hp; cases hp
  exact { sub := (k.sub.unseen (k.sub.free hp)).unseen k.gs, gs := k.gs, gb := k.sub.free hp, gc := k.gc, bs' := ps, cs' := k.cs', bc := pc, hs := upd_same,
          hb := by rw [upd_ne ps, upd_same], hc := by rw [upd_ne k.cs', upd_ne pc.symm]; exact k.hc, nn := fun x hx => k.nn x (List.mem_cons_of_mem _ hx),
          lb := by have := k.lb; rw [List.length_cons] at this; omega, lc := k.lc, n0 := k.n0 }
/-- the big list's head, changed -/
theorem VS.head {s b c : Addr} {n y z : Int} {r cs : List Int} {G H : Hp} (k : VS s b c n (y :: r) cs G H) (hz : 0 ≤ z) : VS s b c n (z :: r) cs G (upd H b (.lst ((z :: r).map V.int))) where
  sub := k.sub.unseen k.gb
  gs := k.gs
  gb := k.gb
  gc := k.gc
  bs' := k.bs'
  cs' := k.cs'
  bc := k.bc
  hs := by rw [upd_ne k.bs'.symm]; exact k.hs
  hb := upd_same
  hc := by rw [upd_ne k.bc.symm]; exact k.hc
  nn := fun x hx => by
    rcases List.mem_cons.mp hx with rfl | hx
    · exact hz
    · exact k.nn x (List.mem_cons_of_mem _ hx)
  lb := k.lb
  lc := k.lc
  n0 := k.n0
/-- a seen object is left out of sight -/
theorem Same.free' {G H : Hp} {p : Addr} (e : Same G H) (h : H p = none) : G p = none := e.free h
/-! ### lists of ints -/
theorem dpAll_ints {K : PySem.W.Frag} {H : Hp} : ∀ ns : List Int, DpAll K H (ns.map V.int) (ns.map PyData.int)
  | [] => .nil
  | i :: r => .cons (.int i) (dpAll_ints r)
theorem dpAll_strs {K : PySem.W.Frag} {H : Hp} : ∀ ns : List Str, DpAll K H (ns.map V.str) (ns.map PyData.str)
  | [] => .nil
  | i :: r => .cons (.str i) (dpAll_strs r)
theorem cut1 (x : V) (xs : List V) : cutV (x :: xs) (some 1) none = xs := by
  unfold cutV
  rw [show HT.sIx (x :: xs).length 0 (some 1) = min 1 (x :: xs).length from HT.sIx_nat (x :: xs).length 0 1, HT.sIx_none]
  rw [show min 1 (x :: xs).length = 1 by
    rw [List.length_cons]
    omega]
  show (List.take ((x :: xs).length - 1) xs) = xs
  rw [List.length_cons, Nat.add_sub_cancel]
  exact List.take_length
theorem shaped_ints : ∀ ns : List Int, SeqAt.shaped (.list (ns.map PyData.int)) = true
  | [] => rfl
  | _ :: r => shaped_ints r
/-! ### comprehensions whose parts touch nothing -/
def Is (te : TE) (σ : St) (H : Hp) (v : V) : Prop := ∀ Q : VK, Q v H → te σ H Q
def TIs (t : TT) (σ : St) (H : Hp) (b : Bool) : Prop := ∀ Q : Bool → Hp → Prop, Q b H → t σ H Q
theorem take_more {α : Type} : ∀ {l : List α} {i : Nat} {x : α}, l[i]? = some x → l.take (i + 1) = l.take i ++ [x]
  | [], i, x, h => by simp at h
  | a :: l, 0, x, h => by
    have e : a = x := Option.some.inj h
    subst e
    rfl
  | a :: l, i + 1, x, h => by
    have ih := take_more (l := l) (i := i) (x := x) h
    show a :: l.take (i + 1) = a :: l.take i ++ [x]
    rw [ih]
    rfl
theorem fm_len {α β : Type} (l : List α) (p : α → Bool) (f : α → β) : ((l.filter p).map f).length ≤ l.length := by
  rw [List.length_map]
  exact List.length_filter_le _ _
theorem lc_fm {J : It} {G : Hp → Prop} {xs : List V} (w : Walk J xs.length G (YAt xs)) {tt : TT} {te : TE} {vs : List Nat} {σ : St} {H1 : Hp} {D : Addr} {Qd : Hp → Prop} {j : Nat} (p : V → Bool) (f : V → V)
    (hD : H1 D = none) (hG : ∀ H', Same H1 H' → G H') (hl : xs.length ≤ 1000) (hw : ∀ x, wipe ((wipe σ vs).set j (some x)) vs = wipe σ vs)
    (ht : ∀ x ∈ xs, ∀ H', Same H1 H' → TIs tt ((wipe σ vs).set j (some x)) H' (p x)) (he : ∀ x ∈ xs, p x = true → ∀ H', Same H1 H' → Is te ((wipe σ vs).set j (some x)) H' (f x))
    (hd : Qd (upd H1 D (.lst ((xs.filter p).map f)))) :
    ∃ W : Nat → Nat → Hp → Prop, (∃ m, W 0 m (upd H1 D (.lst []))) ∧ ∀ i m H, W i m H →
      (J.stop i H ∧ Qd H) ∨ (J.go i H ∧ ∃ Nx : Hp → Prop, (∀ H', Nx H' → ∃ m', m' < m ∧ W (i + 1) m' H') ∧ ∀ x H', J.yld i H x H' → gName j x (wipe σ vs) H' fun σ2 H2 => wipe σ2 vs = wipe σ vs ∧ tt σ2 H2 fun b H3 =>
        if b = true then te σ2 H3 fun y H4 => ∃ acc, H4 D = some (.lst acc) ∧ acc.length < sizeLine ∧ Nx (upd H4 D (.lst (acc ++ [y]))) else Nx H3) := by
  have sm : ∀ l : List V, Same H1 (upd H1 D (.lst l)) := fun l => same_of_none hD
  refine lc_it w (fun i H => H = upd H1 D (.lst (((xs.take i).filter p).map f))) rfl (fun i H _ e => by rw [e]; exact hG _ (sm _)) (fun i x H H' hi e y => ?_) (fun H e => by rw [e, List.take_length]; exact hd)
  obtain ⟨rfl, hx⟩ := y
  subst e
  have hm : x ∈ xs := List.mem_of_getElem? hx
  have ht' := take_more hx
  refine ⟨hw x, ht x hm _ (sm _) _ ?_⟩
  cases hp : p x with
  | true =>
    refine if_pos rfl |>.mpr ?_
    refine he x hm hp _ (sm _) _ ⟨_, upd_same, small1000 (Nat.le_trans (fm_len _ _ _) (by rw [List.length_take]; omega)), ?_⟩
    rw [upd_upd, ht', List.filter_append, List.map_append, List.filter_cons, if_pos hp]
    rfl
  | false =>
    refine if_neg Bool.false_ne_true |>.mpr ?_
    rw [ht', List.filter_append, List.filter_cons, if_neg (by rw [hp]; exact Bool.false_ne_true)]
    show upd H1 D _ = upd H1 D (.lst ((((xs.take i).filter p) ++ []).map f))
    rw [List.append_nil]
/-- the signs of a text -/
def sgn (c : Nat) : V := .str ⟨#[c]⟩
def sgns (z : Str) : List V := z.cps.toList.map sgn
theorem walk_sgns {z : Str} : Walk (Its z) (sgns z).length (fun _ => True) (YAt (sgns z)) := by
  have hn : (sgns z).length = z.cps.size := by unfold sgns; simp
  rw [hn]
  refine walk_str.mono (fun _ h => h) (fun i H v H' hi _ ⟨e, c, hc, hv⟩ => ⟨e, ?_⟩)
  unfold sgns
  rw [List.getElem?_map, Array.getElem?_toList, hc, hv]
  rfl
theorem View.hide {s : Addr} {N : Nat} {G H : Hp} {p : Addr} {o : HO} (v : View s N (upd G p o) H) (h : G p = none) : View s N G H := by
  obtain ⟨b, c, n, bs, cs, k, l⟩ := v
  have f : ∀ q, upd G p o q = none → G q = none := fun q hq => by
    by_cases e : q = p
    · rw [e]; exact h
    · rw [upd_ne e] at hq; exact hq
  exact ⟨b, c, n, bs, cs, { k with sub := fun q u hq => k.sub q u (same_of_none h q u hq), gs := f _ k.gs, gb := f _ k.gb, gc := f _ k.gc }, l⟩
theorem View.free {s : Addr} {N : Nat} {G H : Hp} {p : Addr} (v : View s N G H) (h : H p = none) : G p = none := v.sub.free h
/-! ### "".join of signs -/
theorem glue_go (l : List Str) : ∀ acc : Array Nat, (l.foldl (fun acc p => acc ++ (Str.ofString "").cps ++ p.cps) acc).toList = acc.toList ++ l.flatMap (·.cps.toList) := by
  induction l with
  | nil => intro acc; simp
  | cons x r ih =>
    intro acc
    rw [List.foldl_cons, ih]
    have e : (Str.ofString "").cps = #[] := by decide +kernel
    rw [e]
    simp
theorem join_flat (l : List Str) : (Txt.join "" l).cps.toList = l.flatMap (·.cps.toList) := by
  show ((l.drop 1).foldl (fun acc p => acc ++ (Str.ofString "").cps ++ p.cps) (l.headD Str.empty).cps).toList = _
  rw [glue_go]
  cases l with
  | nil => rfl
  | cons x r => simp
theorem join_signs (cs : List Nat) : (Txt.join "" (cs.map fun c => (⟨#[c]⟩ : Str))).cps.toList = cs := by
  rw [join_flat]
  induction cs with
  | nil => rfl
  | cons c r ih => simp [ih]
theorem sgn_strs (cs : List Nat) : (cs.map fun c => (⟨#[c]⟩ : Str)).map V.str = cs.map sgn := by
  rw [List.map_map]
  rfl
theorem ones_len (cs : List Nat) : ((cs.map fun c => (⟨#[c]⟩ : Str)).map (·.length)).sum = cs.length := by
  induction cs with
  | nil => rfl
  | cons c r ih =>
    show 1 + ((r.map fun c => (⟨#[c]⟩ : Str)).map (·.length)).sum = r.length + 1
    rw [ih]
    omega
/-! ### numbers, names, texts -/
def spDraw : Sp := fun vs H Q _ => ∃ (s : Addr) (N : Nat) (G : Hp) (m : Int), vs = [.ref s, .int m] ∧ View s N G H ∧ N ≤ 1000000 ∧ 0 < m ∧ m < 2 ^ 100 ∧
  ∀ (d : Int) (H' : Hp), 0 ≤ d → d < m → View s (N + 1) G H' → Q (.int d) H'
def spStart (K : PySem.W.Frag) : Sp := fun vs H Q _ => ∃ (a : Addr) (ns : List Int), vs = [.ref a] ∧ SqL K H a (ns.map V.int) ∧ ns.length ≤ 63 ∧ ∀ (s : Addr) (H' : Hp), View s 0 H H' → Q (.ref s) H'
theorem fmod_in (x : Int) {m : Int} (h : 0 < m) : 0 ≤ x.fmod m ∧ x.fmod m < m := by
  rw [Int.fmod_eq_emod_of_nonneg x (by omega)]
  exact ⟨Int.emod_nonneg _ (by omega), Int.emod_lt_of_pos _ h⟩
theorem ix_mod (cs : List Int) (n : Int) (h : 0 < cs.length) : ∃ (j : Nat) (z : Int), n.fmod (cs.length : Int) = (j : Int) ∧ cs[j]? = some z := by
  obtain ⟨h0, h1⟩ := fmod_in n (m := (cs.length : Int)) (by omega)
  obtain ⟨j, hj⟩ := Int.eq_ofNat_of_zero_le h0
  refine ⟨j, cs[j]'(by omega), hj, List.getElem?_eq_getElem _⟩
theorem nz1 : (2147483647 : Int) ≠ 0 := by decide
theorem nz2 : (2147483629 : Int) ≠ 0 := by decide
theorem ixN_zero {y : Int} {r : List Int} : ixN ((y :: r).map V.int).length 0 = some 0 := by
  unfold ixN
  rw [if_pos (by decide), if_pos (by rw [List.length_map, List.length_cons]; omega)]
  rfl
theorem dec_true {c : Bool} {A B : Prop} (hc : c = true) (h : A) : if c = true then A else B := by rw [if_pos hc]; exact h
theorem dec_false {c : Bool} {A B : Prop} (hc : c = false) (h : B) : if c = true then A else B := by rw [hc, if_neg Bool.false_ne_true]; exact h
theorem pow5 {x : Int} (h0 : 0 ≤ x) (h : x < 2 ^ 60) : (0 : Int) ≤ 5 ∧ (5 : Int) ≤ 1000000 ∧ x.natAbs < 2 ^ 64 := ⟨by decide, by decide, by
  have : x.natAbs < 2 ^ 60 := by omega
  omega⟩
theorem wmul {i j : Int} (h0 : 0 ≤ i) (h : i < 2 ^ 40) (h1 : 0 ≤ j) (h2 : j < 2 ^ 40) : CMulW i j := wide_mul (a := 40) (b := 40) (by omega) (by omega) (by decide) (by decide) (by decide)

theorem cpow1018 : CPow 10 18 := ⟨by decide, by decide, by decide⟩

def lets : List Nat := ("abcdefghijklmnopqrstuvwxyz" : Str).cps.toList
def digs : List Nat := ("0123456789" : Str).cps.toList
def okc (c : Nat) : Bool := decide (c ∈ lets) || decide (c ∈ digs)
def goodL : List Nat → Bool
  | [] => false
  | c :: r => decide (r.length < 6) && decide (c ∈ lets) && (c :: r).all okc
def good (z : Str) : Bool := goodL z.cps.toList

def Asc (z : Str) : Prop := ∀ c ∈ z.cps.toList, c < 128
def spGood : Sp := fun vs H Q _ => ∃ z : Str, vs = [.str z] ∧ z.length ≤ 1000 ∧ Asc z ∧ ∀ H', Same H H' → Q (.bl (good z)) H'
theorem size1000 {n : Nat} (h : n ≤ 1000) : n ≤ sizeLine := Nat.le_of_lt (small1000 h)

theorem okc_cat (y : Nat) : okc y = decide (y ∈ (Str.ofString "abcdefghijklmnopqrstuvwxyz" ++ Str.ofString "0123456789").cps.toList) := by
  have e : (Str.ofString "abcdefghijklmnopqrstuvwxyz" ++ Str.ofString "0123456789").cps.toList = lets ++ digs := by decide +kernel
  rw [e]
  simp [okc, List.mem_append]
theorem shaped_go : ∀ ns : List Str, (∀ w ∈ ns, PyData.strOk w = true) → PyData.canLayAll0 (ns.map PyData.str) = true ∧ PyData.depthAll (ns.map PyData.str) = 0
  | [], _ => ⟨rfl, rfl⟩
  | x :: r, h => by
    obtain ⟨h1, h2⟩ := shaped_go r fun w hw => h w (List.mem_cons_of_mem _ hw)
    refine ⟨?_, ?_⟩
    · show (PyData.canLay0 (.str x) && PyData.canLayAll0 (r.map PyData.str)) = true
      rw [h1, Bool.and_true]
      exact h x List.mem_cons_self
    · show max (PyData.depth (.str x)) (PyData.depthAll (r.map PyData.str)) = 0
      rw [h2]
      rfl
theorem shaped_strs (ns : List Str) (h : ∀ w ∈ ns, PyData.strOk w = true) : SeqAt.shaped (.list (ns.map PyData.str)) = true := by
  obtain ⟨h1, h2⟩ := shaped_go ns h
  unfold SeqAt.shaped
  rw [Bool.and_eq_true]
  refine ⟨h1, decide_eq_true ?_⟩
  show PyData.depthAll (ns.map PyData.str) + 1 ≤ 64
  rw [h2]
  decide
theorem strOk_one {c : Nat} (h : c < 128) : PyData.strOk ⟨#[c]⟩ = true := by
  simp [PyData.strOk]
  omega
theorem bads : ∀ l : List Nat, (∀ c ∈ l, c < 128) → ∃ ws : List Str, (ws.map V.str = ((l.map sgn).filter (fun v => match v with | .str x => !(x.cps.toList.all okc) | _ => false))) ∧ PyData.eqv (.list (ws.map .str)) (.list []) = l.all okc ∧ ∀ w ∈ ws, PyData.strOk w = true
  | [], _ => ⟨[], rfl, rfl, fun _ h => nomatch h⟩
  | c :: r, ha => by
    obtain ⟨ws, h1, h2, h3⟩ := bads r fun x hx => ha x (List.mem_cons_of_mem _ hx)
    by_cases hc : okc c = true
    · refine ⟨ws, ?_, ?_, h3⟩
      · rw [h1, List.map_cons, List.filter_cons]
        simp [sgn, hc]
      · rw [h2, List.all_cons, hc, Bool.true_and]
    · have hc' : okc c = false := by simpa using hc
      refine ⟨⟨#[c]⟩ :: ws, ?_, ?_, fun w hw => ?_⟩
      · rw [List.map_cons, h1, List.map_cons, List.filter_cons]
        simp [sgn, hc']
      · rw [List.all_cons, hc']
        rfl
      · rcases List.mem_cons.mp hw with rfl | hw
        · exact strOk_one (ha c List.mem_cons_self)
        · exact h3 w hw

def signsS : Str := " !\"#$&'()*+,-./0123456789:;<=>?@ABCDEFGHIJKLMNOPQRSTUVWXYZ[\\]^_`" ++ "abcdefghijklmnopqrstuvwxyz{|}~\n"

theorem pick (z : Str) {e : Int} (h0 : 0 ≤ e) (h1 : e < (z.length : Int)) : ∃ c, atI z.cps.toList e = some c ∧ c ∈ z.cps.toList := by
  obtain ⟨j, rfl⟩ := Int.eq_ofNat_of_zero_le h0
  have hl : z.cps.toList.length = z.length := by simp [Str.length]
  have hj : j < z.cps.toList.length := by omega
  exact ⟨_, atI_nat (List.getElem?_eq_getElem hj), List.getElem_mem hj⟩
theorem ixN_nat {n j : Nat} (h : j < n) : ixN n (j : Int) = some j := by
  unfold ixN
  rw [if_pos (by omega), if_pos (by omega), Int.toNat_natCast]
theorem ones_ok {cs : List Nat} (h : ∀ c ∈ cs, c < 128) : ∀ w ∈ cs.map fun c => (⟨#[c]⟩ : Str), PyData.strOk w = true := fun w hw => by
  obtain ⟨c, hc, rfl⟩ := List.mem_map.mp hw
  exact strOk_one (h c hc)
theorem rev_ok {z : Str} (h : z.length ≤ 81) (ha : Asc z) : (revS z).length ≤ 81 ∧ Asc (revS z) := by
  have e : (revS z).cps.toList = z.cps.toList.reverse := by simp [revS]
  refine ⟨?_, fun c hc => ha c (by rw [e] at hc; exact List.mem_reverse.mp hc)⟩
  have e1 : (revS z).cps.toList.length = (revS z).length := by simp [Str.length]
  have e2 : z.cps.toList.length = z.length := by simp [Str.length]
  rw [e, List.length_reverse] at e1
  omega
theorem cat_ok {x y : Str} {n m : Nat} (h : x.length ≤ n) (h2 : y.length ≤ m) (ha : Asc x) (hb : Asc y) : (x ++ y).length ≤ n + m ∧ Asc (x ++ y) := by
  have e : (x ++ y).cps.toList = x.cps.toList ++ y.cps.toList := by
    show (x.cps ++ y.cps).toList = _
    simp
  refine ⟨?_, fun c hc => ?_⟩
  · show (x.cps ++ y.cps).size ≤ _
    rw [Array.size_append]
    have : x.cps.size ≤ n := h
    have : y.cps.size ≤ m := h2
    omega
  · rw [e] at hc
    rcases List.mem_append.mp hc with hc | hc
    · exact ha c hc
    · exact hb c hc
theorem menu_word {wd : Str} {d : Int} (h0 : 0 ≤ d) (h1 : d < 4) (hn : wd.length ≤ 80) (ha : Asc wd) :
    ∃ w2 : Str, atI [V.str (wd ++ Str.ofString "\n"), .str (wd ++ Str.ofString " "), .str (Str.ofString " " ++ wd), .str (Str.ofString "\n" ++ wd)] d = some (.str w2) ∧ w2.length ≤ 81 ∧ Asc w2 := by
  have l1 : (Str.ofString "\n").length ≤ 1 := by decide +kernel
  have l2 : (Str.ofString " ").length ≤ 1 := by decide +kernel
  have a1 : Asc (Str.ofString "\n") := fun c hc => of_decide_eq_true (List.all_eq_true.mp (show (Str.ofString "\n").cps.toList.all (fun c => decide (c < 128)) = true by decide +kernel) c hc)
  have a2 : Asc (Str.ofString " ") := fun c hc => of_decide_eq_true (List.all_eq_true.mp (show (Str.ofString " ").cps.toList.all (fun c => decide (c < 128)) = true by decide +kernel) c hc)
  have : d = 0 ∨ d = 1 ∨ d = 2 ∨ d = 3 := by omega
  rcases this with rfl | rfl | rfl | rfl
  · exact ⟨_, atI_nat (j := 0) rfl, cat_ok hn l1 ha a1⟩
  · exact ⟨_, atI_nat (j := 1) rfl, cat_ok hn l2 ha a2⟩
  · exact ⟨_, atI_nat (j := 2) rfl, (by have := (cat_ok l2 hn a2 ha).1; omega), (cat_ok l2 hn a2 ha).2⟩
  · exact ⟨_, atI_nat (j := 3) rfl, (by have := (cat_ok l1 hn a1 ha).1; omega), (cat_ok l1 hn a1 ha).2⟩

theorem asc_of {z : Str} (h : z.cps.toList.all (fun c => decide (c < 128)) = true) : Asc z := fun c hc => of_decide_eq_true (List.all_eq_true.mp h c hc)
theorem asc_signs : Asc signsS := asc_of (by decide +kernel)
theorem asc_plain : Asc "abcdefghijklmnopqrstuvwxyz0123456789" := asc_of (by decide +kernel)

/-- a def of one parameter, called by place or by name -/
theorem kb_one {K : PySem.W.Frag} {x qual p : Str} {st : Stmt} {f : Addr} {fd : FuncData} (F : Fun K x qual st f fd)
    (h : ∀ (kV doc pm : Value) (an : Option Addr) (cdv ct v : Value), bindArgs (PySem.W.fnOf x qual (defArgs st) (defBody st) (defScope st) .none kV doc pm an cdv ct) ⟨[v], []⟩ = pure [(p, v)] ∧
      bindArgs (PySem.W.fnOf x qual (defArgs st) (defBody st) (defScope st) .none kV doc pm an cdv ct) ⟨[], [(p, v)]⟩ = pure [(p, v)]) :
    KBinds K fd [p] [p] (fun us ws => us ++ ws) (fun vs zs => vs ++ zs) := by
  obtain ⟨oc, od, kV, doc, pm, an, cdv, ct, osl, rfl, lk, hcd⟩ := F.ex
  refine ⟨fun s us ws _ hl => ?_, fun r rz => r.append rz⟩
  have hl : (us ++ ws).length = 1 := hl
  match us, ws, hl with
  | [], [v], _ => exact .of_eq (h kV doc pm an cdv ct v).2
  | [v], [], _ => exact .of_eq (h kV doc pm an cdv ct v).1
  | _ :: _ :: _, _, hl => simp at hl
  | [_], _ :: _, hl => simp at hl
  | [], [], hl => simp at hl
  | [], _ :: _ :: _, hl => simp at hl

/-- a list of signs, one draw a turn -/
theorem lc_signs {te : TE} {vs : List Nat} {σ : St} {j n N : Nat} {Q : VK} {G H : Hp} {s : Addr} {S : List Nat} (v : View s N G H) (hn : n ≤ 1000) (hw : ∀ x, wipe ((wipe σ vs).set j (some x)) vs = wipe σ vs)
    (hte : ∀ (x : V) (i : Nat) (G' H' : Hp) (Q' : VK), i < n → View s (N + i) G' H' → (∀ (c : Nat) (H2 : Hp), c ∈ S → View s (N + i + 1) G' H2 → Q' (sgn c) H2) → te ((wipe σ vs).set j (some x)) H' Q')
    (hq : ∀ (D : Addr) (cs : List Nat) (H' : Hp), G D = none → cs.length = n → (∀ c ∈ cs, c ∈ S) → View s (N + n) (upd G D (.lst (cs.map sgn))) H' → Q (.ref D) H') (D : Addr) (hD : H D = none) :
    ∃ W : Nat → Nat → Hp → Prop, (∃ m, W 0 m (upd H D (.lst []))) ∧ ∀ i m H, W i m H →
      ((Itr 0 n).stop i H ∧ Q (.ref D) H) ∨ ((Itr 0 n).go i H ∧ ∃ Nx : Hp → Prop, (∀ H', Nx H' → ∃ m', m' < m ∧ W (i + 1) m' H') ∧ ∀ x H', (Itr 0 n).yld i H x H' → gName j x (wipe σ vs) H' fun σ2 H2 => wipe σ2 vs = wipe σ vs ∧ tYes σ2 H2 fun b H3 =>
        if b = true then te σ2 H3 fun y H4 => ∃ acc, H4 D = some (.lst acc) ∧ acc.length < sizeLine ∧ Nx (upd H4 D (.lst (acc ++ [y]))) else Nx H3) := by
  refine lc_range (lo := 0) (n := n) (fun i H' => ∃ cs : List Nat, cs.length = i ∧ (∀ c ∈ cs, c ∈ S) ∧ View s (N + i) (upd G D (.lst (cs.map sgn))) H') ⟨[], rfl, (fun _ h => nomatch h), v.new hD⟩ ?_ ?_
  · rintro i H' hi ⟨cs, hl, ha, u⟩
    refine ⟨hw _, ?_⟩
    unfold tYes
    simp only [if_true]
    refine hte _ i _ _ _ hi u fun c H2 hc u2 => ?_
    refine ⟨cs.map sgn, u2.sub _ _ upd_same, small1000 (by rw [List.length_map]; omega), cs ++ [c], by simp [hl], fun x hx => ?_, ?_⟩
    · rcases List.mem_append.mp hx with hx | hx
      · exact ha x hx
      · have : x = c := by simpa using hx
        rw [this]
        exact hc
    · have := u2.put (o := .lst (cs.map sgn ++ [sgn c])) upd_same
      rw [upd_upd] at this
      rw [List.map_append]
      exact this
  · rintro H' ⟨cs, hl, ha, u⟩
    exact hq D cs H' (v.sub.free hD) hl ha u
/-- a def as its callers see it -/
structure Cal (P : Program) (w : World) (K : PySem.W.Frag) (mg : Str → Option Value) (base : Heap) (nm : Str) (CX : CXT) (k : Nat) (ps : List Str) (sp : Sp) where
  f : Addr
  fd : FuncData
  g : mg nm = some (.ref f)
  kp : PySem.W.keepIn K (.ref f) = true
  b : Binds K fd ps []
  G : FnOk P w K mg base CX k f fd ps sp
end L2

namespace L2
open PySem PySem.Spec PyProof.Rows
/-! ### drawn names -/
def C36 : Str := "abcdefghijklmnopqrstuvwxyz0123456789"
theorem c36_ok : ∀ c ∈ C36.cps.toList, okc c = true := fun c hc => List.all_eq_true.mp (show C36.cps.toList.all okc = true by decide +kernel) c hc
theorem c36_len : C36.length = 36 := by decide +kernel
theorem c36_take : C36.cps.toList.take 26 = lets := by decide +kernel
theorem lets_ok : ∀ c ∈ lets, okc c = true := fun c hc => List.all_eq_true.mp (show lets.all okc = true by decide +kernel) c hc
theorem lets_nd : lets.Nodup := by decide +kernel
theorem lets_len : lets.length = 26 := by decide +kernel
theorem okc_lt {c : Nat} (h : okc c = true) : c < 128 := by
  have h1 : ∀ x ∈ lets ++ digs, x < 128 := fun x hx => of_decide_eq_true (List.all_eq_true.mp (show (lets ++ digs).all (fun x => decide (x < 128)) = true by decide +kernel) x hx)
  refine h1 c (List.mem_append.mpr ?_)
  unfold okc at h
  rcases Bool.or_eq_true_iff.mp h with h | h
  · exact .inl (of_decide_eq_true h)
  · exact .inr (of_decide_eq_true h)
/-- the i-th letter -/
def let_ (i : Nat) : Nat := lets.getD i 0
theorem let_mem {i : Nat} (h : i < 26) : let_ i ∈ lets := by
  unfold let_
  rw [List.getD_eq_getElem?_getD, List.getElem?_eq_getElem (by rw [lets_len]; exact h)]
  exact List.getElem_mem _
theorem let_inj {i j : Nat} (hi : i < 26) (hj : j < 26) (e : let_ i = let_ j) : i = j := by
  unfold let_ at e
  rw [List.getD_eq_getElem?_getD, List.getD_eq_getElem?_getD, List.getElem?_eq_getElem (by rw [lets_len]; exact hi), List.getElem?_eq_getElem (by rw [lets_len]; exact hj)] at e
  exact (List.getElem_inj lets_nd).mp e
theorem c36_at {i : Nat} (h : i < 26) : atI C36.cps.toList (i : Int) = some (let_ i) := by
  refine atI_nat ?_
  have e : C36.cps.toList[i]? = (C36.cps.toList.take 26)[i]? := by rw [List.getElem?_take, if_pos h]
  rw [e, c36_take]
  unfold let_
  rw [List.getD_eq_getElem?_getD, List.getElem?_eq_getElem (by rw [lets_len]; exact h)]
  rfl
theorem cat_list (x y : Str) : (x ++ y).cps.toList = x.cps.toList ++ y.cps.toList := by
  show (x.cps ++ y.cps).toList = _
  simp
theorem len_list (x : Str) : x.cps.toList.length = x.length := by simp [Str.length]
theorem str_ext {x y : Str} (h : x.cps.toList = y.cps.toList) : x = y := by
  obtain ⟨a⟩ := x
  obtain ⟨b⟩ := y
  have : a = b := Array.ext' h
  rw [this]
theorem good_of {w : Str} {c : Nat} {r : List Nat} (e : w.cps.toList = c :: r) (hc : c ∈ lets) (hr : r.length < 6) (ha : ∀ x ∈ r, okc x = true) : good w = true := by
  unfold good
  rw [e]
  show (decide (r.length < 6) && decide (c ∈ lets) && (c :: r).all okc) = true
  rw [decide_eq_true hr, decide_eq_true hc, List.all_cons, lets_ok c hc, List.all_eq_true.mpr ha]
  rfl
theorem good_asc {w : Str} (h : good w = true) : Asc w := fun c hc => by
  unfold good at h
  cases e : w.cps.toList with
  | nil => rw [e] at hc; cases hc
  | cons a r =>
    rw [e] at h hc
    have h2 : (decide (r.length < 6) && decide (a ∈ lets) && (a :: r).all okc) = true := h
    have h3 := (Bool.and_eq_true_iff.mp h2).2
    exact okc_lt (List.all_eq_true.mp h3 c hc)
theorem good_len {w : Str} (h : good w = true) : w.length ≤ 6 := by
  unfold good at h
  rw [← len_list]
  cases e : w.cps.toList with
  | nil => exact Nat.zero_le _
  | cons a r =>
    rw [e] at h
    have h2 : (decide (r.length < 6) && decide (a ∈ lets) && (a :: r).all okc) = true := h
    have h3 := of_decide_eq_true (Bool.and_eq_true_iff.mp (Bool.and_eq_true_iff.mp h2).1).1
    rw [List.length_cons]
    omega
theorem nodup_map {f : Nat → Str} {n : Nat} (h : ∀ i j, i < j → j < n → f i ≠ f j) : ((List.range n).map f).Nodup := by
  unfold List.Nodup
  rw [List.pairwise_map]
  refine List.Pairwise.imp_of_mem (fun {a b} ha hb hab => ?_) List.pairwise_lt_range
  exact h a b hab (List.mem_range.mp hb)
/-- letter and number -/
def numW (l : Nat) (n : Nat) : Str := (⟨#[l]⟩ : Str) ++ Str.ofString (toString (n : Int))
theorem num_digs : ∀ n, n < 64 → (Str.ofString (toString ((n : Nat) : Int))).cps.toList.all okc = true ∧ (Str.ofString (toString ((n : Nat) : Int))).cps.toList.length < 6 := by
  have : (List.range 64).all (fun n => (Str.ofString (toString ((n : Nat) : Int))).cps.toList.all okc && decide ((Str.ofString (toString ((n : Nat) : Int))).cps.toList.length < 6)) = true := by decide +kernel
  intro n hn
  have q := List.all_eq_true.mp this n (List.mem_range.mpr hn)
  obtain ⟨h1, h2⟩ := Bool.and_eq_true_iff.mp q
  exact ⟨h1, of_decide_eq_true h2⟩
theorem num_inj : ∀ n m, n < 64 → m < 64 → (Str.ofString (toString ((n : Nat) : Int))).cps.toList = (Str.ofString (toString ((m : Nat) : Int))).cps.toList → n = m := by
  have : (List.range 64).all (fun n => (List.range 64).all (fun m => decide (n = m) || !((Str.ofString (toString ((n : Nat) : Int))).cps.toList == (Str.ofString (toString ((m : Nat) : Int))).cps.toList))) = true := by decide +kernel
  intro n m hn hm e
  have q := List.all_eq_true.mp (List.all_eq_true.mp this n (List.mem_range.mpr hn)) m (List.mem_range.mpr hm)
  rw [e] at q
  simpa using q
theorem numW_list (l n : Nat) : (numW l n).cps.toList = l :: (Str.ofString (toString ((n : Nat) : Int))).cps.toList := by
  unfold numW
  rw [cat_list]
  rfl
theorem numW_good {l n : Nat} (hl : l ∈ lets) (hn : n < 64) : good (numW l n) = true := by
  obtain ⟨h1, h2⟩ := num_digs n hn
  exact good_of (numW_list l n) hl h2 fun x hx => List.all_eq_true.mp h1 x hx
theorem numW_inj {l n m : Nat} (hn : n < 64) (hm : m < 64) (e : numW l n = numW l m) : n = m := by
  have q : (numW l n).cps.toList = (numW l m).cps.toList := by rw [e]
  rw [numW_list, numW_list] at q
  exact num_inj n m hn hm (List.cons.inj q).2
theorem strides {d : Int} (h0 : 0 ≤ d) (h1 : d < 6) : ∃ s : Nat, (s = 1 ∨ s = 3 ∨ s = 5 ∨ s = 7 ∨ s = 9 ∨ s = 11) ∧ atI [V.int 1, V.int 3, V.int 5, V.int 7, V.int 9, V.int 11] d = some (.int (s : Int)) := by
  have : d = 0 ∨ d = 1 ∨ d = 2 ∨ d = 3 ∨ d = 4 ∨ d = 5 := by omega
  rcases this with rfl | rfl | rfl | rfl | rfl | rfl
  · exact ⟨1, .inl rfl, atI_nat (j := 0) rfl⟩
  · exact ⟨3, .inr (.inl rfl), atI_nat (j := 1) rfl⟩
  · exact ⟨5, .inr (.inr (.inl rfl)), atI_nat (j := 2) rfl⟩
  · exact ⟨7, .inr (.inr (.inr (.inl rfl))), atI_nat (j := 3) rfl⟩
  · exact ⟨9, .inr (.inr (.inr (.inr (.inl rfl)))), atI_nat (j := 4) rfl⟩
  · exact ⟨11, .inr (.inr (.inr (.inr (.inr rfl)))), atI_nat (j := 5) rfl⟩
/-- _law_names: c good names, all different -/
def spNames : Sp := fun vs H Q _ => ∃ (s : Addr) (N : Nat) (G : Hp) (c : Nat), vs = [.ref s, .int (c : Int)] ∧ View s N G H ∧ N ≤ 900000 ∧ c ≤ 7 ∧
  ∀ (ws : List Str) (p : Addr) (H' : Hp), ws.length = c → ws.Nodup → (∀ w ∈ ws, good w = true) → G p = none → View s (N + 20) (upd G p (.lst (ws.map V.str))) H' → Q (.ref p) H'
/-- the written names -/
def fixedW : List Str := ["rows", "leaf", "x", "x1", "x10", "none"]
theorem fixed_ok (c : Nat) : (fixedW.take c).Nodup ∧ ∀ w ∈ fixedW.take c, good w = true := by
  have h1 : fixedW.Nodup := by decide +kernel
  have h2 : fixedW.all good = true := by decide +kernel
  exact ⟨h1.sublist (List.take_sublist _ _), fun w hw => List.all_eq_true.mp h2 w (List.mem_of_mem_take hw)⟩
/-- one word's beginnings -/
def preW (z : Str) (k : Nat) : Str := ⟨(z.cps.toList.take (k + 1)).toArray⟩
theorem preW_list (z : Str) (k : Nat) : (preW z k).cps.toList = z.cps.toList.take (k + 1) := by simp [preW]
/-- the k-th word of the common plan -/
def comW (l : Nat) (st : List Nat) (pl o sr k : Nat) : Str :=
  let g := let_ ((o + sr * k) % 26)
  let b := if 1 < pl ∧ k % 2 = 1 then [] else st
  if pl % 2 = 0 then ⟨(l :: (b ++ [g])).toArray⟩ else ⟨(g :: b).toArray⟩
theorem mod_inj {o sr i j : Nat} (hs : sr = 1 ∨ sr = 3 ∨ sr = 5 ∨ sr = 7 ∨ sr = 9 ∨ sr = 11) (hi : i < 7) (hj : j < 7) (e : (o + sr * i) % 26 = (o + sr * j) % 26) : i = j := by
  rcases hs with rfl | rfl | rfl | rfl | rfl | rfl <;> omega
theorem comW_good {l : Nat} {st : List Nat} {pl o sr k : Nat} (hl : l ∈ lets) (h4 : st.length ≤ 4) (ho : ∀ x ∈ st, okc x = true) : good (comW l st pl o sr k) = true := by
  have hg := let_mem (Nat.mod_lt (o + sr * k) (by decide : 26 > 0))
  unfold comW
  have hb : ∀ x ∈ (if 1 < pl ∧ k % 2 = 1 then [] else st), okc x = true := fun x hx => by
    split at hx
    · cases hx
    · exact ho x hx
  have hbl : (if 1 < pl ∧ k % 2 = 1 then [] else st).length ≤ 4 := by
    split
    · exact Nat.zero_le _
    · exact h4
  dsimp only
  split
  · refine good_of (c := l) rfl hl (by rw [List.length_append, List.length_singleton]; omega) fun x hx => ?_
    rcases List.mem_append.mp hx with hx | hx
    · exact hb x hx
    · rw [show x = _ by simpa using hx]
      exact lets_ok _ hg
  · exact good_of rfl hg (by omega) hb
theorem comW_inj {l : Nat} {st : List Nat} {pl o sr i j : Nat} (hs : sr = 1 ∨ sr = 3 ∨ sr = 5 ∨ sr = 7 ∨ sr = 9 ∨ sr = 11) (hi : i < 7) (hj : j < 7) (e : comW l st pl o sr i = comW l st pl o sr j) : i = j := by
  have el : (comW l st pl o sr i).cps.toList = (comW l st pl o sr j).cps.toList := by rw [e]
  have key : let_ ((o + sr * i) % 26) = let_ ((o + sr * j) % 26) := by
    unfold comW at el
    dsimp only at el
    split at el
    · have h := congrArg List.getLast? el
      rw [← List.cons_append, ← List.cons_append, List.getLast?_concat, List.getLast?_concat] at h
      exact Option.some.inj h
    · have h := congrArg List.head? el
      simpa using h
  exact mod_inj hs hi hj (let_inj (Nat.mod_lt _ (by decide)) (Nat.mod_lt _ (by decide)) key)
end L2

namespace L2
open PySem PySem.Spec PyProof.Rows
/-- an if, its test told at once -/
theorem cond_if {tc : TT} {t u : TS} {D : Ends} {σ : St} {H : Hp} {C : Prop} [Decidable C] (hc : ∀ K : Bool → Hp → Prop, K (decide C) H → tc σ H K) (ht : C → t D σ H) (hu : ¬ C → u D σ H) : tIfS tc t u D σ H := by
  refine hc _ ?_
  by_cases h : C
  · rw [decide_eq_true h, if_pos rfl]; exact ht h
  · rw [decide_eq_false h, if_neg Bool.false_ne_true]; exact hu h
theorem kdec {K : Bool → Hp → Prop} {H : Hp} {b : Bool} {C : Prop} [Decidable C] (k : K (decide C) H) (h : b = true ↔ C) : K b H := by
  have : b = decide C := by
    by_cases c : C
    · rw [decide_eq_true c]; exact h.mpr c
    · rw [decide_eq_false c]
      cases e : b with
      | false => rfl
      | true => exact absurd (h.mp e) c
  rw [this]
  exact k
theorem dec_vint {i j : Int} : decide (V.int i = V.int j) = true ↔ i = j := by
  rw [decide_eq_true_iff]
  exact ⟨fun h => V.int.inj h, fun h => by rw [h]⟩
theorem cutV_to (xs : List V) (c : Nat) : cutV xs none (some (c : Int)) = xs.take c := by
  unfold cutV
  rw [HT.sIx_none, HT.sIx_nat, List.drop_zero, Nat.sub_zero]
  by_cases h : c ≤ xs.length
  · rw [Nat.min_eq_left h]
  · rw [Nat.min_eq_right (by omega), List.take_of_length_le (Nat.le_refl _), List.take_of_length_le (by omega)]
theorem cutS_to (z : Str) (c : Nat) : (cutS z none (some (c : Int))).cps.toList = z.cps.toList.take c := by
  unfold cutS
  rw [HT.sIx_none, HT.sIx_nat, Nat.sub_zero]
  simp only [List.drop_zero]
  by_cases h : c ≤ z.length
  · rw [Nat.min_eq_left h]
  · rw [Nat.min_eq_right (by omega), List.take_of_length_le (by rw [len_list]; exact Nat.le_refl _), List.take_of_length_le (by rw [len_list]; omega)]
theorem range_more (n : Nat) (f : Nat → Str) : ((List.range (n + 1)).map f).map V.str = ((List.range n).map f).map V.str ++ [V.str (f n)] := by
  rw [List.range_succ]
  simp
theorem lc_signsD {te : TE} {vs : List Nat} {σ : St} {j n N : Nat} {Qd : Hp → Prop} {G H : Hp} {s : Addr} {S : List Nat} {D : Addr} (v : View s N G H) (hn : n ≤ 1000) (hw : ∀ x, wipe ((wipe σ vs).set j (some x)) vs = wipe σ vs)
    (hte : ∀ (x : V) (i : Nat) (G' H' : Hp) (Q' : VK), i < n → View s (N + i) G' H' → (∀ (c : Nat) (H2 : Hp), c ∈ S → View s (N + i + 1) G' H2 → Q' (sgn c) H2) → te ((wipe σ vs).set j (some x)) H' Q')
    (hq : ∀ (cs : List Nat) (H' : Hp), G D = none → cs.length = n → (∀ c ∈ cs, c ∈ S) → View s (N + n) (upd G D (.lst (cs.map sgn))) H' → Qd H') (hD : H D = none) :
    ∃ W : Nat → Nat → Hp → Prop, (∃ m, W 0 m (upd H D (.lst []))) ∧ ∀ i m H, W i m H →
      ((Itr 0 n).stop i H ∧ Qd H) ∨ ((Itr 0 n).go i H ∧ ∃ Nx : Hp → Prop, (∀ H', Nx H' → ∃ m', m' < m ∧ W (i + 1) m' H') ∧ ∀ x H', (Itr 0 n).yld i H x H' → gName j x (wipe σ vs) H' fun σ2 H2 => wipe σ2 vs = wipe σ vs ∧ tYes σ2 H2 fun b H3 =>
        if b = true then te σ2 H3 fun y H4 => ∃ acc, H4 D = some (.lst acc) ∧ acc.length < sizeLine ∧ Nx (upd H4 D (.lst (acc ++ [y]))) else Nx H3) :=
  lc_signs (Q := fun v H' => v = .ref D → Qd H') v hn hw hte (fun D' cs H' a b c d e => by cases e; exact hq cs H' a b c d) D hD |> fun ⟨W, a, b⟩ => ⟨W, a, fun i m H h => (b i m H h).elim (fun x => .inl ⟨x.1, x.2 rfl⟩) .inr⟩
/-- a list of words over range(n), no draw -/
theorem lc_words {te : TE} {vs : List Nat} {σ : St} {j n N : Nat} {Qd : Hp → Prop} {G H : Hp} {s : Addr} {D : Addr} (f : Nat → Str) (v : View s N G H) (hn : n ≤ 1000) (hw : ∀ x, wipe ((wipe σ vs).set j (some x)) vs = wipe σ vs)
    (hte : ∀ (i : Nat) (H' : Hp) (Q' : VK), i < n → Q' (.str (f i)) H' → te ((wipe σ vs).set j (some (.int (0 + (i : Int))))) H' Q')
    (hq : ∀ (H' : Hp), G D = none → View s N (upd G D (.lst (((List.range n).map f).map V.str))) H' → Qd H') (hD : H D = none) :
    ∃ W : Nat → Nat → Hp → Prop, (∃ m, W 0 m (upd H D (.lst []))) ∧ ∀ i m H, W i m H →
      ((Itr 0 n).stop i H ∧ Qd H) ∨ ((Itr 0 n).go i H ∧ ∃ Nx : Hp → Prop, (∀ H', Nx H' → ∃ m', m' < m ∧ W (i + 1) m' H') ∧ ∀ x H', (Itr 0 n).yld i H x H' → gName j x (wipe σ vs) H' fun σ2 H2 => wipe σ2 vs = wipe σ vs ∧ tYes σ2 H2 fun b H3 =>
        if b = true then te σ2 H3 fun y H4 => ∃ acc, H4 D = some (.lst acc) ∧ acc.length < sizeLine ∧ Nx (upd H4 D (.lst (acc ++ [y]))) else Nx H3) := by
  refine lc_range (lo := 0) (n := n) (fun i H' => View s N (upd G D (.lst (((List.range i).map f).map V.str))) H') (v.new hD) ?_ ?_
  · rintro i H' hi u
    refine ⟨hw _, ?_⟩
    unfold tYes
    simp only [if_true]
    refine hte i _ _ hi ⟨_, u.sub _ _ upd_same, small1000 (by rw [List.length_map, List.length_map, List.length_range]; omega), ?_⟩
    have := u.put (o := .lst (((List.range i).map f).map V.str ++ [V.str (f i)])) upd_same
    rw [upd_upd] at this
    rw [range_more]
    exact this
  · intro H' u
    exact hq H' (v.sub.free hD) u
theorem preW_good {z : Str} {l : Nat} {cs : List Nat} {k : Nat} (e : z.cps.toList = l :: cs) (hl : l ∈ lets) (hc : cs.length ≤ 5) (ho : ∀ x ∈ cs, okc x = true) : good (preW z k) = true := by
  refine good_of (c := l) (r := cs.take k) (by rw [preW_list, e]; rfl) hl ?_ fun x hx => ho x (List.mem_of_mem_take hx)
  rw [List.length_take]; omega
theorem preW_inj {z : Str} {i j : Nat} (hi : i < z.length) (hj : j < z.length) (e : preW z i = preW z j) : i = j := by
  have h : (preW z i).cps.toList.length = (preW z j).cps.toList.length := by rw [e]
  rw [preW_list, preW_list, List.length_take, List.length_take, len_list] at h
  omega
theorem c36_mod (i : Nat) : atI C36.cps.toList (((i % 26 : Nat)) : Int) = some (let_ (i % 26)) := c36_at (Nat.mod_lt _ (by decide))
theorem one_cat (x : Nat) (y : Str) : ((⟨#[x]⟩ : Str) ++ y).cps.toList = x :: y.cps.toList := by rw [cat_list]; rfl
theorem com_even {l : Nat} {st : Str} {pl o sr k : Nat} (b : Str) (hb : b = if 1 < pl ∧ k % 2 = 1 then Str.ofString "" else st) (h : pl % 2 = 0) : ((⟨#[l]⟩ : Str) ++ b) ++ (⟨#[let_ ((o + sr * k) % 26)]⟩ : Str) = comW l st.cps.toList pl o sr k := by
  refine str_ext ?_
  rw [cat_list, one_cat]
  unfold comW
  rw [if_pos h, hb]
  split
  · rfl
  · rfl
theorem com_odd {l : Nat} {st : Str} {pl o sr k : Nat} (b : Str) (hb : b = if 1 < pl ∧ k % 2 = 1 then Str.ofString "" else st) (h : pl % 2 = 1) : ((⟨#[let_ ((o + sr * k) % 26)]⟩ : Str) ++ b) = comW l st.cps.toList pl o sr k := by
  refine str_ext ?_
  rw [one_cat]
  unfold comW
  rw [if_neg (by omega), hb]
  split
  · rfl
  · rfl
theorem fmod_nn (a b : Nat) : (a : Int).fmod (b : Int) = ((a % b : Nat) : Int) := by
  rw [Int.fmod_eq_emod_of_nonneg _ (by omega)]
  rfl
theorem and_dec {b c : Bool} {P Q : Prop} (h1 : b = true ↔ P) (h2 : c = true ↔ Q) : (b && c) = true ↔ (P ∧ Q) := by
  rw [Bool.and_eq_true, h1, h2]
theorem tyL_ok {K : PySem.W.Frag} {H : Hp} {p : Addr} {xs : List V} (h : SqL K H p xs) : tyV K "list" (.ref p) H := .inl ⟨rfl, _, h⟩
theorem upd_swap {G : Hp} {p r : Addr} {a b c : HO} (h : p ≠ r) : upd (upd (upd G p a) r b) p c = upd (upd G p c) r b := by
  funext x
  unfold upd
  by_cases h1 : x = p
  · subst h1; rw [if_pos rfl, if_neg h, if_pos rfl]
  · rw [if_neg h1, if_neg h1, if_neg h1]
theorem upd_comm2 {G : Hp} {p r : Addr} {a b : HO} (h : p ≠ r) : upd (upd G p a) r b = upd (upd G r b) p a := by
  funext x
  unfold upd
  by_cases h1 : x = p
  · subst h1; rw [if_neg h, if_pos rfl, if_pos rfl]
  · rw [if_neg h1, if_neg h1]
/-- an order: the same items, moved about -/
def spOrder (K : PySem.W.Frag) : Sp := fun vs H Q _ => ∃ (s : Addr) (N : Nat) (G : Hp) (a : Addr) (xs : List V), vs = [.ref s, .ref a] ∧ View s N G H ∧ SqL K G a xs ∧ N ≤ 900000 ∧ xs.length ≤ 60 ∧
  ∀ (ys : List V) (p : Addr) (H' : Hp), ys.Perm xs → G p = none → View s (N + 60) (upd G p (.lst ys)) H' → Q (.ref p) H'
theorem SqL.up {K : PySem.W.Frag} {G H : Hp} {a : Addr} {xs : List V} (h : SqL K G a xs) (e : Same G H) : SqL K H a xs := e.seq h
theorem atI_ex {α : Type} {xs : List α} {i : Int} (h0 : 0 ≤ i) (h1 : i < (xs.length : Int)) : ∃ (k : Nat) (y : α), i = (k : Int) ∧ k < xs.length ∧ seqIndex? i xs.length = some k ∧ xs[k]? = some y := by
  obtain ⟨k, rfl⟩ := Int.eq_ofNat_of_zero_le h0
  have hk : k < xs.length := by omega
  exact ⟨k, xs[k], rfl, hk, (ixN_seq (ixN_nat hk)).1, List.getElem?_eq_getElem hk⟩
theorem erase_perm' {α : Type} (l : List α) (i : Nat) (y : α) (h : l[i]? = some y) : (y :: l.eraseIdx i).Perm l := by
  induction l generalizing i with
  | nil => cases h
  | cons x r ih =>
    cases i with
    | zero =>
      cases Option.some.inj h
      exact .refl _
    | succ i => exact (List.Perm.swap x y _).trans ((ih i h).cons x)
end L2

namespace L2
open PySem PySem.Spec PyProof.Rows
/-- amounts by name, in an order -/
abbrev Am := List (Str × Int)
def amN (am : Am) : List V := am.map fun p => V.str p.1
def amK (am : Am) : List (Key × V) := am.map fun p => (Sum.inr p.1, V.int p.2)
def amS (am : Am) : List Str := am.map (·.1)
theorem amN_S (am : Am) : amN am = (amS am).map V.str := by unfold amN amS; rw [List.map_map]; rfl
theorem valV_am : ∀ {am : Am}, (amS am).Nodup → ∀ {w : Str} {z : Int}, (w, z) ∈ am → valV (amK am) (Sum.inr w : Key) = some (.int z)
  | [], _, _, _, h => nomatch h
  | (u, y) :: r, hn, w, z, h => by
    have hn' : u ∉ amS r ∧ (amS r).Nodup := List.nodup_cons.mp hn
    rcases List.mem_cons.mp h with e | h
    · cases e
      exact valV_pos rfl
    · refine (valV_neg (fun e => ?_)).trans (valV_am hn'.2 h)
      have e : u = w := Sum.inr.inj e
      subst e
      exact hn'.1 (List.mem_map.mpr ⟨_, h, rfl⟩)
theorem valV_am0 {am : Am} {w : Str} (h : w ∉ amS am) : valV (amK am) (Sum.inr w : Key) = none := by
  induction am with
  | nil => rfl
  | cons p r ih =>
    have h1 : ¬ w = p.1 := fun e => h (by rw [e]; exact List.mem_cons_self)
    have h2 : w ∉ amS r := fun e => h (List.mem_cons_of_mem _ e)
    exact (valV_neg (fun e => h1 (Sum.inr.inj e).symm)).trans (ih h2)
/-- what the law's text holds for the class of wishes -/
structure Wsh (K : PySem.W.Frag) (mg : Str → Option Value) where
  C : Addr
  g : mg "Wishes" = some (.ref C)
  cl : Cls K C
  n1 : NoAttr K C "_outcomes"
  n2 : NoAttr K C "_amounts"
  me : PySem.W.kitOne K (.ref C) (.ref C) = some true
  kc : PySem.W.findIn K (.ref C) "__class__" = some (some (.builtin "object.__class__"))
  kg : PySem.W.specialIn K (.builtin "object.__class__") "__get__" = some (some (.builtin "getset_descriptor.__get__"))
  kt : PySem.W.takesIn K (.builtin "object.__class__") = some true
  ko : PySem.W.mroIn K C (.type "object") = some true
theorem hu100 {A : Around} {k : Nat} (hr : Room k A) : A.units + 100 < cLine := by have := hr.un; omega
/-- no other attribute -/
def OnlyTwo (fs : List (Str × V)) : Prop := ∀ f : Str, f ≠ "_outcomes" → f ≠ "_amounts" → fs.lookup f = none
/-- wishes made, at x -/
def WAt (C : Addr) (H : Hp) (x : Addr) (am : Am) : Prop := ∃ (dx : Addr) (fs : List (Str × V)) (t d : Addr), H x = some (.ins C dx fs) ∧ fs.lookup ("_outcomes" : Str) = some (.ref t) ∧ fs.lookup ("_amounts" : Str) = some (.ref d) ∧
  H t = some (.tup (amN am)) ∧ H d = some (.dK (amK am)) ∧ OnlyTwo fs
theorem WAt.up {C : Addr} {G H : Hp} {x : Addr} {am : Am} (h : WAt C G x am) (e : Same G H) : WAt C H x am := by
  obtain ⟨dx, fs, t, d, a1, a2, a3, a4, a5, a6⟩ := h
  exact ⟨dx, fs, t, d, e _ _ a1, a2, a3, e _ _ a4, e _ _ a5, a6⟩
/-- a well made list of amounts -/
structure AmOk (am : Am) : Prop where
  nd : (amS am).Nodup
  gd : ∀ w ∈ amS am, good w = true
  n1 : am.length ≤ 8
theorem DGet.amI {H : Hp} {d : Addr} {am : Am} {w : Str} {z : Int} (hd : H d = some (.dK (amK am))) (hn : (amS am).Nodup) (h : (w, z) ∈ am) : DGet H d (.str w) (some (.int z)) :=
  .inl ⟨amK am, .inr w, .inl hd, rfl, (valV_am hn h).symm⟩
/-- a method that looks and makes one new object -/
def spNew (C : Addr) (ok : Am → List V → Prop) (o : Am → List V → HO) : Sp := fun vs H Q _ => ∃ (x : Addr) (am : Am) (r : List V), vs = .ref x :: r ∧ AmOk am ∧ WAt C H x am ∧ ok am r ∧ ∀ (p : Addr) (H' : Hp), Same H H' → H p = none → H' p = some (o am r) → Q (.ref p) H'
theorem pe_fldK {X : Cx} {K : PySem.W.Frag} {e : Expr} {f : Str} {pos : Pos} {ta : TE} (hk : X.K = K) (he : PE X e ta) (hb : attributeBase e f X.env (eval e X.env) = eval e X.env) : PE X (.Attribute e f pos) (tFld K ta f) := by
  subst hk
  exact pe_fld he hb
theorem lc_am {α : Type} {J : It} {G : Hp → Prop} {as : List α} {g : α → V} (w : Walk J (as.map g).length G (YAt (as.map g))) {tt : TT} {te : TE} {vs : List Nat} {σ : St} {H1 : Hp} {D : Addr} {Qd : Hp → Prop} {j : Nat} (p : α → Bool) (f : α → V)
    (hD : H1 D = none) (hG : ∀ H', Same H1 H' → G H') (hl : as.length ≤ 1000) (hw : ∀ x, wipe ((wipe σ vs).set j (some x)) vs = wipe σ vs)
    (ht : ∀ a ∈ as, ∀ H', Same H1 H' → TIs tt ((wipe σ vs).set j (some (g a))) H' (p a)) (he : ∀ a ∈ as, p a = true → ∀ H', Same H1 H' → Is te ((wipe σ vs).set j (some (g a))) H' (f a))
    (hd : Qd (upd H1 D (.lst ((as.filter p).map f)))) :
    ∃ W : Nat → Nat → Hp → Prop, (∃ m, W 0 m (upd H1 D (.lst []))) ∧ ∀ i m H, W i m H →
      (J.stop i H ∧ Qd H) ∨ (J.go i H ∧ ∃ Nx : Hp → Prop, (∀ H', Nx H' → ∃ m', m' < m ∧ W (i + 1) m' H') ∧ ∀ x H', J.yld i H x H' → gName j x (wipe σ vs) H' fun σ2 H2 => wipe σ2 vs = wipe σ vs ∧ tt σ2 H2 fun b H3 =>
        if b = true then te σ2 H3 fun y H4 => ∃ acc, H4 D = some (.lst acc) ∧ acc.length < sizeLine ∧ Nx (upd H4 D (.lst (acc ++ [y]))) else Nx H3) := by
  have sm : ∀ l : List V, Same H1 (upd H1 D (.lst l)) := fun l => same_of_none hD
  have ln : (as.map g).length = as.length := List.length_map _
  refine lc_it w (fun i H => H = upd H1 D (.lst (((as.take i).filter p).map f))) rfl (fun i H _ e => by rw [e]; exact hG _ (sm _)) (fun i x H H' hi e y => ?_) (fun H e => by rw [e, ln, List.take_length]; exact hd)
  obtain ⟨rfl, hx⟩ := y
  subst e
  rw [List.getElem?_map] at hx
  obtain ⟨a, ha, rfl⟩ := Option.map_eq_some_iff.mp hx
  have hm : a ∈ as := List.mem_of_getElem? ha
  have ht' := take_more ha
  refine ⟨hw _, ht a hm _ (sm _) _ ?_⟩
  cases hp : p a with
  | true =>
    refine if_pos rfl |>.mpr ?_
    refine he a hm hp _ (sm _) _ ⟨_, upd_same, small1000 (Nat.le_trans (fm_len _ _ _) (by rw [List.length_take]; omega)), ?_⟩
    rw [upd_upd, ht', List.filter_append, List.map_append, List.filter_cons, if_pos hp]
    rfl
  | false =>
    refine if_neg Bool.false_ne_true |>.mpr ?_
    rw [ht', List.filter_append, List.filter_cons, if_neg (by rw [hp]; exact Bool.false_ne_true)]
    show upd H1 D _ = upd H1 D (.lst ((((as.take i).filter p) ++ []).map f))
    rw [List.append_nil]
/-- all that is new is seen -/
theorem View.grow {s : Addr} {N : Nat} {G H H' : Hp} (v : View s N G H) (e : Same H H') : ∃ G' : Hp, View s N G' H' ∧ Same G G' ∧ (∀ b o, H b = none → H' b = some o → G' b = some o) ∧ ∀ b, H' b = none → G' b = none := by
  obtain ⟨b, c, i, bs, cs, k, l⟩ := v
  refine ⟨fun q => match H q with | none => H' q | some _ => G q, ⟨b, c, i, bs, cs, { k.ext e with sub := fun q u hq => ?_, gs := ?_, gb := ?_, gc := ?_ }, l⟩, fun q u hq => ?_, fun q u h1 h2 => ?_, fun q h => ?_⟩
  · cases h : H q with
    | none => simp only [h] at hq; exact hq
    | some _ => simp only [h] at hq; exact e _ _ (k.sub _ _ hq)
  · simp only [k.hs]; exact k.gs
  · simp only [k.hb]; exact k.gb
  · simp only [k.hc]; exact k.gc
  · simp only [k.sub _ _ hq]; exact hq
  · simp only [h1]; exact h2
  · have : H q = none := e.free h
    simp only [this]; exact h
/-- wishes made, all their parts new -/
def WNew (C : Addr) (H H' : Hp) (x : Addr) (am : Am) : Prop := ∃ (dx : Addr) (fs : List (Str × V)) (t d : Addr), (H x = none ∧ H t = none ∧ H d = none) ∧ H' x = some (.ins C dx fs) ∧ fs.lookup ("_outcomes" : Str) = some (.ref t) ∧ fs.lookup ("_amounts" : Str) = some (.ref d) ∧
  H' t = some (.tup (amN am)) ∧ H' d = some (.dK (amK am)) ∧ OnlyTwo fs
theorem WNew.at {C : Addr} {G' H H' : Hp} {x : Addr} {am : Am} (h : WNew C H H' x am) (g : ∀ b o, H b = none → H' b = some o → G' b = some o) : WAt C G' x am := by
  obtain ⟨dx, fs, t, d, ⟨n1, n2, n3⟩, a1, a2, a3, a4, a5, a6⟩ := h
  exact ⟨dx, fs, t, d, g _ _ n1 a1, a2, a3, g _ _ n2 a4, g _ _ n3 a5, a6⟩
/-- sorted by name -/
def srt (am : Am) : Prop := sortedS (amS am) = true
/-- Wishes.__init__, of amounts that are right -/
def spInit (C : Addr) : Sp := fun vs H Q _ => ∃ (x g dx : Addr) (am0 : Am), vs = [.ref x, .ref g] ∧ H x = some (.ins C dx []) ∧ H g = some (.dK (amK am0)) ∧ AmOk am0 ∧ 1 ≤ am0.length ∧ am0.length ≤ 6 ∧
  ∀ (am : Am) (H' : Hp) (dx' : Addr) (fs : List (Str × V)) (t d : Addr), am.Perm am0 → srt am → AmOk am → (∀ b o, H b = some o → b ≠ x → H' b = some o) → H t = none → H d = none → H' x = some (.ins C dx' fs) → fs.lookup ("_outcomes" : Str) = some (.ref t) → fs.lookup ("_amounts" : Str) = some (.ref d) →
    H' t = some (.tup (amN am)) → H' d = some (.dK (amK am)) → OnlyTwo fs → Q .non H'
/-- Wishes.__eq__ -/
def spEq (K : PySem.W.Frag) (C : Addr) : Sp := fun vs H Q _ => ∃ (x : Addr) (a : Am) (o : V) (r : Bool), vs = [.ref x, o] ∧ WAt C H x a ∧ AmOk a ∧
  ((∃ (y : Addr) (b : Am), o = .ref y ∧ WAt C H y b ∧ AmOk b ∧ r = decide (a.Perm b)) ∨ ((∃ t, TyX K H o t ∧ PySem.W.kitOne K t (.ref C) = some false) ∧ r = false)) ∧ Q (.bl r) H
def spOpp (C : Addr) : Sp := fun vs H Q _ => ∃ (x : Addr) (am : Am), vs = [.ref x] ∧ AmOk am ∧ 1 ≤ am.length ∧ am.length ≤ 6 ∧ WAt C H x am ∧
  ∀ (y : Addr) (am2 : Am) (H' : Hp), am2.Perm (am.map fun p => (p.1, -p.2)) → srt am2 → AmOk am2 → Same H H' → WNew C H H' y am2 → Q (.ref y) H'
def spCheck : Sp := fun vs H Q _ => ∃ c : Int, vs = [.int c] ∧ 1 ≤ c ∧ c ≤ 6 ∧ Q .non H
def spIsInt : Sp := fun vs H Q _ => ∃ c : Int, vs = [.int c] ∧ Q (.bl true) H
/-- what a permutation of the names brings -/
theorem am_perm {am0 : Am} {ys : List Str} (hn : (amS am0).Nodup) (h : ys.Perm (amS am0)) : ∃ am : Am, am.Perm am0 ∧ amS am = ys := by
  induction ys generalizing am0 with
  | nil =>
    have : amS am0 = [] := List.nil_perm.mp h
    have : am0 = [] := List.map_eq_nil_iff.mp this
    exact ⟨[], by rw [this], rfl⟩
  | cons y r ih =>
    have hy : y ∈ amS am0 := h.mem_iff.mp List.mem_cons_self
    obtain ⟨p, hp, rfl⟩ := List.mem_map.mp hy
    obtain ⟨l1, l2, rfl⟩ := List.append_of_mem hp
    have e : amS (l1 ++ p :: l2) = amS l1 ++ p.1 :: amS l2 := by unfold amS; rw [List.map_append]; rfl
    rw [e] at h hn
    have h2 : r.Perm (amS (l1 ++ l2)) := by
      have : amS (l1 ++ l2) = amS l1 ++ amS l2 := by unfold amS; rw [List.map_append]
      rw [this]
      exact (h.trans List.perm_middle).cons_inv
    have hn2 : (amS (l1 ++ l2)).Nodup := by
      have : amS (l1 ++ l2) = amS l1 ++ amS l2 := by unfold amS; rw [List.map_append]
      rw [this]
      exact ((List.perm_middle.nodup_iff).mp hn |> List.nodup_cons.mp).2
    obtain ⟨am, ha, hs⟩ := ih hn2 h2
    exact ⟨p :: am, (ha.cons p).trans List.perm_middle.symm, by show p.1 :: amS am = _; rw [hs]⟩
theorem AmOk.perm {a b : Am} (h : a.Perm b) (k : AmOk b) : AmOk a :=
  ⟨((h.map Prod.fst).nodup_iff).mpr k.nd, fun w hw => k.gd w ((h.map Prod.fst).mem_iff.mp hw), by rw [h.length_eq]; exact k.n1⟩
/-- a dict comprehension whose parts touch nothing, all keys different -/
theorem dc_am {α : Type} {J : It} {G : Hp → Prop} {as : List α} {g : α → V} (w : Walk J (as.map g).length G (YAt (as.map g))) {tk tv : TE} {vs : List Nat} {σ : St} {H1 : Hp} {D : Addr} {Qd : Hp → Prop} {j : Nat} (kf : α → Key) (vf : α → V)
    (hD : H1 D = none) (hG : ∀ H', Same H1 H' → G H') (hl : as.length ≤ 1000) (hw : ∀ x, wipe ((wipe σ vs).set j (some x)) vs = wipe σ vs) (hn : (as.map kf).Nodup)
    (hk : ∀ a ∈ as, ∀ H', Same H1 H' → Is tk ((wipe σ vs).set j (some (g a))) H' (kV (kf a))) (hv : ∀ a ∈ as, ∀ H', Same H1 H' → Is tv ((wipe σ vs).set j (some (g a))) H' (vf a))
    (hd : Qd (upd H1 D (.dK (as.map fun a => (kf a, vf a))))) :
    ∃ W : Nat → Nat → Hp → Prop, (∃ m, W 0 m (upd H1 D (.dK []))) ∧ ∀ i m H, W i m H →
      (J.stop i H ∧ Qd H) ∨ (J.go i H ∧ ∃ Nx : Hp → Prop, (∀ H', Nx H' → ∃ m', m' < m ∧ W (i + 1) m' H') ∧ ∀ x H', J.yld i H x H' → gName j x (wipe σ vs) H' fun σ2 H2 => wipe σ2 vs = wipe σ vs ∧ tYes σ2 H2 fun b H3 =>
        if b = true then tk σ2 H3 fun y H4 => tv σ2 H4 fun z H5 => ∃ kvs k, y = kV k ∧ H5 D = some (.dK kvs) ∧ kvs.length < sizeLine ∧ Nx (upd H5 D (.dK (putK kvs k z))) else Nx H3) := by
  have sm : ∀ l, Same H1 (upd H1 D (.dK l)) := fun l => same_of_none hD
  have ln : (as.map g).length = as.length := List.length_map _
  refine ⟨fun i m H => m = (as.map g).length - i ∧ i ≤ (as.map g).length ∧ H = upd H1 D (.dK ((as.take i).map fun a => (kf a, vf a))), ⟨(as.map g).length, by simp, Nat.zero_le _, rfl⟩, ?_⟩
  rintro i m H ⟨rfl, hi, rfl⟩
  by_cases hlt : i < (as.map g).length
  · refine .inr ⟨w.goes i _ hlt (hG _ (sm _)), fun H => H = upd H1 D (.dK ((as.take (i + 1)).map fun a => (kf a, vf a))), fun H' p' => ⟨(as.map g).length - (i + 1), by omega, rfl, hlt, p'⟩, fun x H' y => ?_⟩
    obtain ⟨rfl, hx⟩ := w.yields i _ x H' hlt (hG _ (sm _)) y
    rw [List.getElem?_map] at hx
    obtain ⟨a, ha, rfl⟩ := Option.map_eq_some_iff.mp hx
    have hm : a ∈ as := List.mem_of_getElem? ha
    have ht' := take_more ha
    refine ⟨hw _, ?_⟩
    unfold tYes
    refine if_pos rfl |>.mpr (hk a hm _ (sm _) _ (hv a hm _ (sm _) _ ⟨_, kf a, rfl, upd_same, small1000 (by rw [List.length_map, List.length_take]; omega), ?_⟩))
    have hnew : valV ((as.take i).map fun a => (kf a, vf a)) (kf a) = none := by
      refine Option.eq_none_iff_forall_ne_some.mpr fun v hv => ?_
      have h1 := valV_in hv
      rw [List.map_map] at h1
      have h2 : kf a ∈ (as.take i).map kf := h1
      have h3 : ((as.take (i + 1)).map kf).Nodup := hn.sublist ((List.take_sublist _ _).map kf)
      rw [ht', List.map_append] at h3
      exact (List.nodup_append.mp h3).2.2 _ h2 _ (List.mem_singleton.mpr rfl) rfl
    rw [upd_upd, putK_new _ hnew, ht', List.map_append]
    rfl
  · have e : i = (as.map g).length := by omega
    subst e
    refine .inl ⟨w.stops _ (hG _ (sm _)), ?_⟩
    rw [ln, List.take_length]
    exact hd
theorem amK_nd {am : Am} (h : (amS am).Nodup) : (am.map fun p => (Sum.inr p.1 : Key)).Nodup := by
  have : (am.map fun p => (Sum.inr p.1 : Key)) = (amS am).map Sum.inr := by unfold amS; rw [List.map_map]; rfl
  rw [this]
  exact h.map _ fun _ _ hab e => hab (Sum.inr.inj e)
theorem amK_keys (am : Am) : (amK am).map (·.1) = (amS am).map Sum.inr := by unfold amK amS; rw [List.map_map, List.map_map]; rfl
end L2

namespace L2
open PySem PySem.Spec PyProof.Rows
theorem perm_of_sub {α : Type} : ∀ {a b : List α}, a.Nodup → (∀ x ∈ a, x ∈ b) → b.length ≤ a.length → a.Perm b
  | [], b, _, _, h => by rw [List.eq_nil_of_length_eq_zero (Nat.le_zero.mp h)]
  | x :: r, b, hn, hs, hl => by
    obtain ⟨l1, l2, rfl⟩ := List.append_of_mem (hs x List.mem_cons_self)
    obtain ⟨n1, n2⟩ := List.nodup_cons.mp hn
    have hr : ∀ y ∈ r, y ∈ l1 ++ l2 := fun y hy => by
      have h := hs y (List.mem_cons_of_mem _ hy)
      rcases List.mem_append.mp h with h | h
      · exact List.mem_append_left _ h
      · rcases List.mem_cons.mp h with h | h
        · subst h; exact absurd hy n1
        · exact List.mem_append_right _ h
    have := perm_of_sub n2 hr (by simp at hl ⊢; omega)
    exact (this.cons x).trans List.perm_middle.symm
theorem nodup_am {am : Am} (h : (amS am).Nodup) : am.Nodup := by
  induction am with
  | nil => exact List.nodup_nil
  | cons p r ih =>
    obtain ⟨h1, h2⟩ := List.nodup_cons.mp h
    exact List.nodup_cons.mpr ⟨fun hp => h1 (List.mem_map.mpr ⟨p, hp, rfl⟩), ih h2⟩
theorem valV_mem {am : Am} {w : Str} {v : V} (h : valV (amK am) (Sum.inr w : Key) = some v) : ∃ z, v = .int z ∧ (w, z) ∈ am := by
  induction am with
  | nil => cases h
  | cons p r ih =>
    by_cases e : p.1 = w
    · subst e
      have h2 : valV (amK (p :: r)) (Sum.inr p.1 : Key) = some (.int p.2) := valV_pos rfl
      rw [h] at h2
      exact ⟨p.2, Option.some.inj h2, List.mem_cons_self⟩
    · have h2 : valV (amK (p :: r)) (Sum.inr w : Key) = valV (amK r) (Sum.inr w : Key) := valV_neg (fun z => e (Sum.inr.inj z))
      rw [h2] at h
      obtain ⟨z, e1, e2⟩ := ih h
      exact ⟨z, e1, List.mem_cons_of_mem _ e2⟩
/-- equal under a key -/
def amE (a b : Am) (k : Key) : Bool := decide (valV (amK a) k = valV (amK b) k)
theorem amK_len (a : Am) : (amK a).length = a.length := by unfold amK; rw [List.length_map]
theorem amK_mem {a : Am} {k : Key} {v : V} (h : (k, v) ∈ amK a) : ∃ p ∈ a, k = .inr p.1 ∧ v = .int p.2 := by
  obtain ⟨p, hp, e⟩ := List.mem_map.mp h
  cases e
  exact ⟨p, hp, rfl, rfl⟩
theorem dict_eq {a b : Am} (ha : (amS a).Nodup) (hb : (amS b).Nodup) :
    ((amK a).length == (amK b).length && (amK a).all fun p => (valV (amK b) p.1).isSome && amE a b p.1) = decide (a.Perm b) := by
  by_cases h : a.Perm b
  · rw [decide_eq_true h, Bool.and_eq_true, beq_iff_eq, amK_len, amK_len, List.all_eq_true]
    refine ⟨h.length_eq, fun p hp => ?_⟩
    obtain ⟨q, hq, e1, e2⟩ := amK_mem (k := p.1) (v := p.2) hp
    have h1 := valV_am ha hq
    have h2 := valV_am hb (h.mem_iff.mp hq)
    unfold amE
    rw [e1, h1, h2]
    simp
  · rw [decide_eq_false h]
    cases e : ((amK a).length == (amK b).length && (amK a).all fun p => (valV (amK b) p.1).isSome && amE a b p.1) with
    | false => rfl
    | true =>
      rw [Bool.and_eq_true, beq_iff_eq, amK_len, amK_len, List.all_eq_true] at e
      refine absurd (perm_of_sub (nodup_am ha) (fun p hp => ?_) (by omega)) h
      have h1 := valV_am ha hp
      have h2 := e.2 (Sum.inr p.1, V.int p.2) (List.mem_map.mpr ⟨p, hp, rfl⟩)
      rw [Bool.and_eq_true] at h2
      have h3 := of_decide_eq_true h2.2
      simp only [h1] at h3
      obtain ⟨z, e1, e2⟩ := valV_mem h3.symm
      cases e1
      exact e2
theorem amE_eqv {K : PySem.W.Frag} {H : Hp} {n : Nat} {a b : Am} (ha : (amS a).Nodup) {k : Key} {v y : V} (hm : (k, v) ∈ amK a) (hy : valV (amK b) k = some y) : Eqv K H n v y (amE a b k) := by
  obtain ⟨p, hp, rfl, rfl⟩ := amK_mem hm
  obtain ⟨z, rfl, _⟩ := valV_mem hy
  have h1 := valV_am ha hp
  have : amE a b (Sum.inr p.1) = eqV (.int p.2) (.int z) := by
    unfold amE
    rw [h1, hy]
    show decide (some (V.int p.2) = some (V.int z)) = (p.2 == z)
    by_cases e : p.2 = z
    · subst e; simp
    · simp [e]
  rw [this]
  exact .flat rfl rfl
/-- a method as its callers see it -/
structure CalM (P : Program) (w : World) (K : PySem.W.Frag) (mg : Str → Option Value) (base : Heap) (CX : CXT) (k : Nat) (ps : List Str) (sp : Sp) where
  f : Addr
  fd : FuncData
  b : Binds K fd ps []
  G : FnOk P w K mg base CX k f fd ps sp
theorem amK_neg (am : Am) : amK (am.map fun p => (p.1, -p.2)) = am.map fun p => ((Sum.inr p.1 : Key), V.int (-p.2)) := by unfold amK; rw [List.map_map]; rfl
theorem amS_neg (am : Am) : amS (am.map fun p => (p.1, -p.2)) = amS am := by unfold amS; rw [List.map_map]; rfl
theorem AmOk.neg {am : Am} (h : AmOk am) : AmOk (am.map fun p => (p.1, -p.2)) := ⟨by rw [amS_neg]; exact h.nd, by rw [amS_neg]; exact h.gd, by rw [List.length_map]; exact h.n1⟩
theorem strs_flat (ws : List Str) : (ws.map V.str).all flatV = true := by
  rw [List.all_eq_true]
  intro v hv
  obtain ⟨q, _, rfl⟩ := List.mem_map.mp hv
  rfl
theorem inV_strs (w : Str) (ws : List Str) : inV (.str w) (ws.map V.str) = decide (w ∈ ws) := by
  unfold inV
  induction ws with
  | nil => rfl
  | cons u r ih =>
    rw [List.map_cons, List.any_cons, ih]
    show ((u == w) || decide (w ∈ r)) = decide (w ∈ u :: r)
    by_cases e : u = w
    · subst e; simp
    · have e2 : ¬ w = u := fun z => e z.symm
      simp [e, e2]
theorem op_inF {X : Cx} {K : PySem.W.Frag} (hk : X.K = K) : OpR X (compareOp .In) (rIn K false) := by subst hk; exact op_in_seq
theorem op_niF {X : Cx} {K : PySem.W.Frag} (hk : X.K = K) : OpR X (compareOp .NotIn) (rIn K true) := by subst hk; exact op_notIn_seq
/-- what x[i] finds -/
structure IxF (K : PySem.W.Frag) (C g : Addr) : Prop where
  hs : PySem.W.findIn K (.ref C) "__getitem__" = some (some (.ref g))
  hf : PySem.W.fnIn K g = true
  hfn : PySem.W.isFn K (.ref g) = true
end L2

namespace L2
open PySem PySem.Spec PyProof.Rows
/-- names, as data -/
def tD (ws : List Str) : PyData := .tuple (ws.map .str)
/-- lists of tuples of names, as data -/
def lD (l : List (List Str)) : PyData := .list (l.map tD)
theorem eqvAll_strs : ∀ a b : List Str, PyData.eqvAll (a.map .str) (b.map .str) = decide (a = b)
  | [], [] => by rw [List.map_nil, PyData.eqvAll]; simp
  | [], y :: s => by rw [List.map_nil, List.map_cons, PyData.eqvAll]; simp
  | x :: r, [] => by rw [List.map_nil, List.map_cons, PyData.eqvAll]; simp
  | x :: r, y :: s => by
    rw [List.map_cons, List.map_cons, PyData.eqvAll, eqvAll_strs r s, PyData.eqv]
    by_cases h : x = y <;> by_cases h2 : r = s <;> simp [h, h2]
theorem eqv_tD (a b : List Str) : PyData.eqv (tD a) (tD b) = decide (a = b) := by
  unfold tD
  rw [PyData.eqv, eqvAll_strs]
theorem eqvAll_tD : ∀ a b : List (List Str), PyData.eqvAll (a.map tD) (b.map tD) = decide (a = b)
  | [], [] => by rw [List.map_nil, PyData.eqvAll]; simp
  | [], y :: s => by rw [List.map_nil, List.map_cons, PyData.eqvAll]; simp
  | x :: r, [] => by rw [List.map_nil, List.map_cons, PyData.eqvAll]; simp
  | x :: r, y :: s => by
    rw [List.map_cons, List.map_cons, PyData.eqvAll, eqvAll_tD r s, eqv_tD]
    by_cases h : x = y <;> by_cases h2 : r = s <;> simp [h, h2]
theorem eqv_lD (a b : List (List Str)) : PyData.eqv (lD a) (lD b) = decide (a = b) := by
  unfold lD
  rw [PyData.eqv, eqvAll_tD]
theorem lay_tD {ws : List Str} (h : ∀ w ∈ ws, PyData.strOk w = true) : (tD ws).canLay0 = true ∧ (tD ws).depth = 1 := by
  obtain ⟨h1, h2⟩ := shaped_go ws h
  refine ⟨h1, ?_⟩
  show PyData.depthAll (ws.map PyData.str) + 1 = 1
  rw [h2]
theorem shaped_tD {ws : List Str} (h : ∀ w ∈ ws, PyData.strOk w = true) : SeqAt.shaped (tD ws) = true := by
  obtain ⟨h1, h2⟩ := lay_tD h
  unfold SeqAt.shaped
  rw [h1, h2]
  rfl
theorem lay_lD : ∀ {l : List (List Str)}, (∀ ws ∈ l, ∀ w ∈ ws, PyData.strOk w = true) → PyData.canLayAll0 (l.map tD) = true ∧ PyData.depthAll (l.map tD) ≤ 1
  | [], _ => ⟨rfl, Nat.zero_le _⟩
  | x :: r, h => by
    obtain ⟨h1, h2⟩ := lay_lD fun ws hw => h ws (List.mem_cons_of_mem _ hw)
    obtain ⟨g1, g2⟩ := lay_tD (h x List.mem_cons_self)
    refine ⟨?_, ?_⟩
    · show (PyData.canLay0 (tD x) && PyData.canLayAll0 (r.map tD)) = true
      rw [h1, g1]
      rfl
    · show max (PyData.depth (tD x)) (PyData.depthAll (r.map tD)) ≤ 1
      rw [g2]
      omega
theorem shaped_lD {l : List (List Str)} (h : ∀ ws ∈ l, ∀ w ∈ ws, PyData.strOk w = true) : SeqAt.shaped (lD l) = true := by
  obtain ⟨h1, h2⟩ := lay_lD h
  unfold SeqAt.shaped
  rw [Bool.and_eq_true]
  refine ⟨h1, decide_eq_true ?_⟩
  show PyData.depthAll (l.map tD) + 1 ≤ 64
  omega
theorem good_ok {w : Str} (h : good w = true) : PyData.strOk w = true := by
  have := good_asc h
  simp [PyData.strOk]
  intro c hc
  have := this (w.cps[c]) (by simp)
  omega
theorem dp_tD {K : PySem.W.Frag} {H : Hp} {t : Addr} {ws : List Str} (h : H t = some (.tup (ws.map V.str))) : Dp K H (.ref t) (tD ws) := .tup (SqT.of h) (dpAll_strs ws)
/-- a list of tuples of names in a heap -/
inductive TupsAt (H : Hp) : List V → List (List Str) → Prop
  | nil : TupsAt H [] []
  | cons {t : Addr} {ws : List Str} {vs : List V} {l : List (List Str)} : H t = some (.tup (ws.map V.str)) → TupsAt H vs l → TupsAt H (.ref t :: vs) (ws :: l)
theorem TupsAt.up {G H : Hp} {vs : List V} {l : List (List Str)} (h : TupsAt G vs l) (e : Same G H) : TupsAt H vs l := by
  induction h with
  | nil => exact .nil
  | cons a _ ih => exact .cons (e _ _ a) ih
theorem TupsAt.dp {K : PySem.W.Frag} {H : Hp} {vs : List V} {l : List (List Str)} (h : TupsAt H vs l) : DpAll K H vs (l.map tD) := by
  induction h with
  | nil => exact .nil
  | cons a _ ih => exact .cons (dp_tD a) ih
theorem TupsAt.snoc {H : Hp} {vs : List V} {l : List (List Str)} (h : TupsAt H vs l) {t : Addr} {ws : List Str} (ht : H t = some (.tup (ws.map V.str))) : TupsAt H (vs ++ [.ref t]) (l ++ [ws]) := by
  induction h with
  | nil => exact .cons ht .nil
  | cons a _ ih => exact .cons a ih
theorem dp_lD {K : PySem.W.Frag} {H : Hp} {p : Addr} {vs : List V} {l : List (List Str)} (h : H p = some (.lst vs)) (t : TupsAt H vs l) : Dp K H (.ref p) (lD l) := .lst (SqL.of h) t.dp
/-- the ranks of amounts: the levels down, each with its names in order -/
def lvls (am : Am) : List Int := ((am.map (·.2)).mergeSort (fun a b => decide (b ≤ a))).eraseDups
/-- a list that names the levels, the highest first -/
def IsLv (am : Am) (ns : List Int) : Prop := ns.Pairwise (· > ·) ∧ ∀ z, z ∈ ns ↔ z ∈ am.map (·.2)
def rks (am : Am) (ns : List Int) : List (List Str) := ns.map fun z => amS (am.filter fun p => decide (p.2 = z))
theorem isLv_one {am : Am} {a b : List Int} (ha : IsLv am a) (hb : IsLv am b) : a = b := by
  obtain ⟨a1, a2⟩ := ha
  obtain ⟨b1, b2⟩ := hb
  have h : ∀ z, z ∈ a ↔ z ∈ b := fun z => (a2 z).trans (b2 z).symm
  clear a2 b2
  induction a generalizing b with
  | nil =>
    cases b with
    | nil => rfl
    | cons y s => exact absurd ((h y).mpr List.mem_cons_self) (by simp)
  | cons x r ih =>
    cases b with
    | nil => exact absurd ((h x).mp List.mem_cons_self) (by simp)
    | cons y s =>
      obtain ⟨p1, p2⟩ := List.pairwise_cons.mp a1
      obtain ⟨q1, q2⟩ := List.pairwise_cons.mp b1
      have exy : x = y := by
        have h1 := (h x).mp List.mem_cons_self
        have h2 := (h y).mpr List.mem_cons_self
        rcases List.mem_cons.mp h1 with e | h1
        · exact e
        · rcases List.mem_cons.mp h2 with e | h2
          · exact e.symm
          · have := q1 _ h1
            have := p1 _ h2
            omega
      subst exy
      refine congrArg _ (ih p2 q2 fun z => ⟨fun hz => ?_, fun hz => ?_⟩)
      · rcases List.mem_cons.mp ((h z).mp (List.mem_cons_of_mem _ hz)) with e | e
        · subst e; exact absurd (p1 _ hz) (by omega)
        · exact e
      · rcases List.mem_cons.mp ((h z).mpr (List.mem_cons_of_mem _ hz)) with e | e
        · subst e; exact absurd (q1 _ hz) (by omega)
        · exact e
/-- Wishes.ranks and the law's own: the levels of sorted amounts -/
def rkR (am : Am) (H : Hp) (Q : VK) : Prop := ∀ (p : Addr) (vs : List V) (H' : Hp) (ns : List Int), IsLv am ns → Same H H' → H p = none → (∀ v ∈ vs, ∃ t, v = .ref t ∧ H t = none) → H' p = some (.lst vs) → TupsAt H' vs (rks am ns) → Q (.ref p) H'
def spRanks (C : Addr) : Sp := fun vs H Q _ => ∃ (x : Addr) (am : Am), vs = [.ref x] ∧ WAt C H x am ∧ AmOk am ∧ rkR am H Q
/-- __init__ of an exception that keeps one thing -/
def spXI (C : Addr) (f : Str) : Sp := fun vs H Q _ => ∃ (a : Addr) (v : V), vs = [.ref a, v] ∧ H a = some (exo a C none) ∧ ∀ dx, H dx = none → dx ≠ a → Q .non (upd (upd H dx (exd dx [(f, v)])) a (exo a C (some dx)))
/-- what the law's text holds for such a class -/
structure XCls (K : PySem.W.Frag) (mg : Str → Option Value) (nm f : Str) where
  C : Addr
  g : mg nm = some (.ref C)
  T : OexC K C
  no : PySem.W.findIn K (.ref C) f = some none
  xf : XfC K C
  ex : PySem.W.exmOne K (.ref C) (.ref C) = some true
/-- what its __init__ is, as pmk_oex wishes -/
structure XIni (K : PySem.W.Frag) (C fI : Addr) : Prop where
  iC : PySem.W.findIn K (.ref C) "__init__" = some (some (.ref fI))
  tI : PySem.W.typeIn K (.ref fI) = some (.type "function")
theorem rks_ok {am : Am} (h : AmOk am) (ns : List Int) : ∀ ws ∈ rks am ns, ∀ w ∈ ws, PyData.strOk w = true := fun ws hws w hw => by
  obtain ⟨z, _, rfl⟩ := List.mem_map.mp hws
  obtain ⟨p, hp, rfl⟩ := List.mem_map.mp hw
  exact good_ok (h.gd _ (List.mem_map.mpr ⟨p, (List.mem_filter.mp hp).1, rfl⟩))
theorem dp_am {K : PySem.W.Frag} {H : Hp} {t : Addr} {am : Am} (h : H t = some (.tup (amN am))) : Dp K H (.ref t) (tD (amS am)) := dp_tD (by rw [← amN_S]; exact h)
/-- o.m(e, ..) that may raise, inside a try: the way out may know the slots -/
def tMethT (C : Addr) (m : Str) (sp : Sp) (E : St → XK) (ta : TE) (t : TA) : TE := fun σ H Q => ta σ H fun x H1 => ∃ a dx fs, x = .ref a ∧ H1 a = some (.ins C dx fs) ∧ fs.lookup m = none ∧ t σ H1 fun vs H2 => sp (x :: vs) H2 Q (E σ)
theorem pe_methT {X : Cx} {CX : CXT} {k : Nat} {f C : Addr} {fd : FuncData} {ps : List Str} {sp : Sp} {E : St → XK} {m : Str} {o e : Expr} {es : List Expr} {ta : TE} {t : TA} {apos pos : Pos} {pl : Sem Bool} (he : PE X o ta) (c : Cls X.K C) (hm : Meth X.K C m f)
    (F : FnOk X.prog X.w X.K X.mg X.base CX k f fd ps sp) (hr : Room k X.A) (hb : Binds X.K fd ps []) (hx : ∀ σ, PassesAt CX X σ (E σ)) (ha : PA X (e :: es) t)
    (hst : starEach (e :: es) X.env = (false, eval e X.env) :: starEach es X.env := by rfl) (hpl : (backTo pos (starEach es X.env)).any (·.1) = false := by rfl)
    (ht : eval (.Call (.Attribute o m apos) (e :: es) [] pos) X.env = (do
      let ov ← eval o X.env
      standAt apos.atName
      let (f, first) ← holding [ov] (getMethod ov m pl)
      callWith pos f first (backTo pos (starEach (e :: es) X.env)) (backToKw pos (keywordEach [] X.env))) := by rfl) :
    PE X (.Call (.Attribute o m apos) (e :: es) [] pos) (tMethT C m sp E ta t) := by
  refine ⟨fun pins s σ H Q I h => PySem.W.methodCall_KW (pl := pl) (thn (he.run pins s σ H _ I h) fun u s1 hh => ?_) ht⟩
  obtain ⟨x, H1, I1, rx, a, dx, fs, rfl, ea, l, q⟩ := hh
  obtain rfl : u = Value.ref a := rx
  refine getmeth_ok I1 ea c hm l (PySem.W.callWith_K (first := [.ref a]) (h₀ := X.base) I.ok.mod.kin hm.kp ?_ hst hpl)
  refine thn (ha.run pos pins s1 σ H1 _ I1 q) fun us s2 hh => ?_
  obtain ⟨vs, H2, I2, r, q2⟩ := hh
  exact ⟨I2.kIn, run_fnS (E := E) (us := .ref a :: us) (vs := .ref a :: vs) F hr hb (hx σ) I2 (.cons rfl r) q2⟩
end L2

namespace L2
open PySem PySem.Spec PyProof.Rows
/-! ### sorted names are told by what they are -/
def LeS (x y : Str) : Prop := ltCps y.cps.toList x.cps.toList = false
theorem leS_iff {x y : Str} : LeS x y ↔ x.cps.toList ≤ y.cps.toList := by
  unfold LeS
  rw [ltCps_eq, decide_eq_false_iff_not, List.not_lt]
theorem leS_trans {x y z : Str} (a : LeS x y) (b : LeS y z) : LeS x z := leS_iff.mpr (List.le_trans (leS_iff.mp a) (leS_iff.mp b))
theorem leS_anti {x y : Str} (a : LeS x y) (b : LeS y x) : x = y := str_ext (List.le_antisymm (leS_iff.mp a) (leS_iff.mp b))
theorem rising_pw : ∀ {l : List Str} {p : Str}, risingS p l = true → (p :: l).Pairwise LeS
  | [], p, _ => List.pairwise_singleton _ _
  | x :: r, p, h => by
    have h' : (!ltCps x.cps.toList p.cps.toList && risingS x r) = true := h
    rw [Bool.and_eq_true, Bool.not_eq_true'] at h'
    have ih := rising_pw h'.2
    refine List.pairwise_cons.mpr ⟨fun y hy => ?_, ih⟩
    rcases List.mem_cons.mp hy with rfl | hy
    · exact h'.1
    · exact leS_trans h'.1 ((List.pairwise_cons.mp ih).1 y hy)
theorem sorted_pw : ∀ {l : List Str}, sortedS l = true → l.Pairwise LeS
  | [], _ => .nil
  | x :: r, h => rising_pw h
theorem pw_one : ∀ {a b : List Str}, a.Pairwise LeS → b.Pairwise LeS → a.Perm b → a = b
  | [], b, _, _, h => (List.nil_perm.mp h).symm
  | x :: r, [], _, _, h => absurd h.length_eq (by simp)
  | x :: r, y :: s, ha, hb, h => by
    obtain ⟨a1, a2⟩ := List.pairwise_cons.mp ha
    obtain ⟨b1, b2⟩ := List.pairwise_cons.mp hb
    have e : x = y := by
      rcases List.mem_cons.mp (h.mem_iff.mp (List.mem_cons_self (a := x) (l := r))) with e | h1
      · exact e
      · rcases List.mem_cons.mp (h.mem_iff.mpr (List.mem_cons_self (a := y) (l := s))) with e | h2
        · exact e.symm
        · exact leS_anti (a1 _ h2) (b1 _ h1)
    subst e
    rw [pw_one a2 b2 h.cons_inv]
theorem sortedS_one {a b : List Str} (ha : sortedS a = true) (hb : sortedS b = true) (h : a.Perm b) : a = b := pw_one (sorted_pw ha) (sorted_pw hb) h
/-- of the same names in the same order, all different: the same amounts -/
theorem am_one : ∀ {a b : Am}, (amS a).Nodup → amS a = amS b → a.Perm b → a = b
  | [], b, _, _, h => (List.nil_perm.mp h).symm
  | p :: r, [], _, _, h => absurd h.length_eq (by simp)
  | p :: r, q :: s, hn, he, h => by
    obtain ⟨e1, e2⟩ := List.cons.inj (show p.1 :: amS r = q.1 :: amS s from he)
    obtain ⟨n1, n2⟩ := List.nodup_cons.mp (show (p.1 :: amS r).Nodup from hn)
    have e : p = q := by
      rcases List.mem_cons.mp (h.mem_iff.mpr (List.mem_cons_self (a := q) (l := s))) with e | h2
      · exact e.symm
      · exact absurd (List.mem_map.mpr ⟨q, h2, e1.symm⟩) n1
    subst e
    rw [am_one n2 e2 h.cons_inv]
theorem srt_one {a b c : Am} (hc : (amS c).Nodup) (ha : srt a) (hb : srt b) (pa : a.Perm c) (pb : b.Perm c) : a = b := by
  have e : amS a = amS b := sortedS_one ha hb ((pa.trans pb.symm).map _)
  exact am_one ((pa.map Prod.fst).nodup_iff.mpr hc) e (pa.trans pb.symm)
/-- the law's own ranks of a dict of amounts -/
def spLR : Sp := fun vs H Q _ => ∃ (g : Addr) (a : Am), vs = [.ref g] ∧ H g = some (.dK (amK a)) ∧ AmOk a ∧ ∀ sa : Am, sa.Perm a → srt sa → rkR sa H Q
/-- _law_due -/
def spDue : Sp := fun vs H Q _ => ∃ (g n : Addr) (a b : Am), vs = [.ref g, .ref n] ∧ H g = some (.dK (amK a)) ∧ H n = some (.dK (amK b)) ∧ AmOk a ∧ AmOk b ∧
  ∀ sa sb : Am, sa.Perm a → srt sa → sb.Perm b → srt sb →
  (amS sa = amS sb → ∀ (p : Addr) (H' : Hp) (na nb : List Int), IsLv sa na → IsLv sb nb → Same H H' → H p = none → H' p = some (.lst [.str "agrees", .bl (decide (rks sa na = rks sb nb))]) → Q (.ref p) H') ∧
  (amS sa ≠ amS sb → ∀ (p t : Addr) (H' : Hp), Same H H' → H p = none → H t = none → H' t = some (.tup (amN sb)) → H' p = some (.lst [.str "unlike", .ref t]) → Q (.ref p) H')
theorem shaped_am {ys : List Str} {a : Am} (h : AmOk a) (p : ys.Perm (amS a)) : SeqAt.shaped (.list (ys.map PyData.str)) = true := shaped_strs ys fun w hw => good_ok (h.gd w (p.mem_iff.mp hw))
theorem eqv_strs (a b : List Str) : PyData.eqv (.list (a.map .str)) (.list (b.map .str)) = decide (a = b) := by rw [PyData.eqv, eqvAll_strs]
end L2

namespace L2
open PySem PySem.Spec PyProof.Rows
theorem walk_amK {d : Addr} {o : Obj} {am : Am} : Walk (Itk d o (amK am)) (am.map fun p => V.str p.1).length (fun H => H d = some (.frz o (.dK (amK am)))) (YAt (am.map fun p => V.str p.1)) := by
  have w := walk_keys (d := d) (o := o) (kvs := amK am)
  rw [amK_len, ← List.length_map (as := am) (f := fun p : Str × Int => V.str p.1)] at w
  refine w.mono (fun _ h => h) fun i H x H' _ _ y => ?_
  obtain ⟨e, k, v, hk, rfl⟩ := y
  refine ⟨e, ?_⟩
  unfold amK at hk
  rw [List.getElem?_map] at hk ⊢
  obtain ⟨p, hp, e2⟩ := Option.map_eq_some_iff.mp hk
  cases e2
  rw [hp]
  rfl
/-- a list comprehension that makes a pair a turn -/
theorem lc_pairs {α : Type} {J : It} {G : Hp → Prop} {as : List α} {g : α → V} (w : Walk J (as.map g).length G (YAt (as.map g))) {te : TE} {vs : List Nat} {σ : St} {H1 : Hp} {D : Addr} {Qd : Hp → Prop} {j : Nat} (kv : α → Key × V)
    (hD : H1 D = none) (hG : ∀ H', Same H1 H' → G H') (hl : as.length ≤ 1000) (hw : ∀ x, wipe ((wipe σ vs).set j (some x)) vs = wipe σ vs)
    (he : ∀ a ∈ as, ∀ (H' : Hp) (Q : VK), Same H1 H' → (∀ t, H' t = none → Q (.ref t) (upd H' t (.tup [kV (kv a).1, (kv a).2]))) → te ((wipe σ vs).set j (some (g a))) H' Q)
    (hd : ∀ (ps : List Addr) (H' : Hp), Same H1 H' → H' D = some (.lst (ps.map V.ref)) → Paired (fun p q => H' p = some (.tup [kV q.1, q.2])) ps (as.map kv) → Qd H') :
    ∃ W : Nat → Nat → Hp → Prop, (∃ m, W 0 m (upd H1 D (.lst []))) ∧ ∀ i m H, W i m H →
      (J.stop i H ∧ Qd H) ∨ (J.go i H ∧ ∃ Nx : Hp → Prop, (∀ H', Nx H' → ∃ m', m' < m ∧ W (i + 1) m' H') ∧ ∀ x H', J.yld i H x H' → gName j x (wipe σ vs) H' fun σ2 H2 => wipe σ2 vs = wipe σ vs ∧ tYes σ2 H2 fun b H3 =>
        if b = true then te σ2 H3 fun y H4 => ∃ acc, H4 D = some (.lst acc) ∧ acc.length < sizeLine ∧ Nx (upd H4 D (.lst (acc ++ [y]))) else Nx H3) := by
  have ln : (as.map g).length = as.length := List.length_map _
  refine lc_it w (fun i H => ∃ ps : List Addr, Same H1 H ∧ H D = some (.lst (ps.map V.ref)) ∧ ps.length = i ∧ Paired (fun p q => H p = some (.tup [kV q.1, q.2])) ps ((as.take i).map kv)) ⟨[], same_of_none hD, upd_same, rfl, .nil⟩ (fun i H _ ⟨ps, s, _⟩ => hG _ s) (fun i x H H' hi h y => ?_) (fun H h => ?_)
  · obtain ⟨ps, s, hDl, hpl, hP⟩ := h
    obtain ⟨rfl, hx⟩ := y
    rw [List.getElem?_map] at hx
    obtain ⟨a, ha, rfl⟩ := Option.map_eq_some_iff.mp hx
    have hm : a ∈ as := List.mem_of_getElem? ha
    have ht' := take_more ha
    refine ⟨hw _, ?_⟩
    unfold tYes
    refine if_pos rfl |>.mpr (he a hm _ _ s fun t ht => ?_)
    have hDt : D ≠ t := ne_of_none hDl ht
    have s2 := same_of_none (o := .tup [kV (kv a).1, (kv a).2]) ht
    refine ⟨_, s2 _ _ hDl, small1000 (by rw [List.length_map]; omega), ps ++ [t], ?_, by rw [upd_same, List.map_append]; rfl, by rw [List.length_append, hpl]; rfl, ?_⟩
    · exact (s.trans s2).unseen hD
    · rw [ht', List.map_append]
      refine Paired.snoc ?_ (by rw [upd_ne hDt.symm]; exact upd_same)
      refine hP.mono fun p q h => ?_
      have hpD : p ≠ D := fun z => by rw [z, hDl] at h; cases h
      rw [upd_ne hpD]
      exact s2 _ _ h
  · obtain ⟨ps, s, hDl, _, hP⟩ := h
    rw [ln, List.take_length] at hP
    exact hd ps H s hDl hP
theorem mergeK_am : ∀ {kvs acc : List (Key × V)}, (kvs.map (·.1)).Nodup → (∀ p ∈ kvs, valV acc p.1 = none) → mergeK acc kvs = acc ++ kvs
  | [], acc, _, _ => (List.append_nil _).symm
  | p :: r, acc, hn, ha => by
    obtain ⟨n1, n2⟩ := List.nodup_cons.mp hn
    have h1 := ha p List.mem_cons_self
    show mergeK (putK acc p.1 p.2) r = acc ++ p :: r
    rw [putK_new _ h1, mergeK_am n2 fun q hq => ?_]
    · rw [List.append_assoc]; rfl
    · rw [valV_snoc _ _ _ _ h1, if_neg fun e => n1 (by show p.1 ∈ _; rw [← e]; exact List.mem_map.mpr ⟨q, hq, rfl⟩)]
      exact ha q (List.mem_cons_of_mem _ hq)
/-! ### amounts put and dropped -/
def aput (b : Am) (w : Str) (z : Int) : Am := if w ∈ amS b then b.map (fun p => if p.1 = w then (p.1, z) else p) else b ++ [(w, z)]
theorem amK_any (b : Am) (w : Str) : ((amK b).any fun kv => decide (kv.1 = (Sum.inr w : Key))) = decide (w ∈ amS b) := by
  induction b with
  | nil => rfl
  | cons p r ih =>
    show (decide ((Sum.inr p.1 : Key) = Sum.inr w) || (amK r).any fun kv => decide (kv.1 = (Sum.inr w : Key))) = decide (w ∈ p.1 :: amS r)
    rw [ih]
    by_cases e : p.1 = w
    · subst e; simp
    · have e2 : ¬ w = p.1 := fun z => e z.symm
      have e3 : ¬ (Sum.inr p.1 : Key) = Sum.inr w := fun z => e (Sum.inr.inj z)
      simp [e2, e3]
theorem amK_put (b : Am) (w : Str) (z : Int) : amK (aput b w z) = putK (amK b) (Sum.inr w) (.int z) := by
  unfold aput putK
  rw [amK_any]
  by_cases h : w ∈ amS b
  · rw [if_pos h, if_pos (decide_eq_true h)]
    unfold amK
    rw [List.map_map, List.map_map]
    refine List.map_congr_left fun p _ => ?_
    show ((Sum.inr (if p.1 = w then (p.1, z) else p).1 : Key), V.int (if p.1 = w then (p.1, z) else p).2) = if (Sum.inr p.1 : Key) = Sum.inr w then ((Sum.inr p.1 : Key), V.int z) else (Sum.inr p.1, V.int p.2)
    by_cases e : p.1 = w
    · rw [if_pos e, if_pos (by rw [e])]
    · rw [if_neg e, if_neg fun q => e (Sum.inr.inj q)]
  · rw [if_neg h, if_neg (by rw [decide_eq_false h]; exact Bool.false_ne_true)]
    unfold amK
    rw [List.map_append]
    rfl
theorem amS_put (b : Am) (w : Str) (z : Int) : amS (aput b w z) = if w ∈ amS b then amS b else amS b ++ [w] := by
  unfold aput
  by_cases h : w ∈ amS b
  · rw [if_pos h, if_pos h]
    unfold amS
    rw [List.map_map]
    refine List.map_congr_left fun p _ => ?_
    show (if p.1 = w then (p.1, z) else p).1 = p.1
    split <;> rfl
  · rw [if_neg h, if_neg h]
    unfold amS
    rw [List.map_append]
    rfl
theorem amS_len (b : Am) : (amS b).length = b.length := by unfold amS; rw [List.length_map]
theorem put_len (b : Am) (w : Str) (z : Int) : (aput b w z).length = if w ∈ amS b then b.length else b.length + 1 := by
  rw [← amS_len, amS_put]
  split
  · exact amS_len b
  · rw [List.length_append, amS_len]; rfl
theorem AmOk.put {b : Am} (h : AmOk b) (w : Str) (z : Int) (g : good w = true) (l : b.length ≤ 7) : AmOk (aput b w z) := by
  refine ⟨?_, fun u hu => ?_, ?_⟩
  · rw [amS_put]
    split
    · exact h.nd
    · rename_i n
      refine List.nodup_append.mpr ⟨h.nd, List.nodup_cons.mpr ⟨by simp, List.nodup_nil⟩, fun x hx y hy e => ?_⟩
      rw [List.mem_singleton.mp hy] at e
      exact n (e ▸ hx)
  · rw [amS_put] at hu
    split at hu
    · exact h.gd u hu
    · rcases List.mem_append.mp hu with hu | hu
      · exact h.gd u hu
      · rw [List.mem_singleton.mp hu]; exact g
  · rw [put_len]; split <;> omega
def adrop (b : Am) (w : Str) : Am := b.filter fun p => decide (p.1 ≠ w)
theorem amK_drop (b : Am) (w : Str) : amK (adrop b w) = dropK (amK b) (Sum.inr w) := by
  unfold adrop dropK amK
  rw [List.filter_map]
  refine congrArg _ (List.filter_congr fun p _ => ?_)
  show decide (p.1 ≠ w) = decide ((Sum.inr p.1 : Key) ≠ Sum.inr w)
  rw [decide_eq_decide]
  exact ⟨fun h e => h (Sum.inr.inj e), fun h e => h (by rw [e])⟩
theorem AmOk.drop {b : Am} (h : AmOk b) (w : Str) : AmOk (adrop b w) := by
  have s : (amS (adrop b w)).Sublist (amS b) := (List.filter_sublist).map _
  exact ⟨h.nd.sublist s, fun u hu => h.gd u (s.subset hu), Nat.le_trans (List.length_filter_le _ _) h.n1⟩
theorem drop_not (b : Am) (w : Str) : w ∉ amS (adrop b w) := fun h => by
  obtain ⟨p, hp, e⟩ := List.mem_map.mp h
  exact of_decide_eq_true (List.mem_filter.mp hp).2 e
theorem drop_len {b : Am} (h : (amS b).Nodup) {w : Str} (hw : w ∈ amS b) : (adrop b w).length + 1 = b.length := by
  induction b with
  | nil => cases hw
  | cons p r ih =>
    obtain ⟨n1, n2⟩ := List.nodup_cons.mp (show (p.1 :: amS r).Nodup from h)
    by_cases e : p.1 = w
    · subst e
      have : adrop (p :: r) p.1 = r := by
        unfold adrop
        rw [List.filter_cons, if_neg (by simp)]
        refine List.filter_eq_self.mpr fun q hq => decide_eq_true fun e => n1 (List.mem_map.mpr ⟨q, hq, e⟩)
      rw [this]
      rfl
    · have hw' : w ∈ amS r := by
        rcases List.mem_cons.mp (show w ∈ p.1 :: amS r from hw) with h | h
        · exact absurd h.symm e
        · exact h
      have : adrop (p :: r) w = p :: adrop r w := by
        unfold adrop
        rw [List.filter_cons, if_pos (decide_eq_true e)]
      rw [this]
      show (adrop r w).length + 1 + 1 = r.length + 1
      rw [ih n2 hw']
/-- another amount for each -/
theorem amK_map (b : Am) (f : Int → Int) : amK (b.map fun p => (p.1, f p.2)) = b.map fun p => ((Sum.inr p.1 : Key), V.int (f p.2)) := by unfold amK; rw [List.map_map]; rfl
theorem amS_map (b : Am) (f : Int → Int) : amS (b.map fun p => (p.1, f p.2)) = amS b := by unfold amS; rw [List.map_map]; rfl
theorem AmOk.map {b : Am} (h : AmOk b) (f : Int → Int) : AmOk (b.map fun p => (p.1, f p.2)) := ⟨by rw [amS_map]; exact h.nd, by rw [amS_map]; exact h.gd, by rw [List.length_map]; exact h.n1⟩
theorem DPut.am {H : Hp} {d : Addr} {b : Am} {w : Str} {z : Int} (h : H d = some (.dK (amK b))) (l : b.length ≤ 1000) : DPut H d (.str w) (.int z) (upd H d (.dK (amK (aput b w z)))) :=
  .inl ⟨amK b, .inr w, h, rfl, by rw [amK_len]; exact small1000 l, by rw [amK_put]⟩
theorem am_val {b : Am} {w : Str} (h : w ∈ amS b) : ∃ z, (w, z) ∈ b := by
  obtain ⟨p, hp, e⟩ := List.mem_map.mp h
  exact ⟨p.2, by rw [← e]; exact hp⟩
/-- _law_near: amounts near the given ones -/
def spNear : Sp := fun vs H Q _ => ∃ (s : Addr) (N : Nat) (G : Hp) (g : Addr) (a : Am), vs = [.ref s, .ref g] ∧ View s N G H ∧ N ≤ 800000 ∧ G g = some (.dK (amK a)) ∧ AmOk a ∧ 1 ≤ a.length ∧ a.length ≤ 6 ∧ (∀ p ∈ a, p.2.natAbs < 2 ^ 100) ∧
  ∀ (p : Addr) (b : Am) (H' : Hp), AmOk b → 1 ≤ b.length → b.length ≤ 6 → G p = none → View s (N + 70) (upd G p (.dK (amK b))) H' → Q (.ref p) H'
theorem am_permV {a : Am} {zs : List V} (hn : (amS a).Nodup) (h : zs.Perm (amN a)) : ∃ am : Am, am.Perm a ∧ zs = amN am := by
  let un : V → Str := fun v => match v with | .str w => w | _ => Str.ofString ""
  have e1 : (amN a).map un = amS a := by unfold amN amS; rw [List.map_map]; rfl
  have h2 : (zs.map un).Perm (amS a) := by rw [← e1]; exact h.map un
  obtain ⟨am, ha, hs⟩ := am_perm hn h2
  refine ⟨am, ha, ?_⟩
  rw [amN_S, hs, List.map_map]
  refine (List.map_id zs).symm.trans (List.map_congr_left fun v hv => ?_)
  obtain ⟨p, _, rfl⟩ := List.mem_map.mp (h.mem_iff.mp hv)
  rfl
theorem pickW {ws : List Str} {d : Int} (h0 : 0 ≤ d) (h1 : d < (ws.length : Int)) : ∃ w ∈ ws, atI (ws.map V.str) d = some (.str w) := by
  obtain ⟨k, rfl⟩ := Int.eq_ofNat_of_zero_le h0
  have hk : k < ws.length := by omega
  exact ⟨ws[k], List.getElem_mem hk, atI_nat (by rw [List.getElem?_map, List.getElem?_eq_getElem hk]; rfl)⟩
theorem aput_new {b : Am} {w : Str} {z : Int} (h : w ∉ amS b) : aput b w z = b ++ [(w, z)] := if_neg h
theorem good_zz9 : good "zz9" = true := by decide +kernel
end L2

namespace L2
open PySem PySem.Spec PyProof.Rows
/-- x == y by the own __eq__ at g: two instances of the class at C -/
def rOwnEq (C : Addr) (sp : Sp) (E : XK) : R2 := fun x y H Q => ∃ a dx fs b dy gs, x = .ref a ∧ y = .ref b ∧ H a = some (.ins C dx fs) ∧ H b = some (.ins C dy gs) ∧ sp [.ref a, .ref b] H Q E
theorem op_eqOwn {X : Cx} {CX : CXT} {k : Nat} {C g : Addr} {fd : FuncData} {ps : List Str} {sp : Sp} {E : XK} (hs : PySem.W.findIn X.K (.ref C) "__eq__" = some (some (.ref g))) (hf : PySem.W.isFn X.K (.ref g) = true) (nf : PySem.W.notFirst X.K C (.ref C) = true)
    (F : FnOk X.prog X.w X.K X.mg X.base CX k g fd ps sp) (hr : Room k X.A) (hb : Binds X.K fd ps []) (hx : Passes CX X E) : OpR X (compareOp .Eq) (rOwnEq C sp E) := by
  intro pins s σ H x y v u Q I rx ry h
  obtain ⟨a, dx, fs, b, dy, gs, rfl, rfl, ea, eb, q⟩ := h
  obtain rfl : v = Value.ref a := rx
  obtain rfl : u = Value.ref b := ry
  obtain ⟨_, O, _, _, _, _⟩ := ins_get I.hok ea
  obtain ⟨_, O', _, _, _, _⟩ := ins_get I.hok eb
  obtain ⟨_, J, _⟩ := O.look
  obtain ⟨_, J', _⟩ := O'.look
  obtain ⟨_, fr⟩ := I.fr
  show wpAny _ _ (richCompare .Eq (.ref a) (.ref b)) _ _ _
  refine PySem.W.cmp_K (op := .Eq) (tb := .ref C) (by have := hr.un; omega) fr I.ok.mod.kin J J'.type nf hs hf ?_
  refine wpAny_mono (run_fn (us := [.ref a, .ref b]) (vs := [.ref a, .ref b]) (ds := []) (dvs := []) F hr hb .nil hx I (.cons rfl (.cons rfl .nil)) (by rw [List.append_nil]; exact q)) (fun w s' z => ?_) fun _ _ e => e
  obtain ⟨z', H', I', rz, qz⟩ := z
  exact SlX.cmpback rz ⟨z', H', I', rz, qz⟩
/-! ### x != y by object.__ne__, which asks the own __eq__ -/
section
open PySem.W
variable {prog : Program} {w : World} {A : Around} {E : Value → Shared → Prop} {s : Shared} {K : Frag} {x C L g : Addr} {h₀ : Heap} {m : Str → Option Value} {ox : Obj} {od : Option Obj} {b tb : Value}
/-- the special method that is a built-in's -/
theorem asked_B {M : Model} {id : String} {name : Str} {args : List Value} {Q : Option Value → Shared → Prop} (X : K.In s.heap) (I : InstAt s.heap x ox C od) (hs : findIn K (.ref C) name = some (some (.builtin id))) {B : String} (S : Slot B name id)
    (h : wpAny M A (call (.builtin id) (.ref x :: args)) (fun v => Q (some v)) E s) : wpAny M A (callSpecialIfBound? (.ref x) name args) Q E s := by
  have fin : wpAny M A (call (.builtin id) ([.ref x] ++ args) >>= fun v => pure (some v)) Q E s := wpAny_bind (wpAny_mono h (fun v s' q => wpAny_pure q) fun _ _ e => e)
  simp only [callSpecialIfBound?, bindSpecialIfBound?]
  refine wpAny_holding (wpAny_bind (wpAny_bind (wpAny_bind (I.type.here ((looks_findIn X hs).here ?_)))))
  simp only [S.bind]
  refine wpAny_bind (wpAny_askSetting (wpAny_ite ?_))
  split
  · exact wpAny_bind (wpAny_pure (wpAny_pure fin))
  · exact wpAny_tryCatch (wpAny_bind (wpAny_pure (wpAny_pure fin)))
/-- object.__ne__ is called at all -/
theorem may_ne {M : Model} {Q : Unit → Shared → Prop} (X : K.In s.heap) (I : InstAt s.heap x ox C od) (ko : subIn K (.ref C) (.type "object") = some true) (q : Q () s) : wpAny M A (checkBuiltinCall "object.__ne__" ⟨[.ref x, b], []⟩) Q E s := by
  simp only [checkBuiltinCall, PySem.F.cmpKind_ne, PySem.F.cmpSplit_ne]
  refine wpAny_bind ?_
  unfold isInstance
  refine wpAny_bind (I.type.here ((looks_subIn X ko).here ?_))
  simp only [Bool.not_true, Bool.false_eq_true, if_false]
  cases hsig : Manifest.signature? "object.__ne__" with
  | none => exact wpAny_pure q
  | some sig =>
    have ha := PySem.F.cmpArgs_ne (.ref x) b
    simp only [argsOk, hsig] at ha
    have h2 : Bind.checkArgs "object.__ne__" sig ⟨[.ref x, b], []⟩ = pure () := ha
    show wpAny M A (Bind.checkArgs "object.__ne__" sig ⟨[.ref x, b], []⟩) Q E s
    rw [h2]
    exact wpAny_pure q
/-- object.__ne__(x, b), its question put to the own __eq__ at g, which answers with a truth value -/
theorem ne_asks {Q : Value → Shared → Prop} (hu : A.units + 1 < cLine) (X : K.In s.heap) (I : InstAt s.heap x ox C od) (he : findIn K (.ref C) "__eq__" = some (some (.ref g))) (hf : isFn K (.ref g) = true) (ko : subIn K (.ref C) (.type "object") = some true)
    (h : wpAny (model prog w) A.in1 (call (.ref g) [.ref x, b]) (fun v s' => ∃ c, v = .bool c ∧ Q (.bool (!c)) s') E s) : wpAny (model prog w) A (call (.builtin "object.__ne__") [.ref x, b]) Q E s := by
  refine wpAny_call (codeAny_call_builtin PySem.F.cmp_object.ne.plain PySem.F.cmpEntry_ne (may_ne X I ko ?_))
  unfold Builtin.«object.__ne__»
  refine wpAny_bind (wpAny_pure ?_)
  dsimp only
  refine wpAny_bind (wpAny_cRoomFor (by show A.units + 1 < cLine; exact hu) ?_)
  refine wpAny_bind (ifBound_K X I he hf (wpAny_mono h (fun v s' hv => ?_) fun _ _ e => e))
  obtain ⟨c, rfl, q⟩ := hv
  refine wpAny_bind (wpAny_pure ?_)
  exact wpAny_pure q
end
/-- x != y of two instances of the class at C, by object.__ne__ over the own __eq__ at g -/
def rOwnNe (C : Addr) (sp : Sp) (E : XK) : R2 := fun x y H Q => ∃ a dx fs b dy gs, x = .ref a ∧ y = .ref b ∧ H a = some (.ins C dx fs) ∧ H b = some (.ins C dy gs) ∧ sp [.ref a, .ref b] H (fun v H' => ∃ c, v = .bl c ∧ Q (.bl (!c)) H') E
theorem op_neOwn {X : Cx} {CX : CXT} {k : Nat} {C g : Addr} {fd : FuncData} {ps : List Str} {sp : Sp} {E : XK} (hs : PySem.W.findIn X.K (.ref C) "__eq__" = some (some (.ref g))) (hf : PySem.W.isFn X.K (.ref g) = true) (nf : PySem.W.notFirst X.K C (.ref C) = true)
    (hne : PySem.W.findIn X.K (.ref C) "__ne__" = some (some (.builtin "object.__ne__"))) (ko : PySem.W.subIn X.K (.ref C) (.type "object") = some true)
    (F : FnOk X.prog X.w X.K X.mg X.base CX k g fd ps sp) (hr : Room (k + 1) X.A) (hb : Binds X.K fd ps []) (hx : Passes CX X E) : OpR X (compareOp .NotEq) (rOwnNe C sp E) := by
  intro pins s σ H x y v u Q I rx ry h
  obtain ⟨a, dx, fs, b, dy, gs, rfl, rfl, ea, eb, q⟩ := h
  obtain rfl : v = Value.ref a := rx
  obtain rfl : u = Value.ref b := ry
  obtain ⟨_, O, _, _, _, _⟩ := ins_get I.hok ea
  obtain ⟨_, O', _, _, _, _⟩ := ins_get I.hok eb
  obtain ⟨_, J, _⟩ := O.look
  obtain ⟨_, J', _⟩ := O'.look
  have hun := hr.un
  have hv : Vals [V.ref a, V.ref b] [Value.ref a, Value.ref b] := .cons rfl (.cons rfl .nil)
  have hl : ([Value.ref a, Value.ref b] ++ ([] : List Value)).length = ps.length := by
    rw [List.append_nil, ← hv.length]
    exact F.len _ _ _ _ q
  have told : wpAny (model X.prog X.w) X.A (tryCompare (.ref a) "__ne__" (.ref b)) (fun r s' => ∃ c, r = some (.bool c) ∧ EP X pins σ Q (.bool c) s') X.xe s := by
    simp only [tryCompare]
    refine wpAny_bind (asked_B I.kIn J hne PySem.F.cmp_object.ne (wpAny_mono (ne_asks (Q := fun v s' => ∃ c, v = .bool c ∧ EP X pins σ Q (.bool c) s') (by omega) I.kIn J hs hf ko (wpAny_call (codeAny_mono (F.run X.A.in1 X.stack s H ⟨[.ref a, .ref b], []⟩ ([.ref a, .ref b] ++ []) [.ref a, .ref b] _ E hr.in1 I.env0.in1 (hb s [.ref a, .ref b] I.kIn hl) (by rw [List.append_nil]; exact hv) q) fun r s' hq => ?_))) (fun v s' hv' => ?_) fun _ _ e => e))
    · cases r with
      | error er => exact hx pins σ H s er s' I hq
      | ok fl =>
        cases fl with
        | ret z =>
          obtain ⟨z', H', I', rz, c, rfl, qz⟩ := I.after hq
          cases (show z = Value.bool c from rz)
          exact ⟨c, rfl, !c, rfl, .bl (!c), H', I', rfl, qz⟩
        | next => exact False.elim hq
        | brk => exact False.elim hq
        | cont => exact False.elim hq
    · obtain ⟨c, rfl, hp⟩ := hv'
      exact wpAny_pure ⟨c, rfl, hp⟩
  show wpAny _ _ (richCompare .NotEq (.ref a) (.ref b)) _ _ _
  unfold richCompare
  simp only [oneThing_ref]
  refine wpAny_holding (wpAny_bind (wpAny_cRoomFor (by omega) ?_))
  refine wpAny_bind (J.type.here (wpAny_bind (J'.type.here ?_)))
  have fin : ∀ {k : Option Value → Sem Value}, (∀ c s', EP X pins σ Q (.bool c) s' → wpAny (model X.prog X.w) X.A (k (some (.bool c))) (EP X pins σ Q) X.xe s') → wpAny (model X.prog X.w) X.A (tryCompare (.ref a) "__ne__" (.ref b) >>= k) (EP X pins σ Q) X.xe s := fun hk =>
    wpAny_bind (wpAny_mono told (fun r s' hr' => by obtain ⟨c, rfl, hp⟩ := hr'; exact hk c s' hp) fun _ _ e => e)
  split
  · rename_i q'
    exact absurd q' (by simp)
  · refine wpAny_bind (wpAny_pure ?_)
    simp only [Bool.false_eq_true, if_false]
    exact fin fun c s' hp => wpAny_pure hp
/-- what x == y and x != y find -/
structure EqF (K : PySem.W.Frag) (C g : Addr) : Prop where
  hs : PySem.W.findIn K (.ref C) "__eq__" = some (some (.ref g))
  hf : PySem.W.isFn K (.ref g) = true
  nf : PySem.W.notFirst K C (.ref C) = true
  ne : PySem.W.findIn K (.ref C) "__ne__" = some (some (.builtin "object.__ne__"))
  ko : PySem.W.subIn K (.ref C) (.type "object") = some true
end L2

namespace L2
open PySem PySem.Spec PyProof.Rows
/-! ### set(xs), xs a list of whole numbers (SetFor has it of a tuple) -/
section
variable {P : Program} {w : World} {A : Around} {E : Value → Shared → Prop} {s : Shared}
/-- a fresh set's object -/
abbrev emptySet (w : World) : Obj := { cls := .type "set", dict := none, data := .set #[] 0 (.fresh 0 0 (!w.params.followText "set-order")) }
set_option maxHeartbeats 6400000 in
/-- what __init__ makes of a fresh set -/
theorem fill_listI {a l : Addr} {items : Array Value} (ns : List Int) {R : Result → Shared → Prop} (hh : A.handled = none) (ha : s.heap.get? a = some (emptySet w)) (hl : s.heap.IsList l items) (hal : a ≠ l) (hit : IntsAre items.toList ns) (hb : ns.length + 1 < scanBound)
    (h : ∀ (h' : Heap) (tk c : Nat), SetR w h' a (fun j => decide (j ∈ ns)) c → c ≤ ns.length → (∀ b o, b ≠ a → s.heap.get? b = some o → h'.get? b = some o) → R (.ok (.ret .none)) { s with heap := h', toks := tk }) :
    codeAny (model P w) A (.call (.builtin "set.__init__") ⟨[.ref a, .ref l], []⟩) R s := by
  have n0 : items.size = ns.length := by simpa using IntsAre.length hit
  refine codeAny_call_builtin F.called_set.init.plain F.entry_set_init (check_set_init_1 ⟨_, ha, rfl⟩ ?_)
  obtain ⟨⟨oc, od, odt, osl⟩, hol, hcl, nl, hdl⟩ := id hl
  simp only at hcl hdl
  subst hcl hdl
  have k1 := F.sub_list_set
  have k2 := F.sub_list_frozenset
  have k3 : (Value.type "list" == Value.type "dict") = false := by decide
  unfold Builtin.«set.__init__» noKeywords Builtin.Frozenset.updateFrom
  generalize hI : pyIter = I
  wp_walk
  subst hI
  refine wpAny_pyIter_list hl ?_
  refine wpAny_bind (wpAny_runValue ?_)
  have la : a < s.heap.objs.size := Heap.lt_size ha
  have ll : l < s.heap.objs.size := Heap.lt_size hol
  have h2 : A.in1.in1.handled = none := by simp [hh]
  have nI : l ≠ s.heap.objs.size := Nat.ne_of_lt ll
  have na : a ∉ [s.heap.objs.size, l] := by
    simp only [List.mem_cons, List.not_mem_nil, or_false, not_or]
    exact ⟨Nat.ne_of_lt la, hal⟩
  have each : ∀ (i : Nat) (v : Value), items[i]? = some v → ∃ k t, ns[i]? = some k ∧ v = .int k t := fun i v hv => by
    have hi : i < ns.length := by rw [← n0]; exact (Array.getElem?_eq_some_iff.mp hv).1
    obtain ⟨t, e⟩ := PyProof.Rows.IntsAre.int_at hit i v (by rw [Array.getElem?_toList]; exact hv)
    exact ⟨ns[i], t, List.getElem?_eq_getElem hi, by rw [e, List.getD_eq_getElem?_getD, List.getElem?_eq_getElem hi]; rfl⟩
  refine set_update_ints ((Walks.list h2 _ l nI items).toS) a na ns n0 hb each (items.size - 0) 0 _ (by omega) (Nat.zero_le _) ⟨⟨_, Heap.get?_push_size _ rfl, rfl, rfl⟩, hl.push _⟩ ⟨0, Nat.le_refl 0, setR_new_at (Heap.get?_push_of_some _ ha)⟩ ?_
  intro s' c hm hc hS
  obtain ⟨h', g', d', tk', os'⟩ := s'
  obtain rfl : g' = s.gens := hm.gens
  obtain rfl : d' = s.drawn := hm.drawn
  obtain rfl : os' = s.os := hm.os
  rw [n0] at hc
  refine wpAny_pure (wpAny_pure (h h' tk' c hS hc fun b o hba e => ?_))
  have hb0 : b < s.heap.objs.size := Heap.lt_size e
  exact hm.heap b o (by simp only [List.mem_cons, List.not_mem_nil, or_false, not_or]; exact ⟨hba, Nat.ne_of_lt hb0⟩) (Heap.get?_push_of_some _ e)
set_option maxHeartbeats 6400000 in
theorem call_set_listI {l : Addr} {items : Array Value} (ns : List Int) {Q : Value → Shared → Prop} (hh : A.handled = none) (hl : s.heap.IsList l items) (hit : IntsAre items.toList ns) (hb : ns.length + 1 < scanBound)
    (h : ∀ (h' : Heap) (tk c : Nat), SetR w h' s.heap.objs.size (fun j => decide (j ∈ ns)) c → c ≤ ns.length → (∀ b o, s.heap.get? b = some o → h'.get? b = some o) → Q (.ref s.heap.objs.size) { s with heap := h', toks := tk }) :
    wpAny (model P w) A (call (.type "set") [.ref l]) Q E s := by
  have n0 : items.size = ns.length := by simpa using IntsAre.length hit
  have lt0 : l < s.heap.objs.size := by
    obtain ⟨_, e, _⟩ := hl
    exact Heap.lt_size e
  have c1 := F.called_set.made
  have c2 := F.called_set.sub
  have c3 := F.called_set.notType
  have c4 := F.called_set.canCreate
  have c5 := F.typeCall_set_1 (.ref l)
  have c6 := F.called_set.init.lookup
  have c7 := F.called_set.init.bind (.ref s.heap.objs.size)
  obtain ⟨c, tl, c8⟩ := F.called_set.mro
  refine wpAny_call (codeAny_of_tree ?_)
  show wpAny _ _ (callAny (.type "set") _) _ _ _
  refine wpAny_pure ⟨Code.quiet_builtin _ (by decide +kernel), codeAny_builtin F.entry_type_call ?_⟩
  rw [Around.under_plain (weight_type_call_type "set" [.ref l] []) rfl]
  repeat (any_goals (first | assumption | wp_step))
  -- the new set
  refine codeAny_mono (code_set_led1 (.ref l) (E := E) (Q₁ := fun v s1 => v = .ref s.heap.objs.size ∧ s1 = { s with heap := s.heap.push (emptySet w) }) ⟨rfl, rfl⟩) fun r s1 hr => ?_
  rcases r with e | f
  · exact hr
  rcases f with _ | v | _ | _
  case next => exact hr.elim
  case brk => exact hr.elim
  case cont => exact hr.elim
  obtain ⟨rfl, rfl⟩ := hr
  have sz1 : (s.heap.push (emptySet w)).objs.size = s.heap.objs.size + 1 := Heap.size_push ..
  have got : (s.heap.push (emptySet w)).get? s.heap.objs.size = some (emptySet w) := Heap.get?_push_size _ rfl
  have ty : Shared.TypeIs { s with heap := s.heap.push (emptySet w) } (.ref s.heap.objs.size) "set" := ⟨_, got, rfl⟩
  repeat (any_goals (first | assumption | wp_step))
  have hl1 : (s.heap.push (emptySet w)).IsList l items := hl.push _
  refine fill_listI (w := w) ns (by simp [hh]) got hl1 (Nat.ne_of_gt lt0) hit hb fun h' tk c hS hc hk => ?_
  refine wpAny_pure ?_
  repeat (any_goals (first | assumption | wp_step))
  exact h h' tk c hS hc fun b o e => hk b o (Nat.ne_of_lt (Heap.lt_size e)) (Heap.get?_push_of_some _ e)
end
section
variable {X : Cx}
/-- set(xs), xs a list of whole numbers: the set's members are told, their number is some c -/
def rSetOfI (K : PySem.W.Frag) (w : World) : List V → Hp → VK → Prop := fun xs H Q => ∃ (l : Addr) (ns : List Int), xs = [.ref l] ∧ SqL K H l (ns.map V.int) ∧ ns.length ≤ 1000 ∧
  ∀ (p : Addr) (c : Nat), c ≤ ns.length → H p = none → Q (.ref p) (upd H p (SetO w p (fun j => decide (j ∈ ns)) c))
theorem cr_setOfI (hc : X.calm = true) : CallR X (.type "set") (rSetOfI X.K X.w) := by
  intro pins s σ H xs us Q I r h
  obtain ⟨l, ns, rfl, hs, h10, q⟩ := h
  rw [Vals.ref1 r]
  obtain ⟨its, rv, pl, hz⟩ := I.list hs
  refine call_set_listI ns (I.ok.hd hc) pl.isList (by simpa using ints_of_vals rv) (by unfold scanBound; omega) fun h' tk c hS hc hk => ?_
  have hn : H s.heap.objs.size = none := I.hok.fresh (Nat.le_refl _)
  exact ⟨.ref _, _, I.laid (t' := tk) hk (Nat.le_refl _) (setO_new hS), rfl, q _ c hc hn⟩
end
end L2

namespace L2
open PySem PySem.Spec PyProof.Rows
open PpSet
/-! ### {e for x in xs}, e a whole number (SetBool has it of truth values) -/
/-- D is the new set; each turn's e joins it -/
def tScI (w : World) (wi : TI) (g : TG) (te : TE) (vs : List Nat) : TE := fun σ H Q => wi σ H fun J H1 => ∀ D, H1 D = none → ∃ W : Nat → Nat → Hp → Prop, (∃ m, W 0 m (upd H1 D (SetO w D (fun _ => false) 0))) ∧ ∀ i m H, W i m H →
  (J.stop i H ∧ Q (.ref D) H) ∨ (J.go i H ∧ ∃ Nx : Hp → Prop, (∀ H', Nx H' → ∃ m', m' < m ∧ W (i + 1) m' H') ∧ ∀ x H', J.yld i H x H' → g x (wipe σ vs) H' fun σ2 H2 => wipe σ2 vs = wipe σ vs ∧
    te σ2 H2 fun y H4 => ∃ (c : Int) (S : Int → Bool) (n : Nat), y = .int c ∧ H4 D = some (SetO w D S n) ∧ n + 1 < scanBound ∧ Nx (upd H4 D (SetO w D (fun j => S j || decide (j = c)) (if S c = true then n else n + 1))))
section
variable {X : Cx}
theorem joinI {pins : List (Addr × Obj)} {σ : L2.St} {H : Hp} {s : Shared} {E : Value → Shared → Prop} {D : Addr} {S : Int → Bool} {n : Nat} {y : Int} {tk : Tok} {Q : Value → Shared → Prop} (I : Inv X pins σ H s) (hD : H D = some (SetO X.w D S n)) (room : n + 1 < scanBound)
    (h : ∀ s', Inv X pins σ (upd H D (SetO X.w D (fun j => S j || decide (j = y)) (if S y = true then n else n + 1))) s' → Q .none s') : wpAny (model X.prog X.w) X.A (call (.builtin "set.add") [.ref D, .int y tk]) Q E s := by
  refine setR_add (setO_get I hD) room fun h' sb new => h _ ?_
  obtain ⟨o, _, _, _, ho, _⟩ := id new
  exact I.write (e := D) (t' := s.toks + 1) (by rw [hD]; trivial) (.inl rfl) (fun b u hb hu => (sb.2 b hb).trans hu) ⟨o, ho⟩ (setO_new new)
theorem pe_scI {elt tg iter : Expr} {scope : Scope} {own : List (PySem.Str × Nat)} {pos : Pos} {wi : TI} {g : TG} {te : TE} (hc : X.calm = true) (hN : X.N.Nodup) (hi : PI X tg iter wi) (ok : BlkOk X.N X.env.scope scope own)
    (hg : ∀ (s : Shared) (H : Hp) (C : Addr) (cl : List (PySem.Str × Addr)) (fp : List Addr), PG (X.blk s H scope (compEnvC scope cl C X.env) fp) tg g)
    (he : ∀ (s : Shared) (H : Hp) (C : Addr) (cl : List (PySem.Str × Addr)) (fp : List Addr), PE (X.blk s H scope (compEnvC scope cl C X.env) fp) elt te) (hs : ∀ x, foldedSetIterable iter X.env x = pure x := by intro _; rfl) :
    PE X (.SetComp elt [⟨tg, iter, [], 0⟩] scope pos) (tScI X.w wi g te (own.map (·.2))) := by
  refine ⟨fun pins s σ H Q I h => ?_⟩
  rw [eval_SetComp]
  have free : ∀ y ∈ scope.names, y.2 = .free → ∃ c, X.env.cells.lookup y.1 = some c := fun y hy e => (ok.free y hy e).elim (fun k => I.ok.has _ (.inl k)) (fun k => I.ok.has _ (.inr k))
  refine wpAny_comprehension_free rfl hs (closure_ok free) ok.kind (fun y hy e => by rw [ok.uniq y hy, e]) (thn (hi.run pins s σ H _ I h) fun xv s1 hx => thn hx fun itv s2 hw => ?_)
  obtain ⟨it, fp, tn, J, H2, rfl, I2, T, st2, f2, q⟩ := hw
  refine newSet_ok (newEnv_comp ?_)
  generalize eD : s2.heap.objs.size = D
  obtain ⟨W, ⟨m0, w0⟩, turn⟩ := q D (I2.hok.fresh (Nat.le_of_eq eD))
  -- the set that has just been made, then the block's own names
  obtain ⟨s3, e3⟩ : ∃ s3 : Shared, s3 = { s2 with heap := s2.heap.push (emptySet X.w) } := ⟨_, rfl⟩
  obtain ⟨H3, eH⟩ : ∃ H3 : Hp, H3 = upd H2 D (SetO X.w D (fun _ => false) 0) := ⟨_, rfl⟩
  rw [← eH] at w0
  have I3 : Inv X pins σ H3 s3 := by
    rw [e3, eH]
    refine I2.laid (t' := s2.toks) (fun b o e => Heap.get?_push_of_some _ e) (Nat.le_of_eq eD) ?_
    rw [← eD]
    exact setO_new (setR_fresh X.w)
  have kept : ∀ b o, s2.heap.get? b = some o → s3.heap.get? b = some o := fun b o e => by rw [e3]; exact Heap.get?_push_of_some _ e
  have below : ∀ b ∈ fp, b < D ∧ b < s3.heap.objs.size := fun b hb => by
    obtain ⟨o, e, _⟩ := T.obj _ _ st2 b hb
    exact ⟨by rw [← eD]; exact Heap.lt_size e, Heap.lt_size (kept b o e)⟩
  have f3 : ∀ b ∈ fp, FpOk X pins H3 b ∧ b < s3.heap.objs.size := fun b hb => ⟨⟨by rw [eH, upd_ne (Nat.ne_of_lt (below b hb).1)]; exact (f2 b hb).1, (f2 b hb).2⟩, (below b hb).2⟩
  have unseen : ∀ b ∈ fp, H3 b = none := fun b hb => (f3 b hb).1.1
  have I4 := block_start I3 ok hN f3
  have pg := hg s3 H3 s3.heap.objs.size (cellsFrom (s3.heap.objs.size + 1) scope.names (cloFrom X.env.cells scope.names [])) fp
  have pe := he s3 H3 s3.heap.objs.size (cellsFrom (s3.heap.objs.size + 1) scope.names (cloFrom X.env.cells scope.names [])) fp
  have goal : codeAny (model X.prog X.w) X.A (.compStart (.SetComp elt [⟨tg, iter, [], 0⟩] scope pos) 0 (.ref it) (.ref D) (compEnvC scope (cellsFrom (s3.heap.objs.size + 1) scope.names (cloFrom X.env.cells scope.names [])) s3.heap.objs.size X.env))
      (compPost (model X.prog X.w) X.A X.xe none (EP X pins σ Q) (.ref D) s3.heap.objs.size) { s3 with heap := pushCells (s3.heap.push { cls := .type "dict", data := .dict #[] }) scope.names } := ?_
  · rw [e3, ← eD] at goal
    rw [← eD]
    exact goal
  have st3 : tn 0 s3.heap := T.keep _ _ _ st2 fun b _ o e => kept b o e
  generalize eE : compEnvC scope (cellsFrom (s3.heap.objs.size + 1) scope.names (cloFrom X.env.cells scope.names [])) s3.heap.objs.size X.env = ce at I4 pg pe ⊢
  have loc : ce.locals = s3.heap.objs.size := by rw [← eE]; rfl
  obtain ⟨s4, e4⟩ : ∃ s4 : Shared, s4 = { s3 with heap := pushCells (s3.heap.push { cls := .type "dict", data := .dict #[] }) scope.names } := ⟨_, rfl⟩
  rw [← e4] at I4 ⊢
  have st4 : tn 0 s4.heap := T.keep _ _ _ st3 fun b _ o e => by rw [e4]; exact pushCells_keeps _ _ _ _ (Heap.get?_push_of_some _ e)
  -- the walker's own objects stay out of sight within the block
  have out : ∀ {σ' : L2.St} {H' : Hp} {s' : Shared}, Inv (X.blk s3 H3 scope ce fp) [] σ' H' s' → (∀ b ∈ fp, H' b = none) → ∀ b ∈ fp, FpOk (X.blk s3 H3 scope ce fp) [] H' b := fun {σ' H' s'} J' hn b hb =>
    ⟨hn b hb, (J'.ok.exf b hb).1, J'.ok.exfs b hb, .inl hb, fun x c e => (J'.ok.exf b hb).2 x c e, fun p hp => absurd (show p ∈ ([] : List (Addr × Obj)) ++ [] from hp) (by simp)⟩
  have loop : codeAny (model X.prog X.w) X.A (.compLoop (.SetComp elt [⟨tg, iter, [], 0⟩] scope pos) 0 (.ref it) (.ref D) ce) (compPost (model X.prog X.w) X.A X.xe none (EP X pins σ Q) (.ref D) s3.heap.objs.size) s4 := by
    refine compLoopS_any (fun n s' => ∃ i H', Inv (X.blk s3 H3 scope ce fp) [] (wipe σ (own.map (·.2))) H' s' ∧ tn i s'.heap ∧ (∀ b ∈ fp, H' b = none) ∧ W i n H') ?_ m0 ⟨0, H3, I4, st4, unseen, w0⟩
    rintro n s5 ⟨i, H5, I5, st5, n5, w5⟩
    rcases turn i n H5 w5 with ⟨stop, done⟩ | ⟨go, Nx, less, step⟩
    · refine thnF (T.done (X.blk s3 H3 scope ce fp) rfl rfl rfl hc i [] s5 _ H5 (fun _ _ => False) I5 (out I5 n5) st5 stop) fun r s6 hr => ?_
      obtain ⟨rfl, I6⟩ := hr
      have I7 : Inv X pins σ H5 s6 := I3.call' (ch := fp) I6.os I6.base I6.hok I6.bare fun b hb => ⟨(f3 b hb).1.2.2.2.1, (f3 b hb).1.2.1, (f3 b hb).1.2.2.2.2.1, (f3 b hb).1.2.2.2.2.2⟩
      have nL : H5 s3.heap.objs.size = none := by
        have z : H5 ce.locals = none := I6.free
        rwa [loc] at z
      obtain ⟨m, hm, _⟩ := I6.loc
      have hm : s6.heap.Ns ce.locals m := hm
      rw [loc] at hm
      refine ⟨m, hm, fun h'' sb => ?_⟩
      obtain ⟨f0, f1, _, g3, g4, g5⟩ := I3.fpOk (Nat.le_refl _) nL
      exact ⟨.ref D, H5, I7.turned (t' := s6.toks) (fun b o hb e => (sb.2 b hb).trans e) f0 f1 g3 g4 g5, rfl, done⟩
    · refine thnF (T.item (X.blk s3 H3 scope ce fp) rfl rfl rfl hc i [] s5 _ H5 (fun _ _ => False) I5 (out I5 n5) st5 go) fun r s6 hr => ?_
      obtain ⟨u, rfl, h6⟩ := hr
      refine thnF h6 fun _ s7 hy => ?_
      obtain ⟨x, H7, I7, r7, y7, st7, n7⟩ := hy
      refine thnF (pg.run _ s7 _ H7 x u _ (I7.pinned (out I7 n7) (T.obj _ _ st7)) r7 (step x H7 y7)) fun _ s8 hp => ?_
      obtain ⟨σ8, H8, I8, w8, q8⟩ := hp
      -- no test: on to the item
      refine wpAny_pure ?_
      simp only [if_true]
      refine thnF (pe.run _ s8 σ8 H8 _ I8 q8) fun z s9 hz => ?_
      obtain ⟨y, H9, I9, r9, c, S, k, rfl, hD9, room, nx⟩ := hz
      obtain ⟨tk, rfl⟩ := r9
      refine joinI (X := X.blk s3 H3 scope ce fp) I9 hD9 room fun s10 I10 => ?_
      obtain ⟨m', hm', w'⟩ := less _ nx
      have pin : ∀ b ∈ fp, ∀ o, s7.heap.get? b = some o → s10.heap.get? b = some o ∧ _ = none := fun b hb o e =>
        let z := I10.pin (b, o) (List.mem_append_right _ (List.mem_append_right _ (mem_pinsAt hb e)))
        ⟨z.1, z.2.1⟩
      refine ⟨m', hm', i + 1, _, (I10.unpinned (pins := [])).weak (by rw [← w8, wipe_length]) (fun j v e => ?_), T.keep _ _ _ st7 fun b hb o e => (pin b hb o e).1, fun b hb => ?_, w'⟩
      · rw [← w8] at e
        exact (wipe_some e).1
      · obtain ⟨o, e, _⟩ := T.obj _ _ st7 b hb
        exact (pin b hb o e).2
  exact codeAny_compStart_set loop (T.self X.A 0 _ _ _ st4 loop)
end
end L2

namespace L2
open PySem PySem.Spec PyProof.Rows
/-- a list comprehension that makes one new object a turn, whatever else it lays -/
theorem lc_made {α : Type} {J : It} {G : Hp → Prop} {as : List α} {g : α → V} (w : Walk J (as.map g).length G (YAt (as.map g))) {te : TE} {vs : List Nat} {σ : St} {H1 : Hp} {D : Addr} {Qd : Hp → Prop} {j : Nat} (o : α → HO)
    (hD : H1 D = none) (hG : ∀ H', Same H1 H' → G H') (hl : as.length ≤ 1000) (hw : ∀ x, wipe ((wipe σ vs).set j (some x)) vs = wipe σ vs)
    (he : ∀ a ∈ as, ∀ (H' : Hp) (Q : VK), Same H1 H' → (∀ t H'', Same H' H'' → H' t = none → H'' t = some (o a) → Q (.ref t) H'') → te ((wipe σ vs).set j (some (g a))) H' Q)
    (hd : ∀ (ps : List Addr) (H' : Hp), Same H1 H' → H' D = some (.lst (ps.map V.ref)) → Paired (fun p a => H' p = some (o a) ∧ H1 p = none) ps as → Qd H') (ho : ∀ a xs, o a ≠ .lst xs) :
    ∃ W : Nat → Nat → Hp → Prop, (∃ m, W 0 m (upd H1 D (.lst []))) ∧ ∀ i m H, W i m H →
      (J.stop i H ∧ Qd H) ∨ (J.go i H ∧ ∃ Nx : Hp → Prop, (∀ H', Nx H' → ∃ m', m' < m ∧ W (i + 1) m' H') ∧ ∀ x H', J.yld i H x H' → gName j x (wipe σ vs) H' fun σ2 H2 => wipe σ2 vs = wipe σ vs ∧ tYes σ2 H2 fun b H3 =>
        if b = true then te σ2 H3 fun y H4 => ∃ acc, H4 D = some (.lst acc) ∧ acc.length < sizeLine ∧ Nx (upd H4 D (.lst (acc ++ [y]))) else Nx H3) := by
  have ln : (as.map g).length = as.length := List.length_map _
  refine lc_it w (fun i H => ∃ ps : List Addr, Same H1 H ∧ H D = some (.lst (ps.map V.ref)) ∧ ps.length = i ∧ Paired (fun p a => H p = some (o a) ∧ H1 p = none) ps (as.take i)) ⟨[], same_of_none hD, upd_same, rfl, .nil⟩ (fun i H _ ⟨ps, s, _⟩ => hG _ s) (fun i x H H' hi h y => ?_) (fun H h => ?_)
  · obtain ⟨ps, s, hDl, hpl, hP⟩ := h
    obtain ⟨rfl, hx⟩ := y
    rw [List.getElem?_map] at hx
    obtain ⟨a, ha, rfl⟩ := Option.map_eq_some_iff.mp hx
    have hm : a ∈ as := List.mem_of_getElem? ha
    refine ⟨hw _, ?_⟩
    unfold tYes
    refine if_pos rfl |>.mpr (he a hm _ _ s fun t H2 s2 ht h2 => ?_)
    have hD2 := s2 _ _ hDl
    have htD : t ≠ D := fun z => by rw [z, hDl] at ht; cases ht
    refine ⟨_, hD2, small1000 (by rw [List.length_map]; omega), ps ++ [t], (s.trans s2).unseen hD, by rw [upd_same, List.map_append]; rfl, by rw [List.length_append, hpl]; rfl, ?_⟩
    rw [take_more ha]
    refine Paired.snoc (hP.mono fun p b h => ?_) ⟨by rw [upd_ne htD]; exact h2, s.free ht⟩
    have hpD : p ≠ D := fun z => by
      have h1 := h.1
      rw [z, hDl] at h1
      exact ho _ _ (Option.some.inj h1).symm
    exact ⟨by rw [upd_ne hpD]; exact s2 _ _ h.1, h.2⟩
  · obtain ⟨ps, s, hDl, _, hP⟩ := h
    rw [ln, List.take_length] at hP
    exact hd ps H s hDl hP
/-- a set comprehension of whole numbers whose parts touch nothing -/
theorem sc_am {wd : World} {α : Type} {J : It} {G : Hp → Prop} {as : List α} {g : α → V} (w : Walk J (as.map g).length G (YAt (as.map g))) {te : TE} {vs : List Nat} {σ : St} {H1 : Hp} {D : Addr} {Qd : Hp → Prop} {j : Nat} (f : α → Int)
    (hD : H1 D = none) (hG : ∀ H', Same H1 H' → G H') (hl : as.length ≤ 1000) (hw : ∀ x, wipe ((wipe σ vs).set j (some x)) vs = wipe σ vs)
    (he : ∀ a ∈ as, ∀ H', Same H1 H' → Is te ((wipe σ vs).set j (some (g a))) H' (.int (f a)))
    (hd : ∀ c, c ≤ as.length → Qd (upd H1 D (SetO wd D (fun k => decide (k ∈ as.map f)) c))) :
    ∃ W : Nat → Nat → Hp → Prop, (∃ m, W 0 m (upd H1 D (SetO wd D (fun _ => false) 0))) ∧ ∀ i m H, W i m H →
      (J.stop i H ∧ Qd H) ∨ (J.go i H ∧ ∃ Nx : Hp → Prop, (∀ H', Nx H' → ∃ m', m' < m ∧ W (i + 1) m' H') ∧ ∀ x H', J.yld i H x H' → gName j x (wipe σ vs) H' fun σ2 H2 => wipe σ2 vs = wipe σ vs ∧
        te σ2 H2 fun y H4 => ∃ (c : Int) (S : Int → Bool) (n : Nat), y = .int c ∧ H4 D = some (SetO wd D S n) ∧ n + 1 < scanBound ∧ Nx (upd H4 D (SetO wd D (fun j => S j || decide (j = c)) (if S c = true then n else n + 1)))) := by
  have sm : ∀ o, Same H1 (upd H1 D o) := fun o => same_of_none hD
  have ln : (as.map g).length = as.length := List.length_map _
  refine ⟨fun i m H => m = (as.map g).length - i ∧ i ≤ (as.map g).length ∧ ∃ c, c ≤ i ∧ H = upd H1 D (SetO wd D (fun k => decide (k ∈ (as.take i).map f)) c), ⟨(as.map g).length, by simp, Nat.zero_le _, 0, Nat.le_refl 0, by simp⟩, ?_⟩
  rintro i m H ⟨rfl, hi, c, hc, rfl⟩
  by_cases hlt : i < (as.map g).length
  · refine .inr ⟨w.goes i _ hlt (hG _ (sm _)), fun H => ∃ c, c ≤ i + 1 ∧ H = upd H1 D (SetO wd D (fun k => decide (k ∈ (as.take (i + 1)).map f)) c), fun H' p' => ⟨(as.map g).length - (i + 1), by omega, rfl, hlt, p'⟩, fun x H' y => ?_⟩
    obtain ⟨rfl, hx⟩ := w.yields i _ x H' hlt (hG _ (sm _)) y
    rw [List.getElem?_map] at hx
    obtain ⟨a, ha, rfl⟩ := Option.map_eq_some_iff.mp hx
    refine ⟨hw _, he a (List.mem_of_getElem? ha) _ (sm _) _ ⟨f a, _, c, rfl, upd_same, by unfold scanBound; omega, (if decide (f a ∈ (as.take i).map f) = true then c else c + 1), ?_, ?_⟩⟩
    · split <;> omega
    · rw [upd_upd]
      have : (fun j => decide (j ∈ (as.take i).map f) || decide (j = f a)) = fun k => decide (k ∈ (as.take (i + 1)).map f) := by
        funext k
        rw [take_more ha, List.map_append]
        simp [List.mem_append]
      rw [this]
  · have e : i = (as.map g).length := by omega
    subst e
    refine .inl ⟨w.stops _ (hG _ (sm _)), ?_⟩
    rw [ln, List.take_length]
    exact hd c (by omega)
theorem lv_of {am : Am} {ns : List Int} (h : ns.Pairwise (· < ·)) (hm : ∀ k : Int, k ∈ ns ↔ decide (k ∈ am.map (·.2)) = true) : IsLv am ns.reverse :=
  ⟨List.pairwise_reverse.mpr h, fun z => by rw [List.mem_reverse, hm z, decide_eq_true_iff]⟩
theorem tups_of {H1 H' : Hp} {f : Int → List Str} {ps : List Addr} {ns : List Int} (h : Paired (fun p z => H' p = some (.tup ((f z).map V.str)) ∧ H1 p = none) ps ns) : TupsAt H' (ps.map V.ref) (ns.map f) := by
  induction h with
  | nil => exact .nil
  | cons a _ ih => exact .cons a.1 ih
theorem new_of {H1 H' : Hp} {β : Type} {o : β → HO} {ps : List Addr} {ns : List β} (h : Paired (fun p z => H' p = some (o z) ∧ H1 p = none) ps ns) : ∀ v ∈ ps.map V.ref, ∃ t, v = .ref t ∧ H1 t = none := by
  induction h with
  | nil => exact fun _ h => nomatch h
  | @cons p z _ _ a _ ih =>
    intro v hv
    rcases List.mem_cons.mp hv with rfl | hv
    · exact ⟨p, rfl, a.2⟩
    · exact ih v hv
theorem ex_srt (a : Am) : ∃ sa : Am, sa.Perm a ∧ srt sa := by
  refine ⟨a.mergeSort (fun p q => !ltCps q.1.cps.toList p.1.cps.toList), List.mergeSort_perm _ _, sortedS_of_pairwise _ ?_⟩
  have h := List.pairwise_mergeSort (le := fun p q : Str × Int => !ltCps q.1.cps.toList p.1.cps.toList) (fun x y z h1 h2 => by
    rw [Bool.not_eq_true'] at h1 h2 ⊢
    exact leS_trans (x := x.1) (y := y.1) (z := z.1) h1 h2) (fun x y => by
    rw [ltCps_eq, ltCps_eq]
    by_cases h : y.1.cps.toList < x.1.cps.toList
    · have : ¬ x.1.cps.toList < y.1.cps.toList := List.lt_asymm h
      simp [this]
    · simp [h]) a
  unfold amS
  rw [List.pairwise_map]
  exact h.imp fun {x y} hxy => by rwa [Bool.not_eq_true'] at hxy
theorem TupsAt.put {H : Hp} {vs : List V} {l : List (List Str)} (h : TupsAt H vs l) {r : Addr} {xs ys : List V} (hr : H r = some (.lst xs)) : TupsAt (upd H r (.lst ys)) vs l := by
  induction h with
  | nil => exact .nil
  | @cons t ws _ _ a _ ih => exact .cons (by rw [upd_ne (fun z => by rw [z, hr] at a; cases a)]; exact a) ih
end L2

namespace L2
open PySem PySem.Spec PyProof.Rows
/-- a def that may raise, asked only where it doesn't -/
theorem passF {X : Cx} : Passes (L2.CX X.prog X.w) X E0 := by
  intro pins σ H s e s' I c
  obtain ⟨_, _, _, _, _, _, _, _, _, _, _, _, z⟩ := c
  exact False.elim z
end L2

namespace OwnIn
open PySem PySem.SeqAt PySem.W
open AutoSeq1 (wpAny_loadPart')
open MeetsSeq MeetsSeq2 MeetsSeq3 SeqRoads2
section
variable {prog : Program} {w : World} {A : Around} {R : Result → Shared → Prop}
/-- a built-in's body has ended, or goes on -/
abbrev FinOf (prog : Program) (w : World) (A : Around) (R : Result → Shared → Prop) : Fin → Shared → Prop := fun fin s' => match fin with
  | .done f => R (.ok f) s'
  | .again c' => c'.quiet = true ∧ codeAny (model prog w) A c' R s'
theorem call_here {T : String} {name : Str} {id : String} {B : Builtin} {u : Value} {us : List Value} {E : Value → Shared → Prop} {Q : Value → Shared → Prop} {s : Shared} (sl : Slot T name id) (hT : s.TypeIs u T) (en : entryFor table id = some B) (ar : argsOk id ⟨u :: us, []⟩)
    (h : wpAny (model prog w) A.in1 (B ⟨u :: us, []⟩) (FinOf prog w A (wants Q E)) (fun e s' => wants Q E (.error e) s') s) : wpAny (model prog w) A (call (.builtin id) (u :: us)) Q E s := by
  refine wpAny_call (codeAny_call_builtin sl.plain en (sl.check _ _ _ _ _ _ _ _ hT ar ?_))
  refine wpAny_mono h (fun fin s' q => ?_) fun _ _ e => e
  cases fin <;> exact q
/-- at each turn the list is read anew: N items, none of them equal to x -/
def ListC (prog : Program) (w : World) (A : Around) (E : Value → Shared → Prop) (l : Addr) (x : Value) (N : Nat) (I : Nat → Shared → Prop) : Prop :=
  ∀ i s, I i s → ∃ (items : Array Value) (n : Nat) (dd : Option Addr) (sl : Array (Option Value)), s.heap.get? l = some { cls := .type "list", dict := dd, data := .seq items n, slots := sl } ∧ items.size = N ∧
    ∀ (h1 : i < items.size), wpAny (model prog w) A.in1 (eqBool items[i] x) (fun r s' => r = false ∧ I (i + 1) s') E s
theorem contains_loopG (l : Addr) (x : Value) (N : Nat) (I : Nat → Shared → Prop) (hl : ListC prog w A (fun e s' => R (.error e) s') l x N I)
    (fin : ∀ s, I N s → R (.ok (.ret (.bool false))) s) (k : Nat) :
    ∀ i : Nat, N - i = k → i ≤ N → ∀ s, I i s →
      wpAny (model prog w) A.in1 (Builtin.«list.__contains__.loop» ⟨[.ref l, x, rawInt i], []⟩) (FinOf prog w A R) (fun e s' => R (.error e) s') s := by
  induction k with
  | zero =>
    intro i hk hi s h
    obtain ⟨items, n, dd, sl, hl1, hs1, _⟩ := hl _ _ h
    have hi' : i = N := by omega
    have hR : R (.ok (.ret (.bool false))) s := fin s (hi' ▸ h)
    obtain ⟨hp, g, d, tk, os⟩ := s
    wp_walk using wpAny_loadPart' hl1
    have hi1 : items[((i : Nat) : Int).toNat]? = none := by simp; omega
    rw [hi1]
    wp_walk
    exact hR
  | succ k ih =>
    intro i hk hi s h
    obtain ⟨items, n, dd, sl, hl1, hs1, turn⟩ := hl _ _ h
    have hlt : i < items.size := by omega
    have ht := turn hlt
    obtain ⟨hp, g, d, tk, os⟩ := s
    wp_walk using wpAny_loadPart' hl1
    have hi1 : items[((i : Nat) : Int).toNat]? = some items[i] := by simp [hlt]
    have hc : ((i : Int) + 1) = ((i + 1 : Nat) : Int) := by omega
    rw [hi1]
    refine wpAny_bind (wpAny_mono ht (fun r s2 h2 => ?_) fun _ _ x => x)
    obtain ⟨hr, h2⟩ := h2
    subst hr
    have hrec := ih (i + 1) (by omega) (by omega) s2 h2
    obtain ⟨hp2, g2, d2, tk2, os2⟩ := s2
    wp_walk
    rw [hc]
    exact ⟨plainId_quiet plain_contains_loop _, codeAny_builtin entry_contains_loop (by
      rw [Around.under_plainId plain_contains_loop _]
      exact hrec)⟩
theorem list_containsG (l : Addr) (x : Value) (N : Nat) (I : Nat → Shared → Prop) (hl : ListC prog w A (fun e s' => R (.error e) s') l x N I)
    (fin : ∀ s, I N s → R (.ok (.ret (.bool false))) s) {s : Shared} (h : I 0 s) :
    wpAny (model prog w) A.in1 (Builtin.«list.__contains__» ⟨[.ref l, x], []⟩) (FinOf prog w A R) (fun e s' => R (.error e) s') s := by
  obtain ⟨items, n, dd, sl, hl1, hs1, _⟩ := hl _ _ h
  have hrec := contains_loopG (A := A) (R := R) l x N I hl fin _ 0 rfl (Nat.zero_le _) s h
  obtain ⟨hp, g, d, tk, os⟩ := s
  wp_walk using wpAny_loadPart' hl1
  exact ⟨plainId_quiet plain_contains_loop _, codeAny_builtin entry_contains_loop (by
    rw [Around.under_plainId plain_contains_loop _]
    exact hrec)⟩
end
section
variable {prog : Program} {w : World} {A : Around} {E : Value → Shared → Prop} {s : Shared}
theorem in_listG {l : Addr} {x : Value} {N : Nat} {Q : Value → Shared → Prop} (I : Nat → Shared → Prop) (hl : ListC prog w A E l x N I)
    (fin : ∀ s, I N s → Q (.bool false) s) (h : I 0 s) : wpAny (model prog w) A (compareOp .In x (.ref l)) Q E s := by
  obtain ⟨items, n, dd, sl, hl1, hs1, _⟩ := hl _ _ h
  show wpAny _ A (do return .bool (← contains (.ref l) x)) Q E s
  refine wpAny_bind (wpAny_contains_slot ⟨_, hl1, rfl⟩ F.slot_list_contains (wpAny_mono (call_here (Q := fun v s' => v = .bool false ∧ Q (.bool false) s') F.slot_list_contains ⟨_, hl1, rfl⟩ F.entry_list_contains (F.args_list_contains_2 _ _) ?_) (fun v s' hv => ?_) fun _ _ e => e))
  · exact list_containsG (R := wants (fun v s' => v = .bool false ∧ Q (.bool false) s') E) l x N I hl (fun s' q => ⟨rfl, fin s' q⟩) h
  · obtain ⟨rfl, hq⟩ := hv
    exact wpAny_truthy_bool (wpAny_pure hq)
end
section
variable {prog : Program} {w : World} {A : Around} {E : Value → Shared → Prop} {s : Shared} {K : Frag} {b C g : Addr} {ob : Obj} {od : Option Obj}
/-- u == b, b an instance with its own __eq__ at g, which is asked behind a refusal -/
theorem rc_own {u : Value} {Q : Value → Shared → Prop} {T id : String} (hu : A.units < cLine) (X : K.In s.heap) (J : InstAt s.heap b ob C od) (hT : s.TypeIs u T) (slot : Slot T "__eq__" id)
    (hc : wpAny (model prog w) A (call (.builtin id) [u, .ref b]) (fun v s' => v = .notImplemented ∧ s' = s) E s) (h1 : oneThing? .Eq u (.ref b) = none) (hsub : subIn K (.ref C) (.type T) = some false)
    (hs : findIn K (.ref C) "__eq__" = some (some (.ref g))) (hf : isFn K (.ref g) = true)
    (h : wpAny (model prog w) A (call (.ref g) [.ref b, u]) (fun v s' => ∃ c, v = .bool c ∧ Q (.bool c) s') E s) : wpAny (model prog w) A (richCompare .Eq u (.ref b)) Q E s := by
  have two : wpAny (model prog w) A (tryCompare (.ref b) "__eq__" u) (fun r s' => ∃ c, r = some (.bool c) ∧ Q (.bool c) s') E s := by
    unfold tryCompare
    refine wpAny_bind (ifBound_K X J hs hf (wpAny_mono h (fun v s' hv => ?_) fun _ _ e => e))
    obtain ⟨c, rfl, q⟩ := hv
    exact wpAny_pure ⟨c, rfl, q⟩
  have one : wpAny (model prog w) A (tryCompare u "__eq__" (.ref b)) (fun r s' => r = none ∧ s' = s) E s :=
    wpAny_tryCompare_declines hT slot (wpAny_mono hc (fun v s' z => ⟨z.1, rfl, z.2⟩) fun _ _ e => e)
  simp only [richCompare, cmpInfo_Eq, h1]
  refine wpAny_holding (wpAny_bind (wpAny_cRoomFor hu ?_))
  refine wpAny_bind (wpAny_typeOf hT (wpAny_bind (J.type.here ?_)))
  split
  · refine wpAny_bind ((looks_subIn X hsub).here ?_)
    simp only [Bool.false_eq_true, if_false, Bool.not_false, if_true]
    refine wpAny_bind (m := tryCompare u _ (.ref b)) (wpAny_mono one (fun r s1 z => ?_) fun _ _ e => e)
    obtain ⟨z1, z2⟩ := z
    subst z1
    subst z2
    refine wpAny_bind (m := tryCompare (.ref b) _ u) (wpAny_mono two (fun r s2 z => ?_) fun _ _ e => e)
    obtain ⟨c, z1, q⟩ := z
    subst z1
    exact wpAny_pure q
  · rename_i q
    exact absurd (by simp) q
theorem eqBool_own {u : Value} {Q : Bool → Shared → Prop} (hne : (u == Value.ref b) = false) (h : wpAny (model prog w) A (richCompare .Eq u (.ref b)) (fun v s' => ∃ c, v = .bool c ∧ Q c s') E s) : wpAny (model prog w) A (eqBool u (.ref b)) Q E s := by
  have fin : wpAny (model prog w) A (richCompare .Eq u (.ref b) >>= fun v => truthOfDropped v) Q E s := wpAny_bind (wpAny_mono h (fun v s' hv => by
    obtain ⟨c, rfl, q⟩ := hv
    exact wpAny_truthy_bool q) fun _ _ e => e)
  unfold eqBool
  refine wpAny_holding ?_
  refine wpAny_ite_split (fun hab => by rw [hne] at hab; cases hab) (fun _ => ?_)
  cases u <;> exact fin
/-! ### built-in kinds refuse -/
theorem dec_none : wpAny (model prog w) A (call (.builtin "NoneType.__eq__") [.none, .ref b]) (fun v s' => v = .notImplemented ∧ s' = s) E s :=
  call_gives F.slot_NoneType_eq rfl F.entry_NoneType_eq (F.args_NoneType_eq_2 _ _) (NoneType___eq___none_ref_0 b) ⟨rfl, rfl⟩
theorem dec_int {i : Int} {t : Tok} (X : K.In s.heap) (hb : s.heap.get? b = some ob) (hd : ∀ i t, ob.data ≠ .prim (.int i t)) : wpAny (model prog w) A (call (.builtin "int.__eq__") [.int i t, .ref b]) (fun v s' => v = .notImplemented ∧ s' = s) E s := by
  refine call_here F.slot_int_eq rfl F.entry_int_eq (F.args_int_eq_2 _ _) ?_
  obtain ⟨hp, g, d, tk, os⟩ := s
  wp_walk using wpAny_loadPart' hb
  split
  · rename_i q
    exact absurd q (hd _ _)
  · wp_walk
    first | rfl | exact ⟨rfl, rfl⟩ | exact ⟨_, rfl, rfl, rfl⟩
theorem dec_str {i : Str} {t : Tok} (X : K.In s.heap) (hb : s.heap.get? b = some ob) (hd : ∀ i t, ob.data ≠ .prim (.str i t)) : wpAny (model prog w) A (call (.builtin "str.__eq__") [.str i t, .ref b]) (fun v s' => v = .notImplemented ∧ s' = s) E s := by
  refine call_here F.slot_str_eq rfl F.entry_str_eq (F.args_str_eq_2 _ _) ?_
  obtain ⟨hp, g, d, tk, os⟩ := s
  wp_walk using wpAny_loadPart' hb
  split
  · rename_i q
    exact absurd q (hd _ _)
  · wp_walk
    first | rfl | exact ⟨rfl, rfl⟩ | exact ⟨_, rfl, rfl, rfl⟩
theorem dec_list {l : Addr} (X : K.In s.heap) (J : InstAt s.heap b ob C od) (hl : s.TypeIs (.ref l) "list") (hsub : subIn K (.ref C) (.type "list") = some false) : wpAny (model prog w) A (call (.builtin "list.__eq__") [.ref l, .ref b]) (fun v s' => v = .notImplemented ∧ s' = s) E s := by
  refine call_here F.slot_list_eq hl F.entry_list_eq (F.args_list_eq_2 _ _) ?_
  have K2 := looks_subIn (M := model prog w) X hsub
  obtain ⟨hp, g, d, tk, os⟩ := s
  have hb := J.at_
  wp_walk using wpAny_loadPart' hb
  rw [J.cls]
  refine K2.here ?_
  wp_walk
  first | rfl | exact ⟨rfl, rfl⟩ | exact ⟨_, rfl, rfl, rfl⟩
theorem dec_tuple {l : Addr} (X : K.In s.heap) (J : InstAt s.heap b ob C od) (hl : s.TypeIs (.ref l) "tuple") (hsub : subIn K (.ref C) (.type "tuple") = some false) : wpAny (model prog w) A (call (.builtin "tuple.__eq__") [.ref l, .ref b]) (fun v s' => v = .notImplemented ∧ s' = s) E s := by
  refine call_here F.slot_tuple_eq hl F.entry_tuple_eq (F.args_tuple_eq_2 _ _) ?_
  have K2 := looks_subIn (M := model prog w) X hsub
  obtain ⟨hp, g, d, tk, os⟩ := s
  have hb := J.at_
  wp_walk using wpAny_loadPart' hb
  rw [J.cls]
  refine K2.here ?_
  wp_walk
  first | rfl | exact ⟨rfl, rfl⟩ | exact ⟨_, rfl, rfl, rfl⟩
theorem dec_dict {l : Addr} (X : K.In s.heap) (J : InstAt s.heap b ob C od) (hl : s.TypeIs (.ref l) "dict") (hsub : subIn K (.ref C) (.type "dict") = some false) : wpAny (model prog w) A (call (.builtin "dict.__eq__") [.ref l, .ref b]) (fun v s' => v = .notImplemented ∧ s' = s) E s := by
  refine call_here F.slot_dict_eq hl F.entry_dict_eq (F.args_dict_eq_2 _ _) ?_
  have K2 := looks_subIn (M := model prog w) X hsub
  obtain ⟨hp, g, d, tk, os⟩ := s
  have hb := J.at_
  wp_walk using wpAny_loadPart' hb
  rw [J.cls]
  refine K2.here ?_
  wp_walk
  first | rfl | exact ⟨rfl, rfl⟩ | exact ⟨_, rfl, rfl, rfl⟩
end
end OwnIn
namespace L2
open PySem PySem.Spec PyProof.Rows
/-- a value that knows no own __eq__ -/
inductive Dull (H : Hp) : V → Prop
  | non : Dull H .non
  | int (i : Int) : Dull H (.int i)
  | str (z : Str) : Dull H (.str z)
  | lst {p : Addr} {xs : List V} (h : H p = some (.lst xs)) : Dull H (.ref p)
  | tup {p : Addr} {xs : List V} (h : H p = some (.tup xs)) : Dull H (.ref p)
  | dic {p : Addr} {es : List (Key × V)} (h : H p = some (.dK es)) : Dull H (.ref p)
/-- a class under none of these kinds -/
structure EqN (K : PySem.W.Frag) (C : Addr) : Prop where
  none : PySem.W.subIn K (.ref C) (.type "NoneType") = some false
  int : PySem.W.subIn K (.ref C) (.type "int") = some false
  str : PySem.W.subIn K (.ref C) (.type "str") = some false
  list : PySem.W.subIn K (.ref C) (.type "list") = some false
  tuple : PySem.W.subIn K (.ref C) (.type "tuple") = some false
  dict : PySem.W.subIn K (.ref C) (.type "dict") = some false
/-- x in [..], x with its own __eq__, which tells nothing there equal -/
def rInOwn (C : Addr) (sp : Sp) (E : XK) : R2 := fun x y H Q => ∃ a dx fs p xs, x = .ref a ∧ H a = some (.ins C dx fs) ∧ y = .ref p ∧ H p = some (.lst xs) ∧ (∀ v ∈ xs, Dull H v ∧ ∀ Q' : VK, Q' (.bl false) H → sp [.ref a, v] H Q' E) ∧ Q (.bl false) H
theorem op_inOwn {X : Cx} {CX : CXT} {k : Nat} {C g : Addr} {fd : FuncData} {ps : List Str} {sp : Sp} {E : XK} (hs : PySem.W.findIn X.K (.ref C) "__eq__" = some (some (.ref g))) (hf : PySem.W.isFn X.K (.ref g) = true) (hn : EqN X.K C)
    (FO : FnOk X.prog X.w X.K X.mg X.base CX k g fd ps sp) (hr : Room (k + 1) X.A) (hb : Binds X.K fd ps []) (hx : Passes CX X E) : OpR X (compareOp .In) (rInOwn C sp E) := by
  intro pins s σ H x y v u Q I rx ry h
  obtain ⟨a, dx, fs, p, xs, rfl, ea, rfl, ep, hv, q⟩ := h
  obtain rfl : v = Value.ref a := rx
  obtain rfl : u = Value.ref p := ry
  refine OwnIn.in_listG (N := xs.length) (fun _ s' => Inv X pins σ H s') (fun i s' I' => ?_) (fun s' I' => ⟨.bl false, H, I', rfl, q⟩) I
  obtain ⟨_, its, n, vr, hlen, hl⟩ := I'.lstM ep
  refine ⟨its.toArray, n, none, #[], hl, by simp [hlen], fun h1 => ?_⟩
  have h2 : i < xs.length := by simpa [hlen] using h1
  obtain ⟨du, hsp⟩ := hv xs[i] (List.getElem_mem h2)
  have rel : RelV xs[i] its.toArray[i] := by
    obtain ⟨u', e', r'⟩ := vr.get (List.getElem?_eq_getElem h2)
    have e2 : its.toArray[i] = u' := by
      have e3 : its.toArray[i]? = some u' := by simpa using e'
      rw [Array.getElem?_eq_getElem h1] at e3
      exact Option.some.inj e3
    rw [e2]
    exact r'
  generalize its.toArray[i] = u at rel ⊢
  generalize xs[i] = z at rel du hsp
  obtain ⟨_, O, _, _, _, _⟩ := ins_get I'.hok ea
  obtain ⟨_, J, _⟩ := O.look
  have hun := hr.in1.un
  have hlen' : ([Value.ref a, u] ++ ([] : List Value)).length = ps.length := by
    rw [List.append_nil, ← (show Vals [V.ref a, z] [Value.ref a, u] from .cons rfl (.cons rel .nil)).length]
    exact FO.len _ _ _ _ (hsp (fun _ _ => True) trivial)
  have ask : wpAny (model X.prog X.w) X.A.in1 (call (.ref g) [.ref a, u]) (fun v s'' => ∃ c, v = .bool c ∧ (c = false ∧ Inv X pins σ H s'')) X.xe s' := by
    refine wpAny_call (codeAny_mono (FO.run X.A.in1 X.stack s' H ⟨[.ref a, u], []⟩ ([.ref a, u] ++ []) [.ref a, z] (fun v H' => v = .bl false ∧ H' = H) E hr.in1 I'.env0.in1 (hb s' [.ref a, u] I'.kIn hlen') (by rw [List.append_nil]; exact .cons rfl (.cons rel .nil)) (hsp _ ⟨rfl, rfl⟩)) fun r s'' hq => ?_)
    cases r with
    | error er => exact hx pins σ H s' er s'' I' hq
    | ok fl =>
      cases fl with
      | ret zz =>
        obtain ⟨z', H', I'', rz, rfl, rfl⟩ := I'.after hq
        cases (show zz = Value.bool false from rz)
        exact ⟨false, rfl, rfl, I''⟩
      | next => exact False.elim hq
      | brk => exact False.elim hq
      | cont => exact False.elim hq
  cases du with
  | non =>
    obtain rfl : u = Value.none := rel
    exact OwnIn.eqBool_own rfl (OwnIn.rc_own (Q := fun v s'' => ∃ c, v = Value.bool c ∧ c = false ∧ Inv X pins σ H s'') (by omega) I'.kIn J rfl F.slot_NoneType_eq OwnIn.dec_none rfl hn.none hs hf (wpAny_mono ask (fun v s'' hv => by obtain ⟨c, rfl, e⟩ := hv; exact ⟨c, rfl, c, rfl, e⟩) fun _ _ e => e))
  | int j =>
    obtain ⟨t, rfl⟩ := rel
    exact OwnIn.eqBool_own rfl (OwnIn.rc_own (Q := fun v s'' => ∃ c, v = Value.bool c ∧ c = false ∧ Inv X pins σ H s'') (by omega) I'.kIn J rfl F.slot_int_eq (OwnIn.dec_int I'.kIn J.at_ (fun _ _ => nofun)) rfl hn.int hs hf (wpAny_mono ask (fun v s'' hv => by obtain ⟨c, rfl, e⟩ := hv; exact ⟨c, rfl, c, rfl, e⟩) fun _ _ e => e))
  | str j =>
    obtain ⟨t, rfl⟩ := rel
    exact OwnIn.eqBool_own rfl (OwnIn.rc_own (Q := fun v s'' => ∃ c, v = Value.bool c ∧ c = false ∧ Inv X pins σ H s'') (by omega) I'.kIn J rfl F.slot_str_eq (OwnIn.dec_str I'.kIn J.at_ (fun _ _ => nofun)) rfl hn.str hs hf (wpAny_mono ask (fun v s'' hv => by obtain ⟨c, rfl, e⟩ := hv; exact ⟨c, rfl, c, rfl, e⟩) fun _ _ e => e))
  | lst h =>
    rename_i l xs'
    obtain rfl : u = Value.ref l := rel
    obtain ⟨_, its2, n2, _, _, hl2⟩ := I'.lstM h
    have ne : l ≠ a := fun e => by subst e; rw [h] at ea; cases ea
    exact OwnIn.eqBool_own (by simpa using ne) (OwnIn.rc_own (Q := fun v s'' => ∃ c, v = Value.bool c ∧ c = false ∧ Inv X pins σ H s'') (by omega) I'.kIn J ⟨_, hl2, rfl⟩ F.slot_list_eq (OwnIn.dec_list I'.kIn J ⟨_, hl2, rfl⟩ hn.list) (oneThing_ref _ _ _) hn.list hs hf (wpAny_mono ask (fun v s'' hv => by obtain ⟨c, rfl, e⟩ := hv; exact ⟨c, rfl, c, rfl, e⟩) fun _ _ e => e))
  | tup h =>
    rename_i l xs'
    obtain rfl : u = Value.ref l := rel
    obtain ⟨its2, _, hT, _⟩ := I'.tuple (SqT.of h)
    obtain ⟨⟨cls2, dd2, data2, sl2⟩, ho2, hc2, n2, hd2⟩ := id hT
    simp only at hc2 hd2
    subst hc2
    have ne : l ≠ a := fun e => by subst e; rw [h] at ea; cases ea
    exact OwnIn.eqBool_own (by simpa using ne) (OwnIn.rc_own (Q := fun v s'' => ∃ c, v = Value.bool c ∧ c = false ∧ Inv X pins σ H s'') (by omega) I'.kIn J ⟨_, ho2, rfl⟩ F.slot_tuple_eq (OwnIn.dec_tuple I'.kIn J ⟨_, ho2, rfl⟩ hn.tuple) (oneThing_ref _ _ _) hn.tuple hs hf (wpAny_mono ask (fun v s'' hv => by obtain ⟨c, rfl, e⟩ := hv; exact ⟨c, rfl, c, rfl, e⟩) fun _ _ e => e))
  | dic h =>
    rename_i l xs'
    obtain rfl : u = Value.ref l := rel
    obtain ⟨_, _, vs, _, o, es, ep, h1, h2, _⟩ := (show ObjOk X.prog X.w H s'.heap l (.dK xs') from I'.hok l _ h)
    have hT : s'.TypeIs (.ref l) "dict" := ⟨o, h1, h2.1⟩
    have ne : l ≠ a := fun e => by subst e; rw [h] at ea; cases ea
    exact OwnIn.eqBool_own (by simpa using ne) (OwnIn.rc_own (Q := fun v s'' => ∃ c, v = Value.bool c ∧ c = false ∧ Inv X pins σ H s'') (by omega) I'.kIn J hT F.slot_dict_eq (OwnIn.dec_dict I'.kIn J hT hn.dict) (oneThing_ref _ _ _) hn.dict hs hf (wpAny_mono ask (fun v s'' hv => by obtain ⟨c, rfl, e⟩ := hv; exact ⟨c, rfl, c, rfl, e⟩) fun _ _ e => e))
end L2

namespace L2
open PySem PySem.Spec PyProof.Rows
/-! ### what agrees tells -/
inductive TD
  | ag (c : Bool)
  | un (ws : List Str)
def TD.d : TD → PyData
  | .ag c => .list [.str "agrees", .bool c]
  | .un ws => .list [.str "unlike", tD ws]
def TDAt (H : Hp) (p : Addr) : TD → Prop
  | .ag c => H p = some (.lst [.str "agrees", .bl c])
  | .un ws => ∃ t, H p = some (.lst [.str "unlike", .ref t]) ∧ H t = some (.tup (ws.map V.str))
def TD.Of (a b : Am) (t : TD) : Prop := (amS a = amS b ∧ ∃ na nb, IsLv a na ∧ IsLv b nb ∧ t = .ag (decide (rks a na = rks b nb))) ∨ (amS a ≠ amS b ∧ t = .un (amS b))
theorem TD.Of.one {a b : Am} {t u : TD} (h : t.Of a b) (k : u.Of a b) : t = u := by
  rcases h with ⟨h, na, nb, l1, l2, rfl⟩ | ⟨h, rfl⟩
  · rcases k with ⟨_, ma, mb, m1, m2, rfl⟩ | ⟨k, _⟩
    · rw [isLv_one l1 m1, isLv_one l2 m2]
    · exact absurd h k
  · rcases k with ⟨k, _⟩ | ⟨_, rfl⟩
    · exact absurd k h
    · rfl
theorem TDAt.up {H H' : Hp} {p : Addr} {t : TD} (h : TDAt H p t) (e : Same H H') : TDAt H' p t := by
  cases t with
  | ag c => exact e _ _ h
  | un ws =>
    obtain ⟨t, h1, h2⟩ := h
    exact ⟨t, e _ _ h1, e _ _ h2⟩
theorem TDAt.dp {K : PySem.W.Frag} {H : Hp} {p : Addr} {t : TD} (h : TDAt H p t) : Dp K H (.ref p) t.d := by
  cases t with
  | ag c => exact .lst (SqL.of h) (.cons (.str _) (.cons (.bl _) .nil))
  | un ws =>
    obtain ⟨t, h1, h2⟩ := h
    exact .lst (SqL.of h1) (.cons (.str _) (.cons (dp_tD h2) .nil))
theorem TD.eqv_self (t : TD) : PyData.eqv t.d t.d = true := by
  cases t with
  | ag c => cases c <;> decide
  | un ws =>
    show PyData.eqv (.list [.str "unlike", tD ws]) (.list [.str "unlike", tD ws]) = true
    rw [PyData.eqv, PyData.eqvAll, PyData.eqvAll, PyData.eqvAll, eqv_tD, PyData.eqv]
    simp
theorem TD.eqv_two (t u : TD) : PyData.eqv (.list [t.d, u.d]) (.list [t.d, u.d]) = true := by
  rw [PyData.eqv, PyData.eqvAll, PyData.eqvAll, PyData.eqvAll, TD.eqv_self, TD.eqv_self]
  rfl
def TD.ok : TD → Prop
  | .ag _ => True
  | .un ws => ∀ w ∈ ws, good w = true
theorem TD.Of.ok {a b : Am} {t : TD} (h : t.Of a b) (k : AmOk b) : t.ok := by
  rcases h with ⟨_, _, _, _, _, rfl⟩ | ⟨_, rfl⟩
  · trivial
  · exact k.gd
theorem TD.lay {t : TD} (h : t.ok) : t.d.canLay0 = true ∧ t.d.depth ≤ 2 := by
  cases t with
  | ag c =>
    refine ⟨?_, ?_⟩
    · show PyData.canLayAll0 [.str "agrees", .bool c] = true
      cases c <;> decide +kernel
    · show PyData.depthAll [.str "agrees", .bool c] + 1 ≤ 2
      cases c <;> decide +kernel
  | un ws =>
    obtain ⟨h1, h2⟩ := lay_tD fun w hw => good_ok (h w hw)
    refine ⟨?_, ?_⟩
    · show (PyData.canLay0 (.str "unlike") && (PyData.canLay0 (tD ws) && PyData.canLayAll0 [])) = true
      rw [h1]
      decide +kernel
    · show max (PyData.depth (.str "unlike")) (max (PyData.depth (tD ws)) (PyData.depthAll [])) + 1 ≤ 2
      rw [h2]
      decide +kernel
theorem TD.shaped {t : TD} (h : t.ok) : SeqAt.shaped t.d = true := by
  obtain ⟨h1, h2⟩ := TD.lay h
  unfold SeqAt.shaped
  rw [Bool.and_eq_true]
  exact ⟨h1, decide_eq_true (by omega)⟩
theorem TD.shaped2 {t u : TD} (h : t.ok) (k : u.ok) : SeqAt.shaped (.list [t.d, u.d]) = true := by
  obtain ⟨h1, h2⟩ := TD.lay h
  obtain ⟨k1, k2⟩ := TD.lay k
  unfold SeqAt.shaped
  rw [Bool.and_eq_true]
  refine ⟨?_, decide_eq_true ?_⟩
  · show (PyData.canLay0 t.d && (PyData.canLay0 u.d && PyData.canLayAll0 [])) = true
    rw [h1, k1]
    rfl
  · show max (PyData.depth t.d) (max (PyData.depth u.d) (PyData.depthAll [])) + 1 ≤ 64
    have : PyData.depthAll [] = 0 := rfl
    omega
theorem dp_two {K : PySem.W.Frag} {H : Hp} {p p1 p2 : Addr} {t u : TD} (h : H p = some (.lst [.ref p1, .ref p2])) (h1 : TDAt H p1 t) (h2 : TDAt H p2 u) : Dp K H (.ref p) (.list [t.d, u.d]) := .lst (SqL.of h) (.cons h1.dp (.cons h2.dp .nil))
theorem due_of {H : Hp} {Q : VK} {E : XK} {g n : Addr} {a b sa sb : Am} (hg : H g = some (.dK (amK a))) (hn : H n = some (.dK (amK b))) (oka : AmOk a) (okb : AmOk b) (pa : sa.Perm a) (ra : srt sa) (pb : sb.Perm b) (rb : srt sb)
    (q : ∀ (t : TD) (p : Addr) (H' : Hp), t.Of sa sb → Same H H' → H p = none → TDAt H' p t → Q (.ref p) H') : spDue [.ref g, .ref n] H Q E := by
  refine ⟨g, n, a, b, rfl, hg, hn, oka, okb, fun ta tb pta rta ptb rtb => ?_⟩
  obtain rfl := srt_one oka.nd ra rta pa pta
  obtain rfl := srt_one okb.nd rb rtb pb ptb
  refine ⟨fun e p H' na nb l1 l2 s hp hp' => q _ p H' (.inl ⟨e, na, nb, l1, l2, rfl⟩) s hp hp', fun e p t H' s hp ht ht' hp' => q _ p H' (.inr ⟨e, rfl⟩) s hp ⟨t, hp', by rw [← amN_S]; exact ht'⟩⟩
theorem ix_listF {X : Cx} {K : PySem.W.Frag} (hk : X.K = K) : IxR X (rIxL K) := by subst hk; exact ix_list
/-- what isinstance says of plain values and the class at C -/
structure KitN (K : PySem.W.Frag) (C : Addr) : Prop where
  none : PySem.W.kitOne K (.type "NoneType") (.ref C) = some false
  int : PySem.W.kitOne K (.type "int") (.ref C) = some false
  str : PySem.W.kitOne K (.type "str") (.ref C) = some false
  list : PySem.W.kitOne K (.type "list") (.ref C) = some false
  tuple : PySem.W.kitOne K (.type "tuple") (.ref C) = some false
  dict : PySem.W.kitOne K (.type "dict") (.ref C) = some false
theorem Dull.kit {K : PySem.W.Frag} {H : Hp} {C : Addr} {v : V} (h : Dull H v) (k : KitN K C) : ∃ t, TyX K H v t ∧ PySem.W.kitOne K t (.ref C) = some false := by
  cases h with
  | non => exact ⟨_, .base .non, k.none⟩
  | int i => exact ⟨_, .base (.int i), k.int⟩
  | str z => exact ⟨_, .base (.str z), k.str⟩
  | lst h => exact ⟨_, .base (.lst h), k.list⟩
  | tup h => exact ⟨_, .base (.tup h), k.tuple⟩
  | dic h => exact ⟨_, .base (.dK h), k.dict⟩
/-- o.m(q = b): one place, one name -/
def g2 : List Value → List Value → List Value
  | [a], [b] => [a, b]
  | _, _ => []
def gV2 : List V → List V → List V
  | [a], [b] => [a, b]
  | _, _ => []
theorem kb_two {K : PySem.W.Frag} {x qual p q : Str} {st : Stmt} {f : Addr} {fd : FuncData} (F : Fun K x qual st f fd)
    (h : ∀ (kV doc pm : Value) (an : Option Addr) (cdv ct a b : Value), bindArgs (PySem.W.fnOf x qual (defArgs st) (defBody st) (defScope st) .none kV doc pm an cdv ct) ⟨[a], [(q, b)]⟩ = pure [(p, a), (q, b)]) :
    KBinds K fd [p, q] [q] g2 gV2 := by
  obtain ⟨oc, od, kV, doc, pm, an, cdv, ct, osl, rfl, lk, hcd⟩ := F.ex
  refine ⟨fun s us ws _ hl => ?_, fun r rz => ?_⟩
  · match us, ws, hl with
    | [a], [b], _ => exact .of_eq (h kV doc pm an cdv ct a b)
    | [], _, hl => exact absurd hl (by simp [g2])
    | _ :: _ :: _, _, hl => exact absurd hl (by simp [g2])
    | [_], [], hl => exact absurd hl (by simp [g2])
    | [_], _ :: _ :: _, hl => exact absurd hl (by simp [g2])
  · cases r with
    | nil => exact .nil
    | cons r1 r => cases r with
      | cons _ _ => exact .nil
      | nil => cases rz with
        | nil => exact .nil
        | cons z1 rz => cases rz with
          | cons _ _ => exact .nil
          | nil => exact .cons r1 (.cons z1 .nil)
/-- what a class of the program's own is to plain values -/
theorem cls_pair {K : PySem.W.Frag} {C : Addr} (i : PySem.W.isClsIn K C = true) (t : PySem.W.typeIn K (.ref C) = some (.type "type")) : ((PySem.W.clsIn K C).isSome && PySem.W.typeIn K (.ref C) == some (.type "type")) = true := by
  have h2 : (PySem.W.clsIn K C).isSome = true := i
  rw [h2, t]
  rfl
theorem kit_no {K : PySem.W.Frag} {C : Addr} {T : String} (i : PySem.W.isClsIn K C = true) (t : PySem.W.typeIn K (.ref C) = some (.type "type")) (h : PySem.W.subIn K (.type T) (.ref C) = some false) : PySem.W.kitOne K (.type T) (.ref C) = some false := by
  have e := cls_pair i t
  unfold PySem.W.kitOne
  rw [if_neg (by simp)]
  unfold PySem.W.kitCls
  dsimp only
  rw [if_pos e]
  exact h
theorem kit_self {K : PySem.W.Frag} {C : Addr} : PySem.W.kitOne K (.ref C) (.ref C) = some true := by
  unfold PySem.W.kitOne
  rw [if_pos (by simp)]
theorem first_self {K : PySem.W.Frag} {C : Addr} : PySem.W.notFirst K C (.ref C) = true := by
  unfold PySem.W.notFirst
  simp
theorem exm_me {K : PySem.W.Frag} {S : Addr} (b : PySem.W.subIn K (.ref S) (.type "BaseException") = some true) (i : PySem.W.isClsIn K S = true) (t : PySem.W.typeIn K (.ref S) = some (.type "type")) (m : PySem.W.subIn K (.ref S) (.ref S) = some true) : PySem.W.exmOne K (.ref S) (.ref S) = some true := by
  have e := cls_pair i t
  unfold PySem.W.exmOne
  rw [if_pos (by rw [b]; rfl)]
  unfold PySem.W.kitCls
  dsimp only
  rw [if_pos e]
  exact m
theorem no_sub {K : PySem.W.Frag} {C : Addr} {T : String} {l : List Value} (h : fastBuiltinMro T = some l) (hl : l.contains (.ref C) = false) : PySem.W.subIn K (.type T) (.ref C) = some false := by
  show (fastBuiltinMro T).map (·.contains (.ref C)) = some false
  rw [h]
  show some (l.contains (.ref C)) = some false
  rw [hl]
theorem no_NoneType {K : PySem.W.Frag} {C : Addr} : PySem.W.subIn K (.type "NoneType") (.ref C) = some false := no_sub (l := [.type "NoneType", .type "object"]) (by decide +kernel) (by first | rfl | simp)
theorem no_int {K : PySem.W.Frag} {C : Addr} : PySem.W.subIn K (.type "int") (.ref C) = some false := no_sub (l := [.type "int", .type "object"]) (by decide +kernel) (by first | rfl | simp)
theorem no_str {K : PySem.W.Frag} {C : Addr} : PySem.W.subIn K (.type "str") (.ref C) = some false := no_sub (l := [.type "str", .type "object"]) (by decide +kernel) (by first | rfl | simp)
theorem no_list {K : PySem.W.Frag} {C : Addr} : PySem.W.subIn K (.type "list") (.ref C) = some false := no_sub (l := [.type "list", .type "object"]) (by decide +kernel) (by first | rfl | simp)
theorem no_tuple {K : PySem.W.Frag} {C : Addr} : PySem.W.subIn K (.type "tuple") (.ref C) = some false := no_sub (l := [.type "tuple", .type "object"]) (by decide +kernel) (by first | rfl | simp)
theorem no_dict {K : PySem.W.Frag} {C : Addr} : PySem.W.subIn K (.type "dict") (.ref C) = some false := no_sub (l := [.type "dict", .type "object"]) (by decide +kernel) (by first | rfl | simp)
/-! ### a list of drawn amounts -/
theorem lc_given {K : PySem.W.Frag} {te : TE} {vs : List Nat} {σ : St} {j N : Nat} {G H : Hp} {s p : Addr} {ws : List Str} {Qd : Hp → Prop} {D : Addr} (v : View s N G H) (hp : G p = some (.lst (ws.map V.str))) (hl : ws.length ≤ 100) (hw : ∀ x, wipe ((wipe σ vs).set j (some x)) vs = wipe σ vs)
    (hte : ∀ (x : Str) (M : Nat) (G' H' : Hp) (Q' : VK), x ∈ ws → M ≤ N + 200 → View s M G' H' → (∀ (z : Int) (t : Addr) (H2 : Hp), z.natAbs < 2 ^ 100 → G' t = none → View s (M + 2) (upd G' t (.tup [.str x, .int z])) H2 → Q' (.ref t) H2) → te ((wipe σ vs).set j (some (.str x))) H' Q')
    (hD : H D = none)
    (hq : ∀ (G' H' : Hp) (am : Am) (ps : List Addr), amS am = ws → (∀ q ∈ am, q.2.natAbs < 2 ^ 100) → Same G G' → View s (N + 200) G' H' → G' D = some (.lst (ps.map V.ref)) → Paired (fun p (q : Key × V) => G' p = some (.tup [kV q.1, q.2])) ps (amK am) → Qd H') :
    ∃ W : Nat → Nat → Hp → Prop, (∃ m, W 0 m (upd H D (.lst []))) ∧ ∀ i m H, W i m H →
      ((Itl K p).stop i H ∧ Qd H) ∨ ((Itl K p).go i H ∧ ∃ Nx : Hp → Prop, (∀ H', Nx H' → ∃ m', m' < m ∧ W (i + 1) m' H') ∧ ∀ x H', (Itl K p).yld i H x H' → gName j x (wipe σ vs) H' fun σ2 H2 => wipe σ2 vs = wipe σ vs ∧ tYes σ2 H2 fun b H3 =>
        if b = true then te σ2 H3 fun y H4 => ∃ acc, H4 D = some (.lst acc) ∧ acc.length < sizeLine ∧ Nx (upd H4 D (.lst (acc ++ [y]))) else Nx H3) := by
  have ln : (ws.map V.str).length = ws.length := List.length_map _
  have hGD := v.free hD
  refine lc_it (walk_list (xs := ws.map V.str)) (fun i H => ∃ (G' : Hp) (am : Am) (ps : List Addr), amS am = ws.take i ∧ (∀ q ∈ am, q.2.natAbs < 2 ^ 100) ∧ Same G G' ∧ View s (N + 2 * i) G' H ∧ G' D = some (.lst (ps.map V.ref)) ∧ Paired (fun p (q : Key × V) => G' p = some (.tup [kV q.1, q.2])) ps (amK am)) ⟨_, [], [], rfl, (fun _ h => nomatch h), same_of_none hGD, v.new hD, upd_same, .nil⟩ (fun i H _ ⟨G', am, ps, _, _, sm, v, _⟩ => SqL.of (v.sub _ _ (sm _ _ hp))) (fun i x H H' hi h y => ?_) (fun H h => ?_)
  · obtain ⟨G', am, ps, e1, e2, sm, v, hDl, hP⟩ := h
    obtain ⟨rfl, hx⟩ := y
    rw [List.getElem?_map] at hx
    obtain ⟨a, ha, rfl⟩ := Option.map_eq_some_iff.mp hx
    have hm : a ∈ ws := List.mem_of_getElem? ha
    rw [ln] at hi
    have hlen : ps.length = i := by
      rw [hP.length, amK_len, ← amS_len, e1, List.length_take]
      omega
    refine ⟨hw _, ?_⟩
    unfold tYes
    refine if_pos rfl |>.mpr (hte a _ _ _ _ hm (by omega) v fun z t H2 hz ht v2 => ?_)
    have hDt : D ≠ t := ne_of_none hDl ht
    have hGD2 : upd G' t (.tup [.str a, .int z]) D = some (.lst (ps.map V.ref)) := by rw [upd_ne hDt]; exact hDl
    refine ⟨_, v2.sub _ _ hGD2, small1000 (by rw [List.length_map]; omega), _, am ++ [(a, z)], ps ++ [t], ?_, fun q hq => ?_, (sm.trans (same_of_none (o := .tup [.str a, .int z]) ht)).unseen (o := .lst ((ps ++ [t]).map V.ref)) hGD, ?_, by rw [upd_same], ?_⟩
    · rw [take_more ha, ← e1]; unfold amS; rw [List.map_append]; rfl
    · rcases List.mem_append.mp hq with hq | hq
      · exact e2 q hq
      · rw [List.mem_singleton.mp hq]; exact hz
    · have := v2.put (o := .lst ((ps ++ [t]).map V.ref)) hGD2
      rw [List.map_append] at this ⊢
      exact this
    · have e3 : amK (am ++ [(a, z)]) = amK am ++ [((Sum.inr a : Key), V.int z)] := by unfold amK; rw [List.map_append]; rfl
      rw [e3]
      refine Paired.snoc ?_ (by rw [upd_ne hDt.symm, upd_same]; rfl)
      refine hP.mono fun p q h => ?_
      have hpD : p ≠ D := fun z => by rw [z, hDl] at h; cases h
      rw [upd_ne hpD, upd_ne (ne_of_none h ht)]
      exact h
  · obtain ⟨G', am, ps, e1, e2, sm, v, hDl, hP⟩ := h
    rw [ln, List.take_length] at e1
    exact hq G' H am ps e1 e2 sm (v.mono (by rw [ln]; omega)) hDl hP
end L2

set_option pp.deepTerms false
set_option pp.deepTerms.threshold 8
namespace K04
open PySem PySem.Spec PyProof.Rows L2
def top (i : Nat) : Stmt := PySem.Challenge.pw_twochoosers_k04_wishes_compared.main.body.getD i (.Pass ⟨0, 0, 0, 0⟩)
structure TxtB (mg : Str → Option Value) : Prop where
  z_abs : mg "abs" = none
  z_all : mg "all" = none
  z_bool : mg "bool" = none
  z_dict : mg "dict" = none
  z_int : mg "int" = none
  z_isinstance : mg "isinstance" = none
  z_len : mg "len" = none
  z_list : mg "list" = none
  z_max : mg "max" = none
  z_range : mg "range" = none
  z_set : mg "set" = none
  z_sorted : mg "sorted" = none
  z_str : mg "str" = none
  z_tuple : mg "tuple" = none
  c_DIGITS : ∃ t, mg "DIGITS" = some (.str "0123456789" t)
  c_LETTERS : ∃ t, mg "LETTERS" = some (.str "abcdefghijklmnopqrstuvwxyz" t)
  c_LONGEST_NAME : ∃ t, mg "LONGEST_NAME" = some (.int 6 t)
  c_MOST_OUTCOMES : ∃ t, mg "MOST_OUTCOMES" = some (.int 6 t)
section
variable {P : Program} {w : World} {K : PySem.W.Frag} {mg : Str → Option Value} {base : Heap}
abbrev s_Lstart : Stmt := top 21
abbrev N_Lstart : List Str := ["_law_script", "_law_cell"]
theorem sc_Lstart : FnScope ["_law_script", "_law_cell"] ["_law_script"] (defScope s_Lstart) := ⟨rfl, rfl, rfl, by decide +kernel, rfl, by decide +kernel, by decide +kernel⟩
theorem ok_Lstart {f : Addr} {fd : FuncData} (F : Fun K "_law_start" "_law_start" s_Lstart f fd) (T : TxtB mg) : FnOk P w K mg base CX0 1 f fd ["_law_script"] (spStart K) := by
  refine F.ok sc_Lstart (fun vs H Q E h => ?_) (fun cdv A outer s H vs Q E hr h => ?_)
  · obtain ⟨a, ns, rfl, _⟩ := h
    rfl
  · obtain ⟨a, ns, rfl, hS, hlen, q⟩ := h
    refine ⟨_, (pss_one (ps_ret (pe_lst (pa_cons (pe_lc (own := [("_law_cell", 1)]) (g := gName 1) rfl sc_Lstart.nd (pi_list (pv 0)) (blkOk_by (own := [("_law_cell", 1)]) (N := N_Lstart) (sc := defScope s_Lstart) (by decide +kernel)) (fun _ _ _ _ _ => (pg_name (i := 1) sc_Lstart.nd rfl (.inl rfl))) (fun _ _ _ _ _ => (pts_one (pt_cmpR op_ge (pe_callB call_abs (by rfl) T.z_abs (by decide +kernel) (pa_cons (pv 1) pa_nil)) (pe_op op_pow pe_int pe_int) (nomark _)))) (fun _ _ _ _ _ => (pe_callB call_abs (by rfl) T.z_abs (by decide +kernel) (pa_cons (pv 1) pa_nil)))) (pa_cons (pe_op op_cat (pe_callTy call_list_of (by rfl) T.z_list (by decide +kernel) (pa_cons (pv 0) pa_nil)) (pe_lst (pa_cons pe_int pa_nil))) (pa_cons pe_int pa_nil)))))), ?_⟩
    refine ⟨_, rfl, a, rfl, ⟨_, hS⟩, fun D hD => lc_list (K := K) (a := a) (xs := ns.map V.int) (fun i H' => ∃ bs : List Int, H' = upd H D (.lst (bs.map V.int)) ∧ (∀ x ∈ bs, (0 : Int) ≤ x) ∧ bs.length ≤ i)
      ⟨[], rfl, (fun _ h => nomatch h), Nat.le_refl _⟩ (fun i H' _ ⟨bs, e, _⟩ => by rw [e]; exact (same_of_none hD).seq hS) ?_ ?_⟩
    · rintro i x H' hx ⟨bs, rfl, h0, hb⟩
      have hi : i < ns.length := by
        have := (List.getElem?_eq_some_iff.mp hx).1
        rwa [List.length_map] at this
      obtain ⟨z, rfl⟩ : ∃ z, x = V.int z := by
        rw [List.getElem?_map] at hx
        cases e : ns[i]? with
        | none => rw [e] at hx; cases hx
        | some u => rw [e] at hx; exact ⟨u, (Option.some.inj hx).symm⟩
      refine ⟨rfl, .int z, rfl, z, rfl, _, _, rfl, rfl, cpow1018, _, _, rfl, rfl, _, rfl, ite2 (fun _ => ?_) (fun _ => ⟨bs, rfl, h0, by omega⟩)⟩
      refine ⟨.int z, rfl, z, rfl, _, upd_same, ?_, ?_⟩
      · rw [List.length_map]; exact small1000 (by omega)
      · refine ⟨bs ++ [if z < 0 then -z else z], by rw [upd_upd, List.map_append]; rfl, fun x hx => ?_, by simp; omega⟩
        rcases List.mem_append.mp hx with hx | hx
        · exact h0 x hx
        · have e : x = if z < 0 then -z else z := by simpa using hx
          rw [e]
          split <;> omega
    · rintro H' ⟨bs, rfl, h0, hb⟩
      have s1 : Same H (upd H D (.lst (bs.map V.int))) := same_of_none hD
      refine ⟨.ref a, rfl, a, _, rfl, .inl (s1.seq hS), fun l hl => ?_⟩
      have s2 := same_of_none (o := HO.lst (ns.map V.int)) hl
      refine ⟨by show 1 ≤ sizeLine; decide, fun p hp => ?_⟩
      have s3 := same_of_none (o := HO.lst [V.int 5]) hp
      refine ⟨l, p, _, _, rfl, rfl, s3 _ _ upd_same, upd_same, ?_, fun c hc => ?_⟩
      · rw [List.length_map]
        show ns.length + 1 ≤ sizeLine
        exact Nat.le_of_lt (small1000 (by omega))
      have s4 := same_of_none (o := HO.lst (ns.map V.int ++ [V.int 5])) hc
      refine ⟨by show 3 ≤ sizeLine; decide, fun s hs => q s _ ?_⟩
      have s5 := same_of_none (o := HO.lst [.ref D, .ref c, V.int 0]) hs
      have sa : Same (upd H D (.lst (bs.map V.int))) _ := s2.trans (s3.trans s4)
      have hc0 : H c = none := s1.free ((s2.trans s3).free hc)
      have hs0 : H s = none := s1.free (sa.free hs)
      refine ⟨D, c, 0, bs, ns ++ [5], ⟨s1.trans (sa.trans s5), hs0, hD, hc0, ?_, ?_, ?_, upd_same, s5 _ _ (sa _ _ upd_same), s5 _ _ ?_, h0, by rw [List.length_map] at hb; omega, by simp; omega, Int.le_refl _⟩, Int.le_refl _⟩
      · exact ne_of_none (sa _ _ upd_same) hs
      · exact ne_of_none upd_same hs
      · exact ne_of_none ((s2.trans s3) _ _ upd_same) hc
      · rw [upd_same, List.map_append]
        rfl


abbrev s_Ldraw : Stmt := top 22
abbrev N_Ldraw : List Str := ["_law_state", "_law_size", "_law_digit", "_law_cell", "_law_one"]
theorem sc_Ldraw : FnScope ["_law_state", "_law_size", "_law_digit", "_law_cell", "_law_one"] ["_law_state", "_law_size"] (defScope s_Ldraw) := ⟨rfl, rfl, rfl, by decide +kernel, rfl, by decide +kernel, by decide +kernel⟩
set_option maxHeartbeats 20000000 in
theorem ok_Ldraw {f : Addr} {fd : FuncData} (F : Fun K "_law_draw" "_law_draw" s_Ldraw f fd) (T : TxtB mg) : FnOk P w K mg base CX0 1 f fd ["_law_state", "_law_size"] spDraw := by
  refine F.ok sc_Ldraw (fun vs H Q E h => ?_) (fun cdv A outer s H vs Q E hr h => ?_)
  · obtain ⟨s, N, G, m, rfl, _⟩ := h
    rfl
  · obtain ⟨s, N, G, m, rfl, ⟨b, c, n, bs, cs, k, hnN⟩, hN, hm, hm2, q⟩ := h
    refine ⟨_, (pss_cons (ps_augS (pv 0) pe_int pg_list pe_int ip_add set_list)
      (pss_cons (ps_while PassesOwn.never (PW.pt (pw_and (pt_cmpR (op_neD hr.units) (pe_ix ix_list (pv 0) pe_int (fun _ _ => rfl)) (pe_lst pa_nil) (nomark _)) (pw_and1 (pt_cmpR op_eq (pe_ix ix_list (pe_ix ix_list (pv 0) pe_int (fun _ _ => rfl)) pe_int (fun _ _ => rfl)) pe_int (nomark _))))) (pss_one (ps_asg (pe_slice sl_list (pe_ix ix_list (pv 0) pe_int (fun _ _ => rfl)) (po_some pe_int) po_none) (pg_sub (pv 0) pe_int set_list))))
      (pss_cons (ps_if (pt_cmpR (op_neD hr.units) (pe_ix ix_list (pv 0) pe_int (fun _ _ => rfl)) (pe_lst pa_nil) (nomark _)) (pss_cons (ps_set (i := 2) sc_Ldraw.nd rfl (.inl rfl) (pe_op op_modN (pe_callTy call_int1 (by rfl) T.z_int (by decide +kernel) (pa_cons (pe_ix ix_list (pe_ix ix_list (pv 0) pe_int (fun _ _ => rfl)) pe_int (fun _ _ => rfl)) pa_nil)) (pv 1)))
      (pss_cons (ps_asg (pe_op op_fdivW (pe_ix ix_list (pe_ix ix_list (pv 0) pe_int (fun _ _ => rfl)) pe_int (fun _ _ => rfl)) (pv 1)) (pg_sub (pe_ix ix_list (pv 0) pe_int (fun _ _ => rfl)) pe_int set_list))
      (pss_one (ps_ret (pv 2))))) pss_nil)
      (pss_cons (ps_set (i := 3) sc_Ldraw.nd rfl (.inl rfl) (pe_op op_modN (pe_callTy call_int1 (by rfl) T.z_int (by decide +kernel) (pa_cons (pe_ix ix_list (pe_ix ix_list (pv 0) pe_int (fun _ _ => rfl)) (pe_op op_modN (pe_callTy call_int1 (by rfl) T.z_int (by decide +kernel) (pa_cons (pe_ix ix_list (pv 0) pe_int (fun _ _ => rfl)) pa_nil)) (pe_callB call_len_seq (by rfl) T.z_len PySem.boot_len (pa_cons (pe_ix ix_list (pv 0) pe_int (fun _ _ => rfl)) pa_nil))) (fun _ _ => rfl)) pa_nil)) pe_int))
      (pss_cons (ps_set (i := 4) sc_Ldraw.nd rfl (.inl rfl) (pe_op op_modN (pe_callTy call_int1 (by rfl) T.z_int (by decide +kernel) (pa_cons (pe_op op_pow (pe_op op_add (pe_op op_add (pe_op op_mulW (pv 3) pe_int) (pe_op op_mulW (pe_ix ix_list (pv 0) pe_int (fun _ _ => rfl)) pe_int)) pe_int) pe_int) pa_nil)) pe_int))
      (pss_one (ps_ret (pe_op op_modN (pe_op op_modN (pe_callTy call_int1 (by rfl) T.z_int (by decide +kernel) (pa_cons (pe_op op_pow (pe_op op_add (pe_op op_add (pe_op op_mulW (pv 4) pe_int) (pe_op op_mulW (pe_ix ix_list (pv 0) pe_int (fun _ _ => rfl)) pe_int)) pe_int) pe_int) pa_nil)) pe_int) (pv 1))))))))), ?_⟩
    -- state[2] += 1
    refine ⟨.ref s, rfl, s, _, 2, _, rfl, rfl, SqL.of k.hs, atI_nat (j := 2) rfl, n, 1, rfl, rfl, s, _, 2, 2, rfl, rfl, k.hs, rfl, ?_⟩
    have k1 := k.count
    -- while state[0] != [] and state[0][0] == 0
    refine ⟨fun m' σ H' => ∃ b bs, bs.length = m' ∧ σ = [some (.ref s), some (.int m), none, none, none] ∧ VS s b c (n + 1) bs cs G H', ⟨bs.length, b, bs, rfl, rfl, k1⟩, ?_⟩
    rintro m' σ H' ⟨b, bs, rfl, rfl, k⟩
    refine ⟨.ref s, rfl, s, _, 0, _, rfl, rfl, SqL.of k.hs, atI_nat (j := 0) rfl, Nat.zero_le _, fun p hp => ?_⟩
    have kp := k.ext (same_of_none (o := .lst []) hp)
    refine ⟨.list (bs.map .int), .list [], .lst (SqL.of kp.hb) (dpAll_ints bs), .lst (SqL.of upd_same) .nil, shaped_ints bs, rfl, _, rfl, ?_⟩
    cases bs with
    | nil =>
      refine iteF (iteF ?_)
      refine ⟨.ref s, rfl, s, _, 0, _, rfl, rfl, SqL.of kp.hs, atI_nat (j := 0) rfl, Nat.zero_le _, fun p2 hp2 => ?_⟩
      have kq := kp.ext (same_of_none (o := .lst []) hp2)
      refine ⟨.list [], .list [], .lst (SqL.of kq.hb) .nil, .lst (SqL.of upd_same) .nil, rfl, rfl, _, rfl, iteF ?_⟩
      obtain ⟨j, z, hj, hz⟩ := ix_mod cs (n + 1) k.lc.1
      have hl : ((cs.map V.int).length : Int) ≠ 0 := by rw [List.length_map]; have := k.lc.1; omega
      refine ⟨.ref s, rfl, s, _, 1, _, rfl, rfl, SqL.of kq.hs, atI_nat (j := 1) rfl, .ref s, rfl, s, _, 2, _, rfl, rfl, SqL.of kq.hs, atI_nat (j := 2) rfl, .inl ⟨_, rfl, .ref s, rfl, s, _, 1, _, rfl, rfl, SqL.of kq.hs, atI_nat (j := 1) rfl, c, _, rfl, .inl (SqL.of kq.hc), n + 1, _, rfl, rfl, hl, c, _, _, .int z, rfl, rfl, SqL.of kq.hc, ?_, .inl ⟨_, rfl, z, 2147483647, rfl, rfl, nz1, ?_⟩⟩⟩
      · rw [List.length_map, hj]
        exact atI_nat (by rw [List.getElem?_map, hz]; rfl)
      obtain ⟨c0, c1⟩ := fmod_in z (m := 2147483647) (by decide)
      have hn0 := k.n0
      have hn1 : n + 1 ≤ 1000002 := by omega
      refine ⟨_, rfl, _, _, rfl, rfl, wmul c0 (by omega) (by decide) (by decide), .ref s, rfl, s, _, 2, _, rfl, rfl, SqL.of kq.hs, atI_nat (j := 2) rfl, _, _, rfl, rfl, wmul (by omega) (by omega) (by decide) (by decide), _, _, rfl, rfl, _, _, rfl, rfl, _, _, rfl, rfl, pow5 (by omega) (by omega), .inl ⟨_, rfl, _, _, rfl, rfl, nz1, ?_⟩⟩
      obtain ⟨d0, d1⟩ := fmod_in ((z.fmod 2147483647 * 48271 + (n + 1) * 69621 + 7) ^ (5 : Int).toNat) (m := 2147483647) (by decide)
      refine ⟨_, rfl, _, _, rfl, rfl, wmul d0 (by omega) (by decide) (by decide), .ref s, rfl, s, _, 2, _, rfl, rfl, SqL.of kq.hs, atI_nat (j := 2) rfl, _, _, rfl, rfl, wmul (by omega) (by omega) (by decide) (by decide), _, _, rfl, rfl, _, _, rfl, rfl, _, _, rfl, rfl, pow5 (by omega) (by omega), .inl ⟨_, rfl, _, _, rfl, rfl, nz2, _, rfl, _, _, rfl, rfl, by omega, ?_⟩⟩
      exact q _ _ (fmod_in _ hm).1 (fmod_in _ hm).2 ⟨b, c, n + 1, [], cs, kq, by omega⟩
    | cons y r =>
      refine iteT ?_
      refine ⟨.ref s, rfl, s, _, 0, _, rfl, rfl, SqL.of kp.hs, atI_nat (j := 0) rfl, b, _, 0, .int y, rfl, rfl, SqL.of kp.hb, atI_nat (j := 0) rfl, rfl, _, rfl, ?_⟩
      refine ite2 (fun e0 => ?_) (fun e0 => ?_)
      · have hy : y = 0 := V.int.inj (of_decide_eq_true e0)
        refine ⟨fun σ' H' => ∃ b, σ' = [some (.ref s), some (.int m), none, none, none] ∧ VS s b c (n + 1) r cs G H', fun σ' H' ⟨b, e, k⟩ => ⟨r.length, by simp, b, r, rfl, e, k⟩, ?_⟩
        refine ⟨.ref s, rfl, s, _, 0, _, rfl, rfl, SqL.of kp.hs, atI_nat (j := 0) rfl, 1, rfl, b, _, rfl, SqL.of kp.hb, fun p2 hp2 => ?_⟩
        have kq := kp.ext (same_of_none (o := .lst (cutV ((y :: r).map V.int) (some 1) none)) hp2)
        refine ⟨.ref s, rfl, s, _, 0, 0, rfl, rfl, kq.hs, rfl, p2, rfl, ?_⟩
        rw [show cutV ((y :: r).map V.int) (some 1) none = r.map V.int from cut1 _ _] at kq ⊢
        exact kp.big hp2
      · have hy : ¬ y = 0 := fun e => e0 (decide_eq_true (by rw [e]))
        have hy0 : 0 ≤ y := k.nn y List.mem_cons_self
        refine ⟨.ref s, rfl, s, _, 0, _, rfl, rfl, SqL.of kp.hs, atI_nat (j := 0) rfl, Nat.zero_le _, fun p2 hp2 => ?_⟩
        have kq := kp.ext (same_of_none (o := .lst []) hp2)
        refine ⟨.list ((y :: r).map .int), .list [], .lst (SqL.of kq.hb) (dpAll_ints _), .lst (SqL.of upd_same) .nil, shaped_ints _, rfl, _, rfl, iteT ?_⟩
        refine ⟨.ref s, rfl, s, _, 0, _, rfl, rfl, SqL.of kq.hs, atI_nat (j := 0) rfl, b, _, 0, .int y, rfl, rfl, SqL.of kq.hb, atI_nat (j := 0) rfl, .inl ⟨_, rfl, _, rfl, y, m, rfl, rfl, by omega, ?_⟩⟩
        refine ⟨.ref s, rfl, s, _, 0, _, rfl, rfl, SqL.of kq.hs, atI_nat (j := 0) rfl, b, _, 0, .int y, rfl, rfl, SqL.of kq.hb, atI_nat (j := 0) rfl, _, rfl, y, m, rfl, rfl, wide_div (b := 100) hm (by omega) (by decide) (by decide), .ref s, rfl, s, _, 0, _, rfl, rfl, SqL.of kq.hs, atI_nat (j := 0) rfl, b, _, 0, 0, rfl, rfl, kq.hb, ixN_zero, ?_⟩
        refine ⟨_, rfl, ?_⟩
        exact q _ _ (fmod_in _ hm).1 (fmod_in _ hm).2 ⟨b, c, n + 1, _, cs, kq.head (Int.ediv_nonneg hy0 (by omega)), by omega⟩


abbrev s_Lnames : Stmt := top 23
abbrev N_Lnames : List Str := ["_law_state", "_law_count", "_law_signs", "_law_stem", "_law_letter", "_law_offset", "_law_stride", "_law_plan", "_law_step", "_law_whole", "_law_words", "_law_k", "_law_sign", "_law_back"]
theorem sc_Lnames : FnScope ["_law_state", "_law_count", "_law_signs", "_law_stem", "_law_letter", "_law_offset", "_law_stride", "_law_plan", "_law_step", "_law_whole", "_law_words", "_law_k", "_law_sign", "_law_back"] ["_law_state", "_law_count"] (defScope s_Lnames) := ⟨rfl, rfl, rfl, by decide +kernel, rfl, by decide +kernel, by decide +kernel⟩
set_option maxHeartbeats 20000000 in
theorem ok_Lnames {f : Addr} {fd : FuncData} (F : Fun K "_law_names" "_law_names" s_Lnames f fd) (T : TxtB mg) (c_Ldraw : Cal P w K mg base "_law_draw" CX0 1 ["_law_state", "_law_size"] spDraw) : FnOk P w K mg base CX0 2 f fd ["_law_state", "_law_count"] spNames := by
  refine F.ok sc_Lnames (fun vs H Q E h => ?_) (fun cdv A outer s H vs Q E hr h => ?_)
  · obtain ⟨s, N, G, c, rfl, _⟩ := h
    rfl
  · obtain ⟨s, N, G, c, rfl, v, hN, hc, q⟩ := h
    refine ⟨_, (pss_cons (ps_set (i := 2) sc_Lnames.nd rfl (.inr rfl) pe_str)
      (pss_cons (ps_set (i := 3) sc_Lnames.nd rfl (.inl rfl) (pe_join pe_str (pe_lc (own := [("_law_k", 11)]) (g := gName 11) (tt := tYes) rfl sc_Lnames.nd (pi_range1 rfl T.z_range (pa_cons (pe_call c_Ldraw.G (hr.mono (by decide)) (by rfl) c_Ldraw.g c_Ldraw.kp c_Ldraw.b .nil pass0 (pa_cons (pv 0) (pa_cons pe_int pa_nil))) pa_nil)) (blkOk_by (own := [("_law_k", 11)]) (N := N_Lnames) (sc := defScope s_Lnames) (by decide +kernel)) (fun _ _ _ _ _ => (pg_name (i := 11) sc_Lnames.nd rfl (.inl rfl))) (fun _ _ _ _ _ => pts_nil) (fun _ _ _ _ _ => (pe_ix ix_str (pv 2) (pe_call c_Ldraw.G (hr.mono (by decide)) (by rfl) c_Ldraw.g c_Ldraw.kp c_Ldraw.b .nil pass0 (pa_cons (pv 0) (pa_cons pe_int pa_nil))) (fun _ _ => rfl))))))
      (pss_cons (ps_set (i := 4) sc_Lnames.nd rfl (.inr rfl) (pe_ix ix_str (pv 2) (pe_call c_Ldraw.G (hr.mono (by decide)) (by rfl) c_Ldraw.g c_Ldraw.kp c_Ldraw.b .nil pass0 (pa_cons (pv 0) (pa_cons pe_int pa_nil))) (fun _ _ => rfl)))
      (pss_cons (ps_set (i := 5) sc_Lnames.nd rfl (.inl rfl) (pe_call c_Ldraw.G (hr.mono (by decide)) (by rfl) c_Ldraw.g c_Ldraw.kp c_Ldraw.b .nil pass0 (pa_cons (pv 0) (pa_cons pe_int pa_nil))))
      (pss_cons (ps_set (i := 6) sc_Lnames.nd rfl (.inl rfl) (pe_ix ix_list (pe_lst (pa_cons pe_int (pa_cons pe_int (pa_cons pe_int (pa_cons pe_int (pa_cons pe_int (pa_cons pe_int pa_nil))))))) (pe_call c_Ldraw.G (hr.mono (by decide)) (by rfl) c_Ldraw.g c_Ldraw.kp c_Ldraw.b .nil pass0 (pa_cons (pv 0) (pa_cons pe_int pa_nil))) (fun _ _ => rfl)))
      (pss_cons (ps_set (i := 7) sc_Lnames.nd rfl (.inl rfl) (pe_call c_Ldraw.G (hr.mono (by decide)) (by rfl) c_Ldraw.g c_Ldraw.kp c_Ldraw.b .nil pass0 (pa_cons (pv 0) (pa_cons pe_int pa_nil))))
      (Evl.pss_cut (ps_if (PW.pt (pw_and (pt_cmpR op_eq (pv 7) pe_int (nomark _)) (pw_and1 (pt_cmpR op_lt (pv 1) pe_int (nomark _))))) (pss_one (ps_ret (pe_slice sl_list (pe_lst (pa_cons pe_str (pa_cons pe_str (pa_cons pe_str (pa_cons pe_str (pa_cons pe_str (pa_cons pe_str pa_nil))))))) po_none (po_some (pv 1))))) pss_nil)
      (Evl.pss_cut (ps_if (PW.pt (pw_or (pt_cmpR op_eq (pv 7) pe_int (nomark _)) (pw_or1 (PW.pt (pw_and (pt_cmpR op_eq (pv 7) pe_int (nomark _)) (pw_and1 (pt_cmpR op_gt (pv 1) pe_int (nomark _)))))))) (pss_cons (ps_set (i := 8) sc_Lnames.nd rfl (.inr rfl) (pe_op op_add pe_int (pe_call c_Ldraw.G (hr.mono (by decide)) (by rfl) c_Ldraw.g c_Ldraw.kp c_Ldraw.b .nil pass0 (pa_cons (pv 0) (pa_cons pe_int pa_nil)))))
      (pss_one (ps_ret (pe_lc (own := [("_law_k", 11)]) (g := gName 11) (tt := tYes) rfl sc_Lnames.nd (pi_range1 rfl T.z_range (pa_cons (pv 1) pa_nil)) (blkOk_by (own := [("_law_k", 11)]) (N := N_Lnames) (sc := defScope s_Lnames) (by decide +kernel)) (fun _ _ _ _ _ => (pg_name (i := 11) sc_Lnames.nd rfl (.inl rfl))) (fun _ _ _ _ _ => pts_nil) (fun _ _ _ _ _ => (pe_op op_add_str (pv 4) (pe_callTy call_str_int (by rfl) T.z_str (by decide +kernel) (pa_cons (pe_op op_mulW (pv 8) (pe_op op_add (pv 11) pe_int)) pa_nil)))))))) pss_nil)
      (Evl.pss_cut (ps_if (pt_cmpR op_eq (pv 7) pe_int (nomark _)) (pss_cons (ps_set (i := 9) sc_Lnames.nd rfl (.inr rfl) (pe_op op_add_str (pv 4) (pe_join pe_str (pe_lc (own := [("_law_k", 11)]) (g := gName 11) (tt := tYes) rfl sc_Lnames.nd (pi_range1 rfl T.z_range (pa_cons pe_int pa_nil)) (blkOk_by (own := [("_law_k", 11)]) (N := N_Lnames) (sc := defScope s_Lnames) (by decide +kernel)) (fun _ _ _ _ _ => (pg_name (i := 11) sc_Lnames.nd rfl (.inl rfl))) (fun _ _ _ _ _ => pts_nil) (fun _ _ _ _ _ => (pe_ix ix_str (pv 2) (pe_call c_Ldraw.G (hr.mono (by decide)) (by rfl) c_Ldraw.g c_Ldraw.kp c_Ldraw.b .nil pass0 (pa_cons (pv 0) (pa_cons pe_int pa_nil))) (fun _ _ => rfl)))))))
      (pss_one (ps_ret (pe_lc (own := [("_law_k", 11)]) (g := gName 11) (tt := tYes) rfl sc_Lnames.nd (pi_range1 rfl T.z_range (pa_cons (pv 1) pa_nil)) (blkOk_by (own := [("_law_k", 11)]) (N := N_Lnames) (sc := defScope s_Lnames) (by decide +kernel)) (fun _ _ _ _ _ => (pg_name (i := 11) sc_Lnames.nd rfl (.inl rfl))) (fun _ _ _ _ _ => pts_nil) (fun _ _ _ _ _ => (pe_slice sl_str (pv 9) po_none (po_some (pe_op op_add (pv 11) pe_int)))))))) pss_nil)
      (pss_cons (ps_set (i := 10) sc_Lnames.nd rfl (.inl rfl) (pe_lst pa_nil))
      (pss_cons (ps_for PassesOwn.never rfl (pi_range1 rfl T.z_range (pa_cons (pv 1) pa_nil)) (pg_name (i := 11) sc_Lnames.nd rfl (.inl rfl)) (pss_cons (ps_set (i := 12) sc_Lnames.nd rfl (.inl rfl) (pe_ix ix_str (pv 2) (pe_op op_modN (pe_callTy call_int1 (by rfl) T.z_int (by decide +kernel) (pa_cons (pe_op op_add (pv 5) (pe_op op_mulW (pv 6) (pv 11))) pa_nil)) pe_int) (fun _ _ => rfl)))
      (Evl.pss_cut (ps_set (i := 13) sc_Lnames.nd rfl (.inl rfl) (pe_ix ix_list (pe_lst (pa_cons (pv 3) (pa_cons pe_str pa_nil))) (pe_callTy call_int1 (by rfl) T.z_int (by decide +kernel) (pa_cons (pe_and (pe_cmpR op_gt (pv 7) pe_int (nomark _)) (pe_one (pe_cmpR op_eq (pe_op op_modN (pv 11) pe_int) pe_int (nomark _)))) pa_nil)) (fun _ _ => rfl)))
      (pss_one (ps_expr (pe_bm PySem.F.plainAttrs_list PySem.F.slot_list_append PySem.F.type_list_append mt_append (pv 10) (pa_cons (pe_ix ix_list (pe_lst (pa_cons (pe_op op_add_str (pe_op op_add_str (pv 4) (pv 13)) (pv 12)) (pa_cons (pe_op op_add_str (pv 12) (pv 13)) pa_nil))) (pe_op op_modN (pe_callTy call_int1 (by rfl) T.z_int (by decide +kernel) (pa_cons (pv 7) pa_nil)) pe_int) (fun _ _ => rfl)) pa_nil)))))))
      (pss_one (ps_ret (pv 10)))))))))))))), ?_⟩
    -- stem
    refine ⟨⟨_, rfl⟩, _, rfl, s, N, G, 5, rfl, v, by omega, by decide, by decide, fun n5 H1 n0 n1 v => ⟨n5, rfl, by omega, by omega, fun D hD => ?_⟩⟩
    refine lc_signsD (n := n5.toNat) (S := C36.cps.toList) v (by omega) ?_ ?_ (fun cs H2 hD hcl hcm v => ?_) hD
    · exact fun _ => rfl
    · intro x i G' H' Q' hi v k
      refine ⟨_, rfl, _, rfl, s, _, _, 36, rfl, v, by omega, by decide, by decide, fun e H2 e0 e1 v => ?_⟩
      obtain ⟨ch, h1, h2⟩ := pick C36 e0 (by rw [c36_len]; exact e1)
      exact ⟨C36, e, ch, rfl, rfl, by decide +kernel, h1, k ch H2 h2 v⟩
    refine ⟨Str.ofString "", D, cs.map (fun c => (⟨#[c]⟩ : Str)), rfl, rfl, .inl (SqL.of (by rw [sgn_strs]; exact v.sub _ _ upd_same)), ?_, ?_⟩
    · rw [ones_len, List.length_map, show (Str.ofString "").length = 0 by decide +kernel]
      omega
    have hjl := join_signs cs
    have v := v.hide hD
    have hj : ∃ st : Str, st = Txt.join (Str.ofString "") (cs.map (fun c => (⟨#[c]⟩ : Str))) ∧ st.cps.toList.length ≤ 4 ∧ ∀ x ∈ st.cps.toList, okc x = true := ⟨_, rfl, by rw [hjl]; omega, fun x hx => c36_ok x (hcm x (by rw [hjl] at hx; exact hx))⟩
    obtain ⟨st, hst, hs4, hso⟩ := hj
    have hsl : st.length ≤ 4 := by rw [← L2.len_list]; exact hs4
    rw [← hst]
    clear hst hjl
    -- letter, offset, stride, plan
    refine ⟨_, rfl, _, rfl, s, _, _, 26, rfl, v, by omega, by decide, by decide, fun l26 H3 l0 l1 v => ?_⟩
    obtain ⟨l, rfl⟩ := Int.eq_ofNat_of_zero_le l0
    have hl26 : l < 26 := by omega
    refine ⟨C36, (l : Int), let_ l, rfl, rfl, by decide +kernel, c36_at hl26, ?_⟩
    have hlm := let_mem hl26
    refine ⟨_, rfl, s, _, _, 26, rfl, v, by omega, by decide, by decide, fun of26 H4 o0 o1 v => ?_⟩
    obtain ⟨o, rfl⟩ := Int.eq_ofNat_of_zero_le o0
    refine ⟨by show 6 ≤ sizeLine; decide, fun p hp => ?_⟩
    have v' := v.new (o := .lst [V.int 1, .int 3, .int 5, .int 7, .int 9, .int 11]) hp
    refine ⟨_, rfl, s, _, _, 6, rfl, v', by omega, by decide, by decide, fun d6 H5 d0 d1 v5 => ?_⟩
    obtain ⟨sr, hsr, hat⟩ := strides d0 d1
    refine ⟨p, _, d6, .int (sr : Int), rfl, rfl, SqL.of (v5.sub _ _ upd_same), hat, ?_⟩
    have v := v5.hide (v.free hp)
    refine ⟨_, rfl, s, _, _, 7, rfl, v, by omega, by decide, by decide, fun pl H6 p0 p1 v => ?_⟩
    obtain ⟨pn, rfl⟩ := Int.eq_ofNat_of_zero_le p0
    have hfin : ∀ (ws : List Str) (p : Addr) (H' : Hp) (M : Nat), M ≤ N + 20 → ws.length = c → ws.Nodup → (∀ w ∈ ws, good w = true) → G p = none → View s M (upd G p (.lst (ws.map V.str))) H' → Q (.ref p) H' := fun ws p H' M hM h1 h2 h3 h4 u => q ws p H' h1 h2 h3 h4 (u.mono hM)
    -- plan 6
    have v := v.mono (show N + 1 + n5.toNat + 1 + 1 + 1 + 1 ≤ N + 9 by omega)
    refine ⟨fun σ' H' => σ' = [some (.ref s), some (.int c), some (.str C36), some (.str st), some (.str ⟨#[let_ l]⟩), some (.int o), some (.int sr), some (.int pn), none, none, none, none, none, none] ∧ View s (N + 9) G H' ∧ ¬ (pn = 6 ∧ c < 7), ?_, ?_⟩
    · refine cond_if (C := pn = 6 ∧ c < 7) (fun K k => ?_) (fun h => ?_) (fun h => ⟨rfl, v, h⟩)
      · refine ⟨_, rfl, rfl, _, rfl, ite2 (fun e => ⟨_, rfl, _, _, rfl, rfl, _, rfl, kdec k ?_⟩) (fun e => kdec k ?_)⟩
        · have e := dec_vint.mp e
          rw [decide_eq_true_iff]
          omega
        · have e : ¬ ((pn : Int) = 6) := fun h => e (dec_vint.mpr h)
          exact ⟨fun h => absurd h Bool.false_ne_true, fun h => absurd (show (pn : Int) = 6 by omega) e⟩
      · refine ⟨by show 6 ≤ sizeLine; decide, fun p hp => ⟨_, rfl, _, rfl, p, _, rfl, SqL.of upd_same, fun p2 hp2 => ?_⟩⟩
        have v1 := (v.ext (same_of_none (o := .lst [V.str "rows", .str "leaf", .str "x", .str "x1", .str "x10", .str "none"]) hp))
        have hG := v1.free hp2
        have v2 := v1.new (o := .lst ((fixedW.take c).map V.str)) hp2
        rw [show cutV _ none (some (c : Int)) = (fixedW.take c).map V.str from by rw [cutV_to, List.map_take]; rfl]
        exact hfin (fixedW.take c) p2 _ (N + 9) (by omega) (by rw [List.length_take]; show min c 6 = c; omega) (fixed_ok c).1 (fixed_ok c).2 hG v2
    clear v
    rintro σ' H' ⟨rfl, v, h6⟩
    -- plan 4
    refine ⟨fun σ' H' => σ' = [some (.ref s), some (.int c), some (.str C36), some (.str st), some (.str ⟨#[let_ l]⟩), some (.int o), some (.int sr), some (.int pn), none, none, none, none, none, none] ∧ View s (N + 9) G H' ∧ ¬ (pn = 4 ∨ (pn = 5 ∧ 6 < c)), ?_, ?_⟩
    · refine cond_if (C := pn = 4 ∨ (pn = 5 ∧ 6 < c)) (fun K k => ?_) (fun h => ?_) (fun h => ⟨rfl, v, h⟩)
      · refine ⟨_, rfl, rfl, _, rfl, ite2 (fun e => kdec k ?_) (fun e => ⟨_, rfl, rfl, _, rfl, ite2 (fun e5 => ⟨_, rfl, _, _, rfl, rfl, _, rfl, kdec k ?_⟩) (fun e5 => kdec k ?_)⟩)⟩
        · have e := dec_vint.mp e
          exact ⟨fun _ => .inl (by omega), fun _ => rfl⟩
        · have e : ¬ ((pn : Int) = 4) := fun h => e (dec_vint.mpr h)
          have e5 := dec_vint.mp e5
          rw [decide_eq_true_iff]
          omega
        · have e : ¬ ((pn : Int) = 4) := fun h => e (dec_vint.mpr h)
          have e5 : ¬ ((pn : Int) = 5) := fun h => e5 (dec_vint.mpr h)
          exact ⟨fun h => absurd h Bool.false_ne_true, fun h => by omega⟩
      · refine ⟨_, rfl, s, _, _, 9, rfl, v, by omega, by decide, by decide, fun d9 H7 z0 z1 v => ?_⟩
        obtain ⟨d, rfl⟩ := Int.eq_ofNat_of_zero_le z0
        refine ⟨_, _, rfl, rfl, _, rfl, _, rfl, by omega, by omega, fun D hD => ?_⟩
        refine lc_words (n := c) (fun k => numW (let_ l) ((1 + d) * (k + 1))) v (by omega) ?_ (fun k H' Q' hk q' => ?_) (fun H' hD u => ?_) hD
        · exact fun _ => rfl
        · have hb : (1 + d) * (k + 1) < 64 := Nat.lt_of_le_of_lt (Nat.mul_le_mul (show 1 + d ≤ 9 by omega) (show k + 1 ≤ 7 by omega)) (by decide)
          have e : ((1 : Int) + (d : Int)) * ((0 + (k : Int)) + 1) = (((1 + d) * (k + 1) : Nat) : Int) := by push_cast; rw [Int.zero_add]
          refine ⟨_, rfl, _, rfl, _, rfl, _, _, rfl, rfl, _, _, rfl, rfl, wmul (by omega) (by omega) (by omega) (by omega), _, rfl, ?_, ?_⟩
          · rw [e, Int.natAbs_natCast]
            exact Nat.lt_of_le_of_lt (Nat.log2_le_self _) (by omega)
          · rw [e]
            refine ⟨_, _, rfl, rfl, size1000 ?_, q'⟩
            have := num_digs _ hb
            have h2 := this.2
            rw [L2.len_list] at h2
            show 1 + _ ≤ 1000
            exact Nat.le_trans (Nat.add_le_add_left (Nat.le_of_lt h2) 1) (by decide)
        · refine hfin _ D H' (N + 10) (by omega) (by rw [List.length_map, List.length_range]) (nodup_map fun i j hij hj e => ?_) (fun w hw => ?_) hD u
          · have hb : ∀ k, k < c → (1 + d) * (k + 1) < 64 := fun k hk => Nat.lt_of_le_of_lt (Nat.mul_le_mul (show 1 + d ≤ 9 by omega) (show k + 1 ≤ 7 by omega)) (by decide)
            have := numW_inj (hb i (by omega)) (hb j hj) e
            have := Nat.eq_of_mul_eq_mul_left (by omega : 0 < 1 + d) this
            omega
          · obtain ⟨k, hk, rfl⟩ := List.mem_map.mp hw
            have hk := List.mem_range.mp hk
            exact numW_good hlm (Nat.lt_of_le_of_lt (Nat.mul_le_mul (show 1 + d ≤ 9 by omega) (show k + 1 ≤ 7 by omega)) (by decide))
    clear v
    rintro σ' H' ⟨rfl, v, h4⟩
    -- plan 5
    refine ⟨fun σ' H' => σ' = [some (.ref s), some (.int c), some (.str C36), some (.str st), some (.str ⟨#[let_ l]⟩), some (.int o), some (.int sr), some (.int pn), none, none, none, none, none, none] ∧ View s (N + 9) G H', ?_, ?_⟩
    · refine cond_if (C := pn = 5) (fun K k => ?_) (fun h => ?_) (fun h => ⟨rfl, v⟩)
      · refine ⟨_, rfl, rfl, _, rfl, kdec k ?_⟩
        rw [dec_vint]
        omega
      · refine ⟨_, rfl, ⟨_, rfl⟩, _, rfl, by omega, by omega, fun D hD => ?_⟩
        refine lc_signsD (n := 5) (S := C36.cps.toList) v (by omega) ?_ ?_ (fun cs H2 hD hcl hcm v => ?_) hD
        · exact fun _ => rfl
        · intro x i G' H' Q' hi v k
          refine ⟨_, rfl, _, rfl, s, _, _, 36, rfl, v, by omega, by decide, by decide, fun e H2 e0 e1 v => ?_⟩
          obtain ⟨ch, h1, h2⟩ := pick C36 e0 (by rw [c36_len]; exact e1)
          exact ⟨C36, e, ch, rfl, rfl, by decide +kernel, h1, k ch H2 h2 v⟩
        have hu := v.sub _ _ upd_same
        have hjl := join_signs cs
        have v := v.hide hD
        refine ⟨Str.ofString "", D, cs.map (fun c => (⟨#[c]⟩ : Str)), rfl, rfl, .inl (SqL.of (by rw [sgn_strs]; exact hu)), ?_, ?_⟩
        · rw [ones_len, List.length_map, show (Str.ofString "").length = 0 by decide +kernel]
          omega
        have hwl : ((⟨#[let_ l]⟩ : Str) ++ Txt.join (Str.ofString "") (cs.map (fun c => (⟨#[c]⟩ : Str)))).cps.toList = let_ l :: cs := by
          rw [one_cat]
          exact congrArg _ hjl
        have hjn : (Txt.join (Str.ofString "") (cs.map (fun c => (⟨#[c]⟩ : Str)))).length = 5 := by
          rw [← L2.len_list]
          exact (congrArg List.length hjl).trans hcl
        refine ⟨_, _, rfl, rfl, size1000 (by rw [hjn]; show 1 + 5 ≤ 1000; decide), ?_⟩
        obtain ⟨wh, hwh⟩ : ∃ wh : Str, wh = (⟨#[let_ l]⟩ : Str) ++ Txt.join (Str.ofString "") (cs.map (fun c => (⟨#[c]⟩ : Str))) := ⟨_, rfl⟩
        rw [← hwh] at hwl ⊢
        have hwn : wh.length = 6 := by rw [← L2.len_list, hwl, List.length_cons, hcl]
        have hc6 : c ≤ 6 := by omega
        refine ⟨_, rfl, _, rfl, by omega, by omega, fun D2 hD2 => ?_⟩
        refine lc_words (n := c) (fun k => preW wh k) v (by omega) ?_ (fun k H' Q' hk q' => ?_) (fun H' hD2 u => ?_) hD2
        · exact fun _ => rfl
        · refine ⟨_, rfl, _, rfl, _, _, rfl, rfl, _, rfl, _, rfl, size1000 (by rw [hwn]; decide), ?_⟩
          rw [show (0 : Int) + (k : Int) + 1 = ((k + 1 : Nat) : Int) by omega, show cutS wh none (some ((k + 1 : Nat) : Int)) = preW wh k from str_ext (by rw [cutS_to, preW_list])]
          exact q'
        · refine hfin _ D2 H' (N + 9 + 5) (by omega) (by rw [List.length_map, List.length_range]) (nodup_map fun i j hij hj e => ?_) (fun w hw => ?_) hD2 u
          · have := preW_inj (by rw [hwn]; omega) (by rw [hwn]; omega) e
            omega
          · obtain ⟨k, hk, rfl⟩ := List.mem_map.mp hw
            exact preW_good hwl hlm (by omega) fun x hx => c36_ok x (hcm x hx)
    clear v
    rintro σ' H' ⟨rfl, v⟩
    -- the common plan
    refine ⟨Nat.zero_le _, fun w hw => ?_⟩
    have hGw := v.free hw
    have v := v.new (o := .lst []) hw
    refine ⟨_, rfl, _, rfl, by omega, by omega, for_range (n := c) (fun i σ H' => (∃ a11 a12 a13, σ = [some (.ref s), some (.int c), some (.str C36), some (.str st), some (.str ⟨#[let_ l]⟩), some (.int o), some (.int sr), some (.int pn), none, none, some (.ref w), a11, a12, a13]) ∧ View s (N + 9) (upd G w (.lst (((List.range i).map (comW (let_ l) st.cps.toList pn o sr)).map V.str))) H') ⟨⟨none, none, none, rfl⟩, v⟩ ?_ ?_⟩
    · rintro i σ H' hi ⟨⟨a11, a12, a13, rfl⟩, v⟩
      have hsr11 : sr ≤ 11 := by omega
      have hmul : sr * i ≤ 11 * 7 := Nat.mul_le_mul hsr11 (by omega)
      -- the sign
      refine ⟨_, rfl, _, rfl, _, rfl, _, rfl, _, _, rfl, rfl, wmul (by omega) (by omega) (by omega) (by omega), _, _, rfl, rfl, .inl ⟨_, rfl, _, _, rfl, rfl, (by decide : (26 : Int) ≠ 0), ?_⟩⟩
      dsimp only
      rw [show ((o : Int) + (sr : Int) * (0 + (i : Int))).fmod 26 = (((o + sr * i) % 26 : Nat) : Int) from by
        rw [Int.zero_add, show (o : Int) + (sr : Int) * (i : Int) = ((o + sr * i : Nat) : Int) by push_cast; rfl]
        exact fmod_nn _ 26]
      refine ⟨C36, _, _, rfl, rfl, by decide +kernel, c36_mod _, ?_⟩
      -- the middle
      refine ⟨fun σ' H' => (∃ b : Str, b = (if 1 < pn ∧ i % 2 = 1 then Str.ofString "" else st) ∧ σ' = [some (.ref s), some (.int c), some (.str C36), some (.str st), some (.str ⟨#[let_ l]⟩), some (.int o), some (.int sr), some (.int pn), none, none, some (.ref w), some (.int (0 + (i : Int))), some (.str ⟨#[let_ ((o + sr * i) % 26)]⟩), some (.str b)]) ∧ View s (N + 9) (upd G w (.lst (((List.range i).map (comW (let_ l) st.cps.toList pn o sr)).map V.str))) H', ?_, ?_⟩
      · refine ⟨_, rfl, by show 2 ≤ sizeLine; decide, fun p hp => ?_⟩
        have v := v.ext (same_of_none (o := .lst [V.str st, .str (Str.ofString "")]) hp)
        refine ⟨_, rfl, _, _, rfl, rfl, _, rfl, ite2 (fun e => ⟨_, rfl, _, _, rfl, rfl, (by decide : (2 : Int) ≠ 0), rfl, ?_⟩) (fun e => ?_)⟩
        · have e : (1 : Int) < (pn : Int) := of_decide_eq_true e
          by_cases hi2 : i % 2 = 1
          · rw [show decide (V.int ((0 + (i : Int)).fmod 2) = V.int 1) = true from dec_vint.mpr (by rw [Int.zero_add]; exact (fmod_nn i 2).trans (by rw [hi2]; rfl))]
            exact .inr ⟨_, rfl, p, _, 1, _, rfl, rfl, SqL.of upd_same, atI_nat (j := 1) rfl, ⟨_, by rw [if_pos ⟨by omega, hi2⟩], rfl⟩, v⟩
          · rw [show decide (V.int ((0 + (i : Int)).fmod 2) = V.int 1) = false from by
              rw [Int.zero_add, show (i : Int).fmod 2 = ((i % 2 : Nat) : Int) from fmod_nn i 2]
              rw [decide_eq_false_iff_not]
              intro h
              have := V.int.inj h
              omega]
            exact .inr ⟨_, rfl, p, _, 0, _, rfl, rfl, SqL.of upd_same, atI_nat (j := 0) rfl, ⟨_, by rw [if_neg (fun h => hi2 h.2)], rfl⟩, v⟩
        · have e : ¬ (1 : Int) < (pn : Int) := fun h => e (decide_eq_true h)
          exact .inr ⟨_, rfl, p, _, 0, _, rfl, rfl, SqL.of upd_same, atI_nat (j := 0) rfl, ⟨_, by rw [if_neg (fun h => e (by omega))], rfl⟩, v⟩
      clear v
      rintro σ' H' ⟨⟨b, hb, rfl⟩, v⟩
      have hbl : b.length ≤ 4 := by
        rw [hb]
        split
        · decide +kernel
        · exact hsl
      refine ⟨_, rfl, .inl ⟨rfl, _, SqL.of (v.sub _ _ upd_same)⟩, ?_⟩
      refine ⟨_, rfl, _, rfl, _, _, rfl, rfl, size1000 (by show 1 + b.length ≤ 1000; omega), _, rfl, _, _, rfl, rfl, size1000 ?_, _, rfl, _, rfl, _, _, rfl, rfl, size1000 (by show 1 + b.length ≤ 1000; omega), by show 2 ≤ sizeLine; decide, fun p hp => ?_⟩
      · rw [← L2.len_list, one_cat, List.length_cons, L2.len_list]
        show b.length + 1 + 1 ≤ 1000
        omega
      have hpw : (upd H' p (.lst [V.str ((⟨#[let_ l]⟩ : Str) ++ b ++ (⟨#[let_ ((o + sr * i) % 26)]⟩ : Str)), V.str ((⟨#[let_ ((o + sr * i) % 26)]⟩ : Str) ++ b)])) w = some (.lst (((List.range i).map (comW (let_ l) st.cps.toList pn o sr)).map V.str)) := same_of_none hp _ _ (v.sub _ _ upd_same)
      have v := v.ext (same_of_none (o := .lst [V.str ((⟨#[let_ l]⟩ : Str) ++ b ++ (⟨#[let_ ((o + sr * i) % 26)]⟩ : Str)), V.str ((⟨#[let_ ((o + sr * i) % 26)]⟩ : Str) ++ b)]) hp)
      refine ⟨_, rfl, .inl ⟨_, rfl, _, _, rfl, rfl, (by decide : (2 : Int) ≠ 0), ?_⟩⟩
      dsimp only
      rw [show (pn : Int).fmod 2 = ((pn % 2 : Nat) : Int) from fmod_nn pn 2]
      refine ⟨p, _, _, .str (comW (let_ l) st.cps.toList pn o sr i), rfl, rfl, SqL.of upd_same, ?_, w, _, _, rfl, rfl, hpw, small1000 (by rw [List.length_map, List.length_map, List.length_range]; omega), ⟨⟨_, _, _, rfl⟩, ?_⟩⟩
      · rcases Nat.mod_two_eq_zero_or_one pn with h | h
        · rw [h, com_even b hb h]
          exact atI_nat (j := 0) rfl
        · rw [h, com_odd b hb h]
          exact atI_nat (j := 1) rfl
      · have := v.put (o := .lst (((List.range i).map (comW (let_ l) st.cps.toList pn o sr)).map V.str ++ [V.str (comW (let_ l) st.cps.toList pn o sr i)])) upd_same
        rw [upd_upd] at this
        rw [range_more]
        exact this
    · rintro σ H' ⟨⟨a11, a12, a13, rfl⟩, v⟩
      refine ⟨_, rfl, ?_⟩
      refine hfin _ w H' (N + 9) (by omega) (by rw [List.length_map, List.length_range]) (nodup_map fun i j hij hj e => ?_) (fun x hx => ?_) hGw v
      · have := comW_inj hsr (by omega) (by omega) e
        omega
      · obtain ⟨k, hk, rfl⟩ := List.mem_map.mp hx
        exact comW_good hlm hs4 hso

abbrev s_Lorder : Stmt := top 24
abbrev N_Lorder : List Str := ["_law_state", "_law_items", "_law_left", "_law_told_here", "_law_k"]
theorem sc_Lorder : FnScope ["_law_state", "_law_items", "_law_left", "_law_told_here", "_law_k"] ["_law_state", "_law_items"] (defScope s_Lorder) := ⟨rfl, rfl, rfl, by decide +kernel, rfl, by decide +kernel, by decide +kernel⟩
set_option maxHeartbeats 20000000 in
theorem ok_Lorder {f : Addr} {fd : FuncData} (F : Fun K "_law_order" "_law_order" s_Lorder f fd) (T : TxtB mg) (c_Ldraw : Cal P w K mg base "_law_draw" CX0 1 ["_law_state", "_law_size"] spDraw) : FnOk P w K mg base CX0 2 f fd ["_law_state", "_law_items"] (spOrder K) := by
  refine F.ok sc_Lorder (fun vs H Q E h => ?_) (fun cdv A outer s H vs Q E hr h => ?_)
  · obtain ⟨s, N, G, a, xs, rfl, _⟩ := h
    rfl
  · obtain ⟨s, N, G, a, xs, rfl, v, hS, hN, hc, q⟩ := h
    refine ⟨_, (pss_cons (ps_set (i := 2) sc_Lorder.nd rfl (.inl rfl) (pe_callTy call_list_of (by rfl) T.z_list (by decide +kernel) (pa_cons (pv 1) pa_nil)))
      (pss_cons (ps_set (i := 3) sc_Lorder.nd rfl (.inl rfl) (pe_lst pa_nil))
      (pss_cons (ps_for PassesOwn.never rfl (pi_range1 rfl T.z_range (pa_cons (pe_callB call_len_seq (by rfl) T.z_len PySem.boot_len (pa_cons (pv 2) pa_nil)) pa_nil)) (pg_name (i := 4) sc_Lorder.nd rfl (.inl rfl)) (pss_one (ps_expr (pe_bm PySem.F.plainAttrs_list PySem.F.slot_list_append PySem.F.type_list_append mt_append (pv 3) (pa_cons (pe_bm PySem.F.plainAttrs_list PySem.F.slot_list_pop PySem.F.type_list_pop mt_popAt (pv 2) (pa_cons (pe_call c_Ldraw.G (hr.mono (by decide)) (by rfl) c_Ldraw.g c_Ldraw.kp c_Ldraw.b .nil pass0 (pa_cons (pv 0) (pa_cons (pe_callB call_len_seq (by rfl) T.z_len PySem.boot_len (pa_cons (pv 2) pa_nil)) pa_nil))) pa_nil)) pa_nil)))))
      (pss_one (ps_ret (pv 3)))))), ?_⟩
    refine ⟨_, rfl, a, xs, rfl, .inl (v.sub.seq hS), fun p hp => ?_⟩
    have hGp := v.free hp
    have v := v.new (o := .lst xs) hp
    refine ⟨Nat.zero_le _, fun r hr => ?_⟩
    have hGr := v.free hr
    have hpr : p ≠ r := ne_of_none upd_same hGr
    have v := v.new (o := .lst []) hr
    have hGr' : G r = none := by
      have := hGr
      rwa [upd_ne (Ne.symm hpr)] at this
    have atp : ∀ {ys zs : List V}, (upd (upd G p (.lst ys)) r (.lst zs)) p = some (.lst ys) := fun {ys zs} => by rw [upd_ne hpr, upd_same]
    refine ⟨_, rfl, p, xs, rfl, .inl (SqL.of (v.sub _ _ atp)), _, rfl, by omega, by omega, for_range (n := xs.length) (fun i σ H' => (∃ a4, σ = [some (.ref s), some (.ref a), some (.ref p), some (.ref r), a4]) ∧ ∃ ys zs : List V, ys.length + i = xs.length ∧ zs.length = i ∧ (zs ++ ys).Perm xs ∧ View s (N + i) (upd (upd G p (.lst ys)) r (.lst zs)) H') ⟨⟨none, rfl⟩, xs, [], rfl, rfl, .refl _, v⟩ ?_ ?_⟩
    · rintro i σ H' hi ⟨⟨a4, rfl⟩, ys, zs, hl, hz, hperm, v⟩
      refine ⟨_, rfl, tyL_ok (SqL.of (v.sub _ _ upd_same)), _, rfl, tyL_ok (SqL.of (v.sub _ _ atp)), _, rfl, _, rfl, p, ys, rfl, .inl (SqL.of (v.sub _ _ atp)), s, _, _, (ys.length : Int), rfl, v, by omega, by omega, by omega, fun d H2 d0 d1 v => ?_⟩
      obtain ⟨k, y, rfl, hk, hsq, hy⟩ := atI_ex d0 d1
      have vp := v.put (o := .lst (ys.eraseIdx k)) atp
      rw [upd_swap hpr] at vp
      refine ⟨p, ys, _, k, y, rfl, rfl, v.sub _ _ atp, by omega, by omega, hsq, hy, r, zs, y, rfl, rfl, vp.sub _ _ upd_same, small1000 (by omega), ⟨_, rfl⟩, ys.eraseIdx k, zs ++ [y], ?_, by simp [hz], ?_, ?_⟩
      · rw [List.length_eraseIdx_of_lt hk]; omega
      · refine List.Perm.trans ?_ hperm
        rw [List.append_assoc]
        exact (erase_perm' ys k y hy).append_left zs
      · have := vp.put (o := .lst (zs ++ [y])) upd_same
        rw [upd_upd] at this
        exact this
    · rintro σ H' ⟨⟨a4, rfl⟩, ys, zs, hl, hz, hperm, v⟩
      refine ⟨_, rfl, ?_⟩
      have : ys = [] := List.eq_nil_of_length_eq_zero (by omega)
      subst this
      rw [List.append_nil] at hperm
      rw [upd_comm2 hpr] at v
      refine q zs r H' hperm hGr' ((v.hide ?_).mono (by omega))
      rw [upd_ne hpr]
      exact hGp

abbrev s_valid_name : Stmt := top 12
abbrev N_valid_name : List Str := ["text", "sign"]
theorem sc_valid_name : FnScope ["text", "sign"] ["text"] (defScope s_valid_name) := ⟨rfl, rfl, rfl, by decide +kernel, rfl, by decide +kernel, by decide +kernel⟩
theorem ok_valid_name {f : Addr} {fd : FuncData} (F : Fun K "valid_name" "valid_name" s_valid_name f fd) (T : TxtB mg) : FnOk P w K mg base CX0 1 f fd ["text"] spGood := by
  refine F.ok sc_valid_name (fun vs H Q E h => ?_) (fun cdv A outer s H vs Q E hr h => ?_)
  · obtain ⟨z, rfl, _⟩ := h
    rfl
  · obtain ⟨z, rfl, hz, ha, q⟩ := h
    refine ⟨_, (pss_cons (ps_if (pt_not (pt_chain op_le op_le pe_int (pe_callB call_len_str (by rfl) T.z_len PySem.boot_len (pa_cons (pv 0) pa_nil)) (pe_glob (v := .int 6) (by rfl) T.c_LONGEST_NAME.choose_spec ⟨_, rfl⟩))) (pss_one (ps_ret pe_bl)) pss_nil)
      (pss_one (ps_ret (pe_and (pe_cmpR op_in_sign (pe_ix ix_str (pv 0) pe_int (fun _ _ => rfl)) (pe_glob (v := .str "abcdefghijklmnopqrstuvwxyz") (by rfl) T.c_LETTERS.choose_spec ⟨_, rfl⟩) (by rfl)) (pe_one (pe_callB (cr_all rfl) (by rfl) T.z_all (by decide +kernel) (pa_cons (pe_lc (own := [("sign", 1)]) (g := gName 1) (tt := tYes) rfl sc_valid_name.nd (pi_str (pv 0)) (blkOk_by (own := [("sign", 1)]) (N := N_valid_name) (sc := defScope s_valid_name) (by decide +kernel)) (fun _ _ _ _ _ => (pg_name (i := 1) sc_valid_name.nd rfl (.inl rfl))) (fun _ _ _ _ _ => pts_nil) (fun _ _ _ _ _ => (pe_or (pe_cmpR op_in_sign (pv 1) (pe_glob (v := .str "abcdefghijklmnopqrstuvwxyz") (by rfl) T.c_LETTERS.choose_spec ⟨_, rfl⟩) (by rfl)) (pe_one (pe_cmpR op_in_sign (pv 1) (pe_glob (v := .str "0123456789") (by rfl) T.c_DIGITS.choose_spec ⟨_, rfl⟩) (by rfl)))))) pa_nil))))))), ?_⟩
    have el : z.cps.toList.length = z.length := by simp [Str.length]
    have hg : good z = goodL z.cps.toList := rfl
    refine ⟨_, rfl, _, rfl, size1000 hz, _, _, rfl, rfl, _, rfl, ?_⟩
    refine ite2 (fun h1 => ?_) (fun h1 => ?_)
    · have h1' : (1 : Int) ≤ (z.length : Int) := of_decide_eq_true h1
      obtain ⟨c, r, ec⟩ : ∃ c r, z.cps.toList = c :: r := by
        cases e : z.cps.toList with
        | nil => rw [e] at el; simp at el; omega
        | cons c r => exact ⟨c, r, rfl⟩
      have elr : r.length + 1 = z.length := by rw [← el, ec]; rfl
      refine ⟨_, _, rfl, rfl, _, rfl, ?_⟩
      refine ite2 (fun h2 => ?_) (fun h2 => ?_)
      · -- too long
        have h2' : ¬ (z.length : Int) ≤ 6 := fun h => by
          have e : decide ((z.length : Int) ≤ 6) = true := decide_eq_true h
          rw [e] at h2
          cases h2
        have : good z = false := by
          rw [hg, ec]
          show (decide (r.length < 6) && _ && _) = false
          rw [decide_eq_false (by omega)]
          rfl
        have := q H (Same.refl H)
        rw [‹good z = false›] at this
        exact this
      · have h2' : (z.length : Int) ≤ 6 := by
          by_cases h : (z.length : Int) ≤ 6
          · exact h
          · exact absurd (by rw [decide_eq_false h]; rfl) h2
        refine ⟨_, rfl, z, 0, c, rfl, rfl, size1000 hz, by rw [ec]; exact atI_nat (j := 0) rfl, c, _, rfl, rfl, _, rfl, ?_⟩
        refine ite2 (fun h3 => ?_) (fun h3 => ?_)
        · have h3' : c ∈ lets := of_decide_eq_true h3
          refine ⟨_, rfl, z, rfl, fun D hD => lc_fm walk_sgns (fun _ => true) (fun v => match v with | .str x => .bl (x.cps.toList.all okc) | _ => .non) hD (fun _ _ => trivial) (by unfold sgns; rw [List.length_map, el]; exact hz) (fun _ => rfl) (fun _ _ _ _ _ h => h) ?_ ?_⟩
          · intro x hx _ H' _ Q q
            obtain ⟨y, _, rfl⟩ := List.mem_map.mp hx
            refine ⟨_, rfl, y, _, rfl, rfl, _, rfl, ?_⟩
            have e1 : (⟨#[y]⟩ : Str).cps.toList.all okc = (decide (y ∈ lets) || decide (y ∈ digs)) := by simp [okc]
            refine ite2 (fun a => ?_) (fun a => ?_)
            · have := q
              simp only [sgn] at this
              rw [e1, show decide (y ∈ lets) = true from a] at this
              exact this
            · refine ⟨_, rfl, y, _, rfl, rfl, ?_⟩
              have := q
              simp only [sgn] at this
              rw [e1, show decide (y ∈ lets) = false from by cases b : decide (y ∈ lets) with | false => rfl | true => exact absurd b a] at this
              exact this
          · refine ⟨D, (c :: r).map okc, rfl, SqL.of ?_, ?_⟩
            · rw [upd_same]
              unfold sgns
              rw [ec]
              simp [sgn, List.filter_eq_self.mpr, Function.comp_def]
            · have e : good z = ((c :: r).map okc).all id := by
                rw [hg, ec]
                show (decide (r.length < 6) && decide (c ∈ lets) && _) = _
                rw [decide_eq_true (by omega : r.length < 6), decide_eq_true h3']
                simp [List.all_map, Function.comp_def]
              rw [← e]
              exact q _ (same_of_none hD)
        · have h3' : ¬ c ∈ lets := fun h => h3 (decide_eq_true h)
          have e : good z = false := by
            rw [hg, ec]
            show (_ && decide (c ∈ lets) && _) = false
            rw [decide_eq_false h3']
            simp
          have := q H (Same.refl H)
          rw [e] at this
          exact this
    · have h1' : ¬ (1 : Int) ≤ (z.length : Int) := fun h => h1 (decide_eq_true h)
      refine ⟨false, rfl, iteT ?_⟩
      have e0 : z.cps.toList = [] := List.eq_nil_of_length_eq_zero (by omega)
      have : good z = false := by rw [hg, e0]; rfl
      have := q H (Same.refl H)
      rw [‹good z = false›] at this
      exact this

abbrev s_check_count : Stmt := top 16
abbrev N_check_count : List Str := ["count"]
theorem sc_check_count : FnScope ["count"] ["count"] (defScope s_check_count) := ⟨rfl, rfl, rfl, by decide +kernel, rfl, by decide +kernel, by decide +kernel⟩
theorem ok_check_count {f : Addr} {fd : FuncData} (F : Fun K "check_count" "check_count" s_check_count f fd) (T : TxtB mg) : FnOk P w K mg base CX0 1 f fd ["count"] spCheck := by
  refine F.ok sc_check_count (fun vs H Q E h => ?_) (fun cdv A outer s H vs Q E hr h => ?_)
  · obtain ⟨c, rfl, _⟩ := h
    rfl
  · obtain ⟨c, rfl, h1, h2, q⟩ := h
    refine ⟨_, (pss_one (ps_if (pt_not (pt_chain op_le op_le pe_int (pv 0) (pe_glob (v := .int 6) (by rfl) T.c_MOST_OUTCOMES.choose_spec ⟨_, rfl⟩))) (pss_one ps_never) pss_nil)), ?_⟩
    refine ⟨_, rfl, _, _, rfl, rfl, _, rfl, ite2 (fun e => ?_) (fun e => absurd (decide_eq_true h1) e)⟩
    refine ⟨_, _, rfl, rfl, _, rfl, ?_⟩
    have e2 : decide (c ≤ 6) = true := decide_eq_true h2
    rw [e2]
    exact q

abbrev s_is_integer : Stmt := top 15
abbrev N_is_integer : List Str := ["value"]
theorem sc_is_integer : FnScope ["value"] ["value"] (defScope s_is_integer) := ⟨rfl, rfl, rfl, by decide +kernel, rfl, by decide +kernel, by decide +kernel⟩
theorem ok_is_integer {f : Addr} {fd : FuncData} (F : Fun K "is_integer" "is_integer" s_is_integer f fd) (T : TxtB mg) : FnOk P w K mg base CX0 1 f fd ["value"] spIsInt := by
  refine F.ok sc_is_integer (fun vs H Q E h => ?_) (fun cdv A outer s H vs Q E hr h => ?_)
  · obtain ⟨c, rfl, _⟩ := h
    rfl
  · obtain ⟨c, rfl, q⟩ := h
    refine ⟨_, (pss_one (ps_ret (pe_and (pe_callB call_isi (by rfl) T.z_isinstance (by decide +kernel) (pa_cons (pv 0) (pa_cons (pe_bltn (v := .ty "int") (by rfl) T.z_int (by decide +kernel) rfl) pa_nil))) (pe_one (pe_not (pe_callB call_isi (by rfl) T.z_isinstance (by decide +kernel) (pa_cons (pv 0) (pa_cons (pe_bltn (v := .ty "bool") (by rfl) T.z_bool (by decide +kernel) rfl) pa_nil)))))))), ?_⟩
    refine ⟨_, rfl, .int c, .ty "int", .type "int", .type "int", true, rfl, .ty _, .base (.int _), rfl, true, rfl, ?_⟩
    exact ⟨_, rfl, .int c, .ty "bool", .type "int", .type "bool", false, rfl, .ty _, .base (.int _), rfl, false, rfl, q⟩

abbrev s_UnlikeOutcomesD_initD : Stmt := inClass (top 7) 0
abbrev N_UnlikeOutcomesD_initD : List Str := ["self", "names"]
theorem sc_UnlikeOutcomesD_initD : FnScope ["self", "names"] ["self", "names"] (defScope s_UnlikeOutcomesD_initD) := ⟨rfl, rfl, rfl, by decide +kernel, rfl, by decide +kernel, by decide +kernel⟩
theorem ok_UnlikeOutcomesD_initD {f : Addr} {fd : FuncData} (F : Fun K "__init__" "UnlikeOutcomes.__init__" s_UnlikeOutcomesD_initD f fd) (T : TxtB mg) (x_UnlikeOutcomes : XCls K mg "UnlikeOutcomes" "names") : FnOk P w K mg base CX0 1 f fd ["self", "names"] (spXI x_UnlikeOutcomes.C "names") := by
  refine F.ok sc_UnlikeOutcomesD_initD (fun vs H Q E h => ?_) (fun cdv A outer s H vs Q E hr h => ?_)
  · obtain ⟨a, v, rfl, _⟩ := h
    rfl
  · obtain ⟨a, v, rfl, ha, q⟩ := h
    refine ⟨_, (pss_one (ps_ost (pv 0) (pv 1))), ?_⟩
    exact ⟨_, rfl, _, rfl, a, x_UnlikeOutcomes.C, rfl, x_UnlikeOutcomes.T, x_UnlikeOutcomes.no, .inl ⟨ha, fun dx h1 h2 => q dx h1 h2⟩⟩

abbrev s_check_outcomes : Stmt := top 17
abbrev N_check_outcomes : List Str := ["outcomes", "names"]
theorem sc_check_outcomes : FnScope ["outcomes", "names"] ["outcomes", "names"] (defScope s_check_outcomes) := ⟨rfl, rfl, rfl, by decide +kernel, rfl, by decide +kernel, by decide +kernel⟩
/-- check_outcomes: names and names -/
def spCheckOut (CU : Addr) : Sp := fun vs H Q E => ∃ (a b : Addr) (ws us : List Str), vs = [.ref a, .ref b] ∧ H a = some (.tup (ws.map V.str)) ∧ H b = some (.tup (us.map V.str)) ∧ (∀ w ∈ ws, good w = true) ∧ (∀ w ∈ us, good w = true) ∧
  (ws = us → Q .non H) ∧
  (ws ≠ us → ∀ (d : Addr) (H' : Hp), Same H H' → H d = none → H' d = some (.xd [("names", .ref b)]) → E (.ref CU) (some d) H')
theorem ok_check_outcomes {f : Addr} {fd : FuncData} (F : Fun K "check_outcomes" "check_outcomes" s_check_outcomes f fd) (T : TxtB mg) (x_UnlikeOutcomes : XCls K mg "UnlikeOutcomes" "names") (c_UnlikeOutcomesD_initD : CalM P w K mg base CX0 1 ["self", "names"] (spXI x_UnlikeOutcomes.C "names")) (i_UnlikeOutcomes : XIni K x_UnlikeOutcomes.C c_UnlikeOutcomesD_initD.f) : FnOk P w K mg base (CX P w) 3 f fd ["outcomes", "names"] (spCheckOut x_UnlikeOutcomes.C) := by
  refine F.okX sc_check_outcomes (fun vs H Q E h => ?_) (fun cdv A outer s H vs Q E hr h => ?_)
  · obtain ⟨x, y, a, b, rfl, _⟩ := h
    rfl
  · obtain ⟨x, y, ws, us, rfl, hx, hy, ga, gb, q1, q2⟩ := h
    refine ⟨_, (pss_one (ps_if (pt_cmpR (op_neD hr.units) (pv 1) (pv 0) (nomark _)) (pss_one (ps_raise rfl (takes_of rfl rfl rfl rfl) (pmk_oex x_UnlikeOutcomes.T i_UnlikeOutcomes.iC i_UnlikeOutcomes.tI c_UnlikeOutcomesD_initD.G (hr.mono (by decide)) c_UnlikeOutcomesD_initD.b .nil pass0 (by rfl) x_UnlikeOutcomes.g (pa_cons (pv 1) pa_nil)))) pss_nil)), ?_⟩
    refine cond_if (C := ws ≠ us) (fun k q => ?_) (fun h => ?_) (fun h => q1 (Decidable.not_not.mp h))
    · refine ⟨_, rfl, _, rfl, tD us, tD ws, dp_tD hy, dp_tD hx, shaped_tD (fun w hw => good_ok (gb w hw)), shaped_tD (fun w hw => good_ok (ga w hw)), _, rfl, kdec q ?_⟩
      rw [eqv_tD, Bool.not_eq_true', decide_eq_false_iff_not]
      exact ⟨fun h z => h z.symm, fun h z => h z.symm⟩
    · refine ⟨_, rfl, (show 1 ≤ 1000 by decide), fun e he => ⟨e, .ref y, rfl, upd_same, fun dx2 n1 n2 => ⟨rfl, dx2, [("names", .ref y)], upd_same, ?_, ?_, ?_⟩⟩⟩
      · rw [upd_ne n2]; exact upd_same
      · rw [upd_ne n2] at n1; exact n1
      · rw [upd_ne n2] at n1
        have same : Same H (upd (del (upd (upd (upd H e (exo e x_UnlikeOutcomes.C none)) dx2 (exd dx2 [("names", .ref y)])) e (exo e x_UnlikeOutcomes.C (some dx2))) e) dx2 (.xd [("names", .ref y)])) := fun b o hb => by
          have b1 : b ≠ dx2 := ne_of_none hb n1
          have b2 : b ≠ e := ne_of_none hb he
          rw [upd_ne b1, del_ne b2, upd_ne b2, upd_ne b1, upd_ne b2]
          exact hb
        exact q2 h dx2 _ same n1 upd_same

abbrev s_WishesD_initD : Stmt := inClass (top 19) 0
abbrev N_WishesD_initD : List Str := ["self", "amounts", "names", "name"]
theorem sc_WishesD_initD : FnScope ["self", "amounts", "names", "name"] ["self", "amounts"] (defScope s_WishesD_initD) := ⟨rfl, rfl, rfl, by decide +kernel, rfl, by decide +kernel, by decide +kernel⟩
set_option maxHeartbeats 20000000 in
theorem ok_WishesD_initD {f : Addr} {fd : FuncData} (F : Fun K "__init__" "Wishes.__init__" s_WishesD_initD f fd) (T : TxtB mg) (W : Wsh K mg) (c_check_count : Cal P w K mg base "check_count" CX0 1 ["count"] spCheck) (c_valid_name : Cal P w K mg base "valid_name" CX0 1 ["text"] spGood) (c_is_integer : Cal P w K mg base "is_integer" CX0 1 ["value"] spIsInt) : FnOk P w K mg base CX0 2 f fd ["self", "amounts"] (spInit W.C) := by
  refine F.ok sc_WishesD_initD (fun vs H Q E h => ?_) (fun cdv A outer s H vs Q E hr h => ?_)
  · obtain ⟨x, g, dx, am, rfl, _⟩ := h
    rfl
  · obtain ⟨x, g, dx, am0, rfl, hx, hg, ok, l1, l6, q⟩ := h
    refine ⟨_, (pss_cons (ps_expr (pe_call c_check_count.G (hr.mono (by decide)) (by rfl) c_check_count.g c_check_count.kp c_check_count.b .nil pass0 (pa_cons (pe_callB call_lenD (by rfl) T.z_len PySem.boot_len (pa_cons (pv 1) pa_nil)) pa_nil)))
      (pss_cons (ps_set (i := 2) sc_WishesD_initD.nd rfl (.inl rfl) (pe_callB (call_sortedD rfl) (by rfl) T.z_sorted (by decide +kernel) (pa_cons (pv 1) pa_nil)))
      (pss_cons (ps_for PassesOwn.never rfl (pi_list (pv 2)) (pg_name (i := 3) sc_WishesD_initD.nd rfl (.inl rfl)) (pss_one (ps_if (pt_not (pt_val (pe_call c_valid_name.G (hr.mono (by decide)) (by rfl) c_valid_name.g c_valid_name.kp c_valid_name.b .nil pass0 (pa_cons (pv 3) pa_nil)))) (pss_one ps_never) pss_nil)))
      (pss_cons (ps_for PassesOwn.never rfl (pi_list (pv 2)) (pg_name (i := 3) sc_WishesD_initD.nd rfl (.inl rfl)) (pss_one (ps_if (pt_not (pt_val (pe_call c_is_integer.G (hr.mono (by decide)) (by rfl) c_is_integer.g c_is_integer.kp c_is_integer.b .nil pass0 (pa_cons (pe_dget (hu_of hr) (pv 1) (pv 3) (fun _ _ => rfl)) pa_nil)))) (pss_one ps_never) pss_nil)))
      (pss_cons (ps_fld (pv 0) (pe_callTy call_tuple_of (by rfl) T.z_tuple (by decide +kernel) (pa_cons (pv 2) pa_nil)) (by rfl))
      (pss_one (ps_fld (pv 0) (pe_dc (own := [("name", 3)]) (g := gName 3) (tt := tYes) rfl sc_WishesD_initD.nd (pi_list (pv 2)) (blkOk_by (own := [("name", 3)]) (N := N_WishesD_initD) (sc := defScope s_WishesD_initD) (by decide +kernel)) (fun _ _ _ _ _ => (pg_name (i := 3) sc_WishesD_initD.nd rfl (.inl rfl))) (fun _ _ _ _ _ => pts_nil) (fun _ _ _ _ _ => (pv 3)) (fun _ _ _ _ _ => (pe_dget (hu_of hr) (pv 1) (pv 3) (fun _ _ => rfl)))) (by rfl)))))))), ?_⟩
    have hlen : (amK am0).length = am0.length := by unfold amK; rw [List.length_map]
    refine ⟨_, rfl, g, _, rfl, hg, _, rfl, by rw [hlen]; omega, by rw [hlen]; omega, ?_⟩
    refine ⟨_, rfl, g, amK am0, amS am0, rfl, .inl hg, amK_keys am0, by unfold amS; rw [List.length_map]; omega, fun ys p hp hs hpn => ?_⟩
    obtain ⟨am, ham, rfl⟩ := am_perm ok.nd hp
    have okm := AmOk.perm ham ok
    rw [← amN_S]
    obtain ⟨H1, hH1⟩ : ∃ H1, H1 = upd H p (.lst (amN am)) := ⟨_, rfl⟩
    have s1 : Same H H1 := by rw [hH1]; exact same_of_none hpn
    have hp1 : H1 p = some (.lst (amN am)) := by rw [hH1]; exact upd_same
    rw [← hH1]
    clear hH1
    have get : ∀ q ∈ am, ∀ H', H' g = some (.dK (amK am0)) → DGet H' g (.str q.1) (some (.int q.2)) := fun q hq H' h => DGet.amI h ok.nd (ham.mem_iff.mp hq)
    have pick : ∀ i y, (amN am)[i]? = some y → ∃ q ∈ am, y = V.str q.1 := fun i y hy => by
      unfold amN at hy
      rw [List.getElem?_map] at hy
      obtain ⟨q, hq, rfl⟩ := Option.map_eq_some_iff.mp hy
      exact ⟨q, List.mem_of_getElem? hq, rfl⟩
    refine ⟨_, rfl, p, rfl, ⟨_, SqL.of hp1⟩, for_list (xs := amN am) (fun i σ H' => (∃ a3, σ = [some (.ref x), some (.ref g), some (.ref p), a3]) ∧ Same H1 H') ⟨⟨none, rfl⟩, Same.refl _⟩ (fun i σ H' _ h => h.2.seq (SqL.of hp1)) ?_ ?_⟩
    · rintro i y σ H' hy ⟨⟨a3, rfl⟩, e⟩
      obtain ⟨q, hq, rfl⟩ := pick i y hy
      have gq := okm.gd q.1 (List.mem_map.mpr ⟨q, hq, rfl⟩)
      refine ⟨_, rfl, q.1, rfl, by have := good_len gq; omega, good_asc gq, fun H2 e2 => ⟨_, rfl, ?_⟩⟩
      rw [gq]
      exact ⟨⟨_, rfl⟩, e.trans e2⟩
    rintro σ H' ⟨⟨a3, rfl⟩, e⟩
    refine ⟨_, rfl, p, rfl, ⟨_, e.seq (SqL.of hp1)⟩, for_list (xs := amN am) (fun i σ H' => (∃ a3, σ = [some (.ref x), some (.ref g), some (.ref p), a3]) ∧ Same H1 H') ⟨⟨a3, rfl⟩, e⟩ (fun i σ H' _ h => h.2.seq (SqL.of hp1)) ?_ ?_⟩
    · rintro i y σ H' hy ⟨⟨a3, rfl⟩, e⟩
      obtain ⟨q, hq, rfl⟩ := pick i y hy
      exact ⟨_, rfl, _, rfl, g, _, rfl, get q hq _ (e _ _ (s1 _ _ hg)), q.2, rfl, _, rfl, ⟨⟨_, rfl⟩, e⟩⟩
    clear e
    rintro σ H2 ⟨⟨a4, rfl⟩, e⟩
    have e0 := s1.trans e
    refine ⟨_, rfl, p, amN am, rfl, .inl ⟨SqL.of (e _ _ hp1), fun t ht => ?_⟩⟩
    have htx : t ≠ x := Ne.symm (ne_of_none (e0 _ _ hx) ht)
    have htg : t ≠ g := Ne.symm (ne_of_none (e0 _ _ hg) ht)
    have htp : t ≠ p := Ne.symm (ne_of_none (e _ _ hp1) ht)
    have hgx : g ≠ x := fun z => by rw [z, hx] at hg; cases hg
    have hpx : p ≠ x := fun z => by rw [z, hx] at hpn; cases hpn
    refine ⟨_, rfl, x, W.C, dx, [], rfl, (by rw [upd_ne htx.symm]; exact e0 _ _ hx), W.cl, W.n1, by decide, ?_⟩
    obtain ⟨H3, hH3⟩ : ∃ H3, H3 = upd (upd H2 t (.tup (amN am))) x (.ins W.C dx (putF (Str.ofString "_outcomes") (.ref t) [])) := ⟨_, rfl⟩
    rw [← hH3]
    have h3x : H3 x = some (.ins W.C dx (putF (Str.ofString "_outcomes") (.ref t) [])) := by rw [hH3]; exact upd_same
    have h3t : H3 t = some (.tup (amN am)) := by rw [hH3, upd_ne htx]; exact upd_same
    have h3o : ∀ b o, H2 b = some o → b ≠ x → H3 b = some o := fun b o h n => by rw [hH3, upd_ne n, upd_ne (ne_of_none h ht)]; exact h
    have h3n : ∀ b, H3 b = none → H2 b = none := fun b h => by
      have h1 : b ≠ x := fun z => by rw [z, h3x] at h; cases h
      have h2 : b ≠ t := fun z => by rw [z, h3t] at h; cases h
      rw [hH3, upd_ne h1, upd_ne h2] at h
      exact h
    clear hH3
    have h3p := h3o _ _ (e _ _ hp1) hpx
    have h3g := h3o _ _ (e0 _ _ hg) hgx
    refine ⟨_, rfl, p, rfl, ⟨_, SqL.of h3p⟩, fun D hD => dc_am walk_list (as := am) (g := fun q => V.str q.1) (fun q => .inr q.1) (fun q => .int q.2) hD (fun H' e => e.seq (SqL.of h3p)) (by have := okm.n1; omega) (fun _ => rfl) (amK_nd okm.nd) (fun q hq H' e Q k => ⟨_, rfl, k⟩) (fun q hq H' e Q k => ⟨_, rfl, _, rfl, g, _, rfl, get q hq _ (e _ _ h3g), k⟩) ?_⟩
    have hDx : D ≠ x := Ne.symm (ne_of_none h3x hD)
    have hDt : D ≠ t := Ne.symm (ne_of_none h3t hD)
    refine ⟨_, rfl, x, W.C, dx, putF (Str.ofString "_outcomes") (.ref t) [], rfl, (by rw [upd_ne hDx.symm]; exact h3x), W.cl, W.n2, (show 1 < 1000 by decide), ?_⟩
    refine q am _ dx _ t D ham hs okm (fun b o h n => ?_) (e0.free ht) (e0.free (h3n _ hD)) upd_same ?_ ?_ ?_ ?_ ?_
    · have := h3o _ _ (e0 _ _ h) n
      rw [upd_ne n, upd_ne (ne_of_none this hD)]
      exact this
    · rw [lookup_putF, if_neg (by decide), lookup_putF, if_pos rfl]
    · rw [lookup_putF, if_pos rfl]
    · rw [upd_ne htx, upd_ne hDt.symm]
      exact h3t
    · rw [upd_ne hDx]
      exact upd_same
    · intro f n1 n2
      rw [lookup_putF, if_neg n2, lookup_putF, if_neg n1]
      rfl

abbrev s_Wishes_outcomes : Stmt := inClass (top 19) 3
abbrev N_Wishes_outcomes : List Str := ["self"]
theorem sc_Wishes_outcomes : FnScope ["self"] ["self"] (defScope s_Wishes_outcomes) := ⟨rfl, rfl, rfl, by decide +kernel, rfl, by decide +kernel, by decide +kernel⟩
def spOut (C : Addr) : Sp := fun vs H Q _ => ∃ (x : Addr) (dx : Addr) (fs : List (Str × V)) (t : Addr), vs = [.ref x] ∧ H x = some (.ins C dx fs) ∧ fs.lookup ("_outcomes" : Str) = some (.ref t) ∧ Q (.ref t) H
theorem ok_Wishes_outcomes {f : Addr} {fd : FuncData} (F : Fun K "outcomes" "Wishes.outcomes" s_Wishes_outcomes f fd) (T : TxtB mg) (W : Wsh K mg) : FnOk P w K mg base CX0 1 f fd ["self"] (spOut W.C) := by
  refine F.ok sc_Wishes_outcomes (fun vs H Q E h => ?_) (fun cdv A outer s H vs Q E hr h => ?_)
  · obtain ⟨x, dx, fs, t, rfl, _⟩ := h
    rfl
  · obtain ⟨x, dx, fs, t, rfl, h1, h2, q⟩ := h
    refine ⟨_, (pss_one (ps_ret (pe_fldK (K := K) rfl (pv 0) (by rfl)))), ?_⟩
    exact ⟨_, rfl, x, W.C, dx, fs, .ref t, rfl, h1, W.cl, W.n1, h2, q⟩

abbrev s_WishesD_getitemD : Stmt := inClass (top 19) 4
abbrev N_WishesD_getitemD : List Str := ["self", "at"]
theorem sc_WishesD_getitemD : FnScope ["self", "at"] ["self", "at"] (defScope s_WishesD_getitemD) := ⟨rfl, rfl, rfl, by decide +kernel, rfl, by decide +kernel, by decide +kernel⟩
def spGet (C : Addr) : Sp := fun vs H Q _ => ∃ (x : Addr) (am : Am) (p : Str × Int), vs = [.ref x, .str p.1] ∧ WAt C H x am ∧ AmOk am ∧ p ∈ am ∧ Q (.int p.2) H
theorem ok_WishesD_getitemD {f : Addr} {fd : FuncData} (F : Fun K "__getitem__" "Wishes.__getitem__" s_WishesD_getitemD f fd) (T : TxtB mg) (W : Wsh K mg) : FnOk P w K mg base CX0 1 f fd ["self", "at"] (spGet W.C) := by
  refine F.ok sc_WishesD_getitemD (fun vs H Q E h => ?_) (fun cdv A outer s H vs Q E hr h => ?_)
  · obtain ⟨x, a, o, rfl, _⟩ := h
    rfl
  · obtain ⟨x, am, p, rfl, ⟨dx, fs, t, d, h1, h2, h3, h4, h5, hO⟩, ok, hp, q⟩ := h
    refine ⟨_, (Evl.pss_cut (ps_if (pt_cmpR op_notIn_seq (pv 1) (pe_fldK (K := K) rfl (pv 0) (by rfl)) (by rfl)) (pss_one ps_never) pss_nil)
      (pss_one (ps_ret (pe_dget (hu_of hr) (pe_fldK (K := K) rfl (pv 0) (by rfl)) (pv 1) (fun _ _ => rfl))))), ?_⟩
    refine ⟨fun σ' H' => σ' = [some (.ref x), some (.str p.1)] ∧ H' = H, ?_, ?_⟩
    · refine ⟨_, rfl, _, rfl, x, W.C, dx, fs, .ref t, rfl, h1, W.cl, W.n1, h2, t, amN am, rfl, .inr (SqT.of h4), rfl, by rw [amN_S]; exact strs_flat _, _, rfl, ?_⟩
      have e : inV (.str p.1) (amN am) = true := by rw [amN_S, inV_strs]; exact decide_eq_true (List.mem_map.mpr ⟨p, hp, rfl⟩)
      rw [e]
      exact ⟨rfl, rfl⟩
    · rintro σ' H' ⟨rfl, rfl⟩
      exact ⟨_, rfl, x, W.C, dx, fs, .ref d, rfl, h1, W.cl, W.n2, h3, _, rfl, d, _, rfl, DGet.amI h5 ok.nd hp, q⟩

abbrev s_WishesD_eqD : Stmt := inClass (top 19) 6
abbrev N_WishesD_eqD : List Str := ["self", "other"]
theorem sc_WishesD_eqD : FnScope ["self", "other"] ["self", "other"] (defScope s_WishesD_eqD) := ⟨rfl, rfl, rfl, by decide +kernel, rfl, by decide +kernel, by decide +kernel⟩
theorem ok_WishesD_eqD {f : Addr} {fd : FuncData} (F : Fun K "__eq__" "Wishes.__eq__" s_WishesD_eqD f fd) (T : TxtB mg) (W : Wsh K mg) : FnOk P w K mg base CX0 1 f fd ["self", "other"] (spEq K W.C) := by
  refine F.ok sc_WishesD_eqD (fun vs H Q E h => ?_) (fun cdv A outer s H vs Q E hr h => ?_)
  · obtain ⟨x, a, o, r, rfl, _⟩ := h
    rfl
  · obtain ⟨x, a, o, r, rfl, hx, ok, h, q⟩ := h
    refine ⟨_, (pss_one (ps_ret (pe_and (pe_callB call_isi (by rfl) T.z_isinstance (by decide +kernel) (pa_cons (pv 1) (pa_cons (pe_glob (v := .ref W.C) (by rfl) W.g rfl) pa_nil))) (pe_one (pe_cmpR (op_eqT (hu100 hr)) (pe_fldK (K := K) rfl (pv 0) (by rfl)) (pe_fldK (K := K) rfl (pv 1) (by rfl)) (nomark _)))))), ?_⟩
    rcases h with ⟨y, b, rfl, hy, okb, rfl⟩ | ⟨⟨t, ht, hk⟩, rfl⟩
    · obtain ⟨dx, fs, t, d, h1, h2, h3, h4, h5, hO⟩ := hx
      obtain ⟨dx', fs', t', d', g1, g2, g3, g4, g5, gO⟩ := hy
      refine ⟨_, rfl, .ref y, .ref W.C, .ref W.C, .ref W.C, true, rfl, .own _, .base (.ins g1 W.cl W.kc W.kg W.kt W.ko), W.me, true, rfl, ?_⟩
      refine ⟨_, rfl, x, W.C, dx, fs, .ref d, rfl, h1, W.cl, W.n2, h3, _, rfl, y, W.C, dx', fs', .ref d', rfl, g1, W.cl, W.n2, g3, .inr (.inr ⟨d, d', amK a, amK b, amE a b, rfl, rfl, h5, g5, fun k v y hm hy => amE_eqv ok.nd hm hy, ?_⟩)⟩
      rw [dict_eq ok.nd okb.nd]
      exact q
    · exact ⟨_, rfl, o, .ref W.C, t, .ref W.C, false, rfl, .own _, ht, hk, false, rfl, q⟩

abbrev s_Wishes_amounts : Stmt := inClass (top 19) 7
abbrev N_Wishes_amounts : List Str := ["self"]
theorem sc_Wishes_amounts : FnScope ["self"] ["self"] (defScope s_Wishes_amounts) := ⟨rfl, rfl, rfl, by decide +kernel, rfl, by decide +kernel, by decide +kernel⟩
theorem ok_Wishes_amounts {f : Addr} {fd : FuncData} (F : Fun K "amounts" "Wishes.amounts" s_Wishes_amounts f fd) (T : TxtB mg) (W : Wsh K mg) : FnOk P w K mg base CX0 1 f fd ["self"] (spNew W.C (fun _ r => r = []) (fun am _ => .dK (amK am))) := by
  refine F.ok sc_Wishes_amounts (fun vs H Q E h => ?_) (fun cdv A outer s H vs Q E hr h => ?_)
  · obtain ⟨x, am, r, rfl, _, _, rfl, _⟩ := h
    rfl
  · obtain ⟨x, am, r, rfl, ok, ⟨dx, fs, t, d, h1, h2, h3, h4, h5, hO⟩, rfl, q⟩ := h
    refine ⟨_, (pss_one (ps_ret (pe_callTy call_dictD (by rfl) T.z_dict (by decide +kernel) (pa_cons (pe_fldK (K := K) rfl (pv 0) (by rfl)) pa_nil)))), ?_⟩
    exact ⟨_, rfl, x, W.C, dx, fs, .ref d, rfl, h1, W.cl, W.n2, h3, d, _, rfl, .inl h5, fun p hp => q p _ (same_of_none hp) hp upd_same⟩

abbrev s_WishesDliked : Stmt := inClass (top 19) 13
abbrev N_WishesDliked : List Str := ["self", "amount", "name"]
theorem sc_WishesDliked : FnScope ["self", "amount", "name"] ["self", "amount"] (defScope s_WishesDliked) := ⟨rfl, rfl, rfl, by decide +kernel, rfl, by decide +kernel, by decide +kernel⟩
theorem ok_WishesDliked {f : Addr} {fd : FuncData} (F : Fun K "_liked" "Wishes._liked" s_WishesDliked f fd) (T : TxtB mg) (W : Wsh K mg) : FnOk P w K mg base CX0 1 f fd ["self", "amount"] (spNew W.C (fun _ r => ∃ z : Int, r = [.int z]) (fun am r => .tup (amN (am.filter fun p => decide (r = [.int p.2]))))) := by
  refine F.ok sc_WishesDliked (fun vs H Q E h => ?_) (fun cdv A outer s H vs Q E hr h => ?_)
  · obtain ⟨x, am, r, rfl, _, _, ⟨z, rfl⟩, _⟩ := h
    rfl
  · obtain ⟨x, am, r, rfl, ok, ⟨dx, fs, t, d, h1, h2, h3, h4, h5, hO⟩, ⟨z, rfl⟩, q⟩ := h
    refine ⟨_, (pss_one (ps_ret (pe_callTy call_tuple_of (by rfl) T.z_tuple (by decide +kernel) (pa_cons (pe_lc (own := [("name", 2)]) (g := gName 2) rfl sc_WishesDliked.nd (pi_tup (pe_fldK (K := K) rfl (pv 0) (by rfl))) (blkOk_by (own := [("name", 2)]) (N := N_WishesDliked) (sc := defScope s_WishesDliked) (by decide +kernel)) (fun _ _ _ _ _ => (pg_name (i := 2) sc_WishesDliked.nd rfl (.inl rfl))) (fun _ _ _ _ _ => (pts_one (pt_cmpR op_eq (pe_dget (hu_of hr) (pe_fldK (K := K) rfl (pv 0) (by rfl)) (pv 2) (fun _ _ => rfl)) (pv 1) (nomark _)))) (fun _ _ _ _ _ => (pv 2))) pa_nil)))), ?_⟩
    refine ⟨_, rfl, x, W.C, dx, fs, .ref t, rfl, h1, W.cl, W.n1, h2, t, rfl, ⟨_, SqT.of h4⟩, fun D hD => ?_⟩
    refine lc_am walk_tup (as := am) (g := fun p => V.str p.1) (fun p => decide (V.int p.2 = V.int z)) (fun p => V.str p.1) hD (fun H' e => SqT.of (e _ _ h4)) (by have := ok.n1; omega) ?_ ?_ ?_ ?_
    · exact fun _ => rfl
    · intro p hp H' e Q q
      exact ⟨_, rfl, x, W.C, dx, fs, .ref d, rfl, e _ _ h1, W.cl, W.n2, h3, _, rfl, d, _, rfl, DGet.amI (e _ _ h5) ok.nd hp, _, rfl, rfl, _, rfl, q⟩
    · exact fun p hp _ H' e Q q => ⟨_, rfl, q⟩
    · refine ⟨D, _, rfl, .inl ⟨SqL.of upd_same, fun l hl => ?_⟩⟩
      have s1 : Same H (upd H D _) := same_of_none (o := .lst ((am.filter fun p => decide (V.int p.2 = V.int z)).map fun p => V.str p.1)) hD
      refine q l _ (s1.trans (same_of_none hl)) (s1.free hl) ?_
      rw [upd_same]
      show some (HO.tup (((am.filter fun p => decide (V.int p.2 = V.int z)).map fun p => V.str p.1))) = some (HO.tup (amN (am.filter fun p => decide ([V.int z] = [V.int p.2]))))
      have : (fun p : Str × Int => decide (V.int p.2 = V.int z)) = fun p => decide ([V.int z] = [V.int p.2]) := by
        funext p
        rw [decide_eq_decide]
        exact ⟨fun h => by rw [h], fun h => (List.cons.inj h).1.symm⟩
      rw [this]
      rfl

abbrev s_Wishes_best : Stmt := inClass (top 19) 9
abbrev N_Wishes_best : List Str := ["self", "names", "most", "name"]
theorem sc_Wishes_best : FnScope ["self", "names", "most", "name"] ["self", "names"] (defScope s_Wishes_best) := ⟨rfl, rfl, rfl, by decide +kernel, rfl, by decide +kernel, by decide +kernel⟩
def spBest (C : Addr) : Sp := fun vs H Q _ => ∃ (x l : Addr) (am : Am) (ws : List Str), vs = [.ref x, .ref l] ∧ WAt C H x am ∧ AmOk am ∧ H l = some (.lst (ws.map V.str)) ∧ ws.length ≤ 8 ∧ ws ≠ [] ∧ (∀ w ∈ ws, w ∈ amS am) ∧
  ∀ (p : Addr) (H' : Hp) (z : Int), (∃ q ∈ am, q.1 ∈ ws ∧ q.2 = z) → (∀ q ∈ am, q.1 ∈ ws → q.2 ≤ z) → Same H H' → H p = none → H' p = some (.tup (amN (am.filter fun q => decide (q.2 = z) && decide (q.1 ∈ ws)))) → Q (.ref p) H'
theorem ok_Wishes_best {f : Addr} {fd : FuncData} (F : Fun K "best" "Wishes.best" s_Wishes_best f fd) (T : TxtB mg) (W : Wsh K mg) (c_WishesD_getitemD : CalM P w K mg base CX0 1 ["self", "at"] (spGet W.C)) (i_WishesD_getitemD : IxF K W.C c_WishesD_getitemD.f) (c_WishesDliked : CalM P w K mg base CX0 1 ["self", "amount"] (spNew W.C (fun _ r => ∃ z : Int, r = [.int z]) (fun am r => .tup (amN (am.filter fun p => decide (r = [.int p.2])))))) (m_WishesDliked : Meth K W.C "_liked" c_WishesDliked.f) : FnOk P w K mg base CX0 3 f fd ["self", "names"] (spBest W.C) := by
  refine F.ok sc_Wishes_best (fun vs H Q E h => ?_) (fun cdv A outer s H vs Q E hr h => ?_)
  · obtain ⟨x, l, am, ws, rfl, _⟩ := h
    rfl
  · obtain ⟨x, l, am, ws, rfl, hx, ok, hl, h8, hne, hin, q⟩ := h
    refine ⟨_, (Evl.pss_cut (ps_if (pt_cmpR op_eq (pe_callB call_len_seq (by rfl) T.z_len PySem.boot_len (pa_cons (pv 1) pa_nil)) pe_int (nomark _)) (pss_one ps_never) pss_nil)
      (pss_cons (ps_set (i := 2) sc_Wishes_best.nd rfl (.inl rfl) (pe_callB (cr_max rfl) (by rfl) T.z_max (by decide +kernel) (pa_cons (pe_lc (own := [("name", 3)]) (g := gName 3) (tt := tYes) rfl sc_Wishes_best.nd (pi_list (pv 1)) (blkOk_by (own := [("name", 3)]) (N := N_Wishes_best) (sc := defScope s_Wishes_best) (by decide +kernel)) (fun _ _ _ _ _ => (pg_name (i := 3) sc_Wishes_best.nd rfl (.inl rfl))) (fun _ _ _ _ _ => pts_nil) (fun _ _ _ _ _ => (pe_ixOwn W.cl i_WishesD_getitemD.hs i_WishesD_getitemD.hf i_WishesD_getitemD.hfn c_WishesD_getitemD.G (hr.mono (by decide)) c_WishesD_getitemD.b pass0 (pv 0) (pv 3)))) pa_nil)))
      (pss_one (ps_ret (pe_callTy call_tuple_of (by rfl) T.z_tuple (by decide +kernel) (pa_cons (pe_lc (own := [("name", 3)]) (g := gName 3) rfl sc_Wishes_best.nd (pi_tup (pe_meth (pv 0) W.cl m_WishesDliked c_WishesDliked.G (hr.mono (by decide)) c_WishesDliked.b .nil pass0 (pa_cons (pv 2) pa_nil))) (blkOk_by (own := [("name", 3)]) (N := N_Wishes_best) (sc := defScope s_Wishes_best) (by decide +kernel)) (fun _ _ _ _ _ => (pg_name (i := 3) sc_Wishes_best.nd rfl (.inl rfl))) (fun _ _ _ _ _ => (pts_one (pt_cmpR (op_inF (K := K) rfl) (pv 3) (pv 1) (by rfl)))) (fun _ _ _ _ _ => (pv 3))) pa_nil)))))), ?_⟩
    obtain ⟨dx, fs, t, d, h1, h2, h3, h4, h5, hO⟩ := hx
    have hx : WAt W.C H x am := ⟨dx, fs, t, d, h1, h2, h3, h4, h5, hO⟩
    obtain ⟨qs, hqs, hqa⟩ : ∃ qs : Am, amS qs = ws ∧ ∀ q ∈ qs, q ∈ am := by
      clear hl h8 hne q
      induction ws with
      | nil => exact ⟨[], rfl, fun _ h => nomatch h⟩
      | cons w r ih =>
        obtain ⟨qs, a1, a2⟩ := ih fun w hw => hin w (List.mem_cons_of_mem _ hw)
        obtain ⟨p, hp, e⟩ := List.mem_map.mp (hin w List.mem_cons_self)
        refine ⟨p :: qs, by show p.1 :: amS qs = _; rw [a1, e], fun q hq => ?_⟩
        rcases List.mem_cons.mp hq with rfl | hq
        · exact hp
        · exact a2 q hq
    have hlen : qs.length = ws.length := by rw [← hqs]; unfold amS; rw [List.length_map]
    have hpos : 0 < ws.length := List.length_pos_iff.mpr hne
    have hws : ws.map V.str = amN qs := by rw [amN_S, hqs]
    refine ⟨fun σ' H' => σ' = [some (.ref x), some (.ref l), none, none] ∧ H' = H, ?_, ?_⟩
    · refine ⟨_, rfl, l, _, rfl, .inl (SqL.of hl), rfl, _, rfl, ?_⟩
      rw [show decide (V.int ((ws.map V.str).length : Int) = V.int 0) = false from decide_eq_false (fun z => by have := V.int.inj z; rw [List.length_map] at this; omega)]
      exact ⟨rfl, rfl⟩
    rintro σ' H' ⟨rfl, rfl⟩
    rw [hws] at hl
    refine ⟨_, rfl, l, rfl, ⟨_, SqL.of hl⟩, fun D hD => ?_⟩
    refine lc_am walk_list (as := qs) (g := fun p => V.str p.1) (fun _ => true) (fun p => V.int p.2) hD (fun H' e => SqL.of (e _ _ hl)) (by omega) (fun _ => rfl) (fun _ _ _ _ _ q => q) (fun p hp _ H' e Q k => ⟨_, rfl, _, rfl, x, dx, fs, rfl, e _ _ h1, x, am, p, rfl, hx.up e, ok, hqa p hp, k⟩) ?_
    rw [List.filter_eq_self.mpr fun _ _ => rfl]
    have s1 : Same H' (upd H' D (.lst (qs.map fun p => V.int p.2))) := same_of_none hD
    refine ⟨D, qs.map (·.2), rfl, SqL.of (by rw [upd_same, List.map_map]; rfl), by rw [List.length_map]; omega, fun z hz hle => ?_⟩
    refine ⟨_, rfl, x, dx, fs, rfl, s1 _ _ h1, hO _ (by decide) (by decide), _, rfl, x, am, _, rfl, ok, hx.up s1, ⟨z, rfl⟩, fun t2 H2 s2 ht2 hk => ?_⟩
    have hk : H2 t2 = some (.tup ((am.filter fun p => decide ([V.int z] = [V.int p.2])).map fun p => V.str p.1)) := hk
    have s12 := s1.trans s2
    refine ⟨t2, rfl, ⟨_, SqT.of hk⟩, fun D2 hD2 => ?_⟩
    refine lc_am walk_tup (as := am.filter fun p => decide ([V.int z] = [V.int p.2])) (g := fun p => V.str p.1) (fun p => decide (p.1 ∈ ws)) (fun p => V.str p.1) hD2 (fun H' e => SqT.of (e _ _ hk)) (by have := ok.n1; have := List.length_filter_le (fun p : Str × Int => decide ([V.int z] = [V.int p.2])) am; omega) (fun _ => rfl) (fun p hp H3 e Q k => ?_) (fun p hp _ H' e Q q => ⟨_, rfl, q⟩) ?_
    · refine ⟨_, rfl, _, rfl, l, amN qs, rfl, .inl (SqL.of (e _ _ (s12 _ _ hl))), rfl, by rw [amN_S]; exact strs_flat _, _, rfl, ?_⟩
      have e2 : inV (.str p.1) (amN qs) = decide (p.1 ∈ ws) := by rw [amN_S, inV_strs, hqs]
      rw [← e2] at k
      exact k
    · refine ⟨D2, _, rfl, .inl ⟨SqL.of upd_same, fun l2 hl2 => ?_⟩⟩
      have s3 := s12.trans (same_of_none (o := .lst (((am.filter fun p => decide ([V.int z] = [V.int p.2])).filter fun p => decide (p.1 ∈ ws)).map fun p => V.str p.1)) hD2)
      refine q l2 _ z ?_ ?_ (s3.trans (same_of_none hl2)) (s3.free hl2) ?_
      · obtain ⟨p, hp, e⟩ := List.mem_map.mp hz
        exact ⟨p, hqa p hp, by rw [← hqs]; exact List.mem_map.mpr ⟨p, hp, rfl⟩, e⟩
      · intro p hp hw
        rw [← hqs] at hw
        obtain ⟨p2, hp2, e⟩ := List.mem_map.mp hw
        have := valV_am ok.nd (hqa p2 hp2)
        rw [show p2.1 = p.1 from e, valV_am ok.nd hp] at this
        have := V.int.inj (Option.some.inj this)
        rw [this]
        exact hle _ (List.mem_map.mpr ⟨p2, hp2, rfl⟩)
      · rw [upd_same, List.filter_filter]
        have : (fun p : Str × Int => decide (p.1 ∈ ws) && decide ([V.int z] = [V.int p.2])) = fun p => decide (p.2 = z) && decide (p.1 ∈ ws) := by
          funext p
          rw [Bool.and_comm]
          congr 1
          rw [decide_eq_decide]
          exact ⟨fun h => (V.int.inj (List.cons.inj h).1).symm, fun h => by rw [h]⟩
        rw [this]
        rfl

abbrev s_Wishes_opposite : Stmt := inClass (top 19) 11
abbrev N_Wishes_opposite : List Str := ["self", "name"]
theorem sc_Wishes_opposite : FnScope ["self", "name"] ["self"] (defScope s_Wishes_opposite) := ⟨rfl, rfl, rfl, by decide +kernel, rfl, by decide +kernel, by decide +kernel⟩
theorem ok_Wishes_opposite {f : Addr} {fd : FuncData} (F : Fun K "opposite" "Wishes.opposite" s_Wishes_opposite f fd) (T : TxtB mg) (W : Wsh K mg) (c_WishesD_initD : CalM P w K mg base CX0 2 ["self", "amounts"] (spInit W.C)) (m_Wishes : Mk K W.C c_WishesD_initD.f) : FnOk P w K mg base CX0 4 f fd ["self"] (spOpp W.C) := by
  refine F.ok sc_Wishes_opposite (fun vs H Q E h => ?_) (fun cdv A outer s H vs Q E hr h => ?_)
  · obtain ⟨x, a, rfl, _⟩ := h
    rfl
  · obtain ⟨x, am, rfl, ok, l1, l6, ⟨dx, fs, t, d, h1, h2, h3, h4, h5, hO⟩, q⟩ := h
    refine ⟨_, (pss_one (ps_ret (pe_make m_Wishes c_WishesD_initD.G (hr.mono (by decide)) rfl W.g c_WishesD_initD.b .nil pass0 (pa_cons (pe_dc (own := [("name", 1)]) (g := gName 1) (tt := tYes) rfl sc_Wishes_opposite.nd (pi_tup (pe_fldK (K := K) rfl (pv 0) (by rfl))) (blkOk_by (own := [("name", 1)]) (N := N_Wishes_opposite) (sc := defScope s_Wishes_opposite) (by decide +kernel)) (fun _ _ _ _ _ => (pg_name (i := 1) sc_Wishes_opposite.nd rfl (.inl rfl))) (fun _ _ _ _ _ => pts_nil) (fun _ _ _ _ _ => (pv 1)) (fun _ _ _ _ _ => (pe_un un_neg (pe_dget (hu_of hr) (pe_fldK (K := K) rfl (pv 0) (by rfl)) (pv 1) (fun _ _ => rfl))))) pa_nil)))), ?_⟩
    refine ⟨_, rfl, x, W.C, dx, fs, .ref t, rfl, h1, W.cl, W.n1, h2, t, rfl, ⟨_, SqT.of h4⟩, fun D hD => dc_am walk_tup (as := am) (g := fun p => V.str p.1) (fun p => .inr p.1) (fun p => .int (-p.2)) hD (fun H' e => SqT.of (e _ _ h4)) (by omega) (fun _ => rfl) (amK_nd ok.nd) (fun p hp H' e Q k => ⟨_, rfl, k⟩) (fun p hp H' e Q k => ⟨_, rfl, x, W.C, dx, fs, .ref d, rfl, e _ _ h1, W.cl, W.n2, h3, _, rfl, d, _, rfl, DGet.amI (e _ _ h5) ok.nd hp, p.2, rfl, k⟩) ?_⟩
    rw [← amK_neg]
    intro y dy hy hdy hdne
    have s1 : Same H (upd H D (.dK (amK (am.map fun p => (p.1, -p.2))))) := same_of_none hD
    have hDy : D ≠ y := fun z => by rw [← z, upd_same] at hy; cases hy
    have hDd : D ≠ dy := fun z => by rw [← z, upd_same] at hdy; cases hdy
    refine ⟨y, D, dy, am.map fun p => (p.1, -p.2), rfl, upd_same, (by rw [upd_ne hDy, upd_ne hDd]; exact upd_same), ok.neg, by rw [List.length_map]; exact l1, by rw [List.length_map]; exact l6, fun am2 H' dy' fs2 t2 d2 hp hs hok k ht2 hd2 g1 g2 g3 g4 g5 g6 => ⟨rfl, ?_⟩⟩
    have s2 := Same.made hy hdy k
    have old : ∀ b, (upd (upd (upd H D (.dK (amK (am.map fun p => (p.1, -p.2))))) dy (.own y)) y (.ins W.C dy [])) b = none → H b = none := fun b hb => by
      have b1 : b ≠ y := fun z => by rw [z, upd_same] at hb; cases hb
      rw [upd_ne b1] at hb
      have b2 : b ≠ dy := fun z => by rw [z, upd_same] at hb; cases hb
      rw [upd_ne b2] at hb
      exact s1.free hb
    exact q y am2 H' hp hs hok (s1.trans s2) ⟨dy', fs2, t2, d2, ⟨s1.free hy, old _ ht2, old _ hd2⟩, g1, g2, g3, g4, g5, g6⟩

abbrev s_Wishes_ranks : Stmt := inClass (top 19) 10
abbrev N_Wishes_ranks : List Str := ["self", "levels", "name", "amount"]
theorem sc_Wishes_ranks : FnScope ["self", "levels", "name", "amount"] ["self"] (defScope s_Wishes_ranks) := ⟨rfl, rfl, rfl, by decide +kernel, rfl, by decide +kernel, by decide +kernel⟩
theorem ok_Wishes_ranks {f : Addr} {fd : FuncData} (F : Fun K "ranks" "Wishes.ranks" s_Wishes_ranks f fd) (T : TxtB mg) (W : Wsh K mg) (c_WishesDliked : CalM P w K mg base CX0 1 ["self", "amount"] (spNew W.C (fun _ r => ∃ z : Int, r = [.int z]) (fun am r => .tup (amN (am.filter fun p => decide (r = [.int p.2])))))) (m_WishesDliked : Meth K W.C "_liked" c_WishesDliked.f) : FnOk P w K mg base CX0 2 f fd ["self"] (spRanks W.C) := by
  refine F.ok sc_Wishes_ranks (fun vs H Q E h => ?_) (fun cdv A outer s H vs Q E hr h => ?_)
  · obtain ⟨x, am, rfl, _⟩ := h
    rfl
  · obtain ⟨x, am, rfl, hx, ok, q⟩ := h
    refine ⟨_, (pss_cons (ps_set (i := 1) sc_Wishes_ranks.nd rfl (.inl rfl) (pe_callB (cr_sortedSet rfl) (by rfl) T.z_sorted (by decide +kernel) (pa_cons (pe_scI (own := [("name", 2)]) (g := gName 2) rfl sc_Wishes_ranks.nd (pi_tup (pe_fldK (K := K) rfl (pv 0) (by rfl))) (blkOk_by (own := [("name", 2)]) (N := N_Wishes_ranks) (sc := defScope s_Wishes_ranks) (by decide +kernel)) (fun _ _ _ _ _ => (pg_name (i := 2) sc_Wishes_ranks.nd rfl (.inl rfl))) (fun _ _ _ _ _ => (pe_dget (hu_of hr) (pe_fldK (K := K) rfl (pv 0) (by rfl)) (pv 2) (fun _ _ => rfl)))) pa_nil)))
      (pss_one (ps_ret (pe_lc (own := [("amount", 3)]) (g := gName 3) (tt := tYes) rfl sc_Wishes_ranks.nd (pi_list (pe_revL (pv 1))) (blkOk_by (own := [("amount", 3)]) (N := N_Wishes_ranks) (sc := defScope s_Wishes_ranks) (by decide +kernel)) (fun _ _ _ _ _ => (pg_name (i := 3) sc_Wishes_ranks.nd rfl (.inl rfl))) (fun _ _ _ _ _ => pts_nil) (fun _ _ _ _ _ => (pe_meth (pv 0) W.cl m_WishesDliked c_WishesDliked.G (hr.mono (by decide)) c_WishesDliked.b .nil pass0 (pa_cons (pv 3) pa_nil))))))), ?_⟩
    have hx0 := hx
    obtain ⟨dx, fs, t, d, h1, h2, h3, h4, h5, hO⟩ := hx0
    have n8 := ok.n1
    refine ⟨_, rfl, x, W.C, dx, fs, .ref t, rfl, h1, W.cl, W.n1, h2, t, rfl, ⟨_, SqT.of h4⟩, fun D hD => ?_⟩
    refine sc_am walk_tup (as := am) (g := fun p => V.str p.1) (fun p => p.2) hD (fun H' e => SqT.of (e _ _ h4)) (by omega) (fun _ => rfl) (fun p hp H' e Q k => ⟨_, rfl, x, W.C, dx, fs, .ref d, rfl, e _ _ h1, W.cl, W.n2, h3, _, rfl, d, _, rfl, DGet.amI (e _ _ h5) ok.nd hp, k⟩) (fun c hc => ?_)
    refine ⟨D, _, c, rfl, upd_same, by omega, fun ns p hpw hmem hlen hp => ?_⟩
    have s1 : Same H (upd H D (SetO w D (fun k => decide (k ∈ am.map fun p => p.2)) c)) := same_of_none hD
    have s2 := s1.trans (same_of_none (o := .lst (ns.map V.int)) hp)
    refine ⟨_, rfl, p, _, rfl, SqL.of upd_same, fun r hr => ?_⟩
    rw [← List.map_reverse]
    have s3 := s2.trans (same_of_none (o := .lst (ns.reverse.map V.int)) hr)
    refine ⟨r, rfl, ⟨_, SqL.of upd_same⟩, fun D2 hD2 => ?_⟩
    refine lc_made walk_list (as := ns.reverse) (g := V.int) (fun z => .tup (amN (am.filter fun p => decide ([V.int z] = [V.int p.2])))) hD2 (fun H' e => SqL.of (e _ _ upd_same)) (by rw [List.length_reverse]; omega) (fun _ => rfl) (fun z hz H' Q e k => ?_) (fun ps H' s hDl hP => ?_) (fun a xs h => nomatch h)
    · have e3 := s3.trans e
      exact ⟨_, rfl, x, dx, fs, rfl, e3 _ _ h1, hO _ (by decide) (by decide), _, rfl, x, am, _, rfl, ok, hx.up e3, ⟨z, rfl⟩, fun t H'' s ht h2 => k t H'' s ht h2⟩
    · refine q D2 (ps.map V.ref) H' ns.reverse (lv_of hpw hmem) (s3.trans s) (s3.free hD2) (fun v hv => ?_) hDl (tups_of (hP.mono fun p z h => ⟨?_, h.2⟩))
      · obtain ⟨t, e, ht⟩ := new_of hP v hv
        exact ⟨t, e, s3.free ht⟩
      · rw [h.1, amN_S]
        have : (fun p : Str × Int => decide ([V.int z] = [V.int p.2])) = fun p => decide (p.2 = z) := by
          funext p
          rw [decide_eq_decide]
          exact ⟨fun h => (V.int.inj (List.cons.inj h).1).symm, fun h => by rw [h]⟩
        rw [this]

abbrev s_Wishes_agrees : Stmt := inClass (top 19) 12
abbrev N_Wishes_agrees : List Str := ["self", "other"]
theorem sc_Wishes_agrees : FnScope ["self", "other"] ["self", "other"] (defScope s_Wishes_agrees) := ⟨rfl, rfl, rfl, by decide +kernel, rfl, by decide +kernel, by decide +kernel⟩
/-- Wishes.agrees -/
def spAgrees (C CU : Addr) : Sp := fun vs H Q E => ∃ (x y : Addr) (a b : Am), vs = [.ref x, .ref y] ∧ WAt C H x a ∧ WAt C H y b ∧ AmOk a ∧ AmOk b ∧
  (amS a = amS b → ∀ (H' : Hp) (na nb : List Int), IsLv a na → IsLv b nb → Same H H' → Q (.bl (decide (rks a na = rks b nb))) H') ∧
  (amS a ≠ amS b → ∀ (d t : Addr) (H' : Hp), Same H H' → H t = some (.tup (amN b)) → H d = none → H' d = some (.xd [("names", .ref t)]) → E (.ref CU) (some d) H')
set_option maxHeartbeats 20000000 in
theorem ok_Wishes_agrees {f : Addr} {fd : FuncData} (F : Fun K "agrees" "Wishes.agrees" s_Wishes_agrees f fd) (T : TxtB mg) (W : Wsh K mg) {CU : Addr} (c_check_outcomes : Cal P w K mg base "check_outcomes" (CX P w) 3 ["outcomes", "names"] (spCheckOut CU)) (c_Wishes_outcomes : CalM P w K mg base CX0 1 ["self"] (spOut W.C)) {pA : Addr} (p_Wishes_outcomes : PropOf K W.C "outcomes" pA c_Wishes_outcomes.f) (c_Wishes_ranks : CalM P w K mg base CX0 2 ["self"] (spRanks W.C)) (m_Wishes_ranks : Meth K W.C "ranks" c_Wishes_ranks.f) : FnOk P w K mg base (CX P w) 4 f fd ["self", "other"] (spAgrees W.C CU) := by
  refine F.okX sc_Wishes_agrees (fun vs H Q E h => ?_) (fun cdv A outer s H vs Q E hr h => ?_)
  · obtain ⟨x, y, a, b, rfl, _⟩ := h
    rfl
  · obtain ⟨x, y, a, b, rfl, hx, hy, oka, okb, q1, q2⟩ := h
    refine ⟨_, (pss_cons (ps_expr (pe_callS c_check_outcomes.G (hr.mono (by decide)) (by rfl) c_check_outcomes.g c_check_outcomes.kp c_check_outcomes.b (fun σ => passAt (takes_of rfl rfl rfl rfl) σ) (pa_cons (pe_fldK (K := K) rfl (pv 0) (by rfl)) (pa_cons (pe_prop (pv 1) W.cl p_Wishes_outcomes c_Wishes_outcomes.G (hr.mono (by decide)) c_Wishes_outcomes.b .nil pass0 (by rfl)) pa_nil))))
      (pss_one (ps_ret (pe_cmpR (op_eqD hr.units) (pe_meth0 (pv 0) W.cl m_Wishes_ranks c_Wishes_ranks.G (hr.mono (by decide)) c_Wishes_ranks.b .nil pass0 ) (pe_meth0 (pv 1) W.cl m_Wishes_ranks c_Wishes_ranks.G (hr.mono (by decide)) c_Wishes_ranks.b .nil pass0 ) (nomark _))))), ?_⟩
    obtain ⟨dx, fs, t, d, h1, h2, h3, h4, h5, hO⟩ := hx
    have hx : WAt W.C H x a := ⟨dx, fs, t, d, h1, h2, h3, h4, h5, hO⟩
    obtain ⟨dx', fs', t', d', g1, g2, g3, g4, g5, gO⟩ := hy
    have hy : WAt W.C H y b := ⟨dx', fs', t', d', g1, g2, g3, g4, g5, gO⟩
    refine ⟨_, rfl, x, W.C, dx, fs, .ref t, rfl, h1, W.cl, W.n1, h2, _, rfl, y, dx', fs', rfl, g1, y, dx', fs', t', rfl, g1, g2, ?_⟩
    refine ⟨t, t', amS a, amS b, rfl, by rw [← amN_S]; exact h4, by rw [← amN_S]; exact g4, oka.gd, okb.gd, fun hab => ?_, fun ne dd H' s hd hx => q2 ne dd t' H' s g4 hd hx⟩
    refine ⟨_, rfl, x, dx, fs, rfl, h1, hO _ (by decide) (by decide), x, a, rfl, hx, oka, fun p vs H1 na hna s1 hp hvs hpl hT => ?_⟩
    refine ⟨_, rfl, y, dx', fs', rfl, s1 _ _ g1, gO _ (by decide) (by decide), y, b, rfl, hy.up s1, okb, fun p2 vs2 H2 nb hnb s2 hp2 hvs2 hpl2 hT2 => ?_⟩
    refine ⟨lD (rks a na), lD (rks b nb), dp_lD (s2 _ _ hpl) (hT.up s2), dp_lD hpl2 hT2, shaped_lD (rks_ok oka na), shaped_lD (rks_ok okb nb), ?_⟩
    rw [eqv_lD]
    exact q1 hab H2 na nb hna hnb (s1.trans s2)

abbrev s_Ltold : Stmt := top 27
abbrev N_Ltold : List Str := ["_law_one", "_law_two", "e"]
theorem sc_Ltold : FnScope ["_law_one", "_law_two", "e"] ["_law_one", "_law_two"] (defScope s_Ltold) := ⟨rfl, rfl, rfl, by decide +kernel, rfl, by decide +kernel, by decide +kernel⟩
/-- _law_told: one's answer to agrees -/
def spTold (C : Addr) : Sp := fun vs H Q _ => ∃ (x y : Addr) (a b : Am), vs = [.ref x, .ref y] ∧ WAt C H x a ∧ WAt C H y b ∧ AmOk a ∧ AmOk b ∧
  (amS a = amS b → ∀ (p : Addr) (H' : Hp) (na nb : List Int), IsLv a na → IsLv b nb → Same H H' → H p = none → H' p = some (.lst [.str "agrees", .bl (decide (rks a na = rks b nb))]) → Q (.ref p) H') ∧
  (amS a ≠ amS b → ∀ (p t : Addr) (H' : Hp), Same H H' → H p = none → H t = some (.tup (amN b)) → H' p = some (.lst [.str "unlike", .ref t]) → Q (.ref p) H')
set_option maxHeartbeats 20000000 in
theorem ok_Ltold {f : Addr} {fd : FuncData} (F : Fun K "_law_told" "_law_told" s_Ltold f fd) (T : TxtB mg) (W : Wsh K mg) (x_UnlikeOutcomes : XCls K mg "UnlikeOutcomes" "names") (c_Wishes_agrees : CalM P w K mg base (CX P w) 4 ["self", "other"] (spAgrees W.C x_UnlikeOutcomes.C)) (m_Wishes_agrees : Meth K W.C "agrees" c_Wishes_agrees.f) : FnOk P w K mg base CX0 5 f fd ["_law_one", "_law_two"] (spTold W.C) := by
  refine F.ok sc_Ltold (fun vs H Q E h => ?_) (fun cdv A outer s H vs Q E hr h => ?_)
  · obtain ⟨x, y, a, b, rfl, _⟩ := h
    rfl
  · obtain ⟨x, y, a, b, rfl, hx, hy, oka, okb, q1, q2⟩ := h
    refine ⟨_, (pss_one (ps_try_as (i := 2) rfl rfl sc_Ltold.nd rfl rfl ⟨rfl, by decide, .inl x_UnlikeOutcomes.g⟩ takes0 (fun _ pn xe tk _ => (pss_one (ps_ret (pe_lst (pa_cons pe_str (pa_cons (pe_methT (pv 0) W.cl m_Wishes_agrees c_Wishes_agrees.G (hr.mono (by decide)) c_Wishes_agrees.b (fun σ => passAt tk σ) (pa_cons (pv 1) pa_nil)) pa_nil))))))
        (fun a oe cls d pn hz hf => (pss_one (ps_ret (pe_lst (pa_cons pe_str (pa_cons (pe_xf x_UnlikeOutcomes.xf x_UnlikeOutcomes.no hz hf (pv 2)) pa_nil)))))))), ?_⟩
    have hx0 := hx
    obtain ⟨dx, fs, t, d, h1, h2, h3, h4, h5, hO⟩ := hx0
    refine ⟨_, rfl, x, dx, fs, rfl, h1, hO _ (by decide) (by decide), _, rfl, x, y, a, b, rfl, hx, hy, oka, okb, fun hab H' na nb hna hnb s1 => ?_, fun hab d2 t2 H' s1 ht hd hd' => ?_⟩
    · exact ⟨(show 2 ≤ sizeLine by decide), fun p hp => q1 hab p _ na nb hna hnb (s1.trans (same_of_none hp)) (s1.free hp) upd_same⟩
    · refine ⟨true, x_UnlikeOutcomes.ex, fun _ e he => ?_, fun q => nomatch q⟩
      exact ⟨_, rfl, rfl, rfl, d2, [("names", .ref t2)], .ref t2, rfl, hd', rfl, (show 2 ≤ sizeLine by decide), fun p hp => q2 hab p t2 _ (s1.trans (same_of_none hp)) (s1.free hp) ht upd_same⟩

abbrev s_Ldue : Stmt := top 28
abbrev N_Ldue : List Str := ["_law_given", "_law_near_here"]
theorem sc_Ldue : FnScope ["_law_given", "_law_near_here"] ["_law_given", "_law_near_here"] (defScope s_Ldue) := ⟨rfl, rfl, rfl, by decide +kernel, rfl, by decide +kernel, by decide +kernel⟩
set_option maxHeartbeats 20000000 in
theorem ok_Ldue {f : Addr} {fd : FuncData} (F : Fun K "_law_due" "_law_due" s_Ldue f fd) (T : TxtB mg) (c_Lranks : Cal P w K mg base "_law_ranks" CX0 2 ["_law_given"] spLR) : FnOk P w K mg base CX0 3 f fd ["_law_given", "_law_near_here"] spDue := by
  refine F.ok sc_Ldue (fun vs H Q E h => ?_) (fun cdv A outer s H vs Q E hr h => ?_)
  · obtain ⟨g, n, a, b, rfl, _⟩ := h
    rfl
  · obtain ⟨g, n, a, b, rfl, hg, hn, oka, okb, q⟩ := h
    refine ⟨_, (pss_cons (ps_if (pt_cmpR (op_neD hr.units) (pe_callB (call_sortedD rfl) (by rfl) T.z_sorted (by decide +kernel) (pa_cons (pv 0) pa_nil)) (pe_callB (call_sortedD rfl) (by rfl) T.z_sorted (by decide +kernel) (pa_cons (pv 1) pa_nil)) (nomark _)) (pss_one (ps_ret (pe_lst (pa_cons pe_str (pa_cons (pe_callTy call_tuple_of (by rfl) T.z_tuple (by decide +kernel) (pa_cons (pe_callB (call_sortedD rfl) (by rfl) T.z_sorted (by decide +kernel) (pa_cons (pv 1) pa_nil)) pa_nil)) pa_nil))))) pss_nil)
      (pss_one (ps_ret (pe_lst (pa_cons pe_str (pa_cons (pe_cmpR (op_eqD hr.units) (pe_call c_Lranks.G (hr.mono (by decide)) (by rfl) c_Lranks.g c_Lranks.kp c_Lranks.b .nil pass0 (pa_cons (pv 0) pa_nil)) (pe_call c_Lranks.G (hr.mono (by decide)) (by rfl) c_Lranks.g c_Lranks.kp c_Lranks.b .nil pass0 (pa_cons (pv 1) pa_nil)) (nomark _)) pa_nil)))))), ?_⟩
    have la : (amS a).length < 64 := by unfold amS; rw [List.length_map]; have := oka.n1; omega
    have lb : (amS b).length < 64 := by unfold amS; rw [List.length_map]; have := okb.n1; omega
    refine ⟨_, rfl, g, amK a, amS a, rfl, .inl hg, amK_keys a, la, fun ys p1 hp1 hs1 hf1 => ?_⟩
    have s1 : Same H (upd H p1 (.lst (ys.map V.str))) := same_of_none hf1
    refine ⟨_, rfl, n, amK b, amS b, rfl, .inl (s1 _ _ hn), amK_keys b, lb, fun zs p2 hp2 hs2 hf2 => ?_⟩
    have s2 : Same (upd H p1 (.lst (ys.map V.str))) (upd (upd H p1 (.lst (ys.map V.str))) p2 (.lst (zs.map V.str))) := same_of_none hf2
    refine ⟨.list (ys.map .str), .list (zs.map .str), .lst (SqL.of (s2 _ _ upd_same)) (dpAll_strs ys), .lst (SqL.of upd_same) (dpAll_strs zs), shaped_am oka hp1, shaped_am okb hp2, _, rfl, ?_⟩
    obtain ⟨H2, hH2⟩ : ∃ H2, H2 = upd (upd H p1 (.lst (ys.map V.str))) p2 (.lst (zs.map V.str)) := ⟨_, rfl⟩
    have s12 : Same H H2 := by rw [hH2]; exact s1.trans s2
    rw [← hH2]
    clear hH2 s2 s1 hf2 hf1
    obtain ⟨sa, hsa, rfl⟩ := am_perm oka.nd hp1
    obtain ⟨sb, hsb, rfl⟩ := am_perm okb.nd hp2
    have oksa := AmOk.perm hsa oka
    have oksb := AmOk.perm hsb okb
    obtain ⟨q1, q2⟩ := q sa sb hsa hs1 hsb hs2
    rw [eqv_strs]
    refine ite2 (fun e => ?_) (fun e => ?_)
    · have e : amS sa ≠ amS sb := by simpa using e
      refine ⟨_, rfl, n, amK b, amS b, rfl, .inl (s12 _ _ hn), amK_keys b, lb, fun ws p3 hp3 hs3 hf3 => ?_⟩
      have ews : ws = amS sb := sortedS_one hs3 hs2 (hp3.trans hp2.symm)
      subst ews
      have s3 : Same H (upd H2 p3 (.lst ((amS sb).map V.str))) := s12.trans (same_of_none hf3)
      refine ⟨p3, _, rfl, .inl ⟨SqL.of upd_same, fun t ht => ⟨(show 2 ≤ sizeLine by decide), fun l hl => ?_⟩⟩⟩
      have s4 := s3.trans (same_of_none (o := .tup ((amS sb).map V.str)) ht)
      refine q2 e l t _ (s4.trans (same_of_none hl)) (s4.free hl) (s3.free ht) ?_ upd_same
      rw [amN_S]
      exact same_of_none hl _ _ upd_same
    · have e : amS sa = amS sb := by simpa using e
      refine ⟨_, rfl, g, a, rfl, s12 _ _ hg, oka, fun sa' hsa' hrt' => ?_⟩
      have := srt_one oka.nd hrt' hs1 hsa' hsa
      subst this
      intro p vs H3 na hna s3 hp hvs hpl hT
      have s13 := s12.trans s3
      refine ⟨_, rfl, n, b, rfl, s13 _ _ hn, okb, fun sb' hsb' hrt'' => ?_⟩
      have := srt_one okb.nd hrt'' hs2 hsb' hsb
      subst this
      intro p4 vs4 H4 nb hnb s4 hp4 hvs4 hpl4 hT4
      have s14 := s13.trans s4
      refine ⟨lD (rks sa' na), lD (rks sb' nb), dp_lD (s4 _ _ hpl) (hT.up s4), dp_lD hpl4 hT4, shaped_lD (rks_ok oksa na), shaped_lD (rks_ok oksb nb), ?_⟩
      rw [eqv_lD]
      exact ⟨(show 2 ≤ sizeLine by decide), fun l hl => q1 e l _ na nb hna hnb (s14.trans (same_of_none hl)) (s14.free hl) upd_same⟩

abbrev s_Lnear : Stmt := top 26
abbrev N_Lnear : List Str := ["_law_state", "_law_given", "_law_near_here", "_law_label", "_law_plan", "_law_second", "_law_word"]
theorem sc_Lnear : FnScope ["_law_state", "_law_given", "_law_near_here", "_law_label", "_law_plan", "_law_second", "_law_word"] ["_law_state", "_law_given"] (defScope s_Lnear) := ⟨rfl, rfl, rfl, by decide +kernel, rfl, by decide +kernel, by decide +kernel⟩
set_option maxHeartbeats 20000000 in
theorem ok_Lnear {f : Addr} {fd : FuncData} (F : Fun K "_law_near" "_law_near" s_Lnear f fd) (T : TxtB mg) (c_Ldraw : Cal P w K mg base "_law_draw" CX0 1 ["_law_state", "_law_size"] spDraw) (c_Lorder : Cal P w K mg base "_law_order" CX0 2 ["_law_state", "_law_items"] (spOrder K)) : FnOk P w K mg base CX0 3 f fd ["_law_state", "_law_given"] spNear := by
  refine F.ok sc_Lnear (fun vs H Q E h => ?_) (fun cdv A outer s H vs Q E hr h => ?_)
  · obtain ⟨s, N, G, g, a, rfl, _⟩ := h
    rfl
  · obtain ⟨s, N, G, g, a, rfl, v, hN, hg, ok, l1, l6, hb, q⟩ := h
    refine ⟨_, (pss_cons (ps_set (i := 2) sc_Lnear.nd rfl (.inr rfl) pe_dnewK)
      (pss_cons (ps_for PassesOwn.never rfl (pi_list (pe_call c_Lorder.G (hr.mono (by decide)) (by rfl) c_Lorder.g c_Lorder.kp c_Lorder.b .nil pass0 (pa_cons (pv 0) (pa_cons (pe_callB (call_sortedD rfl) (by rfl) T.z_sorted (by decide +kernel) (pa_cons (pv 1) pa_nil)) pa_nil)))) (pg_name (i := 3) sc_Lnear.nd rfl (.inl rfl)) (pss_one (ps_dput (hu_of hr) (pv 2) (pv 3) (pe_dget (hu_of hr) (pv 1) (pv 3) (fun _ _ => rfl)) rfl)))
      (pss_cons (ps_set (i := 4) sc_Lnear.nd rfl (.inl rfl) (pe_call c_Ldraw.G (hr.mono (by decide)) (by rfl) c_Ldraw.g c_Ldraw.kp c_Ldraw.b .nil pass0 (pa_cons (pv 0) (pa_cons pe_int pa_nil))))
      (pss_cons (ps_set (i := 3) sc_Lnear.nd rfl (.inl rfl) (pe_ix ix_list (pe_callB (call_sortedD rfl) (by rfl) T.z_sorted (by decide +kernel) (pa_cons (pv 2) pa_nil)) (pe_call c_Ldraw.G (hr.mono (by decide)) (by rfl) c_Ldraw.g c_Ldraw.kp c_Ldraw.b .nil pass0 (pa_cons (pv 0) (pa_cons (pe_callB call_lenD (by rfl) T.z_len PySem.boot_len (pa_cons (pv 2) pa_nil)) pa_nil))) (fun _ _ => rfl)))
      (pss_cons (ps_set (i := 5) sc_Lnear.nd rfl (.inl rfl) (pe_ix ix_list (pe_callB (call_sortedD rfl) (by rfl) T.z_sorted (by decide +kernel) (pa_cons (pv 2) pa_nil)) (pe_call c_Ldraw.G (hr.mono (by decide)) (by rfl) c_Ldraw.g c_Ldraw.kp c_Ldraw.b .nil pass0 (pa_cons (pv 0) (pa_cons (pe_callB call_lenD (by rfl) T.z_len PySem.boot_len (pa_cons (pv 2) pa_nil)) pa_nil))) (fun _ _ => rfl)))
      (Evl.pss_cut (ps_if (pt_cmpR op_eq (pv 4) pe_int (nomark _)) (pss_one (ps_dput (hu_of hr) (pv 2) (pv 3) (pe_op op_add (pe_dget (hu_of hr) (pv 2) (pv 3) (fun _ _ => rfl)) pe_int) rfl)) pss_nil)
      (Evl.pss_cut (ps_if (pt_cmpR op_eq (pv 4) pe_int (nomark _)) (pss_one (ps_set (i := 2) sc_Lnear.nd rfl (.inr rfl) (pe_callTy (call_dictP rfl) (by rfl) T.z_dict (by decide +kernel) (pa_cons (pe_lock (pe_lc (own := [("_law_word", 6)]) (g := gName 6) (tt := tYes) rfl sc_Lnear.nd (pi_keys (pv 2)) (blkOk_by (own := [("_law_word", 6)]) (N := N_Lnear) (sc := defScope s_Lnear) (by decide +kernel)) (fun _ _ _ _ _ => (pg_name (i := 6) sc_Lnear.nd rfl (.inl rfl))) (fun _ _ _ _ _ => pts_nil) (fun _ _ _ _ _ => (pe_tup (pa_cons (pv 6) (pa_cons (pe_op op_add (pe_dget (hu_of hr) (pv 2) (pv 6) (fun _ _ => rfl)) pe_int) pa_nil)))))) pa_nil)))) pss_nil)
      (Evl.pss_cut (ps_if (pt_cmpR op_eq (pv 4) pe_int (nomark _)) (pss_one (ps_set (i := 2) sc_Lnear.nd rfl (.inr rfl) (pe_callTy (call_dictP rfl) (by rfl) T.z_dict (by decide +kernel) (pa_cons (pe_lock (pe_lc (own := [("_law_word", 6)]) (g := gName 6) (tt := tYes) rfl sc_Lnear.nd (pi_keys (pv 2)) (blkOk_by (own := [("_law_word", 6)]) (N := N_Lnear) (sc := defScope s_Lnear) (by decide +kernel)) (fun _ _ _ _ _ => (pg_name (i := 6) sc_Lnear.nd rfl (.inl rfl))) (fun _ _ _ _ _ => pts_nil) (fun _ _ _ _ _ => (pe_tup (pa_cons (pv 6) (pa_cons (pe_op op_mulW (pe_dget (hu_of hr) (pv 2) (pv 6) (fun _ _ => rfl)) pe_int) pa_nil)))))) pa_nil)))) pss_nil)
      (Evl.pss_cut (ps_if (pt_cmpR op_eq (pv 4) pe_int (nomark _)) (pss_one (ps_asg (pe_tup (pa_cons (pe_dget (hu_of hr) (pv 2) (pv 5) (fun _ _ => rfl)) (pa_cons (pe_dget (hu_of hr) (pv 2) (pv 3) (fun _ _ => rfl)) pa_nil))) (pg_tup (by rfl) (pgs_cons (pg_sub (pv 2) (pv 3) (set_dict (hu_of hr))) (pgs_cons (pg_sub (pv 2) (pv 5) (set_dict (hu_of hr))) pgs_nil))))) pss_nil)
      (Evl.pss_cut (ps_if (PW.pt (pw_and (pt_cmpR op_eq (pv 4) pe_int (nomark _)) (pw_and1 (pt_cmpR op_lt (pe_callB call_lenD (by rfl) T.z_len PySem.boot_len (pa_cons (pv 2) pa_nil)) pe_int (nomark _))))) (pss_one (ps_dput (hu_of hr) (pv 2) pe_str pe_int rfl)) pss_nil)
      (Evl.pss_cut (ps_if (PW.pt (pw_and (pt_cmpR op_eq (pv 4) pe_int (nomark _)) (pw_and1 (pt_cmpR op_gt (pe_callB call_lenD (by rfl) T.z_len PySem.boot_len (pa_cons (pv 2) pa_nil)) pe_int (nomark _))))) (pss_one (ps_expr (pe_dpop1 (pv 2) (pv 3) ⟨by rfl, by rfl, by rfl, by rfl⟩))) pss_nil)
      (Evl.pss_cut (ps_if (pt_cmpR op_eq (pv 4) pe_int (nomark _)) (pss_one (ps_dput (hu_of hr) (pv 2) pe_str (pe_dpop1 (pv 2) (pv 3) ⟨by rfl, by rfl, by rfl, by rfl⟩) rfl)) pss_nil)
      (Evl.pss_cut (ps_if (pt_cmpR op_eq (pv 4) pe_int (nomark _)) (pss_one (ps_dput (hu_of hr) (pv 2) (pv 3) (pe_un un_neg (pe_dget (hu_of hr) (pv 2) (pv 3) (fun _ _ => rfl))) rfl)) pss_nil)
      (pss_one (ps_ret (pv 2)))))))))))))))), ?_⟩
    refine fun p hp => ?_
    have hGp := v.free hp
    have v := v.new (o := .dK (amK [])) hp
    have hgp : g ≠ p := ne_of_none hg hGp
    refine ⟨_, rfl, _, rfl, g, amK a, amS a, rfl, .inl (v.sub _ _ (by rw [upd_ne hgp]; exact hg)), amK_keys a, by rw [amS_len]; omega, fun ys l hys hsr hl => ?_⟩
    have hGl' := v.free hl
    have hlp : l ≠ p := Ne.symm (ne_of_none upd_same hGl')
    have v := v.new (o := .lst (ys.map V.str)) hl
    have hyl : ys.length = a.length := by rw [hys.length_eq, amS_len]
    refine ⟨s, N, _, l, ys.map V.str, rfl, v, SqL.of upd_same, by omega, by rw [List.length_map]; omega, fun zs l2 H2 hzs hG2 v => ?_⟩
    obtain ⟨am, ham, rfl⟩ := am_permV (a := a) ok.nd (hzs.trans (by rw [amN_S]; exact hys.map _))
    have okm := AmOk.perm ham ok
    have hll : l2 ≠ l := fun z => by rw [z, upd_same] at hG2; cases hG2
    rw [upd_ne hll] at hG2
    have hlp2 : l2 ≠ p := fun z => by rw [z, upd_same] at hG2; cases hG2
    rw [upd_ne hlp2] at hG2
    rw [upd_ne hlp] at hGl'
    rw [upd_comm2 hll.symm] at v
    have v := v.hide (by rw [upd_ne hll.symm, upd_ne hlp]; exact hGl')
    rw [upd_comm2 hlp2.symm] at v
    have hal : am.length = a.length := ham.length_eq
    refine ⟨l2, rfl, ⟨_, SqL.of (v.sub _ _ (by rw [upd_ne hlp2]; exact upd_same))⟩, for_list (xs := amN am) (fun i σ H' => (∃ a3, σ = [some (.ref s), some (.ref g), some (.ref p), a3, none, none, none]) ∧ View s (N + 60) (upd (upd G l2 (.lst (amN am))) p (.dK (amK (am.take i)))) H') ⟨⟨none, rfl⟩, v⟩ (fun i σ H' _ h => SqL.of (h.2.sub _ _ (by rw [upd_ne hlp2]; exact upd_same))) ?_ ?_⟩
    · rintro i y σ H' hy ⟨⟨a3, rfl⟩, v⟩
      unfold amN at hy
      rw [List.getElem?_map] at hy
      obtain ⟨pz, hpz, rfl⟩ := Option.map_eq_some_iff.mp hy
      have hmem : pz ∈ am := List.mem_of_getElem? hpz
      have hgl : g ≠ l2 := ne_of_none hg hG2
      have hnew : pz.1 ∉ amS (am.take i) := fun h => by
        have := okm.nd
        have h3 : ((amS (am.take (i + 1)))).Nodup := this.sublist ((List.take_sublist _ _).map _)
        rw [take_more hpz] at h3
        have h4 : (amS (am.take i) ++ [pz.1]).Nodup := by
          have : amS (am.take i ++ [pz]) = amS (am.take i) ++ [pz.1] := by unfold amS; rw [List.map_append]; rfl
          rwa [this] at h3
        exact (List.nodup_append.mp h4).2.2 _ h _ (List.mem_singleton.mpr rfl) rfl
      refine ⟨_, rfl, _, rfl, g, _, rfl, DGet.amI (v.sub _ _ (by rw [upd_ne hgp, upd_ne hgl]; exact hg)) ok.nd (ham.mem_iff.mp hmem), _, rfl, _, rfl, p, _, rfl, DPut.am (v.sub _ _ upd_same) (by have := (List.take_sublist i am).length_le; omega), ⟨_, rfl⟩, ?_⟩
      have := v.put (o := .dK (amK (aput (am.take i) pz.1 pz.2))) upd_same
      rw [upd_upd] at this
      rw [take_more hpz]
      rw [aput_new hnew] at this ⊢
      exact this
    rintro σ H3 ⟨⟨a3, rfl⟩, v⟩
    rw [show (amN am).length = am.length from List.length_map _, List.take_length, upd_comm2 hlp2] at v
    have v := v.hide (by rw [upd_ne hlp2]; exact hG2)
    -- plan, label, second
    refine ⟨_, rfl, s, _, _, 9, rfl, v, by omega, by decide, by decide, fun pl H4 p0 p1 v => ?_⟩
    refine ⟨_, rfl, p, amK am, amS am, rfl, .inl (v.sub _ _ upd_same), amK_keys am, by rw [amS_len]; omega, fun ys3 l3 hys3 hsr3 hl3 => ?_⟩
    have hGl3 := v.free hl3
    have v := v.new (o := .lst (ys3.map V.str)) hl3
    have hl3p : p ≠ l3 := ne_of_none upd_same hGl3
    refine ⟨_, rfl, _, rfl, p, _, rfl, v.sub _ _ (by rw [upd_ne hl3p]; exact upd_same), s, _, _, _, rfl, v, by omega, by rw [amK_len]; omega, by rw [amK_len]; omega, fun d3 H5 d30 d31 v => ?_⟩
    obtain ⟨lab, hlab, hat⟩ := pickW (ws := ys3) d30 (by rw [hys3.length_eq, amS_len, ← amK_len]; exact d31)
    have hlab : lab ∈ amS am := hys3.mem_iff.mp hlab
    refine ⟨l3, _, d3, _, rfl, rfl, SqL.of (v.sub _ _ upd_same), hat, ?_⟩
    have v := v.hide hGl3
    refine ⟨_, rfl, p, amK am, amS am, rfl, .inl (v.sub _ _ upd_same), amK_keys am, by rw [amS_len]; omega, fun ys4 l4 hys4 hsr4 hl4 => ?_⟩
    have hGl4 := v.free hl4
    have v := v.new (o := .lst (ys4.map V.str)) hl4
    have hl4p : p ≠ l4 := ne_of_none upd_same hGl4
    refine ⟨_, rfl, _, rfl, p, _, rfl, v.sub _ _ (by rw [upd_ne hl4p]; exact upd_same), s, _, _, _, rfl, v, by omega, by rw [amK_len]; omega, by rw [amK_len]; omega, fun d4 H6 d40 d41 v => ?_⟩
    obtain ⟨sec, hsec, hat4⟩ := pickW (ws := ys4) d40 (by rw [hys4.length_eq, amS_len, ← amK_len]; exact d41)
    have hsec : sec ∈ amS am := hys4.mem_iff.mp hsec
    refine ⟨l4, _, d4, _, rfl, rfl, SqL.of (v.sub _ _ upd_same), hat4, ?_⟩
    have v := v.hide hGl4
    have v := v.mono (show N + 60 + 1 + 1 + 1 ≤ N + 63 by omega)
    have glab := okm.gd _ hlab
    have gsec := okm.gd _ hsec
    let Mid : Int → L2.St → Hp → Prop := fun k σ' H' => ∃ (p : Addr) (b : Am), σ' = [some (.ref s), some (.ref g), some (.ref p), some (.str lab), some (.int pl), some (.str sec), none] ∧ G p = none ∧ View s (N + 63) (upd G p (.dK (amK b))) H' ∧ AmOk b ∧ 1 ≤ b.length ∧ b.length ≤ 6 ∧ (k < pl → lab ∈ amS b ∧ sec ∈ amS b ∧ ∀ p ∈ b, p.2.natAbs < 2 ^ 100)
    -- 1
    refine ⟨Mid 1, ?_, ?_⟩
    · refine cond_if (C := pl = 1) (fun K k => ⟨_, rfl, rfl, _, rfl, kdec k dec_vint⟩) (fun h => ?_) (fun h => ⟨p, am, rfl, hGp, v, okm, by omega, by omega, fun _ => ⟨hlab, hsec, fun p hp => hb p (ham.mem_iff.mp hp)⟩⟩)
      obtain ⟨z, hz⟩ := am_val hlab
      refine ⟨_, rfl, _, rfl, p, _, rfl, DGet.amI (v.sub _ _ upd_same) okm.nd hz, _, _, rfl, rfl, _, rfl, _, rfl, p, _, rfl, DPut.am (v.sub _ _ upd_same) (by omega), p, aput am lab (z + 1), rfl, hGp, ?_, okm.put lab _ glab (by omega), ?_, ?_, fun h2 => absurd h2 (by omega)⟩
      · have := v.put (o := .dK (amK (aput am lab (z + 1)))) upd_same
        rw [upd_upd] at this
        exact this
      · rw [put_len, if_pos hlab]; omega
      · rw [put_len, if_pos hlab]; omega
    clear v
    rintro σ' H' ⟨p, b, rfl, hGp, v, okb, m1, m6, fx⟩
    refine ⟨Mid 2, ?_, ?_⟩
    · refine cond_if (C := pl = 2) (fun K k => ⟨_, rfl, rfl, _, rfl, kdec k dec_vint⟩) (fun h => ?_) (fun h => ⟨p, b, rfl, hGp, v, okb, m1, m6, fun h2 => fx (by omega)⟩)
      have fx := fx (by omega)
      refine ⟨p, _, v.sub _ _ upd_same, trivial, fun od => ?_⟩
      refine ⟨_, rfl, p, od, rfl, .inl ⟨amK b, upd_same, fun D hD => ?_⟩⟩
      refine lc_pairs walk_amK (as := b) (fun q => ((Sum.inr q.1 : Key), V.int (q.2 + 5))) hD (fun H2 e => e _ _ upd_same) (by omega) (fun _ => rfl) (fun q hq Hx Q e k => ?_) (fun ps Hx e hDx hP => ?_)
      · exact ⟨_, rfl, _, rfl, _, rfl, p, .int q.2, rfl, .inl ⟨amK b, .inr q.1, .inr ⟨od, e _ _ upd_same⟩, rfl, (valV_am okb.nd hq).symm⟩, _, _, rfl, rfl, (show 2 ≤ sizeLine by decide), k⟩
      · have hxp := e _ _ upd_same
        refine ⟨hxp, ?_⟩
        have hDp : D ≠ p := fun z => by rw [z, upd_same] at hD; cases hD
        have hD2 : Hx D = some (.lst (ps.map V.ref)) := hDx
        have sm : Same H' (upd Hx p (.dK (amK b))) := fun c o hc => by
          by_cases hcp : c = p
          · subst hcp
            rw [v.sub _ _ upd_same] at hc
            rw [upd_same]
            exact hc
          · rw [upd_ne hcp]
            exact e _ _ (by rw [upd_ne hcp]; exact hc)
        refine ⟨D, ps, _, rfl, SqL.of (by rw [upd_ne hDp]; exact hDx), hP.mono (fun c q hc => SqT.of (by
          have hcp : c ≠ p := fun z => by rw [z, hxp] at hc; cases hc
          rw [upd_ne hcp]
          exact hc)), fun p2 hp2 => ?_⟩
        rw [mergeK_am (by rw [List.map_map]; exact amK_nd okb.nd) (fun _ _ => valV_nil), List.nil_append]
        have v2 := (v.ext sm).hide hGp
        have hG2 := v2.free hp2
        have v3 := v2.new (o := .dK (b.map fun q => ((Sum.inr q.1 : Key), V.int (q.2 + 5)))) hp2
        refine ⟨p2, b.map fun q => (q.1, q.2 + 5), rfl, hG2, ?_, okb.map fun z => z + 5, by rw [List.length_map]; exact m1, by rw [List.length_map]; exact m6, fun h2 => absurd h2 (by omega)⟩
        rw [amK_map b fun z => z + 5]
        exact v3
    clear v m1 m6 fx hGp okb
    rintro σ' H' ⟨p, b, rfl, hGp, v, okb, m1, m6, fx⟩
    refine ⟨Mid 3, ?_, ?_⟩
    · refine cond_if (C := pl = 3) (fun K k => ⟨_, rfl, rfl, _, rfl, kdec k dec_vint⟩) (fun h => ?_) (fun h => ⟨p, b, rfl, hGp, v, okb, m1, m6, fun h2 => fx (by omega)⟩)
      have fx := fx (by omega)
      refine ⟨p, _, v.sub _ _ upd_same, trivial, fun od => ?_⟩
      refine ⟨_, rfl, p, od, rfl, .inl ⟨amK b, upd_same, fun D hD => ?_⟩⟩
      refine lc_pairs walk_amK (as := b) (fun q => ((Sum.inr q.1 : Key), V.int (q.2 * 3))) hD (fun H2 e => e _ _ upd_same) (by omega) (fun _ => rfl) (fun q hq Hx Q e k => ?_) (fun ps Hx e hDx hP => ?_)
      · exact ⟨_, rfl, _, rfl, _, rfl, p, .int q.2, rfl, .inl ⟨amK b, .inr q.1, .inr ⟨od, e _ _ upd_same⟩, rfl, (valV_am okb.nd hq).symm⟩, _, _, rfl, rfl, wide_mul (a := 100) (b := 2) (fx.2.2 q hq) (by decide) (by decide) (by decide) (by decide), (show 2 ≤ sizeLine by decide), k⟩
      · have hxp := e _ _ upd_same
        refine ⟨hxp, ?_⟩
        have hDp : D ≠ p := fun z => by rw [z, upd_same] at hD; cases hD
        have hD2 : Hx D = some (.lst (ps.map V.ref)) := hDx
        have sm : Same H' (upd Hx p (.dK (amK b))) := fun c o hc => by
          by_cases hcp : c = p
          · subst hcp
            rw [v.sub _ _ upd_same] at hc
            rw [upd_same]
            exact hc
          · rw [upd_ne hcp]
            exact e _ _ (by rw [upd_ne hcp]; exact hc)
        refine ⟨D, ps, _, rfl, SqL.of (by rw [upd_ne hDp]; exact hDx), hP.mono (fun c q hc => SqT.of (by
          have hcp : c ≠ p := fun z => by rw [z, hxp] at hc; cases hc
          rw [upd_ne hcp]
          exact hc)), fun p2 hp2 => ?_⟩
        rw [mergeK_am (by rw [List.map_map]; exact amK_nd okb.nd) (fun _ _ => valV_nil), List.nil_append]
        have v2 := (v.ext sm).hide hGp
        have hG2 := v2.free hp2
        have v3 := v2.new (o := .dK (b.map fun q => ((Sum.inr q.1 : Key), V.int (q.2 * 3)))) hp2
        refine ⟨p2, b.map fun q => (q.1, q.2 * 3), rfl, hG2, ?_, okb.map fun z => z * 3, by rw [List.length_map]; exact m1, by rw [List.length_map]; exact m6, fun h2 => absurd h2 (by omega)⟩
        rw [amK_map b fun z => z * 3]
        exact v3
    clear v m1 m6 fx hGp okb
    -- 4
    rintro σ' H' ⟨p, b, rfl, hGp, v, okb, m1, m6, fx⟩
    refine ⟨Mid 4, ?_, ?_⟩
    · refine cond_if (C := pl = 4) (fun K k => ⟨_, rfl, rfl, _, rfl, kdec k dec_vint⟩) (fun h => ?_) (fun h => ⟨p, b, rfl, hGp, v, okb, m1, m6, fun h2 => fx (by omega)⟩)
      obtain ⟨fl, fs, _⟩ := fx (by omega)
      obtain ⟨z1, hz1⟩ := am_val fs
      obtain ⟨z2, hz2⟩ := am_val fl
      refine ⟨_, rfl, _, rfl, p, _, rfl, DGet.amI (v.sub _ _ upd_same) okb.nd hz1, _, rfl, _, rfl, p, _, rfl, DGet.amI (v.sub _ _ upd_same) okb.nd hz2, (show 2 ≤ sizeLine by decide), fun t ht => ⟨t, _, rfl, SqT.of upd_same, rfl, ?_⟩⟩
      have v := v.ext (same_of_none (o := .tup [V.int z1, V.int z2]) ht)
      have v1 := v.put (o := .dK (amK (aput b lab z1))) upd_same
      rw [upd_upd] at v1
      have ok1 := okb.put lab z1 glab (by omega)
      have n1 : (aput b lab z1).length = b.length := by rw [put_len, if_pos fl]
      have s1 : sec ∈ amS (aput b lab z1) := by rw [amS_put, if_pos fl]; exact fs
      have v2 := v1.put (o := .dK (amK (aput (aput b lab z1) sec z2))) upd_same
      rw [upd_upd] at v2
      refine ⟨_, _, rfl, _, rfl, _, rfl, p, _, rfl, DPut.am (v.sub _ _ upd_same) (by omega), _, _, rfl, _, rfl, _, rfl, p, _, rfl, DPut.am (v1.sub _ _ upd_same) (by omega), rfl, p, aput (aput b lab z1) sec z2, rfl, hGp, v2, ok1.put sec z2 gsec (by omega), by rw [put_len, if_pos s1]; omega, by rw [put_len, if_pos s1]; omega, fun h2 => absurd h2 (by omega)⟩
    clear v m1 m6 fx hGp okb
    -- 5
    rintro σ' H' ⟨p, b, rfl, hGp, v, okb, m1, m6, fx⟩
    refine ⟨Mid 5, ?_, ?_⟩
    · refine cond_if (C := pl = 5 ∧ b.length < 6) (fun K k => ⟨_, rfl, rfl, _, rfl, ite2 (fun e => ⟨_, rfl, p, _, rfl, v.sub _ _ upd_same, _, _, rfl, rfl, _, rfl, kdec k ?_⟩) (fun e => kdec k ?_)⟩) (fun h => ?_) (fun h => ⟨p, b, rfl, hGp, v, okb, m1, m6, fun h2 => fx (by omega)⟩)
      · have e := dec_vint.mp e
        rw [decide_eq_true_iff, amK_len]
        omega
      · have e : ¬ pl = 5 := fun h => e (dec_vint.mpr h)
        exact ⟨fun h => absurd h Bool.false_ne_true, fun h => absurd h.1 e⟩
      · have v1 := v.put (o := .dK (amK (aput b "zz9" 0))) upd_same
        rw [upd_upd] at v1
        refine ⟨_, rfl, p, _, rfl, DPut.am (v.sub _ _ upd_same) (by omega), p, aput b "zz9" 0, rfl, hGp, v1, okb.put _ _ good_zz9 (by omega), ?_, ?_, fun h2 => absurd h2 (by omega)⟩
        · rw [put_len]; split <;> omega
        · rw [put_len]; split <;> omega
    clear v m1 m6 fx hGp okb
    -- 6
    rintro σ' H' ⟨p, b, rfl, hGp, v, okb, m1, m6, fx⟩
    refine ⟨Mid 6, ?_, ?_⟩
    · refine cond_if (C := pl = 6 ∧ 1 < b.length) (fun K k => ⟨_, rfl, rfl, _, rfl, ite2 (fun e => ⟨_, rfl, p, _, rfl, v.sub _ _ upd_same, _, _, rfl, rfl, _, rfl, kdec k ?_⟩) (fun e => kdec k ?_)⟩) (fun h => ?_) (fun h => ⟨p, b, rfl, hGp, v, okb, m1, m6, fun h2 => fx (by omega)⟩)
      · have e := dec_vint.mp e
        rw [decide_eq_true_iff, amK_len]
        omega
      · have e : ¬ pl = 6 := fun h => e (dec_vint.mpr h)
        exact ⟨fun h => absurd h Bool.false_ne_true, fun h => absurd h.1 e⟩
      · obtain ⟨fl, _, _⟩ := fx (by omega)
        obtain ⟨z, hz⟩ := am_val fl
        have dl := drop_len okb.nd fl
        have v1 := v.put (o := .dK (amK (adrop b lab))) upd_same
        rw [upd_upd] at v1
        refine ⟨_, rfl, p, rfl, .inl ⟨_, .inl (v.sub _ _ upd_same)⟩, _, rfl, amK b, .inr lab, .int z, v.sub _ _ upd_same, rfl, valV_am okb.nd hz, ?_⟩
        rw [← amK_drop]
        exact ⟨p, adrop b lab, rfl, hGp, v1, okb.drop lab, by omega, by omega, fun h2 => absurd h2 (by omega)⟩
    clear v m1 m6 fx hGp okb
    -- 7
    rintro σ' H' ⟨p, b, rfl, hGp, v, okb, m1, m6, fx⟩
    refine ⟨Mid 7, ?_, ?_⟩
    · refine cond_if (C := pl = 7) (fun K k => ⟨_, rfl, rfl, _, rfl, kdec k dec_vint⟩) (fun h => ?_) (fun h => ⟨p, b, rfl, hGp, v, okb, m1, m6, fun h2 => fx (by omega)⟩)
      obtain ⟨fl, _, _⟩ := fx (by omega)
      obtain ⟨z, hz⟩ := am_val fl
      have dl := drop_len okb.nd fl
      have v1 := v.put (o := .dK (amK (adrop b lab))) upd_same
      rw [upd_upd] at v1
      have v2 := v1.put (o := .dK (amK (aput (adrop b lab) "zz9" z))) upd_same
      rw [upd_upd] at v2
      refine ⟨_, rfl, p, rfl, .inl ⟨_, .inl (v.sub _ _ upd_same)⟩, _, rfl, amK b, .inr lab, .int z, v.sub _ _ upd_same, rfl, valV_am okb.nd hz, ?_⟩
      rw [← amK_drop]
      refine ⟨_, rfl, p, _, rfl, DPut.am (v1.sub _ _ upd_same) (by omega), p, aput (adrop b lab) "zz9" z, rfl, hGp, v2, (okb.drop lab).put _ _ good_zz9 (by omega), ?_, ?_, fun h2 => absurd h2 (by omega)⟩
      · rw [put_len]
        split
        · have : (adrop b lab) ≠ [] := fun e => by rename_i hm; rw [e] at hm; cases hm
          have := List.length_pos_iff.mpr this
          omega
        · omega
      · rw [put_len]; split <;> omega
    clear v m1 m6 fx hGp okb
    -- 8
    rintro σ' H' ⟨p, b, rfl, hGp, v, okb, m1, m6, fx⟩
    refine ⟨Mid 8, ?_, ?_⟩
    · refine cond_if (C := pl = 8) (fun K k => ⟨_, rfl, rfl, _, rfl, kdec k dec_vint⟩) (fun h => ?_) (fun h => ⟨p, b, rfl, hGp, v, okb, m1, m6, fun h2 => fx (by omega)⟩)
      obtain ⟨fl, _, _⟩ := fx (by omega)
      obtain ⟨z, hz⟩ := am_val fl
      have v1 := v.put (o := .dK (amK (aput b lab (-z)))) upd_same
      rw [upd_upd] at v1
      exact ⟨_, rfl, _, rfl, p, _, rfl, DGet.amI (v.sub _ _ upd_same) okb.nd hz, _, rfl, _, rfl, _, rfl, p, _, rfl, DPut.am (v.sub _ _ upd_same) (by omega), p, aput b lab (-z), rfl, hGp, v1, okb.put _ _ glab (by omega), by rw [put_len, if_pos fl]; omega, by rw [put_len, if_pos fl]; omega, fun h2 => absurd h2 (by omega)⟩
    clear v m1 m6 fx hGp okb
    rintro σ' H' ⟨p, b, rfl, hGp, v, okb, m1, m6, fx⟩
    exact ⟨_, rfl, q p b H' okb m1 m6 hGp (v.mono (by omega))⟩

abbrev s_Lranks : Stmt := top 25
abbrev N_Lranks : List Str := ["_law_given", "_law_found", "_law_amount", "_law_label"]
theorem sc_Lranks : FnScope ["_law_given", "_law_found", "_law_amount", "_law_label"] ["_law_given"] (defScope s_Lranks) := ⟨rfl, rfl, rfl, by decide +kernel, rfl, by decide +kernel, by decide +kernel⟩
theorem ok_Lranks {f : Addr} {fd : FuncData} (F : Fun K "_law_ranks" "_law_ranks" s_Lranks f fd) (T : TxtB mg) : FnOk P w K mg base CX0 1 f fd ["_law_given"] spLR := by
  refine F.ok sc_Lranks (fun vs H Q E h => ?_) (fun cdv A outer s H vs Q E hr h => ?_)
  · obtain ⟨g, a, rfl, _⟩ := h
    rfl
  · obtain ⟨g, a, rfl, hg, ok, q⟩ := h
    refine ⟨_, (pss_cons (ps_set (i := 1) sc_Lranks.nd rfl (.inl rfl) (pe_lst pa_nil))
      (pss_cons (ps_for PassesOwn.never rfl (pi_list (pe_revL (pe_callB (cr_sortedSet rfl) (by rfl) T.z_sorted (by decide +kernel) (pa_cons (pe_callTy (cr_setOfI rfl) (by rfl) T.z_set (by decide +kernel) (pa_cons (pe_lock (pe_lc (own := [("_law_label", 3)]) (g := gName 3) (tt := tYes) rfl sc_Lranks.nd (pi_keys (pv 0)) (blkOk_by (own := [("_law_label", 3)]) (N := N_Lranks) (sc := defScope s_Lranks) (by decide +kernel)) (fun _ _ _ _ _ => (pg_name (i := 3) sc_Lranks.nd rfl (.inl rfl))) (fun _ _ _ _ _ => pts_nil) (fun _ _ _ _ _ => (pe_dget (hu_of hr) (pv 0) (pv 3) (fun _ _ => rfl))))) pa_nil)) pa_nil)))) (pg_name (i := 2) sc_Lranks.nd rfl (.inr rfl)) (pss_one (ps_expr (pe_bm PySem.F.plainAttrs_list PySem.F.slot_list_append PySem.F.type_list_append mt_append (pv 1) (pa_cons (pe_callTy call_tuple_of (by rfl) T.z_tuple (by decide +kernel) (pa_cons (pe_lc (own := [("_law_label", 3)]) (g := gName 3) rfl sc_Lranks.nd (pi_list (pe_callB (call_sortedD rfl) (by rfl) T.z_sorted (by decide +kernel) (pa_cons (pv 0) pa_nil))) (blkOk_by (own := [("_law_label", 3)]) (N := N_Lranks) (sc := defScope s_Lranks) (by decide +kernel)) (fun _ _ _ _ _ => (pg_name (i := 3) sc_Lranks.nd rfl (.inl rfl))) (fun _ _ _ _ _ => (pts_one (pt_cmpR op_eq (pe_dget (hu_of hr) (pv 0) (pv 3) (fun _ _ => rfl)) (pv 2) (nomark _)))) (fun _ _ _ _ _ => (pv 3))) pa_nil)) pa_nil)))))
      (pss_one (ps_ret (pv 1))))), ?_⟩
    obtain ⟨sa, hsa, hrt⟩ := ex_srt a
    have q := q sa hsa hrt
    have okS := AmOk.perm hsa ok
    have n8 := ok.n1
    refine ⟨Nat.zero_le _, fun r hr => ?_⟩
    have s1 : Same H (upd H r (.lst [])) := same_of_none hr
    have hgr : g ≠ r := ne_of_none hg hr
    refine ⟨g, _, s1 _ _ hg, trivial, fun od => ?_⟩
    refine ⟨_, rfl, g, od, rfl, .inl ⟨amK a, upd_same, fun D hD => ?_⟩⟩
    refine lc_am walk_amK (as := a) (g := fun p => V.str p.1) (fun _ => true) (fun p => V.int p.2) hD (fun H' e => e _ _ upd_same) (by omega) (fun _ => rfl) (fun _ _ _ _ _ q => q) (fun p hp _ H' e Q k => ⟨_, rfl, _, rfl, g, .int p.2, rfl, .inl ⟨amK a, .inr p.1, .inr ⟨od, e _ _ upd_same⟩, rfl, (valV_am ok.nd hp).symm⟩, k⟩) ?_
    rw [List.filter_eq_self.mpr fun _ _ => rfl]
    have hDg : D ≠ g := fun z => by rw [z, upd_same] at hD; cases hD
    refine ⟨by rw [upd_ne hDg.symm]; exact upd_same, ?_⟩
    obtain ⟨Hx, eHx⟩ : ∃ Hx, Hx = upd (upd (upd (upd H r (.lst [])) g (.frz od (.dK (amK a)))) D (.lst (a.map fun p => V.int p.2))) g (.dK (amK a)) := ⟨_, rfl⟩
    rw [← eHx]
    have hDn : (upd H r (.lst [])) D = none := by rw [upd_ne hDg] at hD; exact hD
    have s2 : Same (upd H r (.lst [])) Hx := fun b o e => by
      have b1 : b ≠ D := ne_of_none e hDn
      by_cases b2 : b = g
      · subst b2
        rw [s1 _ _ hg] at e
        rw [eHx, upd_same]
        exact e
      · rw [eHx, upd_ne b2, upd_ne b1, upd_ne b2]
        exact e
    have hDx : Hx D = some (.lst (a.map fun p => V.int p.2)) := by rw [eHx, upd_ne hDg]; exact upd_same
    clear eHx
    refine ⟨D, a.map (·.2), rfl, SqL.of (by rw [hDx, List.map_map]; rfl), by rw [List.length_map]; omega, fun p c hc hp => ?_⟩
    rw [List.length_map] at hc
    have s3 := s2.trans (same_of_none (o := SetO w p (fun j => decide (j ∈ a.map (·.2))) c) hp)
    refine ⟨p, _, c, rfl, upd_same, by omega, fun ns p2 hpw hmem hlen hp2 => ?_⟩
    have s4 := s3.trans (same_of_none (o := .lst (ns.map V.int)) hp2)
    refine ⟨p2, _, rfl, SqL.of upd_same, fun p3 hp3 => ?_⟩
    rw [← List.map_reverse]
    have s5 := s4.trans (same_of_none (o := .lst (ns.reverse.map V.int)) hp3)
    have hp3r : p3 ≠ r := fun z => by rw [z] at hp3; exact nomatch (hp3.symm.trans (s4 _ _ upd_same))
    have hmem2 : ∀ k : Int, k ∈ ns ↔ decide (k ∈ sa.map (·.2)) = true := fun k => by
      rw [hmem k, decide_eq_true_iff, decide_eq_true_iff]
      exact ((hsa.map (·.2)).mem_iff).symm
    refine ⟨p3, rfl, ⟨_, SqL.of upd_same⟩, for_list (xs := ns.reverse.map V.int) (fun i σ H' => (∃ a2, σ = [some (.ref g), some (.ref r), a2, none]) ∧ Same H H' ∧ H' p3 = some (.lst (ns.reverse.map V.int)) ∧ ∃ vs : List V, H' r = some (.lst vs) ∧ vs.length = i ∧ TupsAt H' vs ((ns.reverse.take i).map fun z => amS (sa.filter fun p => decide (p.2 = z))) ∧ ∀ v ∈ vs, ∃ t, v = .ref t ∧ H t = none) ⟨⟨none, rfl⟩, s1.trans s5, upd_same, [], s5 _ _ upd_same, rfl, .nil, fun _ h => nomatch h⟩ (fun i σ H' _ h => SqL.of h.2.2.1) ?_ ?_⟩
    · rintro i y σ H' hy ⟨⟨a2, rfl⟩, old, hl3, vs, hrv, hvl, hT, hnew⟩
      rw [List.getElem?_map] at hy
      obtain ⟨z, hz, rfl⟩ := Option.map_eq_some_iff.mp hy
      have hi : i < ns.reverse.length := (List.getElem?_eq_some_iff.mp hz).1
      rw [List.length_reverse] at hi
      have hgH : H' g = some (.dK (amK a)) := old _ _ hg
      refine ⟨_, rfl, tyL_ok (SqL.of hrv), ?_⟩
      refine ⟨_, rfl, g, amK a, amS a, rfl, .inl hgH, amK_keys a, by rw [amS_len]; omega, fun ys p4 hys hs4 hp4 => ?_⟩
      have eys : ys = amS sa := sortedS_one hs4 hrt (hys.trans (hsa.map _).symm)
      subst eys
      rw [← amN_S]
      have t1 : Same H' (upd H' p4 (.lst (amN sa))) := same_of_none hp4
      refine ⟨p4, rfl, ⟨_, SqL.of upd_same⟩, fun D5 hD5 => ?_⟩
      refine lc_am walk_list (as := sa) (g := fun p => V.str p.1) (fun p => decide (V.int p.2 = V.int z)) (fun p => V.str p.1) hD5 (fun H2 e => SqL.of (e _ _ upd_same)) (by have := okS.n1; omega) (fun _ => rfl) (fun p hp H2 e Q k => ⟨_, rfl, _, rfl, g, _, rfl, DGet.amI (e _ _ (t1 _ _ hgH)) ok.nd (hsa.mem_iff.mp hp), _, rfl, rfl, _, rfl, k⟩) (fun p hp _ H2 e Q k => ⟨_, rfl, k⟩) ?_
      have t2 := t1.trans (same_of_none (o := .lst ((sa.filter fun p => decide (V.int p.2 = V.int z)).map fun p => V.str p.1)) hD5)
      refine ⟨D5, _, rfl, .inl ⟨SqL.of upd_same, fun t ht => ?_⟩⟩
      have t3 := t2.trans (same_of_none (o := .tup ((sa.filter fun p => decide (V.int p.2 = V.int z)).map fun p => V.str p.1)) ht)
      have htr : t ≠ r := fun e => by rw [e] at ht; exact nomatch (ht.symm.trans (t2 _ _ hrv))
      refine ⟨r, vs, .ref t, rfl, rfl, t3 _ _ hrv, small1000 (by omega), ⟨_, rfl⟩, fun b o h => ?_, ?_, vs ++ [.ref t], upd_same, by rw [List.length_append, hvl]; rfl, ?_, fun v hv => ?_⟩
      · rw [upd_ne (ne_of_none h hr)]; exact t3 _ _ (old _ _ h)
      · rw [upd_ne hp3r]; exact t3 _ _ hl3
      · rw [take_more hz, List.map_append]
        refine ((hT.up t3).put (t3 _ _ hrv)).snoc ?_
        rw [upd_ne htr, upd_same]
        show some (HO.tup ((sa.filter fun p => decide (V.int p.2 = V.int z)).map fun p => V.str p.1)) = some (HO.tup ((amS (sa.filter fun p => decide (p.2 = z))).map V.str))
        rw [← amN_S]
        have : (fun p : Str × Int => decide (V.int p.2 = V.int z)) = fun p => decide (p.2 = z) := by
          funext p
          rw [decide_eq_decide]
          exact ⟨fun h => V.int.inj h, fun h => by rw [h]⟩
        rw [this]
        rfl
      · rcases List.mem_append.mp hv with hv | hv
        · exact hnew v hv
        · refine ⟨t, List.mem_singleton.mp hv, ?_⟩
          cases e : H t with
          | none => rfl
          | some o =>
            have := t2 _ _ (old _ _ e)
            rw [ht] at this
            cases this
    · rintro σ H' ⟨⟨a2, rfl⟩, old, hl3, vs, hrv, hvl, hT, hnew⟩
      refine ⟨_, rfl, ?_⟩
      rw [List.length_map, List.take_length] at hT
      exact q r vs H' ns.reverse (lv_of hpw hmem2) old hr hnew hrv hT

end
end K04

set_option pp.deepTerms false
set_option pp.deepTerms.threshold 8
namespace K04
open PySem PySem.Spec PyProof.Rows L2
section
variable {P : Program} {w : World} {K : PySem.W.Frag} {mg : Str → Option Value} {base : Heap}
abbrev s_law : Stmt := top 29
abbrev N_law : List Str := ["_law_script", "_law_state", "_law_labels", "_law_scale", "_law_given", "_law_wishes", "_law_turn", "_law_near_here", "_law_second", "_law_told_here", "_law_turned", "_law_few", "_law_most", "_law_best", "_law_due_here", "_law_label", "_law_word"]
theorem sc_law : FnScope ["_law_script", "_law_state", "_law_labels", "_law_scale", "_law_given", "_law_wishes", "_law_turn", "_law_near_here", "_law_second", "_law_told_here", "_law_turned", "_law_few", "_law_most", "_law_best", "_law_due_here", "_law_label", "_law_word"] ["_law_script"] (defScope s_law) := ⟨rfl, rfl, rfl, by decide +kernel, rfl, by decide +kernel, by decide +kernel⟩
theorem told_of {C x y : Addr} {H : Hp} {Q : VK} {E : XK} {a b : Am} (hx : WAt C H x a) (hy : WAt C H y b) (oka : AmOk a) (okb : AmOk b)
    (q : ∀ (t : TD) (p : Addr) (H' : Hp), t.Of a b → Same H H' → H p = none → TDAt H' p t → Q (.ref p) H') : spTold C [.ref x, .ref y] H Q E :=
  ⟨x, y, a, b, rfl, hx, hy, oka, okb, fun e p H' na nb l1 l2 s hp hp' => q _ p H' (.inl ⟨e, na, nb, l1, l2, rfl⟩) s hp hp', fun e p t H' s hp ht hp' => q _ p H' (.inr ⟨e, rfl⟩) s hp ⟨t, hp', s _ _ (by rw [← amN_S]; exact ht)⟩⟩
theorem init_of {C y dy g : Addr} {H : Hp} {Q : VK} {E : XK} {a : Am} (hy : H y = none) (hdy : H dy = none) (hg : H g = some (.dK (amK a))) (ok : AmOk a) (l1 : 1 ≤ a.length) (l6 : a.length ≤ 6)
    (q : ∀ (am : Am) (H' : Hp), am.Perm a → srt am → AmOk am → Same H H' → WNew C H H' y am → Q .non H') : spInit C [.ref y, .ref g] (upd (upd H dy (.own y)) y (.ins C dy [])) Q E := by
  have gy : g ≠ y := ne_of_none hg hy
  have gd : g ≠ dy := ne_of_none hg hdy
  refine ⟨y, g, dy, a, rfl, upd_same, (by rw [upd_ne gy, upd_ne gd]; exact hg), ok, l1, l6, fun am H' dy' fs t d hp hs hok k ht hd g1 g2 g3 g4 g5 g6 => ?_⟩
  have old : ∀ b, (upd (upd H dy (.own y)) y (.ins C dy [])) b = none → H b = none := fun b hb => by
    have b1 : b ≠ y := fun z => by rw [z, upd_same] at hb; cases hb
    rw [upd_ne b1] at hb
    have b2 : b ≠ dy := fun z => by rw [z, upd_same] at hb; cases hb
    rw [upd_ne b2] at hb
    exact hb
  exact q am H' hp hs hok (Same.made hy hdy k) ⟨dy', fs, t, d, ⟨hy, old _ ht, old _ hd⟩, g1, g2, g3, g4, g5, g6⟩
theorem cpow1020 : CPow 10 20 := ⟨by decide, by decide, by decide⟩
theorem scale_at {d : Int} (h0 : 0 ≤ d) (h1 : d < 3) : ∃ m : Int, atI [V.int 2, .int 4, .int (10 ^ (20 : Int).toNat)] d = some (.int m) ∧ 0 < m ∧ m < 2 ^ 99 := by
  have : d = 0 ∨ d = 1 ∨ d = 2 := by omega
  rcases this with rfl | rfl | rfl
  · exact ⟨2, atI_nat (j := 0) rfl, by decide, by decide⟩
  · exact ⟨4, atI_nat (j := 1) rfl, by decide, by decide⟩
  · exact ⟨_, atI_nat (j := 2) rfl, by decide, by decide⟩
theorem sign_at {d : Int} (h0 : 0 ≤ d) (h1 : d < 2) : ∃ m : Int, atI [V.int 1, .int (-1)] d = some (.int m) ∧ (m = 1 ∨ m = -1) := by
  have : d = 0 ∨ d = 1 := by omega
  rcases this with rfl | rfl
  · exact ⟨1, atI_nat (j := 0) rfl, .inl rfl⟩
  · exact ⟨-1, atI_nat (j := 1) rfl, .inr rfl⟩
theorem cond_ifS {tc : TT} {t u : TS} {D : Ends} {σ : L2.St} {H : Hp} (hc : ∀ K : Bool → Hp → Prop, (∀ H', Same H H' → K false H') → tc σ H K) (hu : ∀ H', Same H H' → u D σ H') : tIfS tc t u D σ H := hc _ fun H' s => by
  rw [if_neg Bool.false_ne_true]
  exact hu H' s
theorem cond_seq {tc : TT} {t u r : TS} {D : Ends} {σ : L2.St} {H : Hp} (hc : ∀ K : Bool → Hp → Prop, (∀ H', Same H H' → K false H') → tc σ H K) (hu : ∀ H', Same H H' → u { D with nx := r D } σ H') : tSeq (tIfS tc t u) r D σ H := cond_ifS hc hu
theorem kno {K : Bool → Hp → Prop} {H : Hp} {b : Bool} (k : K false H) (h : b = false) : K b H := by rw [h]; exact k
theorem WAt.ins {C : Addr} {H : Hp} {x : Addr} {a : Am} (h : WAt C H x a) : ∃ dx fs, H x = some (.ins C dx fs) := let ⟨dx, fs, _, _, h1, _⟩ := h; ⟨dx, fs, h1⟩
theorem WAt.no {C : Addr} {H : Hp} {x : Addr} {a : Am} (h : WAt C H x a) {m : Str} (n1 : m ≠ "_outcomes") (n2 : m ≠ "_amounts") : ∃ dx fs, H x = some (.ins C dx fs) ∧ fs.lookup m = none := let ⟨dx, fs, _, _, h1, _, _, _, _, hO⟩ := h; ⟨dx, fs, h1, hO _ n1 n2⟩
theorem perm_comm {sa sb a b : Am} (ps : sa.Perm a) (pb : sb.Perm b) : decide (sa.Perm sb) = decide (a.Perm b) ∧ decide (sb.Perm sa) = decide (a.Perm b) := by
  rw [decide_eq_decide, decide_eq_decide]
  exact ⟨⟨fun h => ps.symm.trans (h.trans pb), fun h => ps.trans (h.trans pb.symm)⟩, ⟨fun h => ps.symm.trans (h.symm.trans pb), fun h => pb.trans (h.symm.trans ps.symm)⟩⟩
theorem best_same {sa fa : Am} {mx z : Int} (hn : (amS sa).Nodup) (h : ∃ k, fa = sa.take k) (hm : mx ∈ fa.map (·.2)) (hle : ∀ y, y ∈ fa.map (·.2) → y ≤ mx) (ex : ∃ q ∈ sa, q.1 ∈ amS fa ∧ q.2 = z) (le : ∀ q ∈ sa, q.1 ∈ amS fa → q.2 ≤ z) :
    sa.filter (fun q => decide (q.2 = z) && decide (q.1 ∈ amS fa)) = fa.filter (fun p => decide (V.int p.2 = V.int mx)) := by
  obtain ⟨k, rfl⟩ := h
  have hin : ∀ q ∈ sa, q.1 ∈ amS (sa.take k) → q ∈ sa.take k := fun q hq hw => by
    obtain ⟨p, hp, e⟩ := List.mem_map.mp hw
    have := valV_am hn (show (q.1, q.2) ∈ sa from hq)
    rw [← e, valV_am hn (show (p.1, p.2) ∈ sa from List.mem_of_mem_take hp)] at this
    have e2 := V.int.inj (Option.some.inj this)
    rw [show q = p from Prod.ext e.symm e2.symm]
    exact hp
  have hz : z = mx := by
    obtain ⟨q, hq, hw, rfl⟩ := ex
    obtain ⟨p, hp, rfl⟩ := List.mem_map.mp hm
    have h1 := hle q.2 (List.mem_map.mpr ⟨q, hin q hq hw, rfl⟩)
    have h2 := le p (List.mem_of_mem_take hp) (List.mem_map.mpr ⟨p, hp, rfl⟩)
    exact Int.le_antisymm h1 h2
  subst hz
  have e : sa = sa.take k ++ sa.drop k := (List.take_append_drop k sa).symm
  have hd : (sa.drop k).filter (fun q => decide (q.2 = z) && decide (q.1 ∈ amS (sa.take k))) = [] := by
    rw [List.filter_eq_nil_iff]
    intro q hq hh
    rw [Bool.and_eq_true] at hh
    have hw := of_decide_eq_true hh.2
    have nd := hn
    rw [e] at nd
    have e3 : amS (sa.take k ++ sa.drop k) = amS (sa.take k) ++ amS (sa.drop k) := by unfold amS; rw [List.map_append]
    rw [e3] at nd
    exact (List.nodup_append.mp nd).2.2 _ hw _ (List.mem_map.mpr ⟨q, hq, rfl⟩) rfl
  have ht : (sa.take k).filter (fun q => decide (q.2 = z) && decide (q.1 ∈ amS (sa.take k))) = (sa.take k).filter (fun p => decide (V.int p.2 = V.int z)) := by
    apply List.filter_congr
    intro q hq
    have h1 : decide (q.1 ∈ amS (sa.take k)) = true := decide_eq_true (List.mem_map.mpr ⟨q, hq, rfl⟩)
    rw [h1, Bool.and_true, decide_eq_decide]
    exact ⟨fun h => by rw [h], fun h => V.int.inj h⟩
  have e4 : sa.filter (fun q => decide (q.2 = z) && decide (q.1 ∈ amS (sa.take k))) = (sa.take k ++ sa.drop k).filter (fun q => decide (q.2 = z) && decide (q.1 ∈ amS (sa.take k))) := by rw [← e]
  rw [e4, List.filter_append, hd, ht, List.append_nil]
def spLaw (K : PySem.W.Frag) : Sp := fun vs H Q _ => ∃ (a : Addr) (ns : List Int), vs = [.ref a] ∧ SqL K H a (ns.map V.int) ∧ ns.length ≤ 63 ∧ ∀ H', Q (.bl true) H'
set_option maxHeartbeats 20000000 in
theorem ok_law {f : Addr} {fd : FuncData} (F : Fun K "law" "law" s_law f fd) (T : TxtB mg) (W : Wsh K mg)
    (c_Lstart : Cal P w K mg base "_law_start" CX0 1 ["_law_script"] (spStart K)) (c_Ldraw : Cal P w K mg base "_law_draw" CX0 1 ["_law_state", "_law_size"] spDraw) (c_Lnames : Cal P w K mg base "_law_names" CX0 2 ["_law_state", "_law_count"] spNames)
    (c_Lnear : Cal P w K mg base "_law_near" CX0 3 ["_law_state", "_law_given"] spNear) (c_Ltold : Cal P w K mg base "_law_told" CX0 5 ["_law_one", "_law_two"] (spTold W.C)) (c_Ldue : Cal P w K mg base "_law_due" CX0 3 ["_law_given", "_law_near_here"] spDue)
    (c_Lranks : Cal P w K mg base "_law_ranks" CX0 2 ["_law_given"] spLR)
    (c_WishesD_initD : CalM P w K mg base CX0 2 ["self", "amounts"] (spInit W.C)) (m_Wishes : Mk K W.C c_WishesD_initD.f)
    (c_WishesD_eqD : CalM P w K mg base CX0 1 ["self", "other"] (spEq K W.C)) (e_WishesD_eqD : EqF K W.C c_WishesD_eqD.f) (eN : EqN K W.C) (kN : KitN K W.C)
    (c_Wishes_opposite : CalM P w K mg base CX0 4 ["self"] (spOpp W.C)) (m_Wishes_opposite : Meth K W.C "opposite" c_Wishes_opposite.f)
    (c_Wishes_ranks : CalM P w K mg base CX0 2 ["self"] (spRanks W.C)) (m_Wishes_ranks : Meth K W.C "ranks" c_Wishes_ranks.f)
    (c_Wishes_best : CalM P w K mg base CX0 3 ["self", "names"] (spBest W.C)) (m_Wishes_best : Meth K W.C "best" c_Wishes_best.f)
    (c_Wishes_amounts : CalM P w K mg base CX0 1 ["self"] (spNew W.C (fun _ r => r = []) (fun am _ => .dK (amK am)))) (m_Wishes_amounts : Meth K W.C "amounts" c_Wishes_amounts.f)
    (c_Wishes_outcomes : CalM P w K mg base CX0 1 ["self"] (spOut W.C)) {pA : Addr} (p_Wishes_outcomes : PropOf K W.C "outcomes" pA c_Wishes_outcomes.f)
    {CU : Addr} (c_Wishes_agrees : CalM P w K mg base (CX P w) 4 ["self", "other"] (spAgrees W.C CU)) (m_Wishes_agrees : Meth K W.C "agrees" c_Wishes_agrees.f)
    (kc_Wishes_agrees_other : KBinds K c_Wishes_agrees.fd ["self", "other"] ["other"] g2 gV2) :
    FnOk P w K mg base CX0 6 f fd ["_law_script"] (spLaw K) := by
  refine F.ok sc_law (fun vs H Q E h => ?_) (fun cdv A outer s H vs Q E hr h => ?_)
  · obtain ⟨a, ns, rfl, _⟩ := h
    rfl
  · obtain ⟨a, ns, rfl, hS, hlen, q⟩ := h
    refine ⟨_, (pss_cons (ps_set (i := 1) sc_law.nd rfl (.inr rfl) (pe_call c_Lstart.G (hr.mono (by decide)) (by rfl) c_Lstart.g c_Lstart.kp c_Lstart.b .nil pass0 (pa_cons (pv 0) pa_nil)))
      (pss_cons (ps_set (i := 2) sc_law.nd rfl (.inl rfl) (pe_call c_Lnames.G (hr.mono (by decide)) (by rfl) c_Lnames.g c_Lnames.kp c_Lnames.b .nil pass0 (pa_cons (pv 1) (pa_cons (pe_op op_add pe_int (pe_call c_Ldraw.G (hr.mono (by decide)) (by rfl) c_Ldraw.g c_Ldraw.kp c_Ldraw.b .nil pass0 (pa_cons (pv 1) (pa_cons pe_int pa_nil)))) pa_nil))))
      (pss_cons (ps_set (i := 3) sc_law.nd rfl (.inr rfl) (pe_ix ix_list (pe_lst (pa_cons pe_int (pa_cons pe_int (pa_cons (pe_op op_pow pe_int pe_int) pa_nil)))) (pe_call c_Ldraw.G (hr.mono (by decide)) (by rfl) c_Ldraw.g c_Ldraw.kp c_Ldraw.b .nil pass0 (pa_cons (pv 1) (pa_cons pe_int pa_nil))) (fun _ _ => rfl)))
      (pss_cons (ps_set (i := 4) sc_law.nd rfl (.inr rfl) (pe_callTy (call_dictP rfl) (by rfl) T.z_dict (by decide +kernel) (pa_cons (pe_lc (own := [("_law_label", 15)]) (g := gName 15) (tt := tYes) rfl sc_law.nd (pi_list (pv 2)) (blkOk_by (own := [("_law_label", 15)]) (N := N_law) (sc := defScope s_law) (by decide +kernel)) (fun _ _ _ _ _ => (pg_name (i := 15) sc_law.nd rfl (.inl rfl))) (fun _ _ _ _ _ => pts_nil) (fun _ _ _ _ _ => (pe_tup (pa_cons (pv 15) (pa_cons (pe_op op_mulW (pe_call c_Ldraw.G (hr.mono (by decide)) (by rfl) c_Ldraw.g c_Ldraw.kp c_Ldraw.b .nil pass0 (pa_cons (pv 1) (pa_cons (pv 3) pa_nil))) (pe_ix (ix_listF (K := K) rfl) (pe_lst (pa_cons pe_int (pa_cons (pe_un un_neg pe_int) pa_nil))) (pe_call c_Ldraw.G (hr.mono (by decide)) (by rfl) c_Ldraw.g c_Ldraw.kp c_Ldraw.b .nil pass0 (pa_cons (pv 1) (pa_cons pe_int pa_nil))) (fun _ _ => rfl))) pa_nil))))) pa_nil)))
      (pss_cons (ps_set (i := 5) sc_law.nd rfl (.inl rfl) (pe_make m_Wishes c_WishesD_initD.G (hr.mono (by decide)) rfl W.g c_WishesD_initD.b .nil pass0 (pa_cons (pv 4) pa_nil)))
      (pss_cons (ps_for PassesOwn.never rfl (pi_range1 rfl T.z_range (pa_cons pe_int pa_nil)) (pg_name (i := 6) sc_law.nd rfl (.inl rfl)) (pss_cons (ps_set (i := 7) sc_law.nd rfl (.inl rfl) (pe_call c_Lnear.G (hr.mono (by decide)) (by rfl) c_Lnear.g c_Lnear.kp c_Lnear.b .nil pass0 (pa_cons (pv 1) (pa_cons (pv 4) pa_nil))))
      (pss_cons (ps_set (i := 8) sc_law.nd rfl (.inl rfl) (pe_make m_Wishes c_WishesD_initD.G (hr.mono (by decide)) rfl W.g c_WishesD_initD.b .nil pass0 (pa_cons (pv 7) pa_nil)))
      (pss_cons (ps_if (PW.pt (pw_or (pt_cmpR op_ne (pe_cmpR (op_eqOwn e_WishesD_eqD.hs e_WishesD_eqD.hf e_WishesD_eqD.nf c_WishesD_eqD.G (hr.mono (by decide)) c_WishesD_eqD.b pass0) (pv 5) (pv 8) (nomark _)) (pe_cmpR (op_eqT (hu100 hr)) (pv 4) (pv 7) (nomark _)) (nomark _)) (pw_or1 (pt_cmpR op_ne (pe_cmpR (op_eqOwn e_WishesD_eqD.hs e_WishesD_eqD.hf e_WishesD_eqD.nf c_WishesD_eqD.G (hr.mono (by decide)) c_WishesD_eqD.b pass0) (pv 8) (pv 5) (nomark _)) (pe_cmpR (op_eqT (hu100 hr)) (pv 4) (pv 7) (nomark _)) (nomark _))))) (pss_one (ps_ret pe_bl)) pss_nil)
      (pss_cons (ps_set (i := 9) sc_law.nd rfl (.inl rfl) (pe_lst (pa_cons (pe_call c_Ltold.G (hr.mono (by decide)) (by rfl) c_Ltold.g c_Ltold.kp c_Ltold.b .nil pass0 (pa_cons (pv 5) (pa_cons (pv 8) pa_nil))) (pa_cons (pe_call c_Ltold.G (hr.mono (by decide)) (by rfl) c_Ltold.g c_Ltold.kp c_Ltold.b .nil pass0 (pa_cons (pv 8) (pa_cons (pv 5) pa_nil))) pa_nil))))
      (pss_cons (ps_if (pt_cmpR (op_neD hr.units) (pv 9) (pe_lst (pa_cons (pe_call c_Ldue.G (hr.mono (by decide)) (by rfl) c_Ldue.g c_Ldue.kp c_Ldue.b .nil pass0 (pa_cons (pv 4) (pa_cons (pv 7) pa_nil))) (pa_cons (pe_call c_Ldue.G (hr.mono (by decide)) (by rfl) c_Ldue.g c_Ldue.kp c_Ldue.b .nil pass0 (pa_cons (pv 7) (pa_cons (pv 4) pa_nil))) pa_nil))) (nomark _)) (pss_one (ps_ret pe_bl)) pss_nil)
      (pss_one (ps_if (PW.pt (pw_and (pt_cmpR (op_eqD hr.units) (pe_ix ix_list (pe_ix ix_list (pv 9) pe_int (fun _ _ => rfl)) pe_int (fun _ _ => rfl)) pe_str (nomark _)) (pw_and1 (pt_not (pt_val (pe_callB call_isi (by rfl) T.z_isinstance (by decide +kernel) (pa_cons (pe_ix ix_list (pe_ix ix_list (pv 9) pe_int (fun _ _ => rfl)) pe_int (fun _ _ => rfl)) (pa_cons (pe_bltn (v := .ty "bool") (by rfl) T.z_bool (by decide +kernel) rfl) pa_nil)))))))) (pss_one (ps_ret pe_bl)) pss_nil))))))))
      (pss_cons (ps_set (i := 10) sc_law.nd rfl (.inl rfl) (pe_meth0 (pv 5) W.cl m_Wishes_opposite c_Wishes_opposite.G (hr.mono (by decide)) c_Wishes_opposite.b .nil pass0 ))
      (pss_cons (ps_set (i := 11) sc_law.nd rfl (.inl rfl) (pe_slice sl_list (pe_callB (call_sortedD rfl) (by rfl) T.z_sorted (by decide +kernel) (pa_cons (pv 4) pa_nil)) po_none (po_some (pe_op op_add pe_int (pe_call c_Ldraw.G (hr.mono (by decide)) (by rfl) c_Ldraw.g c_Ldraw.kp c_Ldraw.b .nil pass0 (pa_cons (pv 1) (pa_cons (pe_callB call_lenD (by rfl) T.z_len PySem.boot_len (pa_cons (pv 4) pa_nil)) pa_nil)))))))
      (pss_cons (ps_set (i := 12) sc_law.nd rfl (.inr rfl) (pe_callB (cr_max rfl) (by rfl) T.z_max (by decide +kernel) (pa_cons (pe_lc (own := [("_law_label", 15)]) (g := gName 15) (tt := tYes) rfl sc_law.nd (pi_list (pv 11)) (blkOk_by (own := [("_law_label", 15)]) (N := N_law) (sc := defScope s_law) (by decide +kernel)) (fun _ _ _ _ _ => (pg_name (i := 15) sc_law.nd rfl (.inl rfl))) (fun _ _ _ _ _ => pts_nil) (fun _ _ _ _ _ => (pe_dget (hu_of hr) (pv 4) (pv 15) (fun _ _ => rfl)))) pa_nil)))
      (pss_cons (ps_set (i := 13) sc_law.nd rfl (.inl rfl) (pe_callTy call_tuple_of (by rfl) T.z_tuple (by decide +kernel) (pa_cons (pe_lc (own := [("_law_word", 16)]) (g := gName 16) rfl sc_law.nd (pi_list (pv 11)) (blkOk_by (own := [("_law_word", 16)]) (N := N_law) (sc := defScope s_law) (by decide +kernel)) (fun _ _ _ _ _ => (pg_name (i := 16) sc_law.nd rfl (.inl rfl))) (fun _ _ _ _ _ => (pts_one (pt_cmpR op_eq (pe_dget (hu_of hr) (pv 4) (pv 16) (fun _ _ => rfl)) (pv 12) (nomark _)))) (fun _ _ _ _ _ => (pv 16))) pa_nil)))
      (pss_cons (ps_if (PW.pt (pw_or (pt_cmpR (op_neD hr.units) (pe_meth0 (pv 5) W.cl m_Wishes_ranks c_Wishes_ranks.G (hr.mono (by decide)) c_Wishes_ranks.b .nil pass0 ) (pe_call c_Lranks.G (hr.mono (by decide)) (by rfl) c_Lranks.g c_Lranks.kp c_Lranks.b .nil pass0 (pa_cons (pv 4) pa_nil)) (nomark _)) (pw_or1 (pt_cmpR (op_neD hr.units) (pe_meth (pv 5) W.cl m_Wishes_best c_Wishes_best.G (hr.mono (by decide)) c_Wishes_best.b .nil pass0 (pa_cons (pv 11) pa_nil)) (pv 13) (nomark _))))) (pss_one (ps_ret pe_bl)) pss_nil)
      (pss_cons (ps_if (pt_cmpR (op_neD hr.units) (pe_call c_Ltold.G (hr.mono (by decide)) (by rfl) c_Ltold.g c_Ltold.kp c_Ltold.b .nil pass0 (pa_cons (pv 5) (pa_cons (pv 8) pa_nil))) (pe_call c_Ldue.G (hr.mono (by decide)) (by rfl) c_Ldue.g c_Ldue.kp c_Ldue.b .nil pass0 (pa_cons (pv 4) (pa_cons (pv 7) pa_nil))) (nomark _)) (pss_one (ps_ret pe_bl)) pss_nil)
      (pss_cons (ps_set (i := 14) sc_law.nd rfl (.inl rfl) (pe_callTy (call_dictP rfl) (by rfl) T.z_dict (by decide +kernel) (pa_cons (pe_lock (pe_lc (own := [("_law_label", 15)]) (g := gName 15) (tt := tYes) rfl sc_law.nd (pi_keys (pv 4)) (blkOk_by (own := [("_law_label", 15)]) (N := N_law) (sc := defScope s_law) (by decide +kernel)) (fun _ _ _ _ _ => (pg_name (i := 15) sc_law.nd rfl (.inl rfl))) (fun _ _ _ _ _ => pts_nil) (fun _ _ _ _ _ => (pe_tup (pa_cons (pv 15) (pa_cons (pe_un un_neg (pe_dget (hu_of hr) (pv 4) (pv 15) (fun _ _ => rfl))) pa_nil)))))) pa_nil)))
      (pss_cons (ps_if (PW.pt (pw_or (pt_cmpR (op_ne_dictA (Nat.lt_of_le_of_lt (Nat.le_add_right _ 64) hr.units)) (pe_meth0 (pv 10) W.cl m_Wishes_amounts c_Wishes_amounts.G (hr.mono (by decide)) c_Wishes_amounts.b .nil pass0 ) (pv 14) (nomark _)) (pw_or (pt_cmpR (op_neD hr.units) (pe_meth0 (pv 10) W.cl m_Wishes_ranks c_Wishes_ranks.G (hr.mono (by decide)) c_Wishes_ranks.b .nil pass0 ) (pe_call c_Lranks.G (hr.mono (by decide)) (by rfl) c_Lranks.g c_Lranks.kp c_Lranks.b .nil pass0 (pa_cons (pv 14) pa_nil)) (nomark _)) (pw_or1 (pt_cmpR (op_neOwn e_WishesD_eqD.hs e_WishesD_eqD.hf e_WishesD_eqD.nf e_WishesD_eqD.ne e_WishesD_eqD.ko c_WishesD_eqD.G (hr.mono (by decide)) c_WishesD_eqD.b pass0) (pe_meth0 (pv 10) W.cl m_Wishes_opposite c_Wishes_opposite.G (hr.mono (by decide)) c_Wishes_opposite.b .nil pass0 ) (pv 5) (nomark _)))))) (pss_one (ps_ret pe_bl)) pss_nil)
      (pss_cons (ps_if (pt_cmpR (op_inOwn e_WishesD_eqD.hs e_WishesD_eqD.hf eN c_WishesD_eqD.G (hr.mono (by decide)) c_WishesD_eqD.b pass0) (pv 5) (pe_lst (pa_cons pe_non (pa_cons pe_int (pa_cons pe_str (pa_cons (pv 4) (pa_cons (pe_lst pa_nil) (pa_cons (pe_tup pa_nil) (pa_cons (pe_prop (pv 5) W.cl p_Wishes_outcomes c_Wishes_outcomes.G (hr.mono (by decide)) c_Wishes_outcomes.b .nil pass0 (by rfl)) pa_nil)))))))) (by rfl)) (pss_one (ps_ret pe_bl)) pss_nil)
      (pss_one (ps_ret (pe_and (pe_cmpR (op_eqT (hu100 hr)) (pe_meth0 (pv 5) W.cl m_Wishes_amounts c_Wishes_amounts.G (hr.mono (by decide)) c_Wishes_amounts.b .nil pass0 ) (pv 4) (nomark _)) (pe_one (pe_cmpR op_isBl (pe_methK0 (pv 5) W.cl m_Wishes_agrees c_Wishes_agrees.G (hr.mono (by decide)) kc_Wishes_agrees_other passF (pk_cons (pv 5) pk_nil)) pe_bl (nomark _))))))))))))))))))))), ?_⟩
    refine ⟨_, rfl, a, ns, rfl, hS, hlen, fun s H1 v => ?_⟩
    -- labels
    refine ⟨_, rfl, _, rfl, s, 0, H, 6, rfl, v, by omega, by decide, by decide, fun d H2 d0 d1 v => ?_⟩
    obtain ⟨c, rfl⟩ := Int.eq_ofNat_of_zero_le d0
    refine ⟨1, (c : Int), rfl, rfl, s, _, _, 1 + c, by simp [Int.natCast_add], v, by omega, by omega, fun ws p H3 hwl hnd hgd hGp v => ?_⟩
    have v : View s 30 (upd H p (.lst (ws.map V.str))) H3 := v.mono (by omega)
    have hwp : (upd H p (.lst (ws.map V.str))) p = some (.lst (ws.map V.str)) := upd_same
    generalize upd H p (.lst (ws.map V.str)) = G at v hwp
    clear hGp
    -- scale
    refine ⟨_, _, rfl, rfl, cpow1020, (show 3 ≤ sizeLine by decide), fun m hm => ?_⟩
    have hGm := v.free hm
    refine ⟨_, rfl, s, _, _, 3, rfl, v.new hm, by omega, by decide, by decide, fun d3 H4 p0 p1 v => ?_⟩
    obtain ⟨sc, hsc, sc0, sc1⟩ := scale_at p0 p1
    refine ⟨m, _, d3, _, rfl, rfl, SqL.of (v.sub _ _ upd_same), hsc, ?_⟩
    have v := v.hide hGm
    -- given
    refine ⟨_, rfl, p, rfl, ⟨_, SqL.of (v.sub _ _ hwp)⟩, fun D hD => lc_given v hwp (by omega) (fun _ => rfl) (fun x M G' H' Q' hx hM v k => ?_) hD (fun G' H' am ps e1 e2 sm v hDl hP => ?_)⟩
    · refine ⟨_, rfl, _, rfl, _, rfl, s, _, _, sc, rfl, v, by omega, sc0, by omega, fun z H2 z0 z1 v => ?_⟩
      refine ⟨_, rfl, (show 2 ≤ sizeLine by decide), fun m2 hm2 => ?_⟩
      have hG2 := v.free hm2
      refine ⟨_, rfl, s, _, _, 2, rfl, v.new hm2, by omega, by decide, by decide, fun d4 H3 p0 p1 v => ?_⟩
      obtain ⟨g, hg, hg1⟩ := sign_at p0 p1
      refine ⟨m2, _, d4, _, rfl, rfl, SqL.of (v.sub _ _ upd_same), hg, ?_⟩
      have v := v.hide hG2
      have hz : (z * g).natAbs < 2 ^ 100 := by rcases hg1 with rfl | rfl <;> omega
      refine ⟨_, _, rfl, rfl, wide_mul (a := 100) (b := 2) (by omega) (by rcases hg1 with rfl | rfl <;> decide) (by decide) (by decide) (by decide), (show 2 ≤ sizeLine by decide), fun t ht => ?_⟩
      exact k _ t _ hz (v.free ht) (v.new ht)
    have hlam : am.length = 1 + c := by rw [← amS_len, e1]; exact hwl
    have ok : AmOk am := ⟨by rw [e1]; exact hnd, fun w hw => hgd w (by rw [← e1]; exact hw), by omega⟩
    refine ⟨D, ps, _, rfl, SqL.of (v.sub _ _ hDl), hP.mono (fun c q hc => SqT.of (v.sub _ _ hc)), fun g hg => ?_⟩
    rw [mergeK_am (by unfold amK; rw [List.map_map]; exact amK_nd ok.nd) (fun _ _ => valV_nil), List.nil_append]
    have v := v.new (o := .dK (amK am)) hg
    have hgg : (upd G' g (.dK (amK am))) g = some (.dK (amK am)) := upd_same
    generalize upd G' g (.dK (amK am)) = G2 at v hgg
    clear hDl hP sm hwp
    -- wishes
    refine ⟨_, rfl, fun x dx hx hdx hne => ?_⟩
    refine init_of hx hdx (v.sub _ _ hgg) ok (by omega) (by omega) (fun sa H5 hp hs oks sm hW => ⟨rfl, ?_⟩)
    obtain ⟨G3, v, smG, hnew, _⟩ := v.grow sm
    have hW := hW.at hnew
    have hgg := smG _ _ hgg
    have v := v.mono (show _ ≤ 240 by omega)
    have hsa : sa.length = am.length := hp.length_eq
    clear hnew smG sm hdx hx hne hg
    generalize G3 = G at v hgg hW
    have bnd : ∀ q ∈ am, q.2.natAbs < 2 ^ 100 := e2
    -- the four turns
    refine ⟨4, rfl, by decide, by decide, for_range (lo := 0) (n := 4) (fun i σ H' => ∃ (G : Hp) (a6 a7 a8 a9 : Option V), σ = [some (.ref a), some (.ref s), some (.ref p), some (.int sc), some (.ref g), some (.ref x), a6, a7, a8, a9, none, none, none, none, none, none, none] ∧ View s (240 + 80 * i) G H' ∧ G g = some (.dK (amK am)) ∧ WAt W.C G x sa ∧
      (0 < i → ∃ n y b sb, a7 = some (.ref n) ∧ a8 = some (.ref y) ∧ G n = some (.dK (amK b)) ∧ WAt W.C G y sb ∧ sb.Perm b ∧ srt sb ∧ AmOk b ∧ AmOk sb)) ⟨G, none, none, none, none, rfl, v, hgg, hW, fun h => absurd h (by decide)⟩ (fun i σ' H' hi hP => ?_) (fun σ' H' hP => ?_)⟩
    · obtain ⟨G, a6, a7, a8, a9, rfl, v, hg, hx, _⟩ := hP
      refine ⟨_, rfl, _, rfl, s, _, G, g, am, rfl, v, by omega, hg, ok, by omega, by omega, bnd, fun n b H2 okb b1 b6 hGn v => ?_⟩
      have hx : WAt W.C (upd G n (.dK (amK b))) x sa := hx.up (same_of_none hGn)
      have hg := (same_of_none (o := .dK (amK b)) hGn) _ _ hg
      have hn : (upd G n (.dK (amK b))) n = some (.dK (amK b)) := upd_same
      generalize upd G n (.dK (amK b)) = G at v hg hn hx
      clear hGn
      refine ⟨_, rfl, fun y dy hy hdy hne => ?_⟩
      refine init_of hy hdy (v.sub _ _ hn) okb b1 b6 (fun sb H3 pb rb oksb sm hY => ⟨rfl, ?_⟩)
      obtain ⟨G2, v, smG, hnew, _⟩ := v.grow sm
      have hy := hY.at hnew
      have hx := hx.up smG
      have hg := smG _ _ hg
      have hn := smG _ _ hn
      clear hnew sm smG hdy hne
      have hxH := hx.up v.sub
      have hyH := hy.up v.sub
      have hgH := v.sub _ _ hg
      have hnH := v.sub _ _ hn
      obtain ⟨dx, fs, ix⟩ := WAt.ins hxH
      obtain ⟨dy, gs, iy⟩ := WAt.ins hyH
      obtain ⟨pc1, pc2⟩ := perm_comm hp pb
      dsimp only [gName]
      refine cond_seq (fun k q => ?_) (fun H4 s0 => ?_)
      · refine ⟨_, rfl, _, rfl, x, dx, fs, y, dy, gs, rfl, rfl, ix, iy, x, sa, .ref y, _, rfl, hxH, oks, .inl ⟨y, sb, rfl, hyH, oksb, rfl⟩, ?_⟩
        refine ⟨_, rfl, _, rfl, .inr (.inr ⟨g, n, amK am, amK b, amE am b, rfl, rfl, hgH, hnH, fun k v y hm hy => amE_eqv ok.nd hm hy, ?_⟩)⟩
        rw [dict_eq ok.nd okb.nd, pc1]
        refine ⟨rfl, _, rfl, dec_false (by simp) ?_⟩
        refine ⟨_, rfl, _, rfl, y, dy, gs, x, dx, fs, rfl, rfl, iy, ix, y, sb, .ref x, _, rfl, hyH, oksb, .inl ⟨x, sa, rfl, hxH, oks, rfl⟩, ?_⟩
        refine ⟨_, rfl, _, rfl, .inr (.inr ⟨g, n, amK am, amK b, amE am b, rfl, rfl, hgH, hnH, fun k v y hm hy => amE_eqv ok.nd hm hy, ?_⟩)⟩
        rw [dict_eq ok.nd okb.nd, pc2]
        refine ⟨rfl, _, rfl, kno (q _ (fun _ _ h => h)) (by simp)⟩
      -- what both tell
      have hxH := WAt.up hxH s0
      have hyH := WAt.up hyH s0
      have hgH := s0 _ _ hgH
      have hnH := s0 _ _ hnH
      have v := v.ext s0
      clear ix iy
      refine ⟨_, rfl, _, rfl, ?_⟩
      dsimp only [tNil]
      refine told_of hxH hyH oks oksb (fun t1 p1 H9 o1 s1 n1 k1 => ?_)
      refine ⟨_, rfl, _, rfl, ?_⟩
      dsimp only [tNil]
      refine told_of (WAt.up hyH s1) (WAt.up hxH s1) oksb oks (fun t2 p2 H5 o2 s2 n2 k2 => ?_)
      refine ⟨(show 2 ≤ sizeLine by decide), fun tl htl => ?_⟩
      have k1 := k1.up s2
      have s3 := (s1.trans s2).trans (same_of_none (o := .lst [.ref p1, .ref p2]) htl)
      have k1 := k1.up (same_of_none (o := .lst [.ref p1, .ref p2]) htl)
      have k2 := k2.up (same_of_none (o := .lst [.ref p1, .ref p2]) htl)
      have hl : (upd H5 tl (.lst [.ref p1, .ref p2])) tl = some (.lst [.ref p1, .ref p2]) := upd_same
      generalize upd H5 tl (.lst [.ref p1, .ref p2]) = H6 at s3 k1 k2 hl
      clear s1 s2 n1 n2 htl
      have v := v.ext s3
      have hgH := s3 _ _ hgH
      have hnH := s3 _ _ hnH
      dsimp only [gName]
      refine cond_seq (fun k q => ?_) (fun H7 s7 => ?_)
      · refine ⟨_, rfl, _, rfl, _, rfl, ?_⟩
        dsimp only [tNil]
        refine due_of hgH hnH ok okb hp hs pb rb (fun u1 q1 H7 w1 s4 n4 k4 => ?_)
        refine ⟨_, rfl, _, rfl, ?_⟩
        dsimp only [tNil]
        refine due_of (s4 _ _ hnH) (s4 _ _ hgH) okb ok pb rb hp hs (fun u2 q2 H8 w2 s5 n5 k5 => ?_)
        refine ⟨(show 2 ≤ sizeLine by decide), fun ul hul => ?_⟩
        obtain rfl := o1.one w1
        obtain rfl := o2.one w2
        have s6 := (s4.trans s5).trans (same_of_none (o := .lst [.ref q1, .ref q2]) hul)
        have k4 := (k4.up s5).up (same_of_none (o := .lst [.ref q1, .ref q2]) hul)
        have k5 := k5.up (same_of_none (o := .lst [.ref q1, .ref q2]) hul)
        refine ⟨_, _, dp_two (s6 _ _ hl) (k1.up s6) (k2.up s6), dp_two upd_same k4 k5, TD.shaped2 (o1.ok oksb) (o2.ok oks), TD.shaped2 (o1.ok oksb) (o2.ok oks), _, rfl, kno (q _ s6) ?_⟩
        rw [TD.eqv_two]
        rfl
      have v := v.ext s7
      have k1 := k1.up s7
      have hl := s7 _ _ hl
      dsimp only [tNext]
      refine cond_ifS (fun k q => ?_) (fun H8 s8 => ?_)
      · cases t1 with
        | un ws =>
          obtain ⟨tt, kl, _⟩ := k1
          refine ⟨_, rfl, tl, _, 0, _, rfl, rfl, SqL.of hl, atI_nat (j := 0) rfl, p1, _, 0, _, rfl, rfl, SqL.of kl, atI_nat (j := 0) rfl, ?_⟩
          exact ⟨.str "unlike", .str "agrees", .str _, .str _, by decide +kernel, by decide +kernel, _, rfl, dec_false (by decide +kernel) (q _ (fun _ _ h => h))⟩
        | ag c =>
          refine ⟨_, rfl, tl, _, 0, _, rfl, rfl, SqL.of hl, atI_nat (j := 0) rfl, p1, _, 0, _, rfl, rfl, SqL.of k1, atI_nat (j := 0) rfl, ?_⟩
          refine ⟨.str "agrees", .str "agrees", .str _, .str _, by decide +kernel, by decide +kernel, _, rfl, dec_true (by decide +kernel) ?_⟩
          refine ⟨_, rfl, tl, _, 0, _, rfl, rfl, SqL.of hl, atI_nat (j := 0) rfl, p1, _, 1, _, rfl, rfl, SqL.of k1, atI_nat (j := 1) rfl, ?_⟩
          exact ⟨.bl c, .ty "bool", .type "bool", .type "bool", true, rfl, .ty _, .base (.bl _), kit_ty (by decide +kernel), _, rfl, q _ (fun _ _ h => h)⟩
      · exact ⟨G2, _, _, _, _, rfl, (v.ext s8).mono (by omega), hg, hx, fun _ => ⟨n, y, b, sb, rfl, rfl, hn, hy, pb, rb, okb, oksb⟩⟩
    · obtain ⟨G, a6, a7, a8, a9, rfl, v, hg, hx, ht⟩ := hP
      obtain ⟨n, y, b, sb, rfl, rfl, hn, hy, pb, rb, okb, oksb⟩ := ht (by decide)
      -- turned
      obtain ⟨dx, fs, ix, nx⟩ := WAt.no (WAt.up hx v.sub) (m := "opposite") (by decide) (by decide)
      refine ⟨_, rfl, x, dx, fs, rfl, ix, nx, x, sa, rfl, oks, by omega, by omega, WAt.up hx v.sub, fun z sz H1 pz rz okz s1 hZ => ?_⟩
      obtain ⟨G1, v, smG, hnew, _⟩ := v.grow s1
      have hz := hZ.at hnew
      have hx := hx.up smG
      have hy := hy.up smG
      have hg := smG _ _ hg
      have hn := smG _ _ hn
      clear hnew smG s1 hZ ix nx
      -- few
      refine ⟨_, rfl, g, amK am, amS am, rfl, .inl (v.sub _ _ hg), amK_keys am, by rw [amS_len]; omega, fun ys l hys hsr hl => ?_⟩
      have hGl := v.free hl
      have v := v.new (o := .lst (ys.map V.str)) hl
      have hgl : g ≠ l := ne_of_none hg hGl
      refine ⟨_, rfl, _, rfl, g, _, rfl, v.sub _ _ (by rw [upd_ne hgl]; exact hg), s, _, _, _, rfl, v, by omega, by rw [amK_len]; omega, by rw [amK_len]; omega, fun d3 H5 d30 d31 v => ?_⟩
      obtain ⟨dn, rfl⟩ := Int.eq_ofNat_of_zero_le d30
      have eys : ys = amS sa := sortedS_one hsr hs (hys.trans (hp.map _).symm)
      have d31 : dn < am.length := by rw [amK_len] at d31; omega
      have hlG : ∀ o, (upd G1 l (.lst o)) l = some (.lst o) := fun o => upd_same
      refine ⟨1, (dn : Int), rfl, rfl, _, rfl, l, _, rfl, SqL.of (v.sub _ _ upd_same), fun fw hfw => ?_⟩
      rw [show (1 + (dn : Int)) = ((1 + dn : Nat) : Int) by push_cast; rfl, cutV_to, eys, ← amN_S]
      have efa : (amN sa).take (1 + dn) = amN (sa.take (1 + dn)) := by unfold amN; rw [List.map_take]
      rw [efa]
      have hfa : (sa.take (1 + dn)).length = 1 + dn := by rw [List.length_take]; omega
      have hfs : ∀ q ∈ sa.take (1 + dn), q ∈ sa := fun q hq => List.mem_of_mem_take hq
      have hfx : ∃ k, sa.take (1 + dn) = sa.take k := ⟨_, rfl⟩
      generalize sa.take (1 + dn) = fa at hfa hfs hfx
      have hGf : G1 fw = none := (v.hide hGl).free hfw
      have v := (v.hide hGl).new (o := .lst (amN fa)) hfw
      have sG := same_of_none (o := .lst (amN fa)) hGf
      have hx := WAt.up (WAt.up hx sG) v.sub
      have hy := WAt.up (WAt.up hy sG) v.sub
      have hz := WAt.up (WAt.up hz sG) v.sub
      have hg := v.sub _ _ (sG _ _ hg)
      have hn := v.sub _ _ (sG _ _ hn)
      have hf : (upd H5 fw (.lst (amN fa))) fw = some (.lst (amN fa)) := upd_same
      generalize upd H5 fw (.lst (amN fa)) = B at hx hy hz hg hn hf
      clear v sG hGf hGl hlG hgl
      -- most
      refine ⟨_, rfl, fw, rfl, ⟨_, SqL.of hf⟩, fun D hD => ?_⟩
      refine lc_am walk_list (as := fa) (g := fun p => V.str p.1) (fun _ => true) (fun p => V.int p.2) hD (fun H' e => SqL.of (e _ _ hf)) (by omega) (fun _ => rfl) (fun _ _ _ _ _ q => q) (fun p hp2 _ H' e Q k => ⟨_, rfl, _, rfl, g, _, rfl, DGet.amI (e _ _ hg) ok.nd (hp.mem_iff.mp (hfs p hp2)), k⟩) ?_
      rw [List.filter_eq_self.mpr fun _ _ => rfl]
      have s1 : Same B (upd B D (.lst (fa.map fun p => V.int p.2))) := same_of_none hD
      refine ⟨D, fa.map (·.2), rfl, SqL.of (by rw [upd_same, List.map_map]; rfl), by rw [List.length_map]; omega, fun mx hmx hle => ?_⟩
      generalize upd B D (.lst (fa.map fun p => V.int p.2)) = B1 at s1
      clear hD
      -- best
      refine ⟨_, rfl, fw, rfl, ⟨_, SqL.of (s1 _ _ hf)⟩, fun D2 hD2 => ?_⟩
      refine lc_am walk_list (as := fa) (g := fun p => V.str p.1) (fun p => decide (V.int p.2 = V.int mx)) (fun p => V.str p.1) hD2 (fun H' e => SqL.of (e _ _ (s1 _ _ hf))) (by omega) (fun _ => rfl) (fun p hp2 H' e Q k => ⟨_, rfl, _, rfl, g, _, rfl, DGet.amI (e _ _ (s1 _ _ hg)) ok.nd (hp.mem_iff.mp (hfs p hp2)), _, rfl, rfl, _, rfl, k⟩) (fun p hp2 _ H' e Q k => ⟨_, rfl, k⟩) ?_
      refine ⟨D2, _, rfl, .inl ⟨SqL.of upd_same, fun tb htb => ?_⟩⟩
      have s2 := (s1.trans (same_of_none (o := .lst ((fa.filter fun p => decide (V.int p.2 = V.int mx)).map fun p => V.str p.1)) hD2)).trans (same_of_none (o := .tup ((fa.filter fun p => decide (V.int p.2 = V.int mx)).map fun p => V.str p.1)) htb)
      have hb : (upd (upd B1 D2 (.lst ((fa.filter fun p => decide (V.int p.2 = V.int mx)).map fun p => V.str p.1))) tb (.tup ((fa.filter fun p => decide (V.int p.2 = V.int mx)).map fun p => V.str p.1))) tb = some (.tup (amN (fa.filter fun p => decide (V.int p.2 = V.int mx)))) := upd_same
      generalize upd (upd B1 D2 (.lst ((fa.filter fun p => decide (V.int p.2 = V.int mx)).map fun p => V.str p.1))) tb (.tup ((fa.filter fun p => decide (V.int p.2 = V.int mx)).map fun p => V.str p.1)) = B2 at s2 hb
      clear hD2 htb s1
      have hx := WAt.up hx s2
      have hy := WAt.up hy s2
      have hz := WAt.up hz s2
      have hg := s2 _ _ hg
      have hn := s2 _ _ hn
      have hf := s2 _ _ hf
      clear s2
      -- ranks and best
      dsimp only [gName]
      refine cond_seq (fun k q => ?_) (fun B3 s3 => ?_)
      · obtain ⟨dx, fs, ix, nx⟩ := WAt.no hx (m := "ranks") (by decide) (by decide)
        refine ⟨_, rfl, x, dx, fs, rfl, ix, nx, x, sa, rfl, hx, oks, fun r1 vs1 Ha na la sa1 n1 nw1 hr1 T1 => ?_⟩
        refine ⟨_, rfl, g, am, rfl, sa1 _ _ hg, ok, fun ta pta rta r2 vs2 Hb nb lb sb1 n2 nw2 hr2 T2 => ?_⟩
        obtain rfl := srt_one ok.nd hs rta hp pta
        obtain rfl := isLv_one la lb
        refine ⟨lD (rks sa na), lD (rks sa na), dp_lD (sb1 _ _ hr1) (T1.up sb1), dp_lD hr2 T2, shaped_lD (rks_ok oks na), shaped_lD (rks_ok oks na), _, rfl, dec_false (by rw [eqv_lD]; simp) ?_⟩
        have s4 := sa1.trans sb1
        obtain ⟨dx, fs, ix, nx⟩ := WAt.no (WAt.up hx s4) (m := "best") (by decide) (by decide)
        refine ⟨_, rfl, x, dx, fs, rfl, ix, nx, _, rfl, x, fw, sa, amS fa, rfl, WAt.up hx s4, oks, by rw [← amN_S]; exact s4 _ _ hf, by rw [amS_len]; omega, ?_, ?_, fun t3 Hc zz ex le sc n3 h3 => ?_⟩
        · intro e
          have := amS_len fa
          rw [e] at this
          simp at this
          omega
        · intro w hw
          obtain ⟨p, hp2, rfl⟩ := List.mem_map.mp hw
          exact List.mem_map.mpr ⟨p, hfs p hp2, rfl⟩
        · refine ⟨_, rfl, _, _, dp_tD (by rw [← amN_S]; exact h3), dp_tD (by rw [← amN_S]; exact sc _ _ (s4 _ _ hb)), shaped_tD (fun w hw => good_ok (oks.gd w ?_)), shaped_tD (fun w hw => good_ok (oks.gd w ?_)), _, rfl, kno (q _ (s4.trans sc)) ?_⟩
          · obtain ⟨p, hp2, rfl⟩ := List.mem_map.mp hw
            exact List.mem_map.mpr ⟨p, (List.mem_filter.mp hp2).1, rfl⟩
          · obtain ⟨p, hp2, rfl⟩ := List.mem_map.mp hw
            exact List.mem_map.mpr ⟨p, hfs p (List.mem_filter.mp hp2).1, rfl⟩
          · rw [eqv_tD, best_same oks.nd hfx hmx hle ex le]
            simp
      have hx := WAt.up hx s3
      have hy := WAt.up hy s3
      have hz := WAt.up hz s3
      have hg := s3 _ _ hg
      have hn := s3 _ _ hn
      clear s3 hb hf
      -- told and due
      dsimp only [tNext]
      refine cond_seq (fun k q => ?_) (fun B4 s4 => ?_)
      · refine ⟨_, rfl, _, rfl, ?_⟩
        dsimp only [tNil]
        refine told_of hx hy oks oksb (fun t1 p1 Ha o1 sa1 n1 k1 => ?_)
        refine ⟨_, rfl, _, rfl, ?_⟩
        dsimp only [tNil]
        refine due_of (sa1 _ _ hg) (sa1 _ _ hn) ok okb hp hs pb rb (fun u1 q1 Hb w1 sb1 n4 k4 => ?_)
        obtain rfl := o1.one w1
        refine ⟨_, _, (k1.up sb1).dp, k4.dp, TD.shaped (o1.ok oksb), TD.shaped (o1.ok oksb), _, rfl, kno (q _ (sa1.trans sb1)) ?_⟩
        rw [TD.eqv_self]
        rfl
      have hx := WAt.up hx s4
      have hz := WAt.up hz s4
      have hg := s4 _ _ hg
      clear s4 hn hy
      -- due_here
      dsimp only [tNext]
      refine ⟨g, _, hg, trivial, fun od => ?_⟩
      refine ⟨_, rfl, g, od, rfl, .inl ⟨amK am, upd_same, fun D hD => ?_⟩⟩
      refine lc_pairs walk_amK (as := am) (fun q => ((Sum.inr q.1 : Key), V.int (-q.2))) hD (fun H2 e => e _ _ upd_same) (by omega) (fun _ => rfl) (fun q hq Hx Q e k => ?_) (fun ps Hx e hDx hP => ?_)
      · exact ⟨_, rfl, _, rfl, _, rfl, g, .int q.2, rfl, .inl ⟨amK am, .inr q.1, .inr ⟨od, e _ _ upd_same⟩, rfl, (valV_am ok.nd hq).symm⟩, _, rfl, (show 2 ≤ sizeLine by decide), k⟩
      have hxp := e _ _ upd_same
      refine ⟨hxp, ?_⟩
      have hDg : D ≠ g := fun z => by rw [z, upd_same] at hD; cases hD
      have sm : Same B4 (upd Hx g (.dK (amK am))) := fun c o hc => by
        by_cases hcp : c = g
        · subst hcp
          rw [hg] at hc
          rw [upd_same]
          exact hc
        · rw [upd_ne hcp]
          exact e _ _ (by rw [upd_ne hcp]; exact hc)
      refine ⟨D, ps, _, rfl, SqL.of (by rw [upd_ne hDg]; exact hDx), hP.mono (fun c q hc => SqT.of (by
        have hcp : c ≠ g := fun z => by rw [z, hxp] at hc; cases hc
        rw [upd_ne hcp]
        exact hc)), fun p2 hp2 => ?_⟩
      rw [mergeK_am (by rw [List.map_map]; exact amK_nd ok.nd) (fun _ _ => valV_nil), List.nil_append, ← amK_neg]
      have sm := sm.trans (same_of_none (o := .dK (amK (am.map fun p => (p.1, -p.2)))) hp2)
      have hd : (upd (upd Hx g (.dK (amK am))) p2 (.dK (amK (am.map fun p => (p.1, -p.2))))) p2 = some (.dK (amK (am.map fun p => (p.1, -p.2)))) := upd_same
      generalize upd (upd Hx g (.dK (amK am))) p2 (.dK (amK (am.map fun p => (p.1, -p.2)))) = B5 at sm hd
      have hx := WAt.up hx sm
      have hz := WAt.up hz sm
      have hg := sm _ _ hg
      clear hp2 hxp hD hDx hP e sm
      have pzn : sz.Perm (am.map fun p => (p.1, -p.2)) := pz.trans (hp.map _)
      -- turned
      dsimp only [gName]
      refine cond_seq (fun k q => ?_) (fun B6 s6 => ?_)
      · obtain ⟨dz, fs, iz, nz⟩ := WAt.no hz (m := "amounts") (by decide) (by decide)
        refine ⟨_, rfl, z, dz, fs, rfl, iz, nz, z, sz, [], rfl, okz, hz, rfl, fun pa Ha sa1 n1 h1 => ?_⟩
        refine ⟨_, rfl, pa, p2, _, _, rfl, rfl, h1, sa1 _ _ hd, by rw [amK_len, amK_len]; exact pzn.length_eq, fun p hp3 => ?_, _, rfl, dec_false rfl ?_⟩
        · obtain ⟨p0, hp0, e1, e2⟩ := amK_mem (k := p.1) (v := p.2) hp3
          rw [e1, e2]
          exact ⟨valV_am ok.neg.nd (pzn.mem_iff.mp hp0), rfl⟩
        obtain ⟨dz, fs, iz, nz⟩ := WAt.no (WAt.up hz sa1) (m := "ranks") (by decide) (by decide)
        refine ⟨_, rfl, z, dz, fs, rfl, iz, nz, z, sz, rfl, WAt.up hz sa1, okz, fun r1 vs1 Hb na la sb1 n2 nw1 hr1 T1 => ?_⟩
        refine ⟨_, rfl, p2, _, rfl, sb1 _ _ (sa1 _ _ hd), ok.neg, fun ta pta rta r2 vs2 Hc nb lb sc1 n3 nw2 hr2 T2 => ?_⟩
        obtain rfl := srt_one ok.neg.nd rz rta pzn pta
        obtain rfl := isLv_one la lb
        refine ⟨lD (rks sz na), lD (rks sz na), dp_lD (sc1 _ _ hr1) (T1.up sc1), dp_lD hr2 T2, shaped_lD (rks_ok okz na), shaped_lD (rks_ok okz na), _, rfl, dec_false (by rw [eqv_lD]; simp) ?_⟩
        have s7 := (sa1.trans sb1).trans sc1
        have hz7 := WAt.up hz s7
        obtain ⟨dz, fs, iz, nz⟩ := WAt.no hz7 (m := "opposite") (by decide) (by decide)
        have l7 : sz.length = am.length := by rw [pzn.length_eq, List.length_map]
        refine ⟨_, rfl, z, dz, fs, rfl, iz, nz, z, sz, rfl, okz, by omega, by omega, hz7, fun y3 s3 H3 p3 r3 ok3 sm hW3 => ?_⟩
        have hy3 := hW3.at (G' := H3) (fun _ _ _ h => h)
        have hx3 := WAt.up hx (s7.trans sm)
        obtain ⟨d1, f1, i1⟩ := WAt.ins hy3
        obtain ⟨d2, f2, i2⟩ := WAt.ins hx3
        refine ⟨_, rfl, y3, d1, f1, x, d2, f2, rfl, rfl, i1, i2, y3, s3, .ref x, _, rfl, hy3, ok3, .inl ⟨x, sa, rfl, hx3, oks, rfl⟩, _, rfl, _, rfl, kno (q _ (s7.trans sm)) ?_⟩
        have : s3.Perm sa := by
          refine p3.trans ((pz.map _).trans ?_)
          rw [List.map_map]
          have e4 : ((fun p : Str × Int => (p.1, -p.2)) ∘ fun p => (p.1, -p.2)) = id := by
            funext p
            show (p.1, - -p.2) = p
            rw [Int.neg_neg]
          rw [e4, List.map_id]
        rw [decide_eq_true this]
        rfl
      have hx := WAt.up hx s6
      have hg := s6 _ _ hg
      clear s6 hd hz
      -- equal to nothing of another kind
      dsimp only [tNext]
      refine cond_seq (fun k q => ?_) (fun B7 s7 => ?_)
      · refine ⟨_, rfl, _, rfl, (show 0 ≤ sizeLine by decide), fun e1 he1 => ⟨(show 0 ≤ sizeLine by decide), fun e2 he2 => ?_⟩⟩
        have s8 := (same_of_none (o := .lst []) he1).trans (same_of_none (o := .tup []) he2)
        have hx8 := WAt.up hx s8
        have h1 : (upd (upd B6 e1 (.lst [])) e2 (.tup [])) e1 = some (.lst []) := (same_of_none (o := .tup []) he2) _ _ upd_same
        have h2 : (upd (upd B6 e1 (.lst [])) e2 (.tup [])) e2 = some (.tup []) := upd_same
        have hg8 := s8 _ _ hg
        generalize upd (upd B6 e1 (.lst [])) e2 (.tup []) = B8 at s8 hx8 h1 h2 hg8
        obtain ⟨dx, fs, t, d, i1, i2, i3, i4, i5, iO⟩ := id hx8
        refine ⟨_, rfl, x, dx, fs, rfl, i1, x, dx, fs, t, rfl, i1, i2, (show 7 ≤ sizeLine by decide), fun L hL => ?_⟩
        have s9 := same_of_none (o := .lst [.non, .int 0, .str "x", .ref g, .ref e1, .ref e2, .ref t]) hL
        have hx9 := WAt.up hx8 s9
        have hd : ∀ v ∈ ([.non, .int 0, .str "x", .ref g, .ref e1, .ref e2, .ref t] : List V), Dull (upd B8 L (.lst [.non, .int 0, .str "x", .ref g, .ref e1, .ref e2, .ref t])) v := by
          intro v hv
          simp only [List.mem_cons, List.not_mem_nil, or_false] at hv
          rcases hv with rfl | rfl | rfl | rfl | rfl | rfl | rfl
          · exact .non
          · exact .int _
          · exact .str _
          · exact .dic (s9 _ _ hg8)
          · exact .lst (s9 _ _ h1)
          · exact .tup (s9 _ _ h2)
          · exact .tup (s9 _ _ i4)
        exact ⟨x, dx, fs, L, _, rfl, s9 _ _ i1, rfl, upd_same, fun v hv => ⟨hd v hv, fun Q' k' => ⟨x, sa, v, false, rfl, hx9, oks, .inr ⟨(hd v hv).kit kN, rfl⟩, k'⟩⟩, _, rfl, q _ (s8.trans s9)⟩
      have hx := WAt.up hx s7
      have hg := s7 _ _ hg
      clear s7
      -- the end
      dsimp only [tNext]
      obtain ⟨dx, fs, ix, nx⟩ := WAt.no hx (m := "amounts") (by decide) (by decide)
      refine ⟨_, rfl, x, dx, fs, rfl, ix, nx, x, sa, [], rfl, oks, hx, rfl, fun pa Ha sa1 n1 h1 => ?_⟩
      refine ⟨_, rfl, .inr (.inr ⟨pa, g, amK sa, amK am, amE sa am, rfl, rfl, h1, sa1 _ _ hg, fun k v y hm hy => amE_eqv oks.nd hm hy, ?_⟩)⟩
      rw [dict_eq oks.nd ok.nd, decide_eq_true hp]
      refine ⟨_, rfl, dec_true rfl ?_⟩
      have hx2 := WAt.up hx sa1
      obtain ⟨dx, fs, ix, nx⟩ := WAt.no hx2 (m := "agrees") (by decide) (by decide)
      refine ⟨_, rfl, x, dx, fs, rfl, ix, nx, _, rfl, x, x, sa, sa, rfl, hx2, hx2, oks, oks, fun _ Hb na nb la lb sb1 => ?_, fun ne => absurd rfl ne⟩
      obtain rfl := isLv_one la lb
      refine ⟨_, _, rfl, rfl, ?_⟩
      rw [decide_eq_true rfl]
      exact q _

end
end K04

set_option pp.deepTerms false
set_option pp.deepTerms.threshold 8
namespace K04
open PySem PySem.Spec PyProof.Rows L2
set_option maxHeartbeats 20000000 in
theorem all_mk {l : PySem.W.OpenLaw} {w : World} {K : PySem.W.Frag} {h : Heap} {mg : Str → Option Value} {fa C U p0 : Addr} {rest : List Value} {nm q : Str} {N : Addr} {bs bm : List Value} {sn : List Str} {sub : List Value} {ab : Bool} {col : Option Bool} {dd : Option Addr} {m0 m1 m2 m3 m5 : Option Value} (X : K.In h) (G : h.Ns mainGlobals mg) (hfa : mg "law" = some (.ref fa))
    {f1 : Addr} {od1 an1 : Option Addr} {sl1 : Array (Option Value)} {oc1 kV1 dc1 pm1 cd1 ct1 : Value}
    {f2 : Addr} {od2 an2 : Option Addr} {sl2 : Array (Option Value)} {oc2 kV2 dc2 pm2 cd2 ct2 : Value}
    {f3 : Addr} {od3 an3 : Option Addr} {sl3 : Array (Option Value)} {oc3 kV3 dc3 pm3 cd3 ct3 : Value}
    {f4 : Addr} {od4 an4 : Option Addr} {sl4 : Array (Option Value)} {oc4 kV4 dc4 pm4 cd4 ct4 : Value}
    {f5 : Addr} {od5 an5 : Option Addr} {sl5 : Array (Option Value)} {oc5 kV5 dc5 pm5 cd5 ct5 : Value}
    {f6 : Addr} {od6 an6 : Option Addr} {sl6 : Array (Option Value)} {oc6 kV6 dc6 pm6 cd6 ct6 : Value}
    {f7 : Addr} {od7 an7 : Option Addr} {sl7 : Array (Option Value)} {oc7 kV7 dc7 pm7 cd7 ct7 : Value}
    {f8 : Addr} {od8 an8 : Option Addr} {sl8 : Array (Option Value)} {oc8 kV8 dc8 pm8 cd8 ct8 : Value}
    {f9 : Addr} {od9 an9 : Option Addr} {sl9 : Array (Option Value)} {oc9 kV9 dc9 pm9 cd9 ct9 : Value}
    {f10 : Addr} {od10 an10 : Option Addr} {sl10 : Array (Option Value)} {oc10 kV10 dc10 pm10 cd10 ct10 : Value}
    {f11 : Addr} {od11 an11 : Option Addr} {sl11 : Array (Option Value)} {oc11 kV11 dc11 pm11 cd11 ct11 : Value}
    {f12 : Addr} {od12 an12 : Option Addr} {sl12 : Array (Option Value)} {oc12 kV12 dc12 pm12 cd12 ct12 : Value}
    {f13 : Addr} {od13 an13 : Option Addr} {sl13 : Array (Option Value)} {oc13 kV13 dc13 pm13 cd13 ct13 : Value}
    {f14 : Addr} {od14 an14 : Option Addr} {sl14 : Array (Option Value)} {oc14 kV14 dc14 pm14 cd14 ct14 : Value}
    {f15 : Addr} {od15 an15 : Option Addr} {sl15 : Array (Option Value)} {oc15 kV15 dc15 pm15 cd15 ct15 : Value}
    {f16 : Addr} {od16 an16 : Option Addr} {sl16 : Array (Option Value)} {oc16 kV16 dc16 pm16 cd16 ct16 : Value}
    {f17 : Addr} {od17 an17 : Option Addr} {sl17 : Array (Option Value)} {oc17 kV17 dc17 pm17 cd17 ct17 : Value}
    {f18 : Addr} {od18 an18 : Option Addr} {sl18 : Array (Option Value)} {oc18 kV18 dc18 pm18 cd18 ct18 : Value}
    {f19 : Addr} {od19 an19 : Option Addr} {sl19 : Array (Option Value)} {oc19 kV19 dc19 pm19 cd19 ct19 : Value}
    {f20 : Addr} {od20 an20 : Option Addr} {sl20 : Array (Option Value)} {oc20 kV20 dc20 pm20 cd20 ct20 : Value}
    {f21 : Addr} {od21 an21 : Option Addr} {sl21 : Array (Option Value)} {oc21 kV21 dc21 pm21 cd21 ct21 : Value}
    {f22 : Addr} {od22 an22 : Option Addr} {sl22 : Array (Option Value)} {oc22 kV22 dc22 pm22 cd22 ct22 : Value}
    {f23 : Addr} {od23 an23 : Option Addr} {sl23 : Array (Option Value)} {oc23 kV23 dc23 pm23 cd23 ct23 : Value}
    {f24 : Addr} {od24 an24 : Option Addr} {sl24 : Array (Option Value)} {oc24 kV24 dc24 pm24 cd24 ct24 : Value}
    {t_LETTERS : Tok}
    {t_DIGITS : Tok}
    {t_LONGEST_NAME : Tok}
    {t_MOST_OUTCOMES : Tok}
    (aC : PySem.W.nsIn K mainGlobals "Wishes" = some (some (.ref C)))
    (aU : PySem.W.nsIn K mainGlobals "UnlikeOutcomes" = some (some (.ref U)))
    (xU : K.lookup U = some (excClassObj nm q U N bs bm true sn sub ab col dd m0 m1 m2 m3 m5 "ValueError.__new__"))
    (a1 : PySem.W.findIn K (.ref C) "__init__" = some (some (.ref f1))) (l1 : K.lookup f1 = some ⟨oc1, od1, .func (PySem.W.fnOf "__init__" "Wishes.__init__" (defArgs s_WishesD_initD) (defBody s_WishesD_initD) (defScope s_WishesD_initD) .none kV1 dc1 pm1 an1 cd1 ct1), sl1⟩) (c1 : PySem.W.codeIn K cd1 "Wishes.__init__" = true) (k1 : PySem.W.keepIn K (.ref f1) = true) (i1 : PySem.W.isFn K (.ref f1) = true)
    (a2 : PySem.W.findIn K (.ref C) "__getitem__" = some (some (.ref f2))) (l2 : K.lookup f2 = some ⟨oc2, od2, .func (PySem.W.fnOf "__getitem__" "Wishes.__getitem__" (defArgs s_WishesD_getitemD) (defBody s_WishesD_getitemD) (defScope s_WishesD_getitemD) .none kV2 dc2 pm2 an2 cd2 ct2), sl2⟩) (c2 : PySem.W.codeIn K cd2 "Wishes.__getitem__" = true) (k2 : PySem.W.keepIn K (.ref f2) = true) (i2 : PySem.W.isFn K (.ref f2) = true)
    (a3 : PySem.W.findIn K (.ref C) "__eq__" = some (some (.ref f3))) (l3 : K.lookup f3 = some ⟨oc3, od3, .func (PySem.W.fnOf "__eq__" "Wishes.__eq__" (defArgs s_WishesD_eqD) (defBody s_WishesD_eqD) (defScope s_WishesD_eqD) .none kV3 dc3 pm3 an3 cd3 ct3), sl3⟩) (c3 : PySem.W.codeIn K cd3 "Wishes.__eq__" = true) (k3 : PySem.W.keepIn K (.ref f3) = true) (i3 : PySem.W.isFn K (.ref f3) = true)
    (a4 : PySem.W.findIn K (.ref C) "amounts" = some (some (.ref f4))) (l4 : K.lookup f4 = some ⟨oc4, od4, .func (PySem.W.fnOf "amounts" "Wishes.amounts" (defArgs s_Wishes_amounts) (defBody s_Wishes_amounts) (defScope s_Wishes_amounts) .none kV4 dc4 pm4 an4 cd4 ct4), sl4⟩) (c4 : PySem.W.codeIn K cd4 "Wishes.amounts" = true) (k4 : PySem.W.keepIn K (.ref f4) = true) (i4 : PySem.W.isFn K (.ref f4) = true)
    (a5 : PySem.W.findIn K (.ref C) "best" = some (some (.ref f5))) (l5 : K.lookup f5 = some ⟨oc5, od5, .func (PySem.W.fnOf "best" "Wishes.best" (defArgs s_Wishes_best) (defBody s_Wishes_best) (defScope s_Wishes_best) .none kV5 dc5 pm5 an5 cd5 ct5), sl5⟩) (c5 : PySem.W.codeIn K cd5 "Wishes.best" = true) (k5 : PySem.W.keepIn K (.ref f5) = true) (i5 : PySem.W.isFn K (.ref f5) = true)
    (a6 : PySem.W.findIn K (.ref C) "ranks" = some (some (.ref f6))) (l6 : K.lookup f6 = some ⟨oc6, od6, .func (PySem.W.fnOf "ranks" "Wishes.ranks" (defArgs s_Wishes_ranks) (defBody s_Wishes_ranks) (defScope s_Wishes_ranks) .none kV6 dc6 pm6 an6 cd6 ct6), sl6⟩) (c6 : PySem.W.codeIn K cd6 "Wishes.ranks" = true) (k6 : PySem.W.keepIn K (.ref f6) = true) (i6 : PySem.W.isFn K (.ref f6) = true)
    (a7 : PySem.W.findIn K (.ref C) "opposite" = some (some (.ref f7))) (l7 : K.lookup f7 = some ⟨oc7, od7, .func (PySem.W.fnOf "opposite" "Wishes.opposite" (defArgs s_Wishes_opposite) (defBody s_Wishes_opposite) (defScope s_Wishes_opposite) .none kV7 dc7 pm7 an7 cd7 ct7), sl7⟩) (c7 : PySem.W.codeIn K cd7 "Wishes.opposite" = true) (k7 : PySem.W.keepIn K (.ref f7) = true) (i7 : PySem.W.isFn K (.ref f7) = true)
    (a8 : PySem.W.findIn K (.ref C) "agrees" = some (some (.ref f8))) (l8 : K.lookup f8 = some ⟨oc8, od8, .func (PySem.W.fnOf "agrees" "Wishes.agrees" (defArgs s_Wishes_agrees) (defBody s_Wishes_agrees) (defScope s_Wishes_agrees) .none kV8 dc8 pm8 an8 cd8 ct8), sl8⟩) (c8 : PySem.W.codeIn K cd8 "Wishes.agrees" = true) (k8 : PySem.W.keepIn K (.ref f8) = true) (i8 : PySem.W.isFn K (.ref f8) = true)
    (a9 : PySem.W.findIn K (.ref C) "_liked" = some (some (.ref f9))) (l9 : K.lookup f9 = some ⟨oc9, od9, .func (PySem.W.fnOf "_liked" "Wishes._liked" (defArgs s_WishesDliked) (defBody s_WishesDliked) (defScope s_WishesDliked) .none kV9 dc9 pm9 an9 cd9 ct9), sl9⟩) (c9 : PySem.W.codeIn K cd9 "Wishes._liked" = true) (k9 : PySem.W.keepIn K (.ref f9) = true) (i9 : PySem.W.isFn K (.ref f9) = true)
    (aP : PySem.W.findIn K (.ref C) "outcomes" = some (some (.ref p0))) (gP : PySem.W.specialIn K (.ref p0) "__get__" = some (some (.builtin "property.__get__"))) (tP : PySem.W.takesIn K (.ref p0) = some true)
    (a10 : PySem.W.recIn K p0 "property" = some (.ref f10 :: rest)) (l10 : K.lookup f10 = some ⟨oc10, od10, .func (PySem.W.fnOf "outcomes" "Wishes.outcomes" (defArgs s_Wishes_outcomes) (defBody s_Wishes_outcomes) (defScope s_Wishes_outcomes) .none kV10 dc10 pm10 an10 cd10 ct10), sl10⟩) (c10 : PySem.W.codeIn K cd10 "Wishes.outcomes" = true) (k10 : PySem.W.keepIn K (.ref f10) = true) (i10 : PySem.W.isFn K (.ref f10) = true)
    (a11 : PySem.W.findIn K (.ref U) "__init__" = some (some (.ref f11))) (l11 : K.lookup f11 = some ⟨oc11, od11, .func (PySem.W.fnOf "__init__" "UnlikeOutcomes.__init__" (defArgs s_UnlikeOutcomesD_initD) (defBody s_UnlikeOutcomesD_initD) (defScope s_UnlikeOutcomesD_initD) .none kV11 dc11 pm11 an11 cd11 ct11), sl11⟩) (c11 : PySem.W.codeIn K cd11 "UnlikeOutcomes.__init__" = true) (k11 : PySem.W.keepIn K (.ref f11) = true)
    (tI : PySem.W.typeIn K (.ref f11) = some (.type "function"))
    (a12 : PySem.W.nsIn K mainGlobals "_law_start" = some (some (.ref f12))) (l12 : K.lookup f12 = some ⟨oc12, od12, .func (PySem.W.fnOf "_law_start" "_law_start" (defArgs s_Lstart) (defBody s_Lstart) (defScope s_Lstart) .none kV12 dc12 pm12 an12 cd12 ct12), sl12⟩) (c12 : PySem.W.codeIn K cd12 "_law_start" = true) (k12 : PySem.W.keepIn K (.ref f12) = true)
    (a13 : PySem.W.nsIn K mainGlobals "_law_draw" = some (some (.ref f13))) (l13 : K.lookup f13 = some ⟨oc13, od13, .func (PySem.W.fnOf "_law_draw" "_law_draw" (defArgs s_Ldraw) (defBody s_Ldraw) (defScope s_Ldraw) .none kV13 dc13 pm13 an13 cd13 ct13), sl13⟩) (c13 : PySem.W.codeIn K cd13 "_law_draw" = true) (k13 : PySem.W.keepIn K (.ref f13) = true)
    (a14 : PySem.W.nsIn K mainGlobals "_law_names" = some (some (.ref f14))) (l14 : K.lookup f14 = some ⟨oc14, od14, .func (PySem.W.fnOf "_law_names" "_law_names" (defArgs s_Lnames) (defBody s_Lnames) (defScope s_Lnames) .none kV14 dc14 pm14 an14 cd14 ct14), sl14⟩) (c14 : PySem.W.codeIn K cd14 "_law_names" = true) (k14 : PySem.W.keepIn K (.ref f14) = true)
    (a15 : PySem.W.nsIn K mainGlobals "_law_order" = some (some (.ref f15))) (l15 : K.lookup f15 = some ⟨oc15, od15, .func (PySem.W.fnOf "_law_order" "_law_order" (defArgs s_Lorder) (defBody s_Lorder) (defScope s_Lorder) .none kV15 dc15 pm15 an15 cd15 ct15), sl15⟩) (c15 : PySem.W.codeIn K cd15 "_law_order" = true) (k15 : PySem.W.keepIn K (.ref f15) = true)
    (a16 : PySem.W.nsIn K mainGlobals "_law_near" = some (some (.ref f16))) (l16 : K.lookup f16 = some ⟨oc16, od16, .func (PySem.W.fnOf "_law_near" "_law_near" (defArgs s_Lnear) (defBody s_Lnear) (defScope s_Lnear) .none kV16 dc16 pm16 an16 cd16 ct16), sl16⟩) (c16 : PySem.W.codeIn K cd16 "_law_near" = true) (k16 : PySem.W.keepIn K (.ref f16) = true)
    (a17 : PySem.W.nsIn K mainGlobals "_law_told" = some (some (.ref f17))) (l17 : K.lookup f17 = some ⟨oc17, od17, .func (PySem.W.fnOf "_law_told" "_law_told" (defArgs s_Ltold) (defBody s_Ltold) (defScope s_Ltold) .none kV17 dc17 pm17 an17 cd17 ct17), sl17⟩) (c17 : PySem.W.codeIn K cd17 "_law_told" = true) (k17 : PySem.W.keepIn K (.ref f17) = true)
    (a18 : PySem.W.nsIn K mainGlobals "_law_due" = some (some (.ref f18))) (l18 : K.lookup f18 = some ⟨oc18, od18, .func (PySem.W.fnOf "_law_due" "_law_due" (defArgs s_Ldue) (defBody s_Ldue) (defScope s_Ldue) .none kV18 dc18 pm18 an18 cd18 ct18), sl18⟩) (c18 : PySem.W.codeIn K cd18 "_law_due" = true) (k18 : PySem.W.keepIn K (.ref f18) = true)
    (a19 : PySem.W.nsIn K mainGlobals "_law_ranks" = some (some (.ref f19))) (l19 : K.lookup f19 = some ⟨oc19, od19, .func (PySem.W.fnOf "_law_ranks" "_law_ranks" (defArgs s_Lranks) (defBody s_Lranks) (defScope s_Lranks) .none kV19 dc19 pm19 an19 cd19 ct19), sl19⟩) (c19 : PySem.W.codeIn K cd19 "_law_ranks" = true) (k19 : PySem.W.keepIn K (.ref f19) = true)
    (a20 : PySem.W.nsIn K mainGlobals "valid_name" = some (some (.ref f20))) (l20 : K.lookup f20 = some ⟨oc20, od20, .func (PySem.W.fnOf "valid_name" "valid_name" (defArgs s_valid_name) (defBody s_valid_name) (defScope s_valid_name) .none kV20 dc20 pm20 an20 cd20 ct20), sl20⟩) (c20 : PySem.W.codeIn K cd20 "valid_name" = true) (k20 : PySem.W.keepIn K (.ref f20) = true)
    (a21 : PySem.W.nsIn K mainGlobals "check_count" = some (some (.ref f21))) (l21 : K.lookup f21 = some ⟨oc21, od21, .func (PySem.W.fnOf "check_count" "check_count" (defArgs s_check_count) (defBody s_check_count) (defScope s_check_count) .none kV21 dc21 pm21 an21 cd21 ct21), sl21⟩) (c21 : PySem.W.codeIn K cd21 "check_count" = true) (k21 : PySem.W.keepIn K (.ref f21) = true)
    (a22 : PySem.W.nsIn K mainGlobals "is_integer" = some (some (.ref f22))) (l22 : K.lookup f22 = some ⟨oc22, od22, .func (PySem.W.fnOf "is_integer" "is_integer" (defArgs s_is_integer) (defBody s_is_integer) (defScope s_is_integer) .none kV22 dc22 pm22 an22 cd22 ct22), sl22⟩) (c22 : PySem.W.codeIn K cd22 "is_integer" = true) (k22 : PySem.W.keepIn K (.ref f22) = true)
    (a23 : PySem.W.nsIn K mainGlobals "check_outcomes" = some (some (.ref f23))) (l23 : K.lookup f23 = some ⟨oc23, od23, .func (PySem.W.fnOf "check_outcomes" "check_outcomes" (defArgs s_check_outcomes) (defBody s_check_outcomes) (defScope s_check_outcomes) .none kV23 dc23 pm23 an23 cd23 ct23), sl23⟩) (c23 : PySem.W.codeIn K cd23 "check_outcomes" = true) (k23 : PySem.W.keepIn K (.ref f23) = true)
    (a24 : PySem.W.nsIn K mainGlobals "law" = some (some (.ref f24))) (l24 : K.lookup f24 = some ⟨oc24, od24, .func (PySem.W.fnOf "law" "law" (defArgs s_law) (defBody s_law) (defScope s_law) .none kV24 dc24 pm24 an24 cd24 ct24), sl24⟩) (c24 : PySem.W.codeIn K cd24 "law" = true) (k24 : PySem.W.keepIn K (.ref f24) = true)
    (pg : PySem.W.plainGet K C Str.empty = true)
    (hd : PySem.W.hasDictIn K C = true)
    (po : PySem.W.plainOver K C = true)
    (sa : PySem.W.findIn K (.ref C) "__setattr__" = some (some (.builtin "object.__setattr__")))
    (n1 : PySem.W.findIn K (.ref C) "_outcomes" = some none)
    (n2 : PySem.W.findIn K (.ref C) "_amounts" = some none)
    (kc : PySem.W.findIn K (.ref C) "__class__" = some (some (.builtin "object.__class__")))
    (kg : PySem.W.specialIn K (.builtin "object.__class__") "__get__" = some (some (.builtin "getset_descriptor.__get__")))
    (kt : PySem.W.takesIn K (.builtin "object.__class__") = some true)
    (ko : PySem.W.mroIn K C (.type "object") = some true)
    (mk : PySem.W.makesIn K C = true)
    (kp : PySem.W.keepIn K (.ref C) = true)
    (ne : PySem.W.findIn K (.ref C) "__ne__" = some (some (.builtin "object.__ne__")))
    (so : PySem.W.subIn K (.ref C) (.type "object") = some true)
    (e1 : PySem.W.subIn K (.ref C) (.type "NoneType") = some false)
    (e2 : PySem.W.subIn K (.ref C) (.type "int") = some false)
    (e3 : PySem.W.subIn K (.ref C) (.type "str") = some false)
    (e4 : PySem.W.subIn K (.ref C) (.type "list") = some false)
    (e5 : PySem.W.subIn K (.ref C) (.type "tuple") = some false)
    (e6 : PySem.W.subIn K (.ref C) (.type "dict") = some false)
    (ic : PySem.W.isClsIn K C = true)
    (tc : PySem.W.typeIn K (.ref C) = some (.type "type"))
    (fg : PySem.W.fnIn K f2 = true)
    (rU : PySem.HandSPX.refsVE bm = true)
    (saU : PySem.W.findIn K (.ref U) "__setattr__" = some (some (.builtin "object.__setattr__")))
    (exU : PySem.W.subIn K (.ref U) (.type "BaseException") = some true)
    (tyU : PySem.W.typeIn K (.ref U) = some (.type "type"))
    (kU : PySem.W.keepIn K (.ref U) = true)
    (noU : PySem.W.findIn K (.ref U) "names" = some none)
    (gaU : PySem.W.findIn K (.ref U) "__getattribute__" = some (some (.builtin "BaseException.__getattribute__")))
    (ggU : PySem.W.findIn K (.ref U) "__getattr__" = some none)
    (hdU : PySem.W.hasDictIn K U = true)
    (icU : PySem.W.isClsIn K U = true)
    (suU : PySem.W.subIn K (.ref U) (.ref U) = some true)
    (v_LETTERS : PySem.W.nsIn K mainGlobals "LETTERS" = some (some (.str "abcdefghijklmnopqrstuvwxyz" t_LETTERS)))
    (v_DIGITS : PySem.W.nsIn K mainGlobals "DIGITS" = some (some (.str "0123456789" t_DIGITS)))
    (v_LONGEST_NAME : PySem.W.nsIn K mainGlobals "LONGEST_NAME" = some (some (.int 6 t_LONGEST_NAME)))
    (v_MOST_OUTCOMES : PySem.W.nsIn K mainGlobals "MOST_OUTCOMES" = some (some (.int 6 t_MOST_OUTCOMES)))
    (z_abs : PySem.W.nsIn K mainGlobals "abs" = some none)
    (z_all : PySem.W.nsIn K mainGlobals "all" = some none)
    (z_bool : PySem.W.nsIn K mainGlobals "bool" = some none)
    (z_dict : PySem.W.nsIn K mainGlobals "dict" = some none)
    (z_int : PySem.W.nsIn K mainGlobals "int" = some none)
    (z_isinstance : PySem.W.nsIn K mainGlobals "isinstance" = some none)
    (z_len : PySem.W.nsIn K mainGlobals "len" = some none)
    (z_list : PySem.W.nsIn K mainGlobals "list" = some none)
    (z_max : PySem.W.nsIn K mainGlobals "max" = some none)
    (z_range : PySem.W.nsIn K mainGlobals "range" = some none)
    (z_set : PySem.W.nsIn K mainGlobals "set" = some none)
    (z_sorted : PySem.W.nsIn K mainGlobals "sorted" = some none)
    (z_str : PySem.W.nsIn K mainGlobals "str" = some none)
    (z_tuple : PySem.W.nsIn K mainGlobals "tuple" = some none) :
    ∃ fd : FuncData, (∀ (s : Shared) (v : Value), BindsTo s fd ⟨[v], []⟩ [("_law_script", v)]) ∧ ∀ base : Heap, K.In base → base.Ns mainGlobals mg → FnOk l.prog w K mg base CX0 6 fa fd ["_law_script"] (spLaw K) := by
  have e := hfa.symm.trans (PySem.W.mg_of X G a24)
  cases e
  have F1 := fun_mk (st := s_WishesD_initD) l1 c1 k1
  have F2 := fun_mk (st := s_WishesD_getitemD) l2 c2 k2
  have F3 := fun_mk (st := s_WishesD_eqD) l3 c3 k3
  have F4 := fun_mk (st := s_Wishes_amounts) l4 c4 k4
  have F5 := fun_mk (st := s_Wishes_best) l5 c5 k5
  have F6 := fun_mk (st := s_Wishes_ranks) l6 c6 k6
  have F7 := fun_mk (st := s_Wishes_opposite) l7 c7 k7
  have F8 := fun_mk (st := s_Wishes_agrees) l8 c8 k8
  have F9 := fun_mk (st := s_WishesDliked) l9 c9 k9
  have F10 := fun_mk (st := s_Wishes_outcomes) l10 c10 k10
  have F11 := fun_mk (st := s_UnlikeOutcomesD_initD) l11 c11 k11
  have F12 := fun_mk (st := s_Lstart) l12 c12 k12
  have F13 := fun_mk (st := s_Ldraw) l13 c13 k13
  have F14 := fun_mk (st := s_Lnames) l14 c14 k14
  have F15 := fun_mk (st := s_Lorder) l15 c15 k15
  have F16 := fun_mk (st := s_Lnear) l16 c16 k16
  have F17 := fun_mk (st := s_Ltold) l17 c17 k17
  have F18 := fun_mk (st := s_Ldue) l18 c18 k18
  have F19 := fun_mk (st := s_Lranks) l19 c19 k19
  have F20 := fun_mk (st := s_valid_name) l20 c20 k20
  have F21 := fun_mk (st := s_check_count) l21 c21 k21
  have F22 := fun_mk (st := s_is_integer) l22 c22 k22
  have F23 := fun_mk (st := s_check_outcomes) l23 c23 k23
  have F24 := fun_mk (st := s_law) l24 c24 k24
  have b1 := F1.binds (ps := ["self", "amounts"]) fun _ _ _ _ _ _ us hl => match us, hl with | [_, _], _ => rfl
  have b2 := F2.binds (ps := ["self", "at"]) fun _ _ _ _ _ _ us hl => match us, hl with | [_, _], _ => rfl
  have b3 := F3.binds (ps := ["self", "other"]) fun _ _ _ _ _ _ us hl => match us, hl with | [_, _], _ => rfl
  have b4 := F4.binds (ps := ["self"]) fun _ _ _ _ _ _ us hl => match us, hl with | [_], _ => rfl
  have b5 := F5.binds (ps := ["self", "names"]) fun _ _ _ _ _ _ us hl => match us, hl with | [_, _], _ => rfl
  have b6 := F6.binds (ps := ["self"]) fun _ _ _ _ _ _ us hl => match us, hl with | [_], _ => rfl
  have b7 := F7.binds (ps := ["self"]) fun _ _ _ _ _ _ us hl => match us, hl with | [_], _ => rfl
  have b8 := F8.binds (ps := ["self", "other"]) fun _ _ _ _ _ _ us hl => match us, hl with | [_, _], _ => rfl
  have b9 := F9.binds (ps := ["self", "amount"]) fun _ _ _ _ _ _ us hl => match us, hl with | [_, _], _ => rfl
  have b10 := F10.binds (ps := ["self"]) fun _ _ _ _ _ _ us hl => match us, hl with | [_], _ => rfl
  have b11 := F11.binds (ps := ["self", "names"]) fun _ _ _ _ _ _ us hl => match us, hl with | [_, _], _ => rfl
  have b12 := F12.binds (ps := ["_law_script"]) fun _ _ _ _ _ _ us hl => match us, hl with | [_], _ => rfl
  have b13 := F13.binds (ps := ["_law_state", "_law_size"]) fun _ _ _ _ _ _ us hl => match us, hl with | [_, _], _ => rfl
  have b14 := F14.binds (ps := ["_law_state", "_law_count"]) fun _ _ _ _ _ _ us hl => match us, hl with | [_, _], _ => rfl
  have b15 := F15.binds (ps := ["_law_state", "_law_items"]) fun _ _ _ _ _ _ us hl => match us, hl with | [_, _], _ => rfl
  have b16 := F16.binds (ps := ["_law_state", "_law_given"]) fun _ _ _ _ _ _ us hl => match us, hl with | [_, _], _ => rfl
  have b17 := F17.binds (ps := ["_law_one", "_law_two"]) fun _ _ _ _ _ _ us hl => match us, hl with | [_, _], _ => rfl
  have b18 := F18.binds (ps := ["_law_given", "_law_near_here"]) fun _ _ _ _ _ _ us hl => match us, hl with | [_, _], _ => rfl
  have b19 := F19.binds (ps := ["_law_given"]) fun _ _ _ _ _ _ us hl => match us, hl with | [_], _ => rfl
  have b20 := F20.binds (ps := ["text"]) fun _ _ _ _ _ _ us hl => match us, hl with | [_], _ => rfl
  have b21 := F21.binds (ps := ["count"]) fun _ _ _ _ _ _ us hl => match us, hl with | [_], _ => rfl
  have b22 := F22.binds (ps := ["value"]) fun _ _ _ _ _ _ us hl => match us, hl with | [_], _ => rfl
  have b23 := F23.binds (ps := ["outcomes", "names"]) fun _ _ _ _ _ _ us hl => match us, hl with | [_, _], _ => rfl
  have b24 := F24.binds (ps := ["_law_script"]) fun _ _ _ _ _ _ us hl => match us, hl with | [_], _ => rfl
  have T : TxtB mg := { z_abs := PySem.W.mg_none_of X G z_abs, z_all := PySem.W.mg_none_of X G z_all, z_bool := PySem.W.mg_none_of X G z_bool, z_dict := PySem.W.mg_none_of X G z_dict, z_int := PySem.W.mg_none_of X G z_int, z_isinstance := PySem.W.mg_none_of X G z_isinstance, z_len := PySem.W.mg_none_of X G z_len, z_list := PySem.W.mg_none_of X G z_list, z_max := PySem.W.mg_none_of X G z_max, z_range := PySem.W.mg_none_of X G z_range, z_set := PySem.W.mg_none_of X G z_set, z_sorted := PySem.W.mg_none_of X G z_sorted, z_str := PySem.W.mg_none_of X G z_str, z_tuple := PySem.W.mg_none_of X G z_tuple, c_LETTERS := ⟨_, PySem.W.mg_of X G v_LETTERS⟩, c_DIGITS := ⟨_, PySem.W.mg_of X G v_DIGITS⟩, c_LONGEST_NAME := ⟨_, PySem.W.mg_of X G v_LONGEST_NAME⟩, c_MOST_OUTCOMES := ⟨_, PySem.W.mg_of X G v_MOST_OUTCOMES⟩ }
  let W : Wsh K mg := { C := C, g := PySem.W.mg_of X G aC, cl := ⟨pg, hd, po, sa⟩, n1 := n1, n2 := n2, me := kit_self, kc := kc, kg := kg, kt := kt, ko := ko }
  let xU' : XCls K mg "UnlikeOutcomes" "names" := { C := U, g := PySem.W.mg_of X G aU, T := ⟨⟨nm, q, N, bs, bm, sn, sub, ab, col, dd, m0, m1, m2, m3, m5, xU, rU⟩, saU, exU, tyU, kU⟩, no := noU, xf := ⟨gaU, ggU, exU, hdU⟩, ex := exm_me exU icU tyU suU }
  have eN : EqN K C := ⟨e1, e2, e3, e4, e5, e6⟩
  have kN : KitN K C := ⟨kit_no ic tc no_NoneType, kit_no ic tc no_int, kit_no ic tc no_str, kit_no ic tc no_list, kit_no ic tc no_tuple, kit_no ic tc no_dict⟩
  have kc2 : KBinds K _ ["self", "other"] ["other"] g2 gV2 := kb_two F8 fun _ _ _ _ _ _ _ _ => rfl
  refine ⟨PySem.W.fnOf "law" "law" (defArgs s_law) (defBody s_law) (defScope s_law) .none kV24 dc24 pm24 an24 cd24 ct24, fun s v => .of_eq rfl, fun base _ _ => ?_⟩
  let cS : Cal l.prog w K mg base "_law_start" CX0 1 ["_law_script"] (spStart K) := ⟨f12, _, PySem.W.mg_of X G a12, k12, b12, ok_Lstart F12 T ⟩
  let cD : Cal l.prog w K mg base "_law_draw" CX0 1 ["_law_state", "_law_size"] spDraw := ⟨f13, _, PySem.W.mg_of X G a13, k13, b13, ok_Ldraw F13 T ⟩
  let cN : Cal l.prog w K mg base "_law_names" CX0 2 ["_law_state", "_law_count"] spNames := ⟨f14, _, PySem.W.mg_of X G a14, k14, b14, ok_Lnames F14 T cD⟩
  let cO : Cal l.prog w K mg base "_law_order" CX0 2 ["_law_state", "_law_items"] (spOrder K) := ⟨f15, _, PySem.W.mg_of X G a15, k15, b15, ok_Lorder F15 T cD⟩
  let cE : Cal l.prog w K mg base "_law_near" CX0 3 ["_law_state", "_law_given"] spNear := ⟨f16, _, PySem.W.mg_of X G a16, k16, b16, ok_Lnear F16 T cD cO⟩
  let cR : Cal l.prog w K mg base "_law_ranks" CX0 2 ["_law_given"] spLR := ⟨f19, _, PySem.W.mg_of X G a19, k19, b19, (ok_Lranks F19 T).mono (by decide)⟩
  let cU : Cal l.prog w K mg base "_law_due" CX0 3 ["_law_given", "_law_near_here"] spDue := ⟨f18, _, PySem.W.mg_of X G a18, k18, b18, ok_Ldue F18 T cR⟩
  let cV : Cal l.prog w K mg base "valid_name" CX0 1 ["text"] spGood := ⟨f20, _, PySem.W.mg_of X G a20, k20, b20, ok_valid_name F20 T ⟩
  let cK : Cal l.prog w K mg base "check_count" CX0 1 ["count"] spCheck := ⟨f21, _, PySem.W.mg_of X G a21, k21, b21, ok_check_count F21 T ⟩
  let cI : Cal l.prog w K mg base "is_integer" CX0 1 ["value"] spIsInt := ⟨f22, _, PySem.W.mg_of X G a22, k22, b22, ok_is_integer F22 T ⟩
  let mU : CalM l.prog w K mg base CX0 1 ["self", "names"] (spXI U "names") := ⟨f11, _, b11, ok_UnlikeOutcomesD_initD F11 T xU'⟩
  let cX : Cal l.prog w K mg base "check_outcomes" (CX l.prog w) 3 ["outcomes", "names"] (spCheckOut U) := ⟨f23, _, PySem.W.mg_of X G a23, k23, b23, ok_check_outcomes F23 T xU' mU ⟨a11, tI⟩⟩
  let mI : CalM l.prog w K mg base CX0 2 ["self", "amounts"] (spInit C) := ⟨f1, _, b1, ok_WishesD_initD F1 T W cK cV cI⟩
  let mO : CalM l.prog w K mg base CX0 1 ["self"] (spOut C) := ⟨f10, _, b10, ok_Wishes_outcomes F10 T W⟩
  let mG : CalM l.prog w K mg base CX0 1 ["self", "at"] (spGet C) := ⟨f2, _, b2, ok_WishesD_getitemD F2 T W⟩
  let mQ : CalM l.prog w K mg base CX0 1 ["self", "other"] (spEq K C) := ⟨f3, _, b3, ok_WishesD_eqD F3 T W⟩
  let mA : CalM l.prog w K mg base CX0 1 ["self"] (spNew C (fun _ r => r = []) (fun am _ => .dK (amK am))) := ⟨f4, _, b4, ok_Wishes_amounts F4 T W⟩
  let mL : CalM l.prog w K mg base CX0 1 ["self", "amount"] (spNew C (fun _ r => ∃ z : Int, r = [.int z]) (fun am r => .tup (amN (am.filter fun p => decide (r = [.int p.2]))))) := ⟨f9, _, b9, ok_WishesDliked F9 T W⟩
  let mB : CalM l.prog w K mg base CX0 3 ["self", "names"] (spBest C) := ⟨f5, _, b5, ok_Wishes_best F5 T W mG ⟨a2, fg, i2⟩ mL ⟨a9, i9, k9⟩⟩
  let mR : CalM l.prog w K mg base CX0 2 ["self"] (spRanks C) := ⟨f6, _, b6, ok_Wishes_ranks F6 T W mL ⟨a9, i9, k9⟩⟩
  let mP : CalM l.prog w K mg base CX0 4 ["self"] (spOpp C) := ⟨f7, _, b7, ok_Wishes_opposite F7 T W mI ⟨mk, a1, i1, kp⟩⟩
  let mT : CalM l.prog w K mg base (CX l.prog w) 4 ["self", "other"] (spAgrees C U) := ⟨f8, _, b8, ok_Wishes_agrees F8 T W cX mO ⟨aP, gP, tP, rest, a10⟩ mR ⟨a6, i6, k6⟩⟩
  let cT : Cal l.prog w K mg base "_law_told" CX0 5 ["_law_one", "_law_two"] (spTold C) := ⟨f17, _, PySem.W.mg_of X G a17, k17, b17, ok_Ltold F17 T W xU' mT ⟨a8, i8, k8⟩⟩
  exact ok_law F24 T W cS cD cN cE cT cU cR mI ⟨mk, a1, i1, kp⟩ mQ ⟨a3, i3, first_self, ne, so⟩ eN kN mP ⟨a7, i7, k7⟩ mR ⟨a6, i6, k6⟩ mB ⟨a5, i5, k5⟩ mA ⟨a4, i4, k4⟩ mO ⟨aP, gP, tP, rest, a10⟩ mT ⟨a8, i8, k8⟩ kc2
end K04

open PySem PySem.W PyProof.Rows in
set_option maxRecDepth 100000 in
set_option maxHeartbeats 0 in
theorem PySem.Challenge.cw_twochoosers_k04_wishes_compared_holds : PySem.Challenge.rw_twochoosers_k04_wishes_compared.Holds := by
  w_on; o_law; k_head; (case hw => w_witness2)
  k_fill
  refine L2.walk_of (l := PySem.Challenge.rw_twochoosers_k04_wishes_compared) (n := 63) (k := 6) (x := "_law_script") (CX := fun _ => L2.CX0) (sp := fun w => K04.spLaw _) rfl (by decide) rfl ⟨rfl, by decide, by decide⟩ (fun w h Y => PySem.W.kIn_of Y) ?F (fun _ _ a ns hl _ hS => ⟨a, ns, rfl, hS, hl, fun _ => rfl⟩) (fun _ _ _ _ _ h => h)
  case F =>
    intro w mg fa h KX G hmg
    refine' K04.all_mk KX G hmg ?aC ?aU ?xU ?a1 ?l1 ?c1 ?k1 ?i1 ?a2 ?l2 ?c2 ?k2 ?i2 ?a3 ?l3 ?c3 ?k3 ?i3 ?a4 ?l4 ?c4 ?k4 ?i4 ?a5 ?l5 ?c5 ?k5 ?i5 ?a6 ?l6 ?c6 ?k6 ?i6 ?a7 ?l7 ?c7 ?k7 ?i7 ?a8 ?l8 ?c8 ?k8 ?i8 ?a9 ?l9 ?c9 ?k9 ?i9 ?aP ?gP ?tP ?a10 ?l10 ?c10 ?k10 ?i10 ?a11 ?l11 ?c11 ?k11 ?tI ?a12 ?l12 ?c12 ?k12 ?a13 ?l13 ?c13 ?k13 ?a14 ?l14 ?c14 ?k14 ?a15 ?l15 ?c15 ?k15 ?a16 ?l16 ?c16 ?k16 ?a17 ?l17 ?c17 ?k17 ?a18 ?l18 ?c18 ?k18 ?a19 ?l19 ?c19 ?k19 ?a20 ?l20 ?c20 ?k20 ?a21 ?l21 ?c21 ?k21 ?a22 ?l22 ?c22 ?k22 ?a23 ?l23 ?c23 ?k23 ?a24 ?l24 ?c24 ?k24 ?pg ?hd ?po ?sa ?n1 ?n2 ?kc ?kg ?kt ?ko ?mk ?kp ?ne ?so ?e1 ?e2 ?e3 ?e4 ?e5 ?e6 ?ic ?tc ?fg ?rU ?saU ?exU ?tyU ?kU ?noU ?gaU ?ggU ?hdU ?icU ?suU ?v_LETTERS ?v_DIGITS ?v_LONGEST_NAME ?v_MOST_OUTCOMES ?z_abs ?z_all ?z_bool ?z_dict ?z_int ?z_isinstance ?z_len ?z_list ?z_max ?z_range ?z_set ?z_sorted ?z_str ?z_tuple
    (case aC => k_is)
    (case aU => k_is)
    (case xU => k_is)
    (case a1 => k_is)
    (case l1 => k_is)
    (case c1 => k_is)
    (case k1 => k_is)
    (case i1 => k_is)
    (case a2 => k_is)
    (case l2 => k_is)
    (case c2 => k_is)
    (case k2 => k_is)
    (case i2 => k_is)
    (case a3 => k_is)
    (case l3 => k_is)
    (case c3 => k_is)
    (case k3 => k_is)
    (case i3 => k_is)
    (case a4 => k_is)
    (case l4 => k_is)
    (case c4 => k_is)
    (case k4 => k_is)
    (case i4 => k_is)
    (case a5 => k_is)
    (case l5 => k_is)
    (case c5 => k_is)
    (case k5 => k_is)
    (case i5 => k_is)
    (case a6 => k_is)
    (case l6 => k_is)
    (case c6 => k_is)
    (case k6 => k_is)
    (case i6 => k_is)
    (case a7 => k_is)
    (case l7 => k_is)
    (case c7 => k_is)
    (case k7 => k_is)
    (case i7 => k_is)
    (case a8 => k_is)
    (case l8 => k_is)
    (case c8 => k_is)
    (case k8 => k_is)
    (case i8 => k_is)
    (case a9 => k_is)
    (case l9 => k_is)
    (case c9 => k_is)
    (case k9 => k_is)
    (case i9 => k_is)
    (case aP => k_is)
    (case gP => k_is)
    (case tP => k_is)
    (case a10 => k_is)
    (case l10 => k_is)
    (case c10 => k_is)
    (case k10 => k_is)
    (case i10 => k_is)
    (case a11 => k_is)
    (case l11 => k_is)
    (case c11 => k_is)
    (case k11 => k_is)
    (case tI => k_is)
    (case a12 => k_is)
    (case l12 => k_is)
    (case c12 => k_is)
    (case k12 => k_is)
    (case a13 => k_is)
    (case l13 => k_is)
    (case c13 => k_is)
    (case k13 => k_is)
    (case a14 => k_is)
    (case l14 => k_is)
    (case c14 => k_is)
    (case k14 => k_is)
    (case a15 => k_is)
    (case l15 => k_is)
    (case c15 => k_is)
    (case k15 => k_is)
    (case a16 => k_is)
    (case l16 => k_is)
    (case c16 => k_is)
    (case k16 => k_is)
    (case a17 => k_is)
    (case l17 => k_is)
    (case c17 => k_is)
    (case k17 => k_is)
    (case a18 => k_is)
    (case l18 => k_is)
    (case c18 => k_is)
    (case k18 => k_is)
    (case a19 => k_is)
    (case l19 => k_is)
    (case c19 => k_is)
    (case k19 => k_is)
    (case a20 => k_is)
    (case l20 => k_is)
    (case c20 => k_is)
    (case k20 => k_is)
    (case a21 => k_is)
    (case l21 => k_is)
    (case c21 => k_is)
    (case k21 => k_is)
    (case a22 => k_is)
    (case l22 => k_is)
    (case c22 => k_is)
    (case k22 => k_is)
    (case a23 => k_is)
    (case l23 => k_is)
    (case c23 => k_is)
    (case k23 => k_is)
    (case a24 => k_is)
    (case l24 => k_is)
    (case c24 => k_is)
    (case k24 => k_is)
    (case pg => k_is)
    (case hd => k_is)
    (case po => k_is)
    (case sa => k_is)
    (case n1 => k_is)
    (case n2 => k_is)
    (case kc => k_is)
    (case kg => k_is)
    (case kt => k_is)
    (case ko => k_is)
    (case mk => k_is)
    (case kp => k_is)
    (case ne => k_is)
    (case so => k_is)
    (case e1 => k_is)
    (case e2 => k_is)
    (case e3 => k_is)
    (case e4 => k_is)
    (case e5 => k_is)
    (case e6 => k_is)
    (case ic => k_is)
    (case tc => k_is)
    (case fg => k_is)
    (case rU => decide +kernel)
    (case saU => k_is)
    (case exU => k_is)
    (case tyU => k_is)
    (case kU => k_is)
    (case noU => k_is)
    (case gaU => k_is)
    (case ggU => k_is)
    (case hdU => k_is)
    (case icU => k_is)
    (case suU => first | rfl | k_is)
    (case v_LETTERS => k_is)
    (case v_DIGITS => k_is)
    (case v_LONGEST_NAME => k_is)
    (case v_MOST_OUTCOMES => k_is)
    (case z_abs => k_is)
    (case z_all => k_is)
    (case z_bool => k_is)
    (case z_dict => k_is)
    (case z_int => k_is)
    (case z_isinstance => k_is)
    (case z_len => k_is)
    (case z_list => k_is)
    (case z_max => k_is)
    (case z_range => k_is)
    (case z_set => k_is)
    (case z_sorted => k_is)
    (case z_str => k_is)
    (case z_tuple => k_is)
#print axioms PySem.Challenge.cw_twochoosers_k04_wishes_compared_holds
