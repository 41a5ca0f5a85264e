import PyProof.Rows.All
import KE.KStateDown
import HandS.Head0
import HandS.Head1
import HandS.Head2
import HandS.HeadEnd
import HandS.HeadHook1
import HandS.HeadHook2
import HandS.HeadHook3
import HandS.HeadHook4
import HandS.HeadWalk
import HandS.HeadNt
import HandS.EndTab
import HandS.Words
import HandS.ExcField
import Wide.All
import OpenK.AllK
import Wide.FinOn
import HandS.ForMost
import HandS.ForExc
import HandS.Walk
import HandS.IsInst
import HandS.Wide
import HandS.Style
import HandS.Evl
import HandS.TryMany
import HandS.ExcInit
import HandS.Property
import HandS.DictComp
import HandS.MakeKw
import KE.KEqNest
import HandS.WordsDict
import PyProof.Rows.StrMeet
import HandS.Small
import HandS.SlotsOwn
import PyProof.InstEq
import HandS.SetFor
import HandS.Strs
import HandS.SetBool
import PyProof.EqAt
import PyProof.EqKinds
import KE.GoesZip
import KE.GoesMore
import HandS.Zip
import HandS.Star
import KE.KItemsList
import PyProof.TupleOfGen
import HandS.TupAny
import HandS.Deep
import HandS.Lambda
import KE.SortKeyHeap
import HandS.SortKw
import KE.SortData
import HandS.More
import HandS.NoneIn
import HandS.ClsMeth
import KE.GoesEnum
import HandS.CallLocal
import OpenK.KMeth
import KE.KOpsOwn
import KE.KCallOwn
import HandS.TupLen
import PyProof.DictFindH
import PyProof.DictTruth
import KE.KEqDict
import HandS.Conv
import HandS.MakeKwOnly
import PyProof.FactsAll.dict
import HandS.SuiteRaise
import KE.KExcIs
import HandS.FStr
import HandS.RaiseMore
import HandS.Finally
import KE.GoesRaise
import PySem.Challenge.RW_twochoosers_k03_wishes
set_option Elab.async false
set_option linter.all false
set_option maxRecDepth 100000
set_option maxHeartbeats 4000000
namespace VL
open PySem PySem.Spec PyProof.Rows L2
/-! ### what the head of a law's program tells -/
structure PrD where
  cls : Str
  prop : Str
  qual : Str
  st : Stmt
  cm : Bool
def prAt (K : PySem.W.Frag) (c f : Str) : Addr := match PySem.W.findIn K (.ref (He.ga K c)) f with
  | some (some (.ref p)) => p
  | _ => 0
def prFn (K : PySem.W.Frag) (c f : Str) : Addr := match PySem.W.recIn K (prAt K c f) "property" with
  | some (.ref g :: _) => g
  | _ => 0
/-- the def below a classmethod -/
def cmFn (K : PySem.W.Frag) (c f : Str) : Addr := match PySem.W.recIn K (prAt K c f) "classmethod" with
  | some (.ref g :: _) => g
  | _ => 0
def PrD.fnAt (K : PySem.W.Frag) (d : PrD) : Addr := if d.cm then cmFn K d.cls d.prop else prFn K d.cls d.prop
def cmB (K : PySem.W.Frag) (c f : Str) : Bool := (match PySem.W.findCls K (.ref (He.ga K c)) (.type "type") f with
  | some (.get (.builtin n) (.ref p) .none (.ref C)) => decide (n = "classmethod.__get__") && (decide (p = prAt K c f) && decide (C = He.ga K c))
  | _ => false) && ((match PySem.W.recIn K (prAt K c f) "classmethod" with | some (.ref g :: _) => true | _ => false) && (PySem.W.fnIn K (cmFn K c f) && (PySem.W.readsIn K (He.ga K c) (.type "type") && He.eqO (PySem.W.specialIn K (.ref (He.ga K c)) "__getattribute__") (some (some (.builtin "type.__getattribute__"))))))
def PrD.obs (K : PySem.W.Frag) (d : PrD) : He.FnW := match K.lookup (d.fnAt K) with
  | some ⟨_, _, .func fd, _⟩ => some (fd.name, fd.qualname, fd.params, fd.body, fd.scope, fd.globals, fd.closure, fd.builtins)
  | _ => none
def PrD.val (d : PrD) : He.FnW := some (d.prop, d.qual, defArgs d.st, .stmts (defBody d.st), defScope d.st, mainGlobals, [], builtinsNs)
def PrD.ok1 (K : PySem.W.Frag) (d : PrD) : Bool := if d.cm then cmB K d.cls d.prop else He.eqO (PySem.W.findIn K (.ref (He.ga K d.cls)) d.prop) (some (some (.ref (prAt K d.cls d.prop)))) && (He.eqO (PySem.W.specialIn K (.ref (prAt K d.cls d.prop)) "__get__") (some (some (.builtin "property.__get__"))) &&
  (decide (PySem.W.takesIn K (.ref (prAt K d.cls d.prop)) = some true) && (match PySem.W.recIn K (prAt K d.cls d.prop) "property" with | some (.ref g :: _) => true | _ => false)))
def PrD.ok2 (K : PySem.W.Frag) (d : PrD) : Bool := PySem.W.keepIn K (.ref (d.fnAt K)) && (match K.lookup (d.fnAt K) with
  | some ⟨_, _, .func fd, _⟩ => PySem.W.codeIn K fd.code d.qual && (He.dflB K fd.defaults [] && He.kwdB K fd.kwdefaults [])
  | _ => false)
abbrev AlP : Type := He.AlX × (Bool × List He.FnW)
def valP (fn : List He.DefD) (prs : List PrD) (w : World) : AlP := (He.valX fn [] w, (true, prs.map PrD.val))
structure SaysP (fa : List He.Fa) (fn : List He.DefD) (prs : List PrD) (tf : List He.Defn) (ex : PySem.W.Frag → Bool) (w : World) (h : Heap) (K : PySem.W.Frag) : Prop where
  x : He.SaysX fa fn [] tf ex w h K
  ok : ∀ d ∈ prs, d.ok1 K = true ∧ d.ok2 K = true
  ob : prs.map (fun d => d.obs K) = prs.map PrD.val
def new6 : List (Option Value) → Bool
  | [_, _, _, _, k4, _] => decide (k4 = some (Value.builtin "ValueError.__new__"))
  | _ => false
def oexB (K : PySem.W.Frag) (C : Addr) : Bool := (match K.lookup C with
  | some ⟨.type t, _, .cls cd, sl⟩ => decide (t = "type") && ((match cd.mro with
    | v :: bm => decide (v = Value.ref C) && PySem.HandSPX.refsVE bm
    | [] => false) && (cd.hasDict && (!cd.hasDel && new6 sl.toList)))
  | _ => false) && (He.eqO (PySem.W.findIn K (.ref C) "__setattr__") (some (some (.builtin "object.__setattr__"))) && (decide (PySem.W.subIn K (.ref C) (.type "BaseException") = some true) &&
  (decide (PySem.W.typeIn K (.ref C) = some (.type "type")) && PySem.W.keepIn K (.ref C))))
def exsB (xs : List (Str × Str)) (K : PySem.W.Frag) : Bool := xs.all fun x => oexB K (He.ga K x.1) && (L2.xfB K (He.ga K x.1) && decide (PySem.W.typeIn K (.ref (He.ma K (He.ga K x.1) "__init__")) = some (.type "function")))
/-! ### a Hook that looks at given addresses -/
def obsQ (as : List Addr) (fa : List He.Fa) (fn : List He.DefD) (prs : List PrD) (tf : List He.Defn) (ex : PySem.W.Frag → Bool) (g : Addr → Option Obj) : AlP :=
  let K := He.frT g as
  ((He.obsT fa fn [] K, ex K && He.tabsB g tf K), (prs.all (fun d => d.ok1 K && d.ok2 K), prs.map fun d => d.obs K))
theorem saysQ_of {as : List Addr} {fa : List He.Fa} {fn : List He.DefD} {tf : List He.Defn} {ex : PySem.W.Frag → Bool} {w : World} {h : Heap} (e : ((He.obsT fa fn [] (He.frT h.get? as), ex (He.frT h.get? as) && He.tabsB h.get? tf (He.frT h.get? as)) : He.AlX) = He.valX fn [] w) : He.SaysX fa fn [] tf ex w h (He.frT h.get? as) := by
  have e1 : He.obsT fa fn [] (He.frT h.get? as) = He.valT fn [] w := congrArg (fun z : He.AlX => z.1) e
  have e2 : (ex (He.frT h.get? as) && He.tabsB h.get? tf (He.frT h.get? as)) = true := congrArg (fun z : He.AlX => z.2) e
  obtain ⟨h1, h2⟩ := He.ba e2
  have key : ∀ p ∈ tf, PySem.W.codeHdIn (He.frT h.get? as) (He.cT (He.frT h.get? as) p).1 (He.cT (He.frT h.get? as) p).2 = true ∧ ∃ o, h.get? (He.cT (He.frT h.get? as) p).2 = some o ∧ He.emptyTab o = true := fun p hp => by
    obtain ⟨h3, h4⟩ := He.ba (List.all_eq_true.mp h2 p hp)
    refine ⟨h3, ?_⟩
    cases q : h.get? (He.cT (He.frT h.get? as) p).2 with
    | none => rw [q] at h4; cases h4
    | some o => rw [q] at h4; exact ⟨o, rfl, h4⟩
  exact ⟨e1, h1, fun p hp => (key p hp).1, fun p hp => by
    obtain ⟨_, o, q, z⟩ := key p hp
    exact He.frT_none q z, fun p hp => by
    obtain ⟨_, o, q, z⟩ := key p hp
    rw [q, He.emptyTab_eq z]⟩
def hookQ (as : List Addr) (fa : List He.Fa) (fn : List He.DefD) (prs : List PrD) (tf : List He.Defn) (ex : PySem.W.Frag → Bool) : PySem.W.Hook where
  α := AlP
  obs := fun s => obsQ as fa fn prs tf ex s.heap.get?
  val := fun w => valP fn prs w
  says := fun w h => ∃ K : PySem.W.Frag, K.In h ∧ SaysP fa fn prs tf ex w h K
  of := fun w s e => by
    have e1 := congrArg (fun z : AlP => z.1) e
    have e2 := congrArg (fun z : AlP => z.2.1) e
    have e3 := congrArg (fun z : AlP => z.2.2) e
    exact ⟨_, He.frT_in, saysQ_of e1, fun d hd => He.ba (List.all_eq_true.mp e2 d hd), e3⟩
  keeps := fun _ _ _ ⟨K, hK, c⟩ k => ⟨K, PySem.W.Frag.In.keeps hK k, ⟨⟨c.x.t, c.x.more, c.x.hd, c.x.out, fun p hp => k _ _ (c.x.empty p hp)⟩, c.ok, c.ob⟩⟩
theorem obsQ_eq {as : List Addr} {fa : List He.Fa} {fn : List He.DefD} {prs : List PrD} {tf : List He.Defn} {ex : PySem.W.Frag → Bool} {g : Addr → Option Obj} {s : Shared} (h : ∀ a, g a = s.heap.get? a) : obsQ as fa fn prs tf ex g = (hookQ as fa fn prs tf ex).obs s := by
  have e : g = s.heap.get? := funext h
  rw [e] <;> rfl
end VL
namespace L2
open PySem PySem.Spec PyProof.Rows
end L2
set_option pp.deepTerms false
set_option pp.deepTerms.threshold 8
namespace K03
open PySem PySem.Spec PyProof.Rows L2 VL
def top (i : Nat) : Stmt := PySem.Challenge.pw_twochoosers_k03_wishes.main.body.getD i (.Pass ⟨0, 0, 0, 0⟩)
abbrev s_Lstart : Stmt := top 19
abbrev s_Ldraw : Stmt := top 20
abbrev s_BadCountD_initD : Stmt := inClass (top 5) 0
abbrev s_BadNameD_initD : Stmt := inClass (top 3) 0
abbrev s_BadWishD_initD : Stmt := inClass (top 6) 0
abbrev s_UnknownNameD_initD : Stmt := inClass (top 4) 0
abbrev s_valid_name : Stmt := top 11
abbrev s_is_integer : Stmt := top 14
abbrev s_check_count : Stmt := top 15
abbrev s_WishesD_initD : Stmt := inClass (top 17) 0
abbrev s_WishesD_initD_n : Stmt := inClass (top 17) 0
abbrev s_Wishes_outcomes : Stmt := inClass (top 17) 3
abbrev s_WishesD_getitemD : Stmt := inClass (top 17) 4
abbrev s_Wishes_prefers : Stmt := inClass (top 17) 8
abbrev s_Wishes_amounts : Stmt := inClass (top 17) 7
abbrev s_WishesDliked : Stmt := inClass (top 17) 13
abbrev s_Wishes_ranks : Stmt := inClass (top 17) 10
abbrev s_Wishes_best : Stmt := inClass (top 17) 9
abbrev s_Lnames : Stmt := top 21
abbrev s_Lgood : Stmt := top 22
abbrev s_Lorder : Stmt := top 23
abbrev s_Lodd : Stmt := top 24
abbrev s_Lmade : Stmt := top 25
abbrev s_Ldue : Stmt := top 26
abbrev s_Ltold : Stmt := top 27
abbrev s_Ltold_due : Stmt := top 28
abbrev s_Lranks : Stmt := top 29
abbrev s_Lright : Stmt := top 30
abbrev s_law : Stmt := top 31
end K03
namespace K03
open PySem PySem.Spec PyProof.Rows L2 VL
def d_Lstart : He.DefD := ⟨("_law_start", none), "_law_start", "_law_start", defArgs s_Lstart, defBody s_Lstart, defScope s_Lstart, [], []⟩
def d_Ldraw : He.DefD := ⟨("_law_draw", none), "_law_draw", "_law_draw", defArgs s_Ldraw, defBody s_Ldraw, defScope s_Ldraw, [], []⟩
def d_BadCountD_initD : He.DefD := ⟨("BadCount", some "__init__"), "__init__", "BadCount.__init__", defArgs s_BadCountD_initD, defBody s_BadCountD_initD, defScope s_BadCountD_initD, [], []⟩
def d_BadNameD_initD : He.DefD := ⟨("BadName", some "__init__"), "__init__", "BadName.__init__", defArgs s_BadNameD_initD, defBody s_BadNameD_initD, defScope s_BadNameD_initD, [], []⟩
def d_BadWishD_initD : He.DefD := ⟨("BadWish", some "__init__"), "__init__", "BadWish.__init__", defArgs s_BadWishD_initD, defBody s_BadWishD_initD, defScope s_BadWishD_initD, [], []⟩
def d_UnknownNameD_initD : He.DefD := ⟨("UnknownName", some "__init__"), "__init__", "UnknownName.__init__", defArgs s_UnknownNameD_initD, defBody s_UnknownNameD_initD, defScope s_UnknownNameD_initD, [], []⟩
def d_valid_name : He.DefD := ⟨("valid_name", none), "valid_name", "valid_name", defArgs s_valid_name, defBody s_valid_name, defScope s_valid_name, [], []⟩
def d_is_integer : He.DefD := ⟨("is_integer", none), "is_integer", "is_integer", defArgs s_is_integer, defBody s_is_integer, defScope s_is_integer, [], []⟩
def d_check_count : He.DefD := ⟨("check_count", none), "check_count", "check_count", defArgs s_check_count, defBody s_check_count, defScope s_check_count, [], []⟩
def d_WishesD_initD : He.DefD := ⟨("Wishes", some "__init__"), "__init__", "Wishes.__init__", defArgs s_WishesD_initD, defBody s_WishesD_initD, defScope s_WishesD_initD, [], []⟩
def d_WishesD_getitemD : He.DefD := ⟨("Wishes", some "__getitem__"), "__getitem__", "Wishes.__getitem__", defArgs s_WishesD_getitemD, defBody s_WishesD_getitemD, defScope s_WishesD_getitemD, [], []⟩
def d_Wishes_prefers : He.DefD := ⟨("Wishes", some "prefers"), "prefers", "Wishes.prefers", defArgs s_Wishes_prefers, defBody s_Wishes_prefers, defScope s_Wishes_prefers, [], []⟩
def d_Wishes_amounts : He.DefD := ⟨("Wishes", some "amounts"), "amounts", "Wishes.amounts", defArgs s_Wishes_amounts, defBody s_Wishes_amounts, defScope s_Wishes_amounts, [], []⟩
def d_WishesDliked : He.DefD := ⟨("Wishes", some "_liked"), "_liked", "Wishes._liked", defArgs s_WishesDliked, defBody s_WishesDliked, defScope s_WishesDliked, [], []⟩
def d_Wishes_ranks : He.DefD := ⟨("Wishes", some "ranks"), "ranks", "Wishes.ranks", defArgs s_Wishes_ranks, defBody s_Wishes_ranks, defScope s_Wishes_ranks, [], []⟩
def d_Wishes_best : He.DefD := ⟨("Wishes", some "best"), "best", "Wishes.best", defArgs s_Wishes_best, defBody s_Wishes_best, defScope s_Wishes_best, [], []⟩
def d_Lnames : He.DefD := ⟨("_law_names", none), "_law_names", "_law_names", defArgs s_Lnames, defBody s_Lnames, defScope s_Lnames, [], []⟩
def d_Lgood : He.DefD := ⟨("_law_good", none), "_law_good", "_law_good", defArgs s_Lgood, defBody s_Lgood, defScope s_Lgood, [], []⟩
def d_Lorder : He.DefD := ⟨("_law_order", none), "_law_order", "_law_order", defArgs s_Lorder, defBody s_Lorder, defScope s_Lorder, [], []⟩
def d_Lodd : He.DefD := ⟨("_law_odd", none), "_law_odd", "_law_odd", defArgs s_Lodd, defBody s_Lodd, defScope s_Lodd, [], []⟩
def d_Lmade : He.DefD := ⟨("_law_made", none), "_law_made", "_law_made", defArgs s_Lmade, defBody s_Lmade, defScope s_Lmade, [], []⟩
def d_Ldue : He.DefD := ⟨("_law_due", none), "_law_due", "_law_due", defArgs s_Ldue, defBody s_Ldue, defScope s_Ldue, [], []⟩
def d_Ltold : He.DefD := ⟨("_law_told", none), "_law_told", "_law_told", defArgs s_Ltold, defBody s_Ltold, defScope s_Ltold, [], []⟩
def d_Ltold_due : He.DefD := ⟨("_law_told_due", none), "_law_told_due", "_law_told_due", defArgs s_Ltold_due, defBody s_Ltold_due, defScope s_Ltold_due, [], []⟩
def d_Lranks : He.DefD := ⟨("_law_ranks", none), "_law_ranks", "_law_ranks", defArgs s_Lranks, defBody s_Lranks, defScope s_Lranks, [], []⟩
def d_Lright : He.DefD := ⟨("_law_right", none), "_law_right", "_law_right", defArgs s_Lright, defBody s_Lright, defScope s_Lright, [], []⟩
def d_law : He.DefD := ⟨("law", none), "law", "law", defArgs s_law, defBody s_law, defScope s_law, [], []⟩
def r_Wishes_outcomes : PrD := ⟨"Wishes", "outcomes", "Wishes.outcomes", s_Wishes_outcomes, false⟩
def fn : List He.DefD := [d_Lstart, d_Ldraw, d_BadCountD_initD, d_BadNameD_initD, d_BadWishD_initD, d_UnknownNameD_initD, d_valid_name, d_is_integer, d_check_count, d_WishesD_initD, d_WishesD_getitemD, d_Wishes_prefers, d_Wishes_amounts, d_WishesDliked, d_Wishes_ranks, d_Wishes_best, d_Lnames, d_Lgood, d_Lorder, d_Lodd, d_Lmade, d_Ldue, d_Ltold, d_Ltold_due, d_Lranks, d_Lright, d_law]
def prs : List PrD := [r_Wishes_outcomes]
def fa : List He.Fa := [.glo "_law_start", .glo "_law_draw", .glo "valid_name", .glo "is_integer", .glo "check_count", .glo "_law_names", .glo "_law_good", .glo "_law_order", .glo "_law_odd", .glo "_law_made", .glo "_law_due", .glo "_law_told", .glo "_law_told_due", .glo "_law_ranks", .glo "_law_right", .glo "law", .free "abs", .free "all", .free "bool", .free "dict", .free "int", .free "isinstance", .free "len", .free "list", .free "max", .free "range", .free "set", .free "sorted", .free "str", .free "tuple", .str "DIGITS" "0123456789", .str "LETTERS" "abcdefghijklmnopqrstuvwxyz", .int "LONGEST_NAME" 6, .int "MOST_OUTCOMES" 6, .glo "Wishes", .cls "Wishes", .noat "Wishes" "_outcomes", .noat "Wishes" "_amounts", .meth "BadCount" "__init__", .meth "BadName" "__init__", .meth "BadWish" "__init__", .meth "UnknownName" "__init__", .mkr "Wishes", .meth "Wishes" "__getitem__", .meth "Wishes" "prefers", .meth "Wishes" "amounts", .meth "Wishes" "_liked", .meth "Wishes" "ranks", .meth "Wishes" "best", .glo "BadCount", .noat "BadCount" "count", .exm "BadCount" "BadCount" true, .exm "BadCount" "BadName" false, .exm "BadCount" "BadWish" false, .exm "BadCount" "UnknownName" false, .glo "BadName", .noat "BadName" "name", .exm "BadName" "BadCount" false, .exm "BadName" "BadName" true, .exm "BadName" "BadWish" false, .exm "BadName" "UnknownName" false, .glo "BadWish", .noat "BadWish" "value", .exm "BadWish" "BadCount" false, .exm "BadWish" "BadName" false, .exm "BadWish" "BadWish" true, .exm "BadWish" "UnknownName" false, .glo "UnknownName", .noat "UnknownName" "name", .exm "UnknownName" "BadCount" false, .exm "UnknownName" "BadName" false, .exm "UnknownName" "BadWish" false, .exm "UnknownName" "UnknownName" true]
def tf : List He.Defn := []
def ex (K : PySem.W.Frag) : Bool := exsB [(("BadCount" : Str), ("count" : Str)), (("BadName" : Str), ("name" : Str)), (("BadWish" : Str), ("value" : Str)), (("UnknownName" : Str), ("name" : Str))] K && PySem.W.fnIn K (He.ma K (He.ga K "Wishes") "__getitem__")
abbrev R : PySem.W.OpenRow := PySem.W.OpenLaw.row PySem.Challenge.rw_twochoosers_k03_wishes
def adN : List Addr := List.range 1000
abbrev hk : PySem.W.Hook := hookQ adN fa fn prs tf ex
def ob (s : PySem.W.SharedT) : AlP := obsQ adN fa fn prs tf ex (HandSHeadRun.getT s)
theorem ob_eq (s : PySem.W.SharedT) : ob s = hk.obs s.abs := obsQ_eq (HandSHeadRun.getT_eq s)
def names : List PySem.Str := (["_wall", "ChooserError", "BadName", "UnknownName", "BadCount", "BadWish", "LETTERS", "DIGITS", "LONGEST_NAME", "valid_name", "MOST_OUTCOMES", "is_integer", "check_count", "Wishes", "_law_start", "_law_draw", "_law_names", "_law_good", "_law_order", "_law_odd", "_law_made", "_law_due", "_law_told", "_law_told_due", "_law_ranks", "_law_right"] : List PySem.Str)
theorem run (w : World) : HandSHeadRun.RunEq R (PySem.W.view R.prog [31]) hk ob 12000 names w := by
  intro os
  kernel_rfl
end K03
namespace L2
open PySem PySem.Spec PyProof.Rows
section
variable {X : Cx}
theorem pg_list : PGet X (rIxL X.K) := by
  intro pins s σ H x y v u Q I rx ry h
  obtain ⟨p, xs, i, z, rfl, rfl, hq, he, q⟩ := h
  cases rx
  obtain ⟨t, rfl⟩ := ry
  obtain ⟨its, r, pl, hz⟩ := I.list hq
  obtain ⟨j, h1, h2, h3, h4, h5⟩ := atI_get he
  obtain ⟨w, ew, rw'⟩ := r.get h2
  have hl := r.length
  have hn := line63
  have fin : EP X pins σ Q w s := ⟨z, H, I, rw', q⟩
  by_cases h0 : 0 ≤ i
  · have hj : i.toNat = j := by
      rw [seqIndex_of h0 h5] at h1
      exact Option.some.inj h1
    exact wpAny_getItem_list pl.isList h0 (by omega) (by rw [hj]; simpa using ew) fin
  · have hj : (i + (its.toArray.size : Int)).toNat = j := by
      rw [seqIndex_neg (by omega) h4] at h1
      rw [List.size_toArray, ← hl]
      exact Option.some.inj h1
    exact wpAny_getItem_list_neg pl.isList (by omega) (by rw [List.size_toArray] <;> omega) (by omega) (by rw [hj]; simpa using ew) fin
end
end L2
namespace L2
open PySem PySem.Spec PyProof.Rows
section
variable {X : Cx} {CX : CXT} {k : Nat} {C g : Addr} {fd : FuncData} {ps ks : List Str} {sp : Sp} {E : XK} {e i : Expr} {pos : Pos} {ta ti : TE}
/-- o[i] of a class with its own __getitem__ -/
def rOwnIx (C : Addr) (sp : Sp) (E : XK) : R2 := fun x y H Q => ∃ a dx fs, x = .ref a ∧ H a = some (.ins C dx fs) ∧ sp [.ref a, y] H Q E
variable {gf : List Value → List Value → List Value} {gV : List V → List V → List V} {f : Addr} {m : Str} {o : Expr} {apos : Pos} {kws : List Keyword} {tk : TA}
/-- o.m(k = v, ..): the receiver stands first -/
def tMethK (C : Addr) (m : Str) (sp : Sp) (gV : List V → List V → List V) (E : XK) (ta : TE) (tk : TA) : TE := fun σ H Q => ta σ H fun x H1 => ∃ a dx fs, x = .ref a ∧ H1 a = some (.ins C dx fs) ∧ fs.lookup m = none ∧
  tk σ H1 fun zs H2 => sp (gV [.ref a] zs) H2 Q E
theorem pe_methK0 {pl : Sem Bool} (he : PE X o ta) (c : Cls X.K C) (hm : Meth X.K C m f) (F : FnOk X.prog X.w X.K X.mg X.base CX k f fd ps sp) (hr : Room k X.A) (hb : KBinds X.K fd ps ks gf gV) (hx : Passes CX X E) (hkw : PK X kws tk)
    (hall : (backToKw pos (keywordEach kws X.env)).all (·.1.isSome) = true := by rfl) (hks : (backToKw pos (keywordEach kws X.env)).filterMap (·.1) = ks := by rfl)
    (hpl : ((backTo pos (starEach [] X.env)).any (·.1) || (backToKw pos (keywordEach kws X.env)).any (·.1.isNone)) = false := by rfl)
    (ht : eval (.Call (.Attribute o m apos) [] kws pos) X.env = (do
      let ov ← eval o X.env
      standAt apos.atName
      let (f, first) ← holding [ov] (getMethod ov m pl)
      callWith pos f first (backTo pos (starEach [] X.env)) (backToKw pos (keywordEach kws X.env))) := by rfl) :
    PE X (.Call (.Attribute o m apos) [] kws pos) (tMethK C m sp gV E ta tk) := by
  refine ⟨fun pins s σ H Q I h => PySem.W.methodCall_KW (pl := pl) (thn (he.run pins s σ H _ I h) fun u s1 ⟨x, H1, I1, rx, a, dx, fs, ex, ea, l, q⟩ => ?_) ht⟩
  subst ex
  obtain rfl : u = Value.ref a := rx
  refine getmeth_ok I1 ea c hm l (PySem.W.callWith_KW0 (first := [.ref a]) (h₀ := X.base) I.ok.mod.kin hm.kp hall ?_ hpl)
  refine thn (hkw.run pos pins s1 σ H1 _ I1 q) fun ws s2 ⟨zs, H2, I2, rz, q2⟩ => ⟨I2.kIn, ?_⟩
  rw [hks]
  exact run_fnk (us := [.ref a]) (vs := [.ref a]) F hr hb hx I2 (.cons rfl .nil) rz q2
end
/-! ### several except clauses, each with a name -/
/-- what the clauses wish of an exception; slot i is the name's -/
def wManyAs (K : PySem.W.Frag) (Wout : WX) (D : Ends) : List (Value × Nat × (Addr → Value → Option Addr → TS)) → WX
  | [] => Wout
  | (c, i, ts) :: r => fun cls d σ H => ∃ b, PySem.W.exmOne K cls c = some b ∧
      (b = true → ∀ a, H a = none → ts a cls d { nx := fun σ' H' => D.nx (σ'.set i none) H', rt := D.rt, bk := fun σ' H' => D.bk (σ'.set i none) H', ct := fun σ' H' => D.ct (σ'.set i none) H' } (σ.set i (some (.ref a))) H) ∧
      (b = false → wManyAs K Wout D r cls d σ H)
inductive HdsAs (X : Cx) : List ExceptHandler → List (Value × Nat × (Addr → Value → Option Addr → TS)) → Prop
  | nil : HdsAs X [] []
  | cons {x n : Str} {c : Value} {i : Nat} {ts : Addr → Value → Option Addr → TS} {b₀ : Stmt} {suite : List Stmt} {np pos' : Pos} {hds : List ExceptHandler} {l : List (Value × Nat × (Addr → Value → Option Addr → TS))}
      (hi : X.N[i]? = some n) (hln : X.env.kindOf n = some .local) (hc : Names X x c)
      (hsu : ∀ (a : Addr) (oe : Obj) (cls : Value) (d : Option Addr) (pn : List (Addr × Obj)), Zc cls d oe → (∃ vs, oe.data = .fields vs) → PSs (X.suite a ((a, oe) :: pn)) (b₀ :: suite) (ts a cls d)) (r : HdsAs X hds l) :
      HdsAs X (.ExceptHandler (some (.Name x np)) (some n) (b₀ :: suite) pos' :: hds) ((c, i, ts) :: l)
section
variable {X : Cx} {body : List Stmt} {h₀ : ExceptHandler} {hds : List ExceptHandler} {l : List (Value × Nat × (Addr → Value → Option Addr → TS))} {pos : Pos} {tb : WX → TS} {Wout : WX}
theorem ps_try_manyAs (hs : X.stack = X.env :: X.outer) (hf : X.env.frame = some X.env.locals) (hN : X.N.Nodup) (tk : Takes X Wout)
    (hb : ∀ (W : WX) (pn : List (Addr × Obj)) (xe : Value → Shared → Prop), Takes (X.tr pn xe) W → PassesOwn (model X.prog X.w) X.A X.env xe → PSs (X.tr pn xe) body (tb W))
    (hh : HdsAs X (h₀ :: hds) l) : PS X (.Try body (h₀ :: hds) [] [] pos) (fun D σ H => tb (wManyAs X.K Wout D l) D σ H) := by
  refine ⟨fun pins s σ H D I h => wpAny_Try_except ?_⟩
  have ok := I.ok
  have hfr : X.A.frames = some (X.env :: X.outer) := by rw [ok.frames, hs]
  refine wpAny_mono ((hb (wManyAs X.K Wout D l) (X.pn ++ pins) (fun e s₁ => wpAny (model X.prog X.w) X.A (noteFrame e X.env) (fun _ s₂ => wpAny (model X.prog X.w) X.A (setFlight e none) (fun _ s₃ =>
    wpAny (model X.prog X.w) X.A (handleBy e X.env (h₀ :: hds)) (SP X pins D) X.xe s₃) X.xe s₂) X.xe s₁) (fun u s' xx => ?_) PassesOwn.looking).run [] s σ H D (I.toTry _) h) (fun f s1 hsp => ?_) (fun e s1 he => he)
  · obtain ⟨a, B, sI, pins', σ', H', cls, d, rfl, J', nb, up, sky, na, os, ag, w⟩ := xx
    have J : Inv X pins σ' H' sI := J'.ofTry ok
    have sky' : Sky B (X.env :: X.outer) a (Zc cls d) X.env.locals s'.heap := by rw [← hs]; exact sky
    refine Sky.land Zc.steady hfr hf sky' fun h3 fl3 up3 => ?_
    have J3 : Inv X pins σ' H' { s' with heap := h3 } := J.landed nb fl3.1 (up.trans up3) os ag
    obtain ⟨oe3, vs3, he3, hz3, hd3⟩ := fl3.there
    have nfr : a ∉ frs (X.env :: X.outer) := fun hm => by
      obtain ⟨_, o', e', hnf⟩ := fl3.2.2.1.mem hm
      rw [he3] at e'
      cases e'
      exact hnf _ hd3
    have nL : a ≠ X.env.locals := fun z => nfr (List.mem_filterMap.mpr ⟨X.env, List.mem_cons_self, by rw [hf, z]⟩)
    have nF : a ∉ X.fs := fun hm => by
      obtain ⟨e, he, q⟩ := List.mem_filterMap.mp hm
      exact nfr (List.mem_filterMap.mpr ⟨e, List.mem_cons_of_mem _ he, q⟩)
    have S3 := J3.suite he3 hd3 na nL nF
    have go : ∀ {hds' : List ExceptHandler} {l' : List (Value × Nat × (Addr → Value → Option Addr → TS))}, HdsAs X hds' l' → wManyAs X.K Wout D l' cls d σ' H' →
        wpAny (model X.prog X.w) X.A (handleBy (.ref a) X.env hds') (SP X pins D) X.xe { s' with heap := h3 } := by
      intro hds' l' hk
      induction hk with
      | nil =>
        intro w
        refine wpAny_handleBy_nil ?_
        obtain ⟨k1, k2, k3, oe, vs, T, oT, ts', he, hz, hd, h1, hr⟩ := id fl3
        have fin : wpAny (model X.prog X.w) X.A (setFlight (.ref a) X.env.frame) (fun _ s4 => wpAny (model X.prog X.w) X.A (throw (.ref a) : Sem Flow) (SP X pins D) X.xe s4) X.xe { s' with heap := h3 } := by
          rw [hf]
          exact HandSPX.setFlight_upZ fl3 fun h4 hh4 up4 => wpAny_throw (tk _ _ ⟨a, B, sI, pins, σ', H', cls, d, rfl, J, nb, (up.trans up3).trans up4, .inr (.inr (by rw [hs]; exact hh4)), na, os, ag, w⟩)
        unfold PySem.passOn
        refine wpAny_bind (wpAny_field he hd h1 ?_)
        rw [if_neg (show ¬ ((Value.ref T == Value.none) = true) from by simp)]
        first
          | exact wpAny_bind (wpAny_pure (wpAny_bind fin))
          | exact wpAny_bind fin
      | @cons x n c i ts b₀ suite np pos' hds2 l2 hi hln hc hsu r ih =>
        intro w
        obtain ⟨b, hb1, hyes, hno⟩ := w
        refine wpAny_handleBy_cons (codeAny_handlers_test ?_) (by intro q; cases q)
        have LT : PySem.W.Looks (model X.prog X.w) h3 (typeOf (.ref a)) cls := fun A Q E s k q => wpAny_typeOf_ref (k _ _ he3) (by rw [hz3.1]; exact q)
        have LM := PySem.W.exm_one (M := model X.prog X.w) J3.kIn LT hb1
        have test : ∀ {Q : Value → Shared → Prop} {E : Value → Shared → Prop}, Q c { s' with heap := h3 } → wpAny (model X.prog X.w) (X.A.mark (some (.ref a))) (eval (.Name x np) X.env) Q E { s' with heap := h3 } := fun {Q E} q => by
          obtain ⟨hg, hdbg, hm⟩ := hc
          rcases hm with hm | ⟨hm, hv, hnn⟩
          · exact ld_glob (X := X.suite a ((a, oe3) :: (X.pn ++ pins))) S3 hg hm q hdbg
          · exact ld_blt (X := X.suite a ((a, oe3) :: (X.pn ++ pins))) S3 hg hm hv q hnn hdbg
        refine test (LM.here ?_)
        cases b with
        | false => exact ih (hno rfl)
        | true =>
          refine codeAny_handlers_suite_as (HandSPX.lands_againZ fl3 fun h4 fl4 up4 => ?_)
          have J4 : Inv X pins σ' H' { s' with heap := h4 } := J.landed nb fl4.1 ((up.trans up3).trans up4) os ag
          obtain ⟨oe4, vs4, he4, hz4, hd4⟩ := fl4.there
          have S4 := J4.suite he4 hd4 na nL nF
          refine store_ok (X := X.suite a ((a, oe4) :: (X.pn ++ pins))) (v := .ref a) S4 hN hi (.inl hln) rfl (fun s5 S5 => ?_) (.inr hln)
          refine wpAny_mono ((hsu a oe4 cls d (X.pn ++ pins) hz4 ⟨_, hd4⟩).run [] s5 _ H' _ S5 (hyes rfl a na)) (fun f s6 hsp => ?_) (fun _ _ z => False.elim z)
          have fin : ∀ {σ6 : St} {H6 : Hp} {Q : Shared → Prop}, Inv (X.suite a ((a, oe4) :: (X.pn ++ pins))) [] σ6 H6 s6 → (∀ s7, Inv X pins (σ6.set i none) H6 s7 → Q s7) →
              wpAny (model X.prog X.w) X.A (do bindName X.env n .none; unbindBehindTheSuite X.env n pos') (fun _ s7 => Q s7) X.xe s6 := fun {σ6 H6 Q} S6 hq => gone_ok (S6.unsuite ok) hN hi hln hq
          cases f with
          | next =>
            obtain ⟨σ6, H6, S6, q6⟩ := hsp
            exact fin S6 fun s7 J7 => ⟨_, _, J7, q6⟩
          | brk =>
            obtain ⟨σ6, H6, S6, q6⟩ := hsp
            exact fin S6 fun s7 J7 => ⟨_, _, J7, q6⟩
          | cont =>
            obtain ⟨σ6, H6, S6, q6⟩ := hsp
            exact fin S6 fun s7 J7 => ⟨_, _, J7, q6⟩
          | ret u =>
            obtain ⟨v6, σ6, H6, S6, r6, q6⟩ := hsp
            exact fin S6 fun s7 J7 => ⟨_, _, _, J7, r6, q6⟩
    exact go hh w
  · cases f with
    | next =>
      obtain ⟨σ', H', J', q⟩ := hsp
      exact wpAny_execs_nil ⟨σ', H', J'.ofTry ok, q⟩
    | brk =>
      obtain ⟨σ', H', J', q⟩ := hsp
      exact ⟨σ', H', J'.ofTry ok, q⟩
    | cont =>
      obtain ⟨σ', H', J', q⟩ := hsp
      exact ⟨σ', H', J'.ofTry ok, q⟩
    | ret u =>
      obtain ⟨v, σ', H', J', r, q⟩ := hsp
      exact ⟨v, σ', H', J'.ofTry ok, r, q⟩
end
end L2
/-! ### != of two lists whose items are compared within one model -/
namespace PySem.SeqAt
open AutoSeq1 (wpAny_loadPart')
open MeetsSeq MeetsSeq2 MeetsSeq3 SeqRoads2
section
variable {prog : Program} {w : World}
theorem neIn_go (l b : Addr) (xs ys : Array Value) (n n2 : Nat) (dd dd2 : Option Addr) (sl sl2 : Array (Option Value)) (hsz : xs.size = ys.size) (e : Nat → Bool) (k : Nat) :
    ∀ i : Nat, xs.size - i = k → MeetsIn prog w (Builtin.«list.__eq__.loop» ⟨[.ref l, .ref b, rawInt i, rawInt 3], []⟩)
      (fun A R s => s.heap.get? l = some { cls := .type "list", dict := dd, data := .seq xs n, slots := sl } ∧ s.heap.get? b = some { cls := .type "list", dict := dd2, data := .seq ys n2, slots := sl2 } ∧
        (∀ j (h1 : j < xs.size) (h2 : j < ys.size), EqIn prog w A.in1 s xs[j] ys[j] (e j)) ∧ R (.ok (.ret (.bool (!((List.range xs.size).drop i).all e)))) s) := by
  induction k with
  | zero =>
    intro i hk A R s h
    obtain ⟨hp, g, d, tk, os⟩ := s
    obtain ⟨hl, hb, he, h⟩ := h
    wp_walk using wpAny_loadPart' hl, wpAny_loadPart' hb
    rw [show ((List.range xs.size).drop i) = [] by simp; omega] at h
    rw [show xs[((i : Nat) : Int).toNat]? = none by simp; omega, show ys[((i : Nat) : Int).toNat]? = none by simp; omega]
    wp_walk using wpAny_loadPart' hl, wpAny_loadPart' hb
    show R (.ok (.ret (.bool (xs.size != ys.size)))) _
    rw [hsz]
    simpa using h
  | succ k ih =>
    intro i hk A R s h
    obtain ⟨hp, g, d, tk, os⟩ := s
    obtain ⟨hl, hb, he, h⟩ := h
    wp_walk using wpAny_loadPart' hl, wpAny_loadPart' hb
    have l1 : i < xs.size := by omega
    have l2 : i < ys.size := by omega
    have g1 : xs[((i : Nat) : Int).toNat]? = some xs[i] := by simp [l1]
    have g2 : ys[((i : Nat) : Int).toNat]? = some ys[i] := by simp [l2]
    rw [show (List.range xs.size).drop i = i :: (List.range xs.size).drop (i + 1) by simp [List.drop_eq_getElem_cons, l1], List.all_cons] at h
    rw [g1, g2]
    refine wpAny_bind (he i l1 l2 _ _ ?_)
    cases hv : e i with
    | true =>
      rw [hv] at h
      wp_walk
      rw [show ((i : Int) + 1) = ((i + 1 : Nat) : Int) by push_cast; rfl]
      exact ⟨plainId_quiet plain_eq_loop _, codeAny_builtin entry_eq_loop (by
        rw [Around.under_plainId plain_eq_loop _]
        exact ih (i + 1) (by omega) A R _ ⟨hl, hb, he, by simpa using h⟩)⟩
    | false =>
      rw [hv] at h
      wp_walk using wpAny_loadPart' hl, wpAny_loadPart' hb
      rw [g1, g2]
      wp_walk
      simpa using h
theorem neIn_list (l b : Addr) (xs ys : Array Value) (n n2 : Nat) (dd dd2 : Option Addr) (sl sl2 : Array (Option Value)) (hsz : xs.size = ys.size) (e : Nat → Bool) :
    MeetsIn prog w (Builtin.«list.__ne__» ⟨[.ref l, .ref b], []⟩)
      (fun A R s => s.heap.get? l = some { cls := .type "list", dict := dd, data := .seq xs n, slots := sl } ∧ s.heap.get? b = some { cls := .type "list", dict := dd2, data := .seq ys n2, slots := sl2 } ∧
        (∀ j (h1 : j < xs.size) (h2 : j < ys.size), EqIn prog w A.in1 s xs[j] ys[j] (e j)) ∧ R (.ok (.ret (.bool (!(List.range xs.size).all e)))) s) := by
  intro A R s h
  obtain ⟨hp, g, d, tk, os⟩ := s
  obtain ⟨hl, hb, he, h⟩ := h
  have f3 := AutoSeq1.sub_list_list
  have hne : ¬ (xs.size != ys.size) = true := by simp [hsz]
  wp_walk using wpAny_loadPart' hl, wpAny_loadPart' hb
  exact ⟨plainId_quiet plain_eq_loop _, codeAny_builtin entry_eq_loop (by
    rw [Around.under_plainId plain_eq_loop _]
    exact neIn_go l b xs ys n n2 dd dd2 sl sl2 hsz e _ 0 rfl A R _ ⟨hl, hb, he, by simpa using h⟩)⟩
theorem neIn_lists {A : Around} {s : Shared} {E : Value → Shared → Prop} {l b : Addr} {xs ys : Array Value} {e : Nat → Bool} {Q : Value → Shared → Prop} (hl : s.heap.IsList l xs) (hb : s.heap.IsList b ys) (hsz : xs.size = ys.size) (hu : A.units < cLine)
    (he : ∀ j (h1 : j < xs.size) (h2 : j < ys.size), EqIn prog w A.in1 s xs[j] ys[j] (e j)) (h : Q (.bool (!(List.range xs.size).all e)) s) : wpAny (model prog w) A (richCompare .NotEq (.ref l) (.ref b)) Q E s := by
  obtain ⟨⟨cls, dd, data, sl⟩, ho, hc, n, hd⟩ := id hl
  obtain ⟨⟨cls2, dd2, data2, sl2⟩, ho2, hc2, n2, hd2⟩ := id hb
  simp only at hc hd hc2 hd2
  subst hc hd hc2 hd2
  exact wpAny_richCompare_same_room (T := "list") (op := .NotEq) ⟨_, ho, rfl⟩ ⟨_, ho2, rfl⟩ F.slot_list_ne (call_meetsIn F.slot_list_ne ⟨_, ho, rfl⟩ F.entry_list_ne (F.args_list_ne_2 _ _) (neIn_list l b xs ys n n2 dd dd2 sl sl2 hsz e)
    ⟨ho, ho2, he, show Value.bool (!(List.range xs.size).all e) ≠ Value.notImplemented ∧ Q (.bool (!(List.range xs.size).all e)) s from ⟨(fun x => nomatch x), h⟩⟩) hu
end
end PySem.SeqAt
namespace PySem.W
open PySem.SeqAt (EqAt)
end PySem.W
namespace L2
open PySem PySem.Spec PyProof.Rows
section
variable {X : Cx} {pins : List (Addr × Obj)} {σ : St} {H : Hp} {s : Shared}
theorem kv_mem {kvs : List (Key × V)} {vs : List (Key × Value)} (r : KV kvs vs) : ∀ {k : Key} {u : Value}, (k, u) ∈ vs → ∃ v, (k, v) ∈ kvs ∧ RelV v u := by
  unfold KV at r
  induction r with
  | nil => intro k u h; cases h
  | @cons p q ps qs h t ih =>
    intro k u hm
    rcases List.mem_cons.mp hm with e | hm
    · subst e
      obtain ⟨h1, h2⟩ := h
      exact ⟨p.2, by rw [← show p.1 = k from h1]; exact List.mem_cons_self, h2⟩
    · obtain ⟨v, h1, h2⟩ := ih hm
      exact ⟨v, List.mem_cons_of_mem _ h1, h2⟩
theorem vals_at {xs : List V} {us : List Value} (r : Vals xs us) (j : Nat) (h : j < us.toArray.size) : ∃ x, xs[j]? = some x ∧ RelV x us.toArray[j] := by
  have hj : j < us.length := by simpa using h
  have hx : j < xs.length := by rw [r.length]; exact hj
  obtain ⟨u, hu, ru⟩ := r.get (List.getElem?_eq_getElem hx)
  refine ⟨_, List.getElem?_eq_getElem hx, ?_⟩
  rw [List.getElem?_eq_getElem hj] at hu
  have e : us.toArray[j] = u := by
    rw [← Option.some.inj hu]
    simp
  rw [e]
  exact ru
theorem tup_of {h : Heap} {a : Addr} {its : Array Value} (t : IsTup h a its) : h.IsTuple a its := by
  obtain ⟨o, h1, h2, n, h3⟩ := t
  exact ⟨o, h1, h2, n, h3⟩
theorem val_is {ls : List (Key × V)} {vb : List (Key × Value)} (rb : KV ls vb) {k : Key} {y : Value} (hv : valueAt vb k = some y) : ∃ y0, valV ls k = some y0 ∧ RelV y0 y := by
  have q := rb.val k
  rw [hv] at q
  cases h3 : valV ls k with
  | none => rw [h3] at q; exact q.elim
  | some y0 => rw [h3] at q; exact ⟨y0, rfl, q⟩
theorem hits_allV {ks ls : List (Key × V)} {va vb : List (Key × Value)} (e : Key → Bool) (ra : KV ks va) (rb : KV ls vb) : (ks.all fun p => (valV ls p.1).isSome && e p.1) = va.all fun p => (valueAt vb p.1).isSome && e p.1 := by
  have hk : ks.map (·.1) = va.map (·.1) := ra.keys
  have hs : ∀ k : Key, (valV ls k).isSome = (valueAt vb k).isSome := fun k => by
    have q := rb.val k
    cases h3 : valV ls k <;> cases h4 : valueAt vb k <;> rw [h3, h4] at q <;> first | rfl | exact q.elim
  have f : ∀ l : List (Key × V), (l.all fun p => (valV ls p.1).isSome && e p.1) = (l.map (·.1)).all fun k => (valueAt vb k).isSome && e k := fun l => by
    rw [List.all_map]
    congr 1
    funext p
    rw [hs p.1]
    rfl
  rw [f, hk, List.all_map]
  rfl
end
end L2
namespace L2
open PySem PySem.Spec PyProof.Rows
/-! ### the drawing state: s holds [big, cells, counter]; G is what the others see -/
structure VS (s b c : Addr) (n : Int) (bs cs : List Int) (G H : Hp) : Prop where
  sub : Same G H
  gs : G s = none
  gb : G b = none
  gc : G c = none
  bs' : b ≠ s
  cs' : c ≠ s
  bc : b ≠ c
  hs : H s = some (.lst [.ref b, .ref c, .int n])
  hb : H b = some (.lst (bs.map V.int))
  hc : H c = some (.lst (cs.map V.int))
  nn : ∀ x ∈ bs, (0 : Int) ≤ x
  lb : bs.length ≤ 63
  lc : 0 < cs.length ∧ cs.length ≤ 64
  n0 : 0 ≤ n
def View (s : Addr) (N : Nat) (G H : Hp) : Prop := ∃ b c n bs cs, VS s b c n bs cs G H ∧ n ≤ (N : Int)
theorem same_of_none {H : Hp} {p : Addr} {o : HO} (h : H p = none) : Same H (upd H p o) := fun b x e => by
  rw [upd_ne (ne_of_none e h)]
  exact e
/-- what the others do not see may change -/
theorem Same.unseen {G H : Hp} {p : Addr} {o : HO} (e : Same G H) (h : G p = none) : Same G (upd H p o) := fun b x g => by
  rw [upd_ne (ne_of_none g h)]
  exact e _ _ g
theorem View.sub {s : Addr} {N : Nat} {G H : Hp} (v : View s N G H) : Same G H := let ⟨_, _, _, _, _, k, _⟩ := v; k.sub
theorem View.gs {s : Addr} {N : Nat} {G H : Hp} (v : View s N G H) : G s = none := let ⟨_, _, _, _, _, k, _⟩ := v; k.gs
theorem View.mono {s : Addr} {N M : Nat} {G H : Hp} (v : View s N G H) (h : N ≤ M) : View s M G H :=
  let ⟨b, c, n, bs, cs, k, l⟩ := v; ⟨b, c, n, bs, cs, k, by omega⟩
theorem VS.ext {s b c : Addr} {n : Int} {bs cs : List Int} {G H H' : Hp} (k : VS s b c n bs cs G H) (e : Same H H') : VS s b c n bs cs G H' :=
  { k with sub := k.sub.trans e, hs := e _ _ k.hs, hb := e _ _ k.hb, hc := e _ _ k.hc }
theorem View.ext {s : Addr} {N : Nat} {G H H' : Hp} (v : View s N G H) (e : Same H H') : View s N G H' :=
  let ⟨b, c, n, bs, cs, k, l⟩ := v; ⟨b, c, n, bs, cs, k.ext e, l⟩
/-- a new object, seen from now on -/
theorem View.see {s : Addr} {N : Nat} {G H H' : Hp} {p : Addr} {o : HO} (v : View s N G H) (e : Same H H') (n : H p = none) (h : H' p = some o) : View s N (upd G p o) H' := by
  obtain ⟨b, c, i, bs, cs, k, l⟩ := v
  have f : ∀ q u, H q = some u → p ≠ q := fun q u hq z => by rw [z, hq] at n; cases n
  refine ⟨b, c, i, bs, cs, { k.ext e with sub := fun q u hq => ?_, gs := ?_, gb := ?_, gc := ?_ }, l⟩
  · by_cases hqp : q = p
    · subst hqp
      rw [upd_same] at hq
      cases hq
      exact h
    · rw [upd_ne hqp] at hq
      exact e _ _ (k.sub _ _ hq)
  · rw [upd_ne (f _ _ k.hs).symm]; exact k.gs
  · rw [upd_ne (f _ _ k.hb).symm]; exact k.gb
  · rw [upd_ne (f _ _ k.hc).symm]; exact k.gc
/-- an object that is seen, stored to -/
theorem View.put {s : Addr} {N : Nat} {G H : Hp} {p : Addr} {u o : HO} (v : View s N G H) (h : G p = some u) : View s N (upd G p o) (upd H p o) := by
  obtain ⟨b, c, i, bs, cs, k, l⟩ := v
  have f : ∀ q, G q = none → q ≠ p := fun q hq z => by rw [z, h] at hq; cases hq
  refine ⟨b, c, i, bs, cs, ⟨fun q x hq => ?_, ?_, ?_, ?_, k.bs', k.cs', k.bc, ?_, ?_, ?_, k.nn, k.lb, k.lc, k.n0⟩, l⟩
  · by_cases hqp : q = p
    · subst hqp
      rw [upd_same] at hq ⊢
      exact hq
    · rw [upd_ne hqp] at hq ⊢
      exact k.sub _ _ hq
  · rw [upd_ne (f _ k.gs)]; exact k.gs
  · rw [upd_ne (f _ k.gb)]; exact k.gb
  · rw [upd_ne (f _ k.gc)]; exact k.gc
  · rw [upd_ne (f _ k.gs)]; exact k.hs
  · rw [upd_ne (f _ k.gb)]; exact k.hb
  · rw [upd_ne (f _ k.gc)]; exact k.hc
theorem VS.count {s b c : Addr} {n : Int} {bs cs : List Int} {G H : Hp} (k : VS s b c n bs cs G H) : VS s b c (n + 1) bs cs G (upd H s (.lst [.ref b, .ref c, .int (n + 1)])) where
  sub := k.sub.unseen k.gs
  gs := k.gs
  gb := k.gb
  gc := k.gc
  bs' := k.bs'
  cs' := k.cs'
  bc := k.bc
  hs := upd_same
  hb := by rw [upd_ne k.bs']; exact k.hb
  hc := by rw [upd_ne k.cs']; exact k.hc
  nn := k.nn
  lb := k.lb
  lc := k.lc
  n0 := by have := k.n0; omega
/-- another big list in the first place -/
theorem VS.big {s b c p : Addr} {n y : Int} {r cs : List Int} {G H : Hp} (k : VS s b c n (y :: r) cs G H) (hp : H p = none) :
    VS s p c n r cs G (upd (upd H p (.lst (r.map V.int))) s (.lst [.ref p, .ref c, .int n])) := by
  have ps : p ≠ s := fun z => by rw [z, k.hs] at hp; cases hp
  have pc : p ≠ c := fun z => by rw [z, k.hc] at hp; cases hp
  exact { sub := (k.sub.unseen (k.sub.free hp)).unseen k.gs, gs := k.gs, gb := k.sub.free hp, gc := k.gc, bs' := ps, cs' := k.cs', bc := pc, hs := upd_same,
          hb := by rw [upd_ne ps, upd_same], hc := by rw [upd_ne k.cs', upd_ne pc.symm]; exact k.hc, nn := fun x hx => k.nn x (List.mem_cons_of_mem _ hx),
          lb := by have := k.lb; rw [List.length_cons] at this; omega, lc := k.lc, n0 := k.n0 }
/-- the big list's head, changed -/
theorem VS.head {s b c : Addr} {n y z : Int} {r cs : List Int} {G H : Hp} (k : VS s b c n (y :: r) cs G H) (hz : 0 ≤ z) : VS s b c n (z :: r) cs G (upd H b (.lst ((z :: r).map V.int))) where
  sub := k.sub.unseen k.gb
  gs := k.gs
  gb := k.gb
  gc := k.gc
  bs' := k.bs'
  cs' := k.cs'
  bc := k.bc
  hs := by rw [upd_ne k.bs'.symm]; exact k.hs
  hb := upd_same
  hc := by rw [upd_ne k.bc.symm]; exact k.hc
  nn := fun x hx => by
    rcases List.mem_cons.mp hx with rfl | hx
    · exact hz
    · exact k.nn x (List.mem_cons_of_mem _ hx)
  lb := k.lb
  lc := k.lc
  n0 := k.n0
/-! ### lists of ints -/
theorem dpAll_ints {K : PySem.W.Frag} {H : Hp} : ∀ ns : List Int, DpAll K H (ns.map V.int) (ns.map PyData.int)
  | [] => .nil
  | i :: r => .cons (.int i) (dpAll_ints r)
theorem cut1 (x : V) (xs : List V) : cutV (x :: xs) (some 1) none = xs := by
  unfold cutV
  rw [show HT.sIx (x :: xs).length 0 (some 1) = min 1 (x :: xs).length from HT.sIx_nat (x :: xs).length 0 1, HT.sIx_none]
  rw [show min 1 (x :: xs).length = 1 by
    rw [List.length_cons]
    omega]
  show (List.take ((x :: xs).length - 1) xs) = xs
  rw [List.length_cons, Nat.add_sub_cancel]
  exact List.take_length
theorem shaped_ints : ∀ ns : List Int, SeqAt.shaped (.list (ns.map PyData.int)) = true
  | [] => rfl
  | _ :: r => shaped_ints r
/-! ### comprehensions whose parts touch nothing -/
/-- the signs of a text -/
def sgn (c : Nat) : V := .str ⟨#[c]⟩
theorem View.free {s : Addr} {N : Nat} {G H : Hp} {p : Addr} (v : View s N G H) (h : H p = none) : G p = none := v.sub.free h
/-! ### "".join of signs -/
theorem glue_go (l : List Str) : ∀ acc : Array Nat, (l.foldl (fun acc p => acc ++ (Str.ofString "").cps ++ p.cps) acc).toList = acc.toList ++ l.flatMap (·.cps.toList) := by
  induction l with
  | nil => intro acc; simp
  | cons x r ih =>
    intro acc
    rw [List.foldl_cons, ih]
    have e : (Str.ofString "").cps = #[] := by decide +kernel
    rw [e]
    simp
theorem join_flat (l : List Str) : (Txt.join "" l).cps.toList = l.flatMap (·.cps.toList) := by
  show ((l.drop 1).foldl (fun acc p => acc ++ (Str.ofString "").cps ++ p.cps) (l.headD Str.empty).cps).toList = _
  rw [glue_go]
  cases l with
  | nil => rfl
  | cons x r => simp
theorem join_signs (cs : List Nat) : (Txt.join "" (cs.map fun c => (⟨#[c]⟩ : Str))).cps.toList = cs := by
  rw [join_flat]
  induction cs with
  | nil => rfl
  | cons c r ih => simp [ih]
theorem ones_len (cs : List Nat) : ((cs.map fun c => (⟨#[c]⟩ : Str)).map (·.length)).sum = cs.length := by
  induction cs with
  | nil => rfl
  | cons c r ih =>
    show 1 + ((r.map fun c => (⟨#[c]⟩ : Str)).map (·.length)).sum = r.length + 1
    rw [ih]
    omega
/-! ### numbers, names, texts -/
def spDraw : Sp := fun vs H Q _ => ∃ (s : Addr) (N : Nat) (G : Hp) (m : Int), vs = [.ref s, .int m] ∧ View s N G H ∧ N ≤ 1000000 ∧ 0 < m ∧ m < 2 ^ 100 ∧
  ∀ (d : Int) (H' : Hp), 0 ≤ d → d < m → View s (N + 1) G H' → Q (.int d) H'
def spStart (K : PySem.W.Frag) : Sp := fun vs H Q _ => ∃ (a : Addr) (ns : List Int), vs = [.ref a] ∧ SqL K H a (ns.map V.int) ∧ ns.length ≤ 63 ∧ ∀ (s : Addr) (H' : Hp), View s 0 H H' → Q (.ref s) H'
theorem fmod_in (x : Int) {m : Int} (h : 0 < m) : 0 ≤ x.fmod m ∧ x.fmod m < m := by
  rw [Int.fmod_eq_emod_of_nonneg x (by omega)]
  exact ⟨Int.emod_nonneg _ (by omega), Int.emod_lt_of_pos _ h⟩
theorem ix_mod (cs : List Int) (n : Int) (h : 0 < cs.length) : ∃ (j : Nat) (z : Int), n.fmod (cs.length : Int) = (j : Int) ∧ cs[j]? = some z := by
  obtain ⟨h0, h1⟩ := fmod_in n (m := (cs.length : Int)) (by omega)
  obtain ⟨j, hj⟩ := Int.eq_ofNat_of_zero_le h0
  refine ⟨j, cs[j]'(by omega), hj, List.getElem?_eq_getElem _⟩
theorem nz1 : (2147483647 : Int) ≠ 0 := by decide
theorem nz2 : (2147483629 : Int) ≠ 0 := by decide
theorem ixN_zero {y : Int} {r : List Int} : ixN ((y :: r).map V.int).length 0 = some 0 := by
  unfold ixN
  rw [if_pos (by decide), if_pos (by rw [List.length_map, List.length_cons]; omega)]
  rfl
theorem pow5 {x : Int} (h0 : 0 ≤ x) (h : x < 2 ^ 60) : (0 : Int) ≤ 5 ∧ (5 : Int) ≤ 1000000 ∧ x.natAbs < 2 ^ 64 := ⟨by decide, by decide, by
  have : x.natAbs < 2 ^ 60 := by omega
  omega⟩
theorem wmul {i j : Int} (h0 : 0 ≤ i) (h : i < 2 ^ 40) (h1 : 0 ≤ j) (h2 : j < 2 ^ 40) : CMulW i j := wide_mul (a := 40) (b := 40) (by omega) (by omega) (by decide) (by decide) (by decide)
theorem cpow1018 : CPow 10 18 := ⟨by decide, by decide, by decide⟩
def lets : List Nat := ("abcdefghijklmnopqrstuvwxyz" : Str).cps.toList
def digs : List Nat := ("0123456789" : Str).cps.toList
def okc (c : Nat) : Bool := decide (c ∈ lets) || decide (c ∈ digs)
def goodL : List Nat → Bool
  | [] => false
  | c :: r => decide (r.length < 6) && decide (c ∈ lets) && (c :: r).all okc
def good (z : Str) : Bool := goodL z.cps.toList
def Asc (z : Str) : Prop := ∀ c ∈ z.cps.toList, c < 128
theorem size1000 {n : Nat} (h : n ≤ 1000) : n ≤ sizeLine := Nat.le_of_lt (small1000 h)
theorem okc_cat (y : Nat) : okc y = decide (y ∈ (Str.ofString "abcdefghijklmnopqrstuvwxyz" ++ Str.ofString "0123456789").cps.toList) := by
  have e : (Str.ofString "abcdefghijklmnopqrstuvwxyz" ++ Str.ofString "0123456789").cps.toList = lets ++ digs := by decide +kernel
  rw [e]
  simp [okc, List.mem_append]
theorem shaped_go : ∀ ns : List Str, (∀ w ∈ ns, PyData.strOk w = true) → PyData.canLayAll0 (ns.map PyData.str) = true ∧ PyData.depthAll (ns.map PyData.str) = 0
  | [], _ => ⟨rfl, rfl⟩
  | x :: r, h => by
    obtain ⟨h1, h2⟩ := shaped_go r fun w hw => h w (List.mem_cons_of_mem _ hw)
    refine ⟨?_, ?_⟩
    · show (PyData.canLay0 (.str x) && PyData.canLayAll0 (r.map PyData.str)) = true
      rw [h1, Bool.and_true]
      exact h x List.mem_cons_self
    · show max (PyData.depth (.str x)) (PyData.depthAll (r.map PyData.str)) = 0
      rw [h2]
      rfl
theorem strOk_one {c : Nat} (h : c < 128) : PyData.strOk ⟨#[c]⟩ = true := by
  simp [PyData.strOk]
  omega
theorem pick (z : Str) {e : Int} (h0 : 0 ≤ e) (h1 : e < (z.length : Int)) : ∃ c, atI z.cps.toList e = some c ∧ c ∈ z.cps.toList := by
  obtain ⟨j, rfl⟩ := Int.eq_ofNat_of_zero_le h0
  have hl : z.cps.toList.length = z.length := by simp [Str.length]
  have hj : j < z.cps.toList.length := by omega
  exact ⟨_, atI_nat (List.getElem?_eq_getElem hj), List.getElem_mem hj⟩
theorem ixN_nat {n j : Nat} (h : j < n) : ixN n (j : Int) = some j := by
  unfold ixN
  rw [if_pos (by omega), if_pos (by omega), Int.toNat_natCast]
theorem asc_of {z : Str} (h : z.cps.toList.all (fun c => decide (c < 128)) = true) : Asc z := fun c hc => of_decide_eq_true (List.all_eq_true.mp h c hc)
/-- a def as its callers see it -/
structure Cal (P : Program) (w : World) (K : PySem.W.Frag) (mg : Str → Option Value) (base : Heap) (nm : Str) (CX : CXT) (k : Nat) (ps : List Str) (sp : Sp) where
  f : Addr
  fd : FuncData
  g : mg nm = some (.ref f)
  kp : PySem.W.keepIn K (.ref f) = true
  b : Binds K fd ps []
  G : FnOk P w K mg base CX k f fd ps sp
end L2
namespace L2
open PySem PySem.Spec PyProof.Rows
/-! ### drawn names -/
def C36 : Str := "abcdefghijklmnopqrstuvwxyz0123456789"
theorem c36_ok : ∀ c ∈ C36.cps.toList, okc c = true := fun c hc => List.all_eq_true.mp (show C36.cps.toList.all okc = true by decide +kernel) c hc
theorem c36_len : C36.length = 36 := by decide +kernel
theorem c36_take : C36.cps.toList.take 26 = lets := by decide +kernel
theorem lets_ok : ∀ c ∈ lets, okc c = true := fun c hc => List.all_eq_true.mp (show lets.all okc = true by decide +kernel) c hc
theorem lets_len : lets.length = 26 := by decide +kernel
theorem okc_lt {c : Nat} (h : okc c = true) : c < 128 := by
  have h1 : ∀ x ∈ lets ++ digs, x < 128 := fun x hx => of_decide_eq_true (List.all_eq_true.mp (show (lets ++ digs).all (fun x => decide (x < 128)) = true by decide +kernel) x hx)
  refine h1 c (List.mem_append.mpr ?_)
  unfold okc at h
  rcases Bool.or_eq_true_iff.mp h with h | h
  · exact .inl (of_decide_eq_true h)
  · exact .inr (of_decide_eq_true h)
/-- the i-th letter -/
def let_ (i : Nat) : Nat := lets.getD i 0
theorem let_mem {i : Nat} (h : i < 26) : let_ i ∈ lets := by
  unfold let_
  rw [List.getD_eq_getElem?_getD, List.getElem?_eq_getElem (by rw [lets_len]; exact h)]
  exact List.getElem_mem _
theorem c36_at {i : Nat} (h : i < 26) : atI C36.cps.toList (i : Int) = some (let_ i) := by
  refine atI_nat ?_
  have e : C36.cps.toList[i]? = (C36.cps.toList.take 26)[i]? := by rw [List.getElem?_take, if_pos h]
  rw [e, c36_take]
  unfold let_
  rw [List.getD_eq_getElem?_getD, List.getElem?_eq_getElem (by rw [lets_len]; exact h)]
  rfl
theorem cat_list (x y : Str) : (x ++ y).cps.toList = x.cps.toList ++ y.cps.toList := by
  show (x.cps ++ y.cps).toList = _
  simp
theorem len_list (x : Str) : x.cps.toList.length = x.length := by simp [Str.length]
theorem str_ext {x y : Str} (h : x.cps.toList = y.cps.toList) : x = y := by
  obtain ⟨a⟩ := x
  obtain ⟨b⟩ := y
  have : a = b := Array.ext' h
  rw [this]
theorem good_of {w : Str} {c : Nat} {r : List Nat} (e : w.cps.toList = c :: r) (hc : c ∈ lets) (hr : r.length < 6) (ha : ∀ x ∈ r, okc x = true) : good w = true := by
  unfold good
  rw [e]
  show (decide (r.length < 6) && decide (c ∈ lets) && (c :: r).all okc) = true
  rw [decide_eq_true hr, decide_eq_true hc, List.all_cons, lets_ok c hc, List.all_eq_true.mpr ha]
  rfl
theorem good_asc {w : Str} (h : good w = true) : Asc w := fun c hc => by
  unfold good at h
  cases e : w.cps.toList with
  | nil => rw [e] at hc; cases hc
  | cons a r =>
    rw [e] at h hc
    have h2 : (decide (r.length < 6) && decide (a ∈ lets) && (a :: r).all okc) = true := h
    have h3 := (Bool.and_eq_true_iff.mp h2).2
    exact okc_lt (List.all_eq_true.mp h3 c hc)
theorem good_len {w : Str} (h : good w = true) : w.length ≤ 6 := by
  unfold good at h
  rw [← len_list]
  cases e : w.cps.toList with
  | nil => exact Nat.zero_le _
  | cons a r =>
    rw [e] at h
    have h2 : (decide (r.length < 6) && decide (a ∈ lets) && (a :: r).all okc) = true := h
    have h3 := of_decide_eq_true (Bool.and_eq_true_iff.mp (Bool.and_eq_true_iff.mp h2).1).1
    rw [List.length_cons]
    omega
/-- letter and number -/
def numW (l : Nat) (n : Nat) : Str := (⟨#[l]⟩ : Str) ++ Str.ofString (toString (n : Int))
theorem numW_list (l n : Nat) : (numW l n).cps.toList = l :: (Str.ofString (toString ((n : Nat) : Int))).cps.toList := by
  unfold numW
  rw [cat_list]
  rfl
/-- the written names -/
def fixedW : List Str := ["rows", "leaf", "x", "x1", "x10", "none"]
theorem fixed_ok (c : Nat) : (fixedW.take c).Nodup ∧ ∀ w ∈ fixedW.take c, good w = true := by
  have h1 : fixedW.Nodup := by decide +kernel
  have h2 : fixedW.all good = true := by decide +kernel
  exact ⟨h1.sublist (List.take_sublist _ _), fun w hw => List.all_eq_true.mp h2 w (List.mem_of_mem_take hw)⟩
/-- one word's beginnings -/
def preW (z : Str) (k : Nat) : Str := ⟨(z.cps.toList.take (k + 1)).toArray⟩
theorem preW_list (z : Str) (k : Nat) : (preW z k).cps.toList = z.cps.toList.take (k + 1) := by simp [preW]
/-- the k-th word of the common plan -/
def comW (l : Nat) (st : List Nat) (pl o sr k : Nat) : Str :=
  let g := let_ ((o + sr * k) % 26)
  let b := if 1 < pl ∧ k % 2 = 1 then [] else st
  if pl % 2 = 0 then ⟨(l :: (b ++ [g])).toArray⟩ else ⟨(g :: b).toArray⟩
theorem comW_good {l : Nat} {st : List Nat} {pl o sr k : Nat} (hl : l ∈ lets) (h4 : st.length ≤ 4) (ho : ∀ x ∈ st, okc x = true) : good (comW l st pl o sr k) = true := by
  have hg := let_mem (Nat.mod_lt (o + sr * k) (by decide : 26 > 0))
  unfold comW
  have hb : ∀ x ∈ (if 1 < pl ∧ k % 2 = 1 then [] else st), okc x = true := fun x hx => by
    split at hx
    · cases hx
    · exact ho x hx
  have hbl : (if 1 < pl ∧ k % 2 = 1 then [] else st).length ≤ 4 := by
    split
    · exact Nat.zero_le _
    · exact h4
  dsimp only
  split
  · refine good_of (c := l) rfl hl (by rw [List.length_append, List.length_singleton]; omega) fun x hx => ?_
    rcases List.mem_append.mp hx with hx | hx
    · exact hb x hx
    · rw [show x = _ by simpa using hx]
      exact lets_ok _ hg
  · exact good_of rfl hg (by omega) hb
end L2
namespace L2
open PySem PySem.Spec PyProof.Rows
theorem cutS_to (z : Str) (c : Nat) : (cutS z none (some (c : Int))).cps.toList = z.cps.toList.take c := by
  unfold cutS
  rw [HT.sIx_none, HT.sIx_nat, Nat.sub_zero]
  simp only [List.drop_zero]
  by_cases h : c ≤ z.length
  · rw [Nat.min_eq_left h]
  · rw [Nat.min_eq_right (by omega), List.take_of_length_le (by rw [len_list]; exact Nat.le_refl _), List.take_of_length_le (by rw [len_list]; omega)]
theorem preW_good {z : Str} {l : Nat} {cs : List Nat} {k : Nat} (e : z.cps.toList = l :: cs) (hl : l ∈ lets) (hc : cs.length ≤ 5) (ho : ∀ x ∈ cs, okc x = true) : good (preW z k) = true := by
  refine good_of (c := l) (r := cs.take k) (by rw [preW_list, e]; rfl) hl ?_ fun x hx => ho x (List.mem_of_mem_take hx)
  rw [List.length_take]; omega
theorem c36_mod (i : Nat) : atI C36.cps.toList (((i % 26 : Nat)) : Int) = some (let_ (i % 26)) := c36_at (Nat.mod_lt _ (by decide))
theorem one_cat (x : Nat) (y : Str) : ((⟨#[x]⟩ : Str) ++ y).cps.toList = x :: y.cps.toList := by rw [cat_list]; rfl
theorem com_even {l : Nat} {st : Str} {pl o sr k : Nat} (b : Str) (hb : b = if 1 < pl ∧ k % 2 = 1 then Str.ofString "" else st) (h : pl % 2 = 0) : ((⟨#[l]⟩ : Str) ++ b) ++ (⟨#[let_ ((o + sr * k) % 26)]⟩ : Str) = comW l st.cps.toList pl o sr k := by
  refine str_ext ?_
  rw [cat_list, one_cat]
  unfold comW
  rw [if_pos h, hb]
  split
  · rfl
  · rfl
theorem com_odd {l : Nat} {st : Str} {pl o sr k : Nat} (b : Str) (hb : b = if 1 < pl ∧ k % 2 = 1 then Str.ofString "" else st) (h : pl % 2 = 1) : ((⟨#[let_ ((o + sr * k) % 26)]⟩ : Str) ++ b) = comW l st.cps.toList pl o sr k := by
  refine str_ext ?_
  rw [one_cat]
  unfold comW
  rw [if_neg (by omega), hb]
  split
  · rfl
  · rfl
theorem fmod_nn (a b : Nat) : (a : Int).fmod (b : Int) = ((a % b : Nat) : Int) := by
  rw [Int.fmod_eq_emod_of_nonneg _ (by omega)]
  rfl
theorem SqL.up {K : PySem.W.Frag} {G H : Hp} {a : Addr} {xs : List V} (h : SqL K G a xs) (e : Same G H) : SqL K H a xs := e.seq h
end L2
namespace L2
open PySem PySem.Spec PyProof.Rows
/-- amounts by name, in an order -/
abbrev Am := List (Str × Int)
def amN (am : Am) : List V := am.map fun p => V.str p.1
def amK (am : Am) : List (Key × V) := am.map fun p => (Sum.inr p.1, V.int p.2)
def amS (am : Am) : List Str := am.map (·.1)
theorem hu100 {A : Around} {k : Nat} (hr : Room k A) : A.units + 100 < cLine := by have := hr.un; omega
/-- no other attribute -/
def OnlyTwo (fs : List (Str × V)) : Prop := ∀ f : Str, f ≠ "_outcomes" → f ≠ "_amounts" → fs.lookup f = none
/-- wishes made, at x -/
def WAt (C : Addr) (H : Hp) (x : Addr) (am : Am) : Prop := ∃ (dx : Addr) (fs : List (Str × V)) (t d : Addr), H x = some (.ins C dx fs) ∧ fs.lookup ("_outcomes" : Str) = some (.ref t) ∧ fs.lookup ("_amounts" : Str) = some (.ref d) ∧
  H t = some (.tup (amN am)) ∧ H d = some (.dK (amK am)) ∧ OnlyTwo fs
theorem WAt.up {C : Addr} {G H : Hp} {x : Addr} {am : Am} (h : WAt C G x am) (e : Same G H) : WAt C H x am := by
  obtain ⟨dx, fs, t, d, a1, a2, a3, a4, a5, a6⟩ := h
  exact ⟨dx, fs, t, d, e _ _ a1, a2, a3, e _ _ a4, e _ _ a5, a6⟩
/-- a well made list of amounts -/
structure AmOk (am : Am) : Prop where
  nd : (amS am).Nodup
  gd : ∀ w ∈ amS am, good w = true
  n1 : am.length ≤ 8
theorem pe_fldK {X : Cx} {K : PySem.W.Frag} {e : Expr} {f : Str} {pos : Pos} {ta : TE} (hk : X.K = K) (he : PE X e ta) (hb : attributeBase e f X.env (eval e X.env) = eval e X.env) : PE X (.Attribute e f pos) (tFld K ta f) := by
  subst hk
  exact pe_fld he hb
/-- all that is new is seen -/
theorem View.grow {s : Addr} {N : Nat} {G H H' : Hp} (v : View s N G H) (e : Same H H') : ∃ G' : Hp, View s N G' H' ∧ Same G G' ∧ (∀ b o, H b = none → H' b = some o → G' b = some o) ∧ ∀ b, H' b = none → G' b = none := by
  obtain ⟨b, c, i, bs, cs, k, l⟩ := v
  refine ⟨fun q => match H q with | none => H' q | some _ => G q, ⟨b, c, i, bs, cs, { k.ext e with sub := fun q u hq => ?_, gs := ?_, gb := ?_, gc := ?_ }, l⟩, fun q u hq => ?_, fun q u h1 h2 => ?_, fun q h => ?_⟩
  · cases h : H q with
    | none => simp only [h] at hq; exact hq
    | some _ => simp only [h] at hq; exact e _ _ (k.sub _ _ hq)
  · simp only [k.hs]; exact k.gs
  · simp only [k.hb]; exact k.gb
  · simp only [k.hc]; exact k.gc
  · simp only [k.sub _ _ hq]; exact hq
  · simp only [h1]; exact h2
  · have : H q = none := e.free h
    simp only [this]; exact h
/-- wishes made, all their parts new -/
def WNew (C : Addr) (H H' : Hp) (x : Addr) (am : Am) : Prop := ∃ (dx : Addr) (fs : List (Str × V)) (t d : Addr), (H x = none ∧ H t = none ∧ H d = none) ∧ H' x = some (.ins C dx fs) ∧ fs.lookup ("_outcomes" : Str) = some (.ref t) ∧ fs.lookup ("_amounts" : Str) = some (.ref d) ∧
  H' t = some (.tup (amN am)) ∧ H' d = some (.dK (amK am)) ∧ OnlyTwo fs
theorem WNew.at {C : Addr} {G' H H' : Hp} {x : Addr} {am : Am} (h : WNew C H H' x am) (g : ∀ b o, H b = none → H' b = some o → G' b = some o) : WAt C G' x am := by
  obtain ⟨dx, fs, t, d, ⟨n1, n2, n3⟩, a1, a2, a3, a4, a5, a6⟩ := h
  exact ⟨dx, fs, t, d, g _ _ n1 a1, a2, a3, g _ _ n2 a4, g _ _ n3 a5, a6⟩
theorem AmOk.perm {a b : Am} (h : a.Perm b) (k : AmOk b) : AmOk a :=
  ⟨((h.map Prod.fst).nodup_iff).mpr k.nd, fun w hw => k.gd w ((h.map Prod.fst).mem_iff.mp hw), by rw [h.length_eq]; exact k.n1⟩
end L2
namespace L2
open PySem PySem.Spec PyProof.Rows
/-- a method as its callers see it -/
structure CalM (P : Program) (w : World) (K : PySem.W.Frag) (mg : Str → Option Value) (base : Heap) (CX : CXT) (k : Nat) (ps : List Str) (sp : Sp) where
  f : Addr
  fd : FuncData
  b : Binds K fd ps []
  G : FnOk P w K mg base CX k f fd ps sp
theorem strs_flat (ws : List Str) : (ws.map V.str).all flatV = true := by
  rw [List.all_eq_true]
  intro v hv
  obtain ⟨q, _, rfl⟩ := List.mem_map.mp hv
  rfl
theorem inV_strs (w : Str) (ws : List Str) : inV (.str w) (ws.map V.str) = decide (w ∈ ws) := by
  unfold inV
  induction ws with
  | nil => rfl
  | cons u r ih =>
    rw [List.map_cons, List.any_cons, ih]
    show ((u == w) || decide (w ∈ r)) = decide (w ∈ u :: r)
    by_cases e : u = w
    · subst e; simp
    · have e2 : ¬ w = u := fun z => e z.symm
      simp [e, e2]
theorem op_inF {X : Cx} {K : PySem.W.Frag} (hk : X.K = K) : OpR X (compareOp .In) (rIn K false) := by subst hk; exact op_in_seq
/-- what x[i] finds -/
structure IxF (K : PySem.W.Frag) (C g : Addr) : Prop where
  hs : PySem.W.findIn K (.ref C) "__getitem__" = some (some (.ref g))
  hf : PySem.W.fnIn K g = true
  hfn : PySem.W.isFn K (.ref g) = true
end L2
namespace L2
open PySem PySem.Spec PyProof.Rows
/-- names, as data -/
def tD (ws : List Str) : PyData := .tuple (ws.map .str)
theorem lay_tD {ws : List Str} (h : ∀ w ∈ ws, PyData.strOk w = true) : (tD ws).canLay0 = true ∧ (tD ws).depth = 1 := by
  obtain ⟨h1, h2⟩ := shaped_go ws h
  refine ⟨h1, ?_⟩
  show PyData.depthAll (ws.map PyData.str) + 1 = 1
  rw [h2]
theorem good_ok {w : Str} (h : good w = true) : PyData.strOk w = true := by
  have := good_asc h
  simp [PyData.strOk]
  intro c hc
  have := this (w.cps[c]) (by simp)
  omega
/-- a list of tuples of names in a heap -/
inductive TupsAt (H : Hp) : List V → List (List Str) → Prop
  | nil : TupsAt H [] []
  | cons {t : Addr} {ws : List Str} {vs : List V} {l : List (List Str)} : H t = some (.tup (ws.map V.str)) → TupsAt H vs l → TupsAt H (.ref t :: vs) (ws :: l)
theorem TupsAt.up {G H : Hp} {vs : List V} {l : List (List Str)} (h : TupsAt G vs l) (e : Same G H) : TupsAt H vs l := by
  induction h with
  | nil => exact .nil
  | cons a _ ih => exact .cons (e _ _ a) ih
theorem TupsAt.snoc {H : Hp} {vs : List V} {l : List (List Str)} (h : TupsAt H vs l) {t : Addr} {ws : List Str} (ht : H t = some (.tup (ws.map V.str))) : TupsAt H (vs ++ [.ref t]) (l ++ [ws]) := by
  induction h with
  | nil => exact .cons ht .nil
  | cons a _ ih => exact .cons a ih
/-- a list that names the levels, the highest first -/
def IsLv (am : Am) (ns : List Int) : Prop := ns.Pairwise (· > ·) ∧ ∀ z, z ∈ ns ↔ z ∈ am.map (·.2)
def rks (am : Am) (ns : List Int) : List (List Str) := ns.map fun z => amS (am.filter fun p => decide (p.2 = z))
/-- __init__ of an exception that keeps one thing -/
def spXI (C : Addr) (f : Str) : Sp := fun vs H Q _ => ∃ (a : Addr) (v : V), vs = [.ref a, v] ∧ H a = some (exo a C none) ∧ ∀ dx, H dx = none → dx ≠ a → Q .non (upd (upd H dx (exd dx [(f, v)])) a (exo a C (some dx)))
/-- what the law's text holds for such a class -/
structure XCls (K : PySem.W.Frag) (mg : Str → Option Value) (nm f : Str) where
  C : Addr
  g : mg nm = some (.ref C)
  T : OexC K C
  no : PySem.W.findIn K (.ref C) f = some none
  xf : XfC K C
  ex : PySem.W.exmOne K (.ref C) (.ref C) = some true
/-- what its __init__ is, as pmk_oex wishes -/
structure XIni (K : PySem.W.Frag) (C fI : Addr) : Prop where
  iC : PySem.W.findIn K (.ref C) "__init__" = some (some (.ref fI))
  tI : PySem.W.typeIn K (.ref fI) = some (.type "function")
/-- o.m(e, ..) that may raise, inside a try: the way out may know the slots -/
def tMethT (C : Addr) (m : Str) (sp : Sp) (E : St → XK) (ta : TE) (t : TA) : TE := fun σ H Q => ta σ H fun x H1 => ∃ a dx fs, x = .ref a ∧ H1 a = some (.ins C dx fs) ∧ fs.lookup m = none ∧ t σ H1 fun vs H2 => sp (x :: vs) H2 Q (E σ)
theorem pe_methT {X : Cx} {CX : CXT} {k : Nat} {f C : Addr} {fd : FuncData} {ps : List Str} {sp : Sp} {E : St → XK} {m : Str} {o e : Expr} {es : List Expr} {ta : TE} {t : TA} {apos pos : Pos} {pl : Sem Bool} (he : PE X o ta) (c : Cls X.K C) (hm : Meth X.K C m f)
    (F : FnOk X.prog X.w X.K X.mg X.base CX k f fd ps sp) (hr : Room k X.A) (hb : Binds X.K fd ps []) (hx : ∀ σ, PassesAt CX X σ (E σ)) (ha : PA X (e :: es) t)
    (hst : starEach (e :: es) X.env = (false, eval e X.env) :: starEach es X.env := by rfl) (hpl : (backTo pos (starEach es X.env)).any (·.1) = false := by rfl)
    (ht : eval (.Call (.Attribute o m apos) (e :: es) [] pos) X.env = (do
      let ov ← eval o X.env
      standAt apos.atName
      let (f, first) ← holding [ov] (getMethod ov m pl)
      callWith pos f first (backTo pos (starEach (e :: es) X.env)) (backToKw pos (keywordEach [] X.env))) := by rfl) :
    PE X (.Call (.Attribute o m apos) (e :: es) [] pos) (tMethT C m sp E ta t) := by
  refine ⟨fun pins s σ H Q I h => PySem.W.methodCall_KW (pl := pl) (thn (he.run pins s σ H _ I h) fun u s1 hh => ?_) ht⟩
  obtain ⟨x, H1, I1, rx, a, dx, fs, rfl, ea, l, q⟩ := hh
  obtain rfl : u = Value.ref a := rx
  refine getmeth_ok I1 ea c hm l (PySem.W.callWith_K (first := [.ref a]) (h₀ := X.base) I.ok.mod.kin hm.kp ?_ hst hpl)
  refine thn (ha.run pos pins s1 σ H1 _ I1 q) fun us s2 hh => ?_
  obtain ⟨vs, H2, I2, r, q2⟩ := hh
  exact ⟨I2.kIn, run_fnS (E := E) (us := .ref a :: us) (vs := .ref a :: vs) F hr hb (hx σ) I2 (.cons rfl r) q2⟩
end L2
namespace L2
open PySem PySem.Spec PyProof.Rows
/-! ### sorted names are told by what they are -/
def LeS (x y : Str) : Prop := ltCps y.cps.toList x.cps.toList = false
theorem leS_iff {x y : Str} : LeS x y ↔ x.cps.toList ≤ y.cps.toList := by
  unfold LeS
  rw [ltCps_eq, decide_eq_false_iff_not, List.not_lt]
theorem leS_trans {x y z : Str} (a : LeS x y) (b : LeS y z) : LeS x z := leS_iff.mpr (List.le_trans (leS_iff.mp a) (leS_iff.mp b))
theorem leS_anti {x y : Str} (a : LeS x y) (b : LeS y x) : x = y := str_ext (List.le_antisymm (leS_iff.mp a) (leS_iff.mp b))
theorem rising_pw : ∀ {l : List Str} {p : Str}, risingS p l = true → (p :: l).Pairwise LeS
  | [], p, _ => List.pairwise_singleton _ _
  | x :: r, p, h => by
    have h' : (!ltCps x.cps.toList p.cps.toList && risingS x r) = true := h
    rw [Bool.and_eq_true, Bool.not_eq_true'] at h'
    have ih := rising_pw h'.2
    refine List.pairwise_cons.mpr ⟨fun y hy => ?_, ih⟩
    rcases List.mem_cons.mp hy with rfl | hy
    · exact h'.1
    · exact leS_trans h'.1 ((List.pairwise_cons.mp ih).1 y hy)
theorem sorted_pw : ∀ {l : List Str}, sortedS l = true → l.Pairwise LeS
  | [], _ => .nil
  | x :: r, h => rising_pw h
theorem pw_one : ∀ {a b : List Str}, a.Pairwise LeS → b.Pairwise LeS → a.Perm b → a = b
  | [], b, _, _, h => (List.nil_perm.mp h).symm
  | x :: r, [], _, _, h => absurd h.length_eq (by simp)
  | x :: r, y :: s, ha, hb, h => by
    obtain ⟨a1, a2⟩ := List.pairwise_cons.mp ha
    obtain ⟨b1, b2⟩ := List.pairwise_cons.mp hb
    have e : x = y := by
      rcases List.mem_cons.mp (h.mem_iff.mp (List.mem_cons_self (a := x) (l := r))) with e | h1
      · exact e
      · rcases List.mem_cons.mp (h.mem_iff.mpr (List.mem_cons_self (a := y) (l := s))) with e | h2
        · exact e.symm
        · exact leS_anti (a1 _ h2) (b1 _ h1)
    subst e
    rw [pw_one a2 b2 h.cons_inv]
theorem sortedS_one {a b : List Str} (ha : sortedS a = true) (hb : sortedS b = true) (h : a.Perm b) : a = b := pw_one (sorted_pw ha) (sorted_pw hb) h
end L2
namespace L2
open PySem PySem.Spec PyProof.Rows
/-! ### amounts put and dropped -/
def aput (b : Am) (w : Str) (z : Int) : Am := if w ∈ amS b then b.map (fun p => if p.1 = w then (p.1, z) else p) else b ++ [(w, z)]
theorem amS_put (b : Am) (w : Str) (z : Int) : amS (aput b w z) = if w ∈ amS b then amS b else amS b ++ [w] := by
  unfold aput
  by_cases h : w ∈ amS b
  · rw [if_pos h, if_pos h]
    unfold amS
    rw [List.map_map]
    refine List.map_congr_left fun p _ => ?_
    show (if p.1 = w then (p.1, z) else p).1 = p.1
    split <;> rfl
  · rw [if_neg h, if_neg h]
    unfold amS
    rw [List.map_append]
    rfl
theorem amS_len (b : Am) : (amS b).length = b.length := by unfold amS; rw [List.length_map]
theorem put_len (b : Am) (w : Str) (z : Int) : (aput b w z).length = if w ∈ amS b then b.length else b.length + 1 := by
  rw [← amS_len, amS_put]
  split
  · exact amS_len b
  · rw [List.length_append, amS_len]; rfl
theorem AmOk.put {b : Am} (h : AmOk b) (w : Str) (z : Int) (g : good w = true) (l : b.length ≤ 7) : AmOk (aput b w z) := by
  refine ⟨?_, fun u hu => ?_, ?_⟩
  · rw [amS_put]
    split
    · exact h.nd
    · rename_i n
      refine List.nodup_append.mpr ⟨h.nd, List.nodup_cons.mpr ⟨by simp, List.nodup_nil⟩, fun x hx y hy e => ?_⟩
      rw [List.mem_singleton.mp hy] at e
      exact n (e ▸ hx)
  · rw [amS_put] at hu
    split at hu
    · exact h.gd u hu
    · rcases List.mem_append.mp hu with hu | hu
      · exact h.gd u hu
      · rw [List.mem_singleton.mp hu]; exact g
  · rw [put_len]; split <;> omega
def adrop (b : Am) (w : Str) : Am := b.filter fun p => decide (p.1 ≠ w)
theorem AmOk.drop {b : Am} (h : AmOk b) (w : Str) : AmOk (adrop b w) := by
  have s : (amS (adrop b w)).Sublist (amS b) := (List.filter_sublist).map _
  exact ⟨h.nd.sublist s, fun u hu => h.gd u (s.subset hu), Nat.le_trans (List.length_filter_le _ _) h.n1⟩
theorem amS_map (b : Am) (f : Int → Int) : amS (b.map fun p => (p.1, f p.2)) = amS b := by unfold amS; rw [List.map_map]; rfl
theorem AmOk.map {b : Am} (h : AmOk b) (f : Int → Int) : AmOk (b.map fun p => (p.1, f p.2)) := ⟨by rw [amS_map]; exact h.nd, by rw [amS_map]; exact h.gd, by rw [List.length_map]; exact h.n1⟩
end L2
namespace L2
open PySem PySem.Spec PyProof.Rows
/-! ### x != y by object.__ne__, which asks the own __eq__ -/
end L2
namespace L2
open PySem PySem.Spec PyProof.Rows
/-! ### set(xs), xs a list of whole numbers (SetFor has it of a tuple) -/
section
variable {P : Program} {w : World} {A : Around} {E : Value → Shared → Prop} {s : Shared}
/-- a fresh set's object -/
abbrev emptySet (w : World) : Obj := { cls := .type "set", dict := none, data := .set #[] 0 (.fresh 0 0 (!w.params.followText "set-order")) }
set_option maxHeartbeats 6400000 in
/-- what __init__ makes of a fresh set -/
theorem fill_listI {a l : Addr} {items : Array Value} (ns : List Int) {R : Result → Shared → Prop} (hh : A.handled = none) (ha : s.heap.get? a = some (emptySet w)) (hl : s.heap.IsList l items) (hal : a ≠ l) (hit : IntsAre items.toList ns) (hb : ns.length + 1 < scanBound)
    (h : ∀ (h' : Heap) (tk c : Nat), SetR w h' a (fun j => decide (j ∈ ns)) c → c ≤ ns.length → (∀ b o, b ≠ a → s.heap.get? b = some o → h'.get? b = some o) → R (.ok (.ret .none)) { s with heap := h', toks := tk }) :
    codeAny (model P w) A (.call (.builtin "set.__init__") ⟨[.ref a, .ref l], []⟩) R s := by
  have n0 : items.size = ns.length := by simpa using IntsAre.length hit
  refine codeAny_call_builtin F.called_set.init.plain F.entry_set_init (check_set_init_1 ⟨_, ha, rfl⟩ ?_)
  obtain ⟨⟨oc, od, odt, osl⟩, hol, hcl, nl, hdl⟩ := id hl
  simp only at hcl hdl
  subst hcl hdl
  have k1 := F.sub_list_set
  have k2 := F.sub_list_frozenset
  have k3 : (Value.type "list" == Value.type "dict") = false := by decide
  unfold Builtin.«set.__init__» noKeywords Builtin.Frozenset.updateFrom
  generalize hI : pyIter = I
  wp_walk
  subst hI
  refine wpAny_pyIter_list hl ?_
  refine wpAny_bind (wpAny_runValue ?_)
  have la : a < s.heap.objs.size := Heap.lt_size ha
  have ll : l < s.heap.objs.size := Heap.lt_size hol
  have h2 : A.in1.in1.handled = none := by simp [hh]
  have nI : l ≠ s.heap.objs.size := Nat.ne_of_lt ll
  have na : a ∉ [s.heap.objs.size, l] := by
    simp only [List.mem_cons, List.not_mem_nil, or_false, not_or]
    exact ⟨Nat.ne_of_lt la, hal⟩
  have each : ∀ (i : Nat) (v : Value), items[i]? = some v → ∃ k t, ns[i]? = some k ∧ v = .int k t := fun i v hv => by
    have hi : i < ns.length := by rw [← n0]; exact (Array.getElem?_eq_some_iff.mp hv).1
    obtain ⟨t, e⟩ := PyProof.Rows.IntsAre.int_at hit i v (by rw [Array.getElem?_toList]; exact hv)
    exact ⟨ns[i], t, List.getElem?_eq_getElem hi, by rw [e, List.getD_eq_getElem?_getD, List.getElem?_eq_getElem hi]; rfl⟩
  refine set_update_ints ((Walks.list h2 _ l nI items).toS) a na ns n0 hb each (items.size - 0) 0 _ (by omega) (Nat.zero_le _) ⟨⟨_, Heap.get?_push_size _ rfl, rfl, rfl⟩, hl.push _⟩ ⟨0, Nat.le_refl 0, setR_new_at (Heap.get?_push_of_some _ ha)⟩ ?_
  intro s' c hm hc hS
  obtain ⟨h', g', d', tk', os'⟩ := s'
  obtain rfl : g' = s.gens := hm.gens
  obtain rfl : d' = s.drawn := hm.drawn
  obtain rfl : os' = s.os := hm.os
  rw [n0] at hc
  refine wpAny_pure (wpAny_pure (h h' tk' c hS hc fun b o hba e => ?_))
  have hb0 : b < s.heap.objs.size := Heap.lt_size e
  exact hm.heap b o (by simp only [List.mem_cons, List.not_mem_nil, or_false, not_or]; exact ⟨hba, Nat.ne_of_lt hb0⟩) (Heap.get?_push_of_some _ e)
set_option maxHeartbeats 6400000 in
theorem call_set_listI {l : Addr} {items : Array Value} (ns : List Int) {Q : Value → Shared → Prop} (hh : A.handled = none) (hl : s.heap.IsList l items) (hit : IntsAre items.toList ns) (hb : ns.length + 1 < scanBound)
    (h : ∀ (h' : Heap) (tk c : Nat), SetR w h' s.heap.objs.size (fun j => decide (j ∈ ns)) c → c ≤ ns.length → (∀ b o, s.heap.get? b = some o → h'.get? b = some o) → Q (.ref s.heap.objs.size) { s with heap := h', toks := tk }) :
    wpAny (model P w) A (call (.type "set") [.ref l]) Q E s := by
  have n0 : items.size = ns.length := by simpa using IntsAre.length hit
  have lt0 : l < s.heap.objs.size := by
    obtain ⟨_, e, _⟩ := hl
    exact Heap.lt_size e
  have c1 := F.called_set.made
  have c2 := F.called_set.sub
  have c3 := F.called_set.notType
  have c4 := F.called_set.canCreate
  have c5 := F.typeCall_set_1 (.ref l)
  have c6 := F.called_set.init.lookup
  have c7 := F.called_set.init.bind (.ref s.heap.objs.size)
  obtain ⟨c, tl, c8⟩ := F.called_set.mro
  refine wpAny_call (codeAny_of_tree ?_)
  show wpAny _ _ (callAny (.type "set") _) _ _ _
  refine wpAny_pure ⟨Code.quiet_builtin _ (by decide +kernel), codeAny_builtin F.entry_type_call ?_⟩
  rw [Around.under_plain (weight_type_call_type "set" [.ref l] []) rfl]
  repeat (any_goals (first | assumption | wp_step))
  -- the new set
  refine codeAny_mono (code_set_led1 (.ref l) (E := E) (Q₁ := fun v s1 => v = .ref s.heap.objs.size ∧ s1 = { s with heap := s.heap.push (emptySet w) }) ⟨rfl, rfl⟩) fun r s1 hr => ?_
  rcases r with e | f
  · exact hr
  rcases f with _ | v | _ | _
  case next => exact hr.elim
  case brk => exact hr.elim
  case cont => exact hr.elim
  obtain ⟨rfl, rfl⟩ := hr
  have sz1 : (s.heap.push (emptySet w)).objs.size = s.heap.objs.size + 1 := Heap.size_push ..
  have got : (s.heap.push (emptySet w)).get? s.heap.objs.size = some (emptySet w) := Heap.get?_push_size _ rfl
  have ty : Shared.TypeIs { s with heap := s.heap.push (emptySet w) } (.ref s.heap.objs.size) "set" := ⟨_, got, rfl⟩
  repeat (any_goals (first | assumption | wp_step))
  have hl1 : (s.heap.push (emptySet w)).IsList l items := hl.push _
  refine fill_listI (w := w) ns (by simp [hh]) got hl1 (Nat.ne_of_gt lt0) hit hb fun h' tk c hS hc hk => ?_
  refine wpAny_pure ?_
  repeat (any_goals (first | assumption | wp_step))
  exact h h' tk c hS hc fun b o e => hk b o (Nat.ne_of_lt (Heap.lt_size e)) (Heap.get?_push_of_some _ e)
end
section
variable {X : Cx}
/-- set(xs), xs a list of whole numbers: the set's members are told, their number is some c -/
def rSetOfI (K : PySem.W.Frag) (w : World) : List V → Hp → VK → Prop := fun xs H Q => ∃ (l : Addr) (ns : List Int), xs = [.ref l] ∧ SqL K H l (ns.map V.int) ∧ ns.length ≤ 1000 ∧
  ∀ (p : Addr) (c : Nat), c ≤ ns.length → H p = none → Q (.ref p) (upd H p (SetO w p (fun j => decide (j ∈ ns)) c))
theorem cr_setOfI (hc : X.calm = true) : CallR X (.type "set") (rSetOfI X.K X.w) := by
  intro pins s σ H xs us Q I r h
  obtain ⟨l, ns, rfl, hs, h10, q⟩ := h
  rw [Vals.ref1 r]
  obtain ⟨its, rv, pl, hz⟩ := I.list hs
  refine call_set_listI ns (I.ok.hd hc) pl.isList (by simpa using ints_of_vals rv) (by unfold scanBound; omega) fun h' tk c hS hc hk => ?_
  have hn : H s.heap.objs.size = none := I.hok.fresh (Nat.le_refl _)
  exact ⟨.ref _, _, I.laid (t' := tk) hk (Nat.le_refl _) (setO_new hS), rfl, q _ c hc hn⟩
end
end L2
namespace L2
open PySem PySem.Spec PyProof.Rows
open PpSet
/-! ### {e for x in xs}, e a whole number (SetBool has it of truth values) -/
/-- D is the new set; each turn's e joins it -/
def tScI (w : World) (wi : TI) (g : TG) (te : TE) (vs : List Nat) : TE := fun σ H Q => wi σ H fun J H1 => ∀ D, H1 D = none → ∃ W : Nat → Nat → Hp → Prop, (∃ m, W 0 m (upd H1 D (SetO w D (fun _ => false) 0))) ∧ ∀ i m H, W i m H →
  (J.stop i H ∧ Q (.ref D) H) ∨ (J.go i H ∧ ∃ Nx : Hp → Prop, (∀ H', Nx H' → ∃ m', m' < m ∧ W (i + 1) m' H') ∧ ∀ x H', J.yld i H x H' → g x (wipe σ vs) H' fun σ2 H2 => wipe σ2 vs = wipe σ vs ∧
    te σ2 H2 fun y H4 => ∃ (c : Int) (S : Int → Bool) (n : Nat), y = .int c ∧ H4 D = some (SetO w D S n) ∧ n + 1 < scanBound ∧ Nx (upd H4 D (SetO w D (fun j => S j || decide (j = c)) (if S c = true then n else n + 1))))
section
variable {X : Cx}
theorem joinI {pins : List (Addr × Obj)} {σ : L2.St} {H : Hp} {s : Shared} {E : Value → Shared → Prop} {D : Addr} {S : Int → Bool} {n : Nat} {y : Int} {tk : Tok} {Q : Value → Shared → Prop} (I : Inv X pins σ H s) (hD : H D = some (SetO X.w D S n)) (room : n + 1 < scanBound)
    (h : ∀ s', Inv X pins σ (upd H D (SetO X.w D (fun j => S j || decide (j = y)) (if S y = true then n else n + 1))) s' → Q .none s') : wpAny (model X.prog X.w) X.A (call (.builtin "set.add") [.ref D, .int y tk]) Q E s := by
  refine setR_add (setO_get I hD) room fun h' sb new => h _ ?_
  obtain ⟨o, _, _, _, ho, _⟩ := id new
  exact I.write (e := D) (t' := s.toks + 1) (by rw [hD]; trivial) (.inl rfl) (fun b u hb hu => (sb.2 b hb).trans hu) ⟨o, ho⟩ (setO_new new)
theorem pe_scI {elt tg iter : Expr} {scope : Scope} {own : List (PySem.Str × Nat)} {pos : Pos} {wi : TI} {g : TG} {te : TE} (hc : X.calm = true) (hN : X.N.Nodup) (hi : PI X tg iter wi) (ok : BlkOk X.N X.env.scope scope own)
    (hg : ∀ (s : Shared) (H : Hp) (C : Addr) (cl : List (PySem.Str × Addr)) (fp : List Addr), PG (X.blk s H scope (compEnvC scope cl C X.env) fp) tg g)
    (he : ∀ (s : Shared) (H : Hp) (C : Addr) (cl : List (PySem.Str × Addr)) (fp : List Addr), PE (X.blk s H scope (compEnvC scope cl C X.env) fp) elt te) (hs : ∀ x, foldedSetIterable iter X.env x = pure x := by intro _; rfl) :
    PE X (.SetComp elt [⟨tg, iter, [], 0⟩] scope pos) (tScI X.w wi g te (own.map (·.2))) := by
  refine ⟨fun pins s σ H Q I h => ?_⟩
  rw [eval_SetComp]
  have free : ∀ y ∈ scope.names, y.2 = .free → ∃ c, X.env.cells.lookup y.1 = some c := fun y hy e => (ok.free y hy e).elim (fun k => I.ok.has _ (.inl k)) (fun k => I.ok.has _ (.inr k))
  refine wpAny_comprehension_free rfl hs (closure_ok free) ok.kind (fun y hy e => by rw [ok.uniq y hy, e]) (thn (hi.run pins s σ H _ I h) fun xv s1 hx => thn hx fun itv s2 hw => ?_)
  obtain ⟨it, fp, tn, J, H2, rfl, I2, T, st2, f2, q⟩ := hw
  refine newSet_ok (newEnv_comp ?_)
  generalize eD : s2.heap.objs.size = D
  obtain ⟨W, ⟨m0, w0⟩, turn⟩ := q D (I2.hok.fresh (Nat.le_of_eq eD))
  -- the set that has just been made, then the block's own names
  obtain ⟨s3, e3⟩ : ∃ s3 : Shared, s3 = { s2 with heap := s2.heap.push (emptySet X.w) } := ⟨_, rfl⟩
  obtain ⟨H3, eH⟩ : ∃ H3 : Hp, H3 = upd H2 D (SetO X.w D (fun _ => false) 0) := ⟨_, rfl⟩
  rw [← eH] at w0
  have I3 : Inv X pins σ H3 s3 := by
    rw [e3, eH]
    refine I2.laid (t' := s2.toks) (fun b o e => Heap.get?_push_of_some _ e) (Nat.le_of_eq eD) ?_
    rw [← eD]
    exact setO_new (setR_fresh X.w)
  have kept : ∀ b o, s2.heap.get? b = some o → s3.heap.get? b = some o := fun b o e => by rw [e3]; exact Heap.get?_push_of_some _ e
  have below : ∀ b ∈ fp, b < D ∧ b < s3.heap.objs.size := fun b hb => by
    obtain ⟨o, e, _⟩ := T.obj _ _ st2 b hb
    exact ⟨by rw [← eD]; exact Heap.lt_size e, Heap.lt_size (kept b o e)⟩
  have f3 : ∀ b ∈ fp, FpOk X pins H3 b ∧ b < s3.heap.objs.size := fun b hb => ⟨⟨by rw [eH, upd_ne (Nat.ne_of_lt (below b hb).1)]; exact (f2 b hb).1, (f2 b hb).2⟩, (below b hb).2⟩
  have unseen : ∀ b ∈ fp, H3 b = none := fun b hb => (f3 b hb).1.1
  have I4 := block_start I3 ok hN f3
  have pg := hg s3 H3 s3.heap.objs.size (cellsFrom (s3.heap.objs.size + 1) scope.names (cloFrom X.env.cells scope.names [])) fp
  have pe := he s3 H3 s3.heap.objs.size (cellsFrom (s3.heap.objs.size + 1) scope.names (cloFrom X.env.cells scope.names [])) fp
  have goal : codeAny (model X.prog X.w) X.A (.compStart (.SetComp elt [⟨tg, iter, [], 0⟩] scope pos) 0 (.ref it) (.ref D) (compEnvC scope (cellsFrom (s3.heap.objs.size + 1) scope.names (cloFrom X.env.cells scope.names [])) s3.heap.objs.size X.env))
      (compPost (model X.prog X.w) X.A X.xe none (EP X pins σ Q) (.ref D) s3.heap.objs.size) { s3 with heap := pushCells (s3.heap.push { cls := .type "dict", data := .dict #[] }) scope.names } := ?_
  · rw [e3, ← eD] at goal
    rw [← eD]
    exact goal
  have st3 : tn 0 s3.heap := T.keep _ _ _ st2 fun b _ o e => kept b o e
  generalize eE : compEnvC scope (cellsFrom (s3.heap.objs.size + 1) scope.names (cloFrom X.env.cells scope.names [])) s3.heap.objs.size X.env = ce at I4 pg pe ⊢
  have loc : ce.locals = s3.heap.objs.size := by rw [← eE]; rfl
  obtain ⟨s4, e4⟩ : ∃ s4 : Shared, s4 = { s3 with heap := pushCells (s3.heap.push { cls := .type "dict", data := .dict #[] }) scope.names } := ⟨_, rfl⟩
  rw [← e4] at I4 ⊢
  have st4 : tn 0 s4.heap := T.keep _ _ _ st3 fun b _ o e => by rw [e4]; exact pushCells_keeps _ _ _ _ (Heap.get?_push_of_some _ e)
  -- the walker's own objects stay out of sight within the block
  have out : ∀ {σ' : L2.St} {H' : Hp} {s' : Shared}, Inv (X.blk s3 H3 scope ce fp) [] σ' H' s' → (∀ b ∈ fp, H' b = none) → ∀ b ∈ fp, FpOk (X.blk s3 H3 scope ce fp) [] H' b := fun {σ' H' s'} J' hn b hb =>
    ⟨hn b hb, (J'.ok.exf b hb).1, J'.ok.exfs b hb, .inl hb, fun x c e => (J'.ok.exf b hb).2 x c e, fun p hp => absurd (show p ∈ ([] : List (Addr × Obj)) ++ [] from hp) (by simp)⟩
  have loop : codeAny (model X.prog X.w) X.A (.compLoop (.SetComp elt [⟨tg, iter, [], 0⟩] scope pos) 0 (.ref it) (.ref D) ce) (compPost (model X.prog X.w) X.A X.xe none (EP X pins σ Q) (.ref D) s3.heap.objs.size) s4 := by
    refine compLoopS_any (fun n s' => ∃ i H', Inv (X.blk s3 H3 scope ce fp) [] (wipe σ (own.map (·.2))) H' s' ∧ tn i s'.heap ∧ (∀ b ∈ fp, H' b = none) ∧ W i n H') ?_ m0 ⟨0, H3, I4, st4, unseen, w0⟩
    rintro n s5 ⟨i, H5, I5, st5, n5, w5⟩
    rcases turn i n H5 w5 with ⟨stop, done⟩ | ⟨go, Nx, less, step⟩
    · refine thnF (T.done (X.blk s3 H3 scope ce fp) rfl rfl rfl hc i [] s5 _ H5 (fun _ _ => False) I5 (out I5 n5) st5 stop) fun r s6 hr => ?_
      obtain ⟨rfl, I6⟩ := hr
      have I7 : Inv X pins σ H5 s6 := I3.call' (ch := fp) I6.os I6.base I6.hok I6.bare fun b hb => ⟨(f3 b hb).1.2.2.2.1, (f3 b hb).1.2.1, (f3 b hb).1.2.2.2.2.1, (f3 b hb).1.2.2.2.2.2⟩
      have nL : H5 s3.heap.objs.size = none := by
        have z : H5 ce.locals = none := I6.free
        rwa [loc] at z
      obtain ⟨m, hm, _⟩ := I6.loc
      have hm : s6.heap.Ns ce.locals m := hm
      rw [loc] at hm
      refine ⟨m, hm, fun h'' sb => ?_⟩
      obtain ⟨f0, f1, _, g3, g4, g5⟩ := I3.fpOk (Nat.le_refl _) nL
      exact ⟨.ref D, H5, I7.turned (t' := s6.toks) (fun b o hb e => (sb.2 b hb).trans e) f0 f1 g3 g4 g5, rfl, done⟩
    · refine thnF (T.item (X.blk s3 H3 scope ce fp) rfl rfl rfl hc i [] s5 _ H5 (fun _ _ => False) I5 (out I5 n5) st5 go) fun r s6 hr => ?_
      obtain ⟨u, rfl, h6⟩ := hr
      refine thnF h6 fun _ s7 hy => ?_
      obtain ⟨x, H7, I7, r7, y7, st7, n7⟩ := hy
      refine thnF (pg.run _ s7 _ H7 x u _ (I7.pinned (out I7 n7) (T.obj _ _ st7)) r7 (step x H7 y7)) fun _ s8 hp => ?_
      obtain ⟨σ8, H8, I8, w8, q8⟩ := hp
      -- no test: on to the item
      refine wpAny_pure ?_
      simp only [if_true]
      refine thnF (pe.run _ s8 σ8 H8 _ I8 q8) fun z s9 hz => ?_
      obtain ⟨y, H9, I9, r9, c, S, k, rfl, hD9, room, nx⟩ := hz
      obtain ⟨tk, rfl⟩ := r9
      refine joinI (X := X.blk s3 H3 scope ce fp) I9 hD9 room fun s10 I10 => ?_
      obtain ⟨m', hm', w'⟩ := less _ nx
      have pin : ∀ b ∈ fp, ∀ o, s7.heap.get? b = some o → s10.heap.get? b = some o ∧ _ = none := fun b hb o e =>
        let z := I10.pin (b, o) (List.mem_append_right _ (List.mem_append_right _ (mem_pinsAt hb e)))
        ⟨z.1, z.2.1⟩
      refine ⟨m', hm', i + 1, _, (I10.unpinned (pins := [])).weak (by rw [← w8, wipe_length]) (fun j v e => ?_), T.keep _ _ _ st7 fun b hb o e => (pin b hb o e).1, fun b hb => ?_, w'⟩
      · rw [← w8] at e
        exact (wipe_some e).1
      · obtain ⟨o, e, _⟩ := T.obj _ _ st7 b hb
        exact (pin b hb o e).2
  exact codeAny_compStart_set loop (T.self X.A 0 _ _ _ st4 loop)
end
end L2
namespace L2
open PySem PySem.Spec PyProof.Rows
theorem TupsAt.put {H : Hp} {vs : List V} {l : List (List Str)} (h : TupsAt H vs l) {r : Addr} {xs ys : List V} (hr : H r = some (.lst xs)) : TupsAt (upd H r (.lst ys)) vs l := by
  induction h with
  | nil => exact .nil
  | @cons t ws _ _ a _ ih => exact .cons (by rw [upd_ne (fun z => by rw [z, hr] at a; cases a)]; exact a) ih
end L2
namespace L2
open PySem PySem.Spec PyProof.Rows
/-- a def that may raise, asked only where it doesn't -/
theorem passF {X : Cx} : Passes (L2.CX X.prog X.w) X E0 := by
  intro pins σ H s e s' I c
  obtain ⟨_, _, _, _, _, _, _, _, _, _, _, _, z⟩ := c
  exact False.elim z
end L2
namespace L2
open PySem PySem.Spec PyProof.Rows
end L2
namespace L2
open PySem PySem.Spec PyProof.Rows
/-! ### what agrees tells -/
inductive TD
  | ag (c : Bool)
  | un (ws : List Str)
def TD.d : TD → PyData
  | .ag c => .list [.str "agrees", .bool c]
  | .un ws => .list [.str "unlike", tD ws]
def TDAt (H : Hp) (p : Addr) : TD → Prop
  | .ag c => H p = some (.lst [.str "agrees", .bl c])
  | .un ws => ∃ t, H p = some (.lst [.str "unlike", .ref t]) ∧ H t = some (.tup (ws.map V.str))
def TD.Of (a b : Am) (t : TD) : Prop := (amS a = amS b ∧ ∃ na nb, IsLv a na ∧ IsLv b nb ∧ t = .ag (decide (rks a na = rks b nb))) ∨ (amS a ≠ amS b ∧ t = .un (amS b))
theorem TDAt.up {H H' : Hp} {p : Addr} {t : TD} (h : TDAt H p t) (e : Same H H') : TDAt H' p t := by
  cases t with
  | ag c => exact e _ _ h
  | un ws =>
    obtain ⟨t, h1, h2⟩ := h
    exact ⟨t, e _ _ h1, e _ _ h2⟩
def TD.ok : TD → Prop
  | .ag _ => True
  | .un ws => ∀ w ∈ ws, good w = true
theorem TD.Of.ok {a b : Am} {t : TD} (h : t.Of a b) (k : AmOk b) : t.ok := by
  rcases h with ⟨_, _, _, _, _, rfl⟩ | ⟨_, rfl⟩
  · trivial
  · exact k.gd
theorem TD.lay {t : TD} (h : t.ok) : t.d.canLay0 = true ∧ t.d.depth ≤ 2 := by
  cases t with
  | ag c =>
    refine ⟨?_, ?_⟩
    · show PyData.canLayAll0 [.str "agrees", .bool c] = true
      cases c <;> decide +kernel
    · show PyData.depthAll [.str "agrees", .bool c] + 1 ≤ 2
      cases c <;> decide +kernel
  | un ws =>
    obtain ⟨h1, h2⟩ := lay_tD fun w hw => good_ok (h w hw)
    refine ⟨?_, ?_⟩
    · show (PyData.canLay0 (.str "unlike") && (PyData.canLay0 (tD ws) && PyData.canLayAll0 [])) = true
      rw [h1]
      decide +kernel
    · show max (PyData.depth (.str "unlike")) (max (PyData.depth (tD ws)) (PyData.depthAll [])) + 1 ≤ 2
      rw [h2]
      decide +kernel
theorem TD.shaped {t : TD} (h : t.ok) : SeqAt.shaped t.d = true := by
  obtain ⟨h1, h2⟩ := TD.lay h
  unfold SeqAt.shaped
  rw [Bool.and_eq_true]
  exact ⟨h1, decide_eq_true (by omega)⟩
theorem ix_listF {X : Cx} {K : PySem.W.Frag} (hk : X.K = K) : IxR X (rIxL K) := by subst hk; exact ix_list
/-- o.m(q = b): one place, one name -/
def g2 : List Value → List Value → List Value
  | [a], [b] => [a, b]
  | _, _ => []
/-! ### a list of drawn amounts -/
end L2
namespace ZN
open PySem PySem.Spec PyProof.Rows
/-! zip(*lines), drained by tuple(..): any number of lines -/
/-- zip's own object -/
abbrev ZipO (h : Heap) (z TI TO : Addr) (f0 f1 : Value) : Prop :=
  h.get? z = some { cls := .type "zip", dict := none, data := .fields #[f0, f1, .bool false, .ref TI, .ref TO], slots := #[] }
abbrev TupO (h : Heap) (T : Addr) (vs : Array Value) : Prop := h.get? T = some { cls := .type "tuple", data := .seq vs }
/-- an iterator at `it` over the line at l, its next place i -/
def ItSt (h : Heap) (it l : Addr) (items : Array Value) (i : Nat) : Prop := (h.IsListIter it l i ∧ h.IsList l items) ∨ (h.IsTupleIter it l i ∧ h.IsTuple l items)
theorem ItSt.at {h h' : Heap} {it l : Addr} {items : Array Value} {i : Nat} (x : ItSt h it l items i) (e1 : ∀ o, h.get? it = some o → h'.get? it = some o) (e2 : ∀ o, h.get? l = some o → h'.get? l = some o) : ItSt h' it l items i := by
  rcases x with ⟨a, b⟩ | ⟨a, b⟩
  · exact .inl ⟨a.at e1, b.at e2⟩
  · exact .inr ⟨a.at e1, b.at e2⟩
end ZN
namespace ZN
open PySem PySem.Spec PyProof.Rows
/-- the iterators, their lines, the lines' items -/
abbrev Ls := List (Addr × Addr × Array Value)
structure Sep (z TI TO : Addr) (L : Ls) : Prop where
  TIz : TI ≠ z
  TOz : TO ≠ z
  TITO : TI ≠ TO
  it : ∀ p ∈ L, p.1 ≠ z ∧ p.1 ≠ TI ∧ p.1 ≠ TO
  ln : ∀ p ∈ L, p.2.1 ≠ z ∧ p.2.1 ≠ TO
  li : ∀ p ∈ L, ∀ q ∈ L, p.2.1 ≠ q.1
  nd : (L.map (·.1)).Nodup
def col (L : Ls) (i : Nat) : List Value := L.map fun p => (p.2.2[i]?).getD .none
section
variable {prog : Program} {w : World} {A : Around} {E : Value → Shared → Prop} {s : Shared} {z TI TO : Addr} {L : Ls}
/-- what may have changed -/
def Kp (z TO : Addr) (L : Ls) (h h' : Heap) : Prop := h'.objs.size = h.objs.size ∧ ∀ c o, c ≠ z → c ≠ TO → (∀ p ∈ L, c ≠ p.1) → h.get? c = some o → h'.get? c = some o
theorem Kp.refl (h : Heap) : Kp z TO L h h := ⟨rfl, fun _ _ _ _ _ e => e⟩
theorem Kp.trans {h1 h2 h3 : Heap} (a : Kp z TO L h1 h2) (b : Kp z TO L h2 h3) : Kp z TO L h1 h3 := ⟨b.1.trans a.1, fun c o x y k e => b.2 c o x y k (a.2 c o x y k e)⟩
/-- behind the first k iterators of this turn -/
structure Mid (z TI TO : Addr) (L : Ls) (i : Nat) (h0 : Heap) (f0 f1 : Value) (k : Nat) (rest : Ls) (h : Heap) : Prop where
  pre : L = L.take k ++ rest
  kl : k ≤ L.length
  zz : ZipO h z TI TO f0 f1
  ti : TupO h TI (L.map fun p => Value.ref p.1).toArray
  done : ∀ p ∈ L.take k, ItSt h p.1 p.2.1 p.2.2 (i + 1)
  todo : ∀ p ∈ rest, ItSt h p.1 p.2.1 p.2.2 i
  kp : Kp z TO L h0 h
theorem Mid.keep {i : Nat} {h0 h h' : Heap} {f0 f1 : Value} {k : Nat} {rest : Ls} (D : Sep z TI TO L) (m : Mid z TI TO L i h0 f0 f1 k rest h) (sb : Heap.SameBut TO h h') : Mid z TI TO L i h0 f0 f1 k rest h' := by
  have hr : ∀ q ∈ rest, q ∈ L := fun q hq => by rw [m.pre]; exact List.mem_append_right _ hq
  have other : ∀ q ∈ L, ∀ j, ItSt h q.1 q.2.1 q.2.2 j → ItSt h' q.1 q.2.1 q.2.2 j := fun q hq j x => x.at (fun o e => sb.extBut _ _ (D.it q hq).2.2 e) fun o e => sb.extBut _ _ (D.ln q hq).2 e
  exact ⟨m.pre, m.kl, sb.extBut _ _ D.TOz.symm m.zz, sb.extBut _ _ D.TITO m.ti, fun q hq => other q (List.mem_of_mem_take hq) _ (m.done q hq), fun q hq => other q (hr q hq) _ (m.todo q hq), m.kp.trans ⟨sb.1, fun c o _ k2 _ e => sb.extBut _ _ k2 e⟩⟩
/-! ### drawn by pyNext -/
/-! ### all of it into a list -/
end
end ZN
namespace ZN
open PySem PySem.Spec PyProof.Rows L2
/-! ### zip(*lines) is made -/
end ZN
namespace ZN
open PySem PySem.Spec PyProof.Rows L2
end ZN
namespace ZN
open PySem PySem.Spec PyProof.Rows L2
end ZN
namespace ZN
open PySem PySem.Spec PyProof.Rows L2
end ZN
namespace VL
open PySem PySem.Spec PyProof.Rows L2
/-! ### typed values: what is true of a value in a frozen heap -/
structure VP where
  P : V → Hp → Prop
  up : ∀ {v : V} {G G' : Hp}, Same G G' → P v G → P v G'
/-- what is true of an object that one slot alone holds -/
structure CP where
  P : HO → Hp → Prop
  up : ∀ {o : HO} {G G' : Hp}, Same G G' → P o G → P o G'
  nt : ∀ {o : HO} {G : Hp}, P o G → ∀ xs, o ≠ .tup xs
/-- new, or a tuple: tuples may be shown at any time -/
def Nw (W : Hp) (q : Addr) (o : HO) : Prop := W q = none ∨ ∃ xs, o = .tup xs
theorem Nw.free {W W' : Hp} {q : Addr} {o : HO} (s : Same W W') (h : Nw W' q o) : Nw W q o := h.imp (fun z => s.free z) id
/-- a slot, a result: nothing known; frozen; borrowed; owned -/
inductive SL where
  | un | fr (p : VP) | bo (p : VP) | ow (c : CP)
/-- an exception of an own class: its name, its field, what it holds -/
structure Exc where
  nm : Str
  f : Str
  d : PyData
/-- a computation: what it may give, what it may raise, how many draws were made -/
abbrev M (α : Type) := (α → Nat → Prop) → (Exc → Nat → Prop) → Nat → Prop
namespace M
def pure {α : Type} (a : α) : M α := fun Q _ n => Q a n
def bind {α β : Type} (m : M α) (f : α → M β) : M β := fun Q E n => m (fun a k => f a Q E k) E n
def raise {α : Type} (x : Exc) : M α := fun _ E n => E x n
def ite {α : Type} (b : Bool) (m k : M α) : M α := fun Q E n => if b = true then m Q E n else k Q E n
/-- only asked for a condition -/
def when {α : Type} (c : Prop) (a : α) : M α := fun Q _ n => c ∧ Q a n
end M
/-- no table, nothing that is told by its own words alone -/
structure NT (o : HO) : Prop where
  t : ∀ ps, o ≠ .tbl ps
  x : ∀ φ, o ≠ .ext φ
/-- what callers know of the heap at all times -/
structure Th (TB : List (Addr × Str)) where
  T : Nat → Hp → Hp → Prop
  sub : ∀ {n W H}, T n W H → Same W H
  ext : ∀ {n W H W' H'}, T n W H → Same H H' → Same W W' → (∀ q o, W' q = some o → W q = some o ∨ (H q = none ∧ H' q = some o ∧ NT o)) → T n W' H'
  put : ∀ {n W H p u o}, T n W H → W p = some u → NT u → NT o → T n (upd W p o) (upd H p o)
  tabs : ∀ {n W H}, T n W H → LamX.Tabs TB H
  tset : ∀ {n W H H'}, T n W H → LamX.ExtN H H' → LamX.Tabs TB H' → T n W H'
  see : ∀ {n W H q o}, T n W H → H q = some o → NT o → (∀ xs, o ≠ .lst xs) → T n (upd W q o) H
structure Cfg where
  TB : List (Addr × Str)
  Θ : Th TB
  mg : Str → Option Value
  K : PySem.W.Frag
  B : Hp
  G0 : Hp
  Ew : L2.St → XK
  px : List SL
structure Stt (C : Cfg) (n : Nat) (G W H : Hp) : Prop where
  t : C.Θ.T n W H
  gw : Same G W
  bw : Same C.B W
  g0 : Same C.G0 G
  gb : ∀ q o, G q = some o → C.G0 q = some o ∨ Nw C.B q o
structure Stp (G W G' W' : Hp) : Prop where
  g : Same G G'
  w : Same W W'
  gw : Same G' W'
  ng : ∀ q o, G' q = some o → G q = some o ∨ Nw W q o
theorem Stp.refl {G W : Hp} (h : Same G W) : Stp G W G W := ⟨Same.refl _, Same.refl _, h, fun _ _ e => .inl e⟩
theorem Stp.trans {G W G1 W1 G2 W2 : Hp} (a : Stp G W G1 W1) (b : Stp G1 W1 G2 W2) : Stp G W G2 W2 :=
  ⟨a.g.trans b.g, a.w.trans b.w, b.gw, fun q o e => by
    rcases b.ng q o e with h | h
    · exact a.ng q o h
    · exact .inr (h.free a.w)⟩
theorem Stt.stp {C : Cfg} {n n' : Nat} {G W H G' W' H' : Hp} (s : Stt C n G W H) (p : Stp G W G' W') (t : C.Θ.T n' W' H') : Stt C n' G' W' H' :=
  ⟨t, p.gw, s.bw.trans p.w, s.g0.trans p.g, fun q o e => by
    rcases p.ng q o e with h | h
    · exact s.gb q o h
    · exact .inr (h.free s.bw)⟩
theorem Stt.wh {C : Cfg} {n : Nat} {G W H : Hp} (s : Stt C n G W H) : Same W H := C.Θ.sub s.t
theorem Stt.gh {C : Cfg} {n : Nat} {G W H : Hp} (s : Stt C n G W H) : Same G H := s.gw.trans s.wh
theorem Stt.wfree {C : Cfg} {n : Nat} {G W H : Hp} {p : Addr} (s : Stt C n G W H) (h : H p = none) : W p = none := s.wh.free h
theorem Stt.gfree {C : Cfg} {n : Nat} {G W H : Hp} {p : Addr} (s : Stt C n G W H) (h : H p = none) : G p = none := s.gh.free h
theorem same_upd {H : Hp} {p : Addr} {o : HO} (h : H p = none) : Same H (upd H p o) := same_of_none h
theorem same_two {G W : Hp} {p : Addr} {o : HO} (e : Same G W) : Same (upd G p o) (upd W p o) := fun q x h => by
  by_cases z : q = p
  · subst z; rw [upd_same] at h ⊢; exact h
  · rw [upd_ne z] at h ⊢; exact e _ _ h
theorem same_put {G W : Hp} {p : Addr} {o : HO} (e : Same G W) (h : W p = some o) : Same (upd G p o) W := fun q x hq => by
  by_cases z : q = p
  · subst z; rw [upd_same] at hq; rw [h]; exact hq
  · rw [upd_ne z] at hq; exact e _ _ hq
/-- a new object, frozen at once -/
theorem Stp.newF {C : Cfg} {n : Nat} {G W H : Hp} {p : Addr} {o : HO} (s : Stt C n G W H) (h : H p = none) : Stp G W (upd G p o) (upd W p o) :=
  ⟨same_upd (s.gfree h), same_upd (s.wfree h), same_two s.gw, fun q x e => by
    by_cases z : q = p
    · subst z; exact .inr (.inl (s.wfree h))
    · rw [upd_ne z] at e; exact .inl e⟩
/-- a new object, owned -/
theorem Stp.newO {C : Cfg} {n : Nat} {G W H : Hp} {p : Addr} {o : HO} (s : Stt C n G W H) (h : H p = none) : Stp G W G (upd W p o) :=
  ⟨Same.refl _, same_upd (s.wfree h), s.gw.trans (same_upd (s.wfree h)), fun _ _ e => .inl e⟩
theorem Stt.newT {C : Cfg} {n : Nat} {G W H : Hp} {p : Addr} {o : HO} (s : Stt C n G W H) (h : H p = none) (nt : NT o := by exact ⟨(fun _ h => nomatch h), (fun _ h => nomatch h)⟩) : C.Θ.T n (upd W p o) (upd H p o) :=
  C.Θ.ext s.t (same_upd h) (same_upd (s.wfree h)) fun q x e => by
    by_cases z : q = p
    · subst z; rw [upd_same] at e ⊢; exact .inr ⟨h, e, by cases e; exact nt⟩
    · rw [upd_ne z] at e; exact .inl e
/-- the heap grew unseen -/
theorem Stt.more {C : Cfg} {n : Nat} {G W H H' : Hp} (s : Stt C n G W H) (h : Same H H') : Stt C n G W H' :=
  { s with t := C.Θ.ext s.t h (Same.refl _) fun _ _ e => .inl e }
def Res (B : Hp) (s : SL) (v : V) (G W : Hp) : Prop := match s with
  | .un => True
  | .fr p => p.P v G
  | .bo p => p.P v B
  | .ow c => ∃ a o, v = .ref a ∧ W a = some o ∧ G a = none ∧ B a = none ∧ c.P o G
def Fre (s : SL) (v : V) (W : Hp) : Prop := match s with
  | .ow _ => ∀ p, v = .ref p → W p = none
  | _ => True
theorem Res.stp {B : Hp} {s : SL} {v : V} {G W G' W' : Hp} (r : Res B s v G W) (p : Stp G W G' W') : Res B s v G' W' := by
  cases s with
  | un => trivial
  | fr q => exact q.up p.g r
  | bo q => exact r
  | ow c =>
    obtain ⟨a, o, e, h1, h2, h3, h4⟩ := r
    refine ⟨a, o, e, p.w _ _ h1, ?_, h3, c.up p.g h4⟩
    cases z : G' a with
    | none => rfl
    | some u =>
      rcases p.ng _ _ z with h | h | ⟨xs, h⟩
      · rw [h2] at h; cases h
      · rw [h1] at h; cases h
      · have := p.gw _ _ z
        rw [p.w _ _ h1] at this
        exact absurd ((Option.some.inj this).trans h) (c.nt h4 xs)
theorem stp_no {G W G' W' : Hp} {q : Addr} {o : HO} (s : Stp G W G' W') (h : G q = none) (hw : W q = some o) (hn : ∀ xs, o ≠ .tup xs := by exact fun _ h => nomatch h) : G' q = none := by
  cases e : G' q with
  | none => rfl
  | some u =>
    rcases s.ng q u e with z | z | ⟨xs, z⟩
    · rw [h] at z; cases z
    · rw [hw] at z; cases z
    · have := s.gw _ _ e
      rw [s.w _ _ hw] at this
      exact absurd ((Option.some.inj this).trans z) (hn xs)
theorem Fre.stp {s : SL} {v : V} {G W G' W' : Hp} (r : Fre s v W') (p : Stp G W G' W') : Fre s v W := by
  cases s with
  | ow c => exact fun q e => p.w.free (r q e)
  | _ => trivial
structure Ee (B : Hp) (ps : List SL) (σ : L2.St) (G W : Hp) : Prop where
  len : σ.length = ps.length
  at_ : ∀ {i : Nat} {s : SL}, ps[i]? = some s → s ≠ .un → ∃ v, σ[i]? = some (some v) ∧ Res B s v G W
  sep : ∀ {i j : Nat} {c d : CP} {a : Addr}, i ≠ j → ps[i]? = some (.ow c) → ps[j]? = some (.ow d) → σ[i]? = some (some (.ref a)) → σ[j]? = some (some (.ref a)) → False
theorem Ee.stp {B : Hp} {ps : List SL} {σ : L2.St} {G W G' W' : Hp} (e : Ee B ps σ G W) (p : Stp G W G' W') : Ee B ps σ G' W' :=
  ⟨e.len, fun h n => let ⟨v, h1, h2⟩ := e.at_ h n; ⟨v, h1, h2.stp p⟩, e.sep⟩
/-- what is known when an exception is in the air -/
inductive PxL : List SL → List SL → Prop
  | nil : PxL [] []
  | un {p l s} : PxL p l → PxL (.un :: p) (s :: l)
  | same {p l s} : PxL p l → PxL (s :: p) (s :: l)
def PxLe (p l : List SL) : Prop := p = [] ∨ PxL p l
theorem PxLe.nil {l : List SL} : PxLe [] l := .inl rfl
def Ex_ (B : Hp) (px : List SL) (σ : L2.St) (G W : Hp) : Prop := px = [] ∨ (σ.length = px.length ∧ ∀ {i : Nat} {s : SL}, px[i]? = some s → s ≠ .un → ∃ v, σ[i]? = some (some v) ∧ Res B s v G W)
theorem PxL.len {px ps : List SL} (h : PxL px ps) : px.length = ps.length := by
  induction h with
  | nil => rfl
  | un _ ih => simp [ih]
  | same _ ih => simp [ih]
theorem PxL.get {px ps : List SL} (h : PxL px ps) : ∀ {i : Nat} {s : SL}, px[i]? = some s → s ≠ .un → ps[i]? = some s := by
  induction h with
  | nil => intro i s e; simp at e
  | un _ ih =>
    intro i s e n
    cases i with
    | zero => simp at e; exact absurd e.symm n
    | succ i => simp at e ⊢; exact ih e n
  | same _ ih =>
    intro i s e n
    cases i with
    | zero => simpa using e
    | succ i => simp at e ⊢; exact ih e n
theorem Ee.x {B : Hp} {px ps : List SL} {σ : L2.St} {G W : Hp} (e : Ee B ps σ G W) (h : PxLe px ps) : Ex_ B px σ G W := h.imp id fun h => ⟨by rw [h.len]; exact e.len, fun a b => e.at_ (h.get a b) b⟩
/-! ### kinds of values -/
def rInt (i : Int) : VP := ⟨fun v _ => v = .int i, fun _ h => h⟩
def rBl (b : Bool) : VP := ⟨fun v _ => v = .bl b, fun _ h => h⟩
def rStr (z : Str) : VP := ⟨fun v _ => v = .str z, fun _ h => h⟩
def rNon (_ : Unit) : VP := ⟨fun v _ => v = .non, fun _ h => h⟩
def reps {α : Type} (R : α → VP) : List α → List V → Hp → Prop
  | [], [], _ => True
  | x :: xs, v :: vs, G => (R x).P v G ∧ reps R xs vs G
  | _, _, _ => False
section
variable {α : Type} {R : α → VP} {G G' : Hp}
theorem reps.up : ∀ {xs : List α} {vs : List V}, Same G G' → reps R xs vs G → reps R xs vs G'
  | [], [], _, _ => trivial
  | x :: xs, v :: vs, e, h => ⟨(R x).up e h.1, reps.up e h.2⟩
theorem reps.len : ∀ {xs : List α} {vs : List V}, reps R xs vs G → vs.length = xs.length
  | [], [], _ => rfl
  | _ :: xs, _ :: vs, h => by rw [List.length_cons, List.length_cons, reps.len h.2]
theorem reps.get : ∀ {xs : List α} {vs : List V} {i : Nat} {x : α}, reps R xs vs G → xs[i]? = some x → ∃ v, vs[i]? = some v ∧ (R x).P v G
  | [], [], _, _, _, e => by simp at e
  | y :: xs, v :: vs, 0, x, h, e => by
    have e : y = x := Option.some.inj e
    subst e
    exact ⟨v, rfl, h.1⟩
  | y :: xs, v :: vs, i + 1, x, h, e => by
    obtain ⟨u, h1, h2⟩ := reps.get (i := i) (x := x) h.2 e
    exact ⟨u, h1, h2⟩
theorem reps.get' : ∀ {xs : List α} {vs : List V} {i : Nat} {v : V}, reps R xs vs G → vs[i]? = some v → ∃ x, xs[i]? = some x ∧ (R x).P v G
  | [], [], _, _, _, e => by simp at e
  | y :: xs, v :: vs, 0, u, h, e => by
    have e : v = u := Option.some.inj e
    subst e
    exact ⟨y, rfl, h.1⟩
  | y :: xs, v :: vs, i + 1, u, h, e => by
    obtain ⟨x, h1, h2⟩ := reps.get' (i := i) (v := u) h.2 e
    exact ⟨x, h1, h2⟩
theorem reps.app : ∀ {xs ys : List α} {vs us : List V}, reps R xs vs G → reps R ys us G → reps R (xs ++ ys) (vs ++ us) G
  | [], _, [], _, _, k => k
  | _ :: _, _, _ :: _, _, h, k => ⟨h.1, reps.app h.2 k⟩
theorem reps.take : ∀ {xs : List α} {vs : List V} (n : Nat), reps R xs vs G → reps R (xs.take n) (vs.take n) G
  | _, _, 0, _ => by simp only [List.take_zero]; trivial
  | [], [], _ + 1, _ => trivial
  | _ :: _, _ :: _, n + 1, h => ⟨h.1, reps.take n h.2⟩
theorem reps.drop : ∀ {xs : List α} {vs : List V} (n : Nat), reps R xs vs G → reps R (xs.drop n) (vs.drop n) G
  | _, _, 0, h => h
  | [], [], _ + 1, _ => trivial
  | _ :: _, _ :: _, n + 1, h => reps.drop n h.2
theorem reps.rev : ∀ {xs : List α} {vs : List V}, reps R xs vs G → reps R xs.reverse vs.reverse G
  | [], [], _ => trivial
  | x :: xs, v :: vs, h => by
    rw [List.reverse_cons, List.reverse_cons]
    exact reps.app (reps.rev h.2) ⟨h.1, trivial⟩
theorem reps.nil {vs : List V} (h : reps R [] vs G) : vs = [] := by
  cases vs with
  | nil => rfl
  | cons _ _ => exact h.elim
theorem reps.set : ∀ {xs : List α} {vs : List V} (i : Nat) {x : α} {v : V}, reps R xs vs G → (R x).P v G → reps R (xs.set i x) (vs.set i v) G
  | [], [], _, _, _, _, _ => trivial
  | _ :: _, _ :: _, 0, _, _, h, k => ⟨k, h.2⟩
  | _ :: _, _ :: _, i + 1, _, _, h, k => ⟨h.1, reps.set i h.2 k⟩
end
def rLst {α : Type} (R : α → VP) (xs : List α) : VP := ⟨fun v G => ∃ p vs, v = .ref p ∧ G p = some (.lst vs) ∧ reps R xs vs G, fun e ⟨p, vs, h, h1, h2⟩ => ⟨p, vs, h, e _ _ h1, h2.up e⟩⟩
theorem same_sqT (K : PySem.W.Frag) {G G' : Hp} {a : Addr} {xs : List V} (e : Same G G') (h : SqT K G a xs) : SqT K G' a xs := by
  rcases h with (h | ⟨o, h⟩) | h
  · exact .inl (.inl (e _ _ h))
  · exact .inl (.inr ⟨o, e _ _ h⟩)
  · exact .inr h
section
variable {α β : Type}
def rTup (R : α → VP) (xs : List α) : VP := ⟨fun v G => ∃ p vs, v = .ref p ∧ G p = some (.tup vs) ∧ reps R xs vs G, fun e ⟨p, vs, h, h1, h2⟩ => ⟨p, vs, h, e _ _ h1, h2.up e⟩⟩
/-- a tuple of two -/
def rPr (R : α → VP) (S : β → VP) (q : α × β) : VP := ⟨fun v G => ∃ p x y, v = .ref p ∧ G p = some (.tup [x, y]) ∧ (R q.1).P x G ∧ (S q.2).P y G,
  fun e ⟨p, x, y, h, h1, h2, h3⟩ => ⟨p, x, y, h, e _ _ h1, (R _).up e h2, (S _).up e h3⟩⟩
def rOpt (R : α → VP) (q : Option α) : VP := ⟨fun v G => match q with | none => v = .non | some a => (R a).P v G, fun {v G G'} e h => by
  cases q with
  | none => exact h
  | some a => exact (R a).up e h⟩
/-! data of any depth, dicts of texts too -/
mutual
inductive Dq (G : Hp) : V → PyData → Prop
  | non : Dq G .non .none
  | bl (b : Bool) : Dq G (.bl b) (.bool b)
  | int (i : Int) : Dq G (.int i) (.int i)
  | str (x : Str) : Dq G (.str x) (.str x)
  | lst {a : Addr} {xs : List V} {ds : List PyData} : G a = some (.lst xs) → DqAll G xs ds → Dq G (.ref a) (.list ds)
  | tup {a : Addr} {xs : List V} {ds : List PyData} : G a = some (.tup xs) → DqAll G xs ds → Dq G (.ref a) (.tuple ds)
  | dict {a : Addr} {ks : List (Key × V)} {ds : List (Str × PyData)} : G a = some (.dK ks) → DqKv G ks ds → Dq G (.ref a) (.dict (ds.map fun p => (.str p.1, p.2)))
inductive DqAll (G : Hp) : List V → List PyData → Prop
  | nil : DqAll G [] []
  | cons {v : V} {vs : List V} {d : PyData} {ds : List PyData} : Dq G v d → DqAll G vs ds → DqAll G (v :: vs) (d :: ds)
inductive DqKv (G : Hp) : List (Key × V) → List (Str × PyData) → Prop
  | nil : DqKv G [] []
  | cons {k : Str} {v : V} {vs : List (Key × V)} {d : PyData} {ds : List (Str × PyData)} : Dq G v d → DqKv G vs ds → DqKv G ((.inr k, v) :: vs) ((k, d) :: ds)
end
theorem dq_up {G G' : Hp} (e : Same G G') {v : V} {d : PyData} (h : Dq G v d) : Dq G' v d :=
  Dq.rec (motive_1 := fun v d _ => Dq G' v d) (motive_2 := fun vs ds _ => DqAll G' vs ds) (motive_3 := fun vs ds _ => DqKv G' vs ds) .non .bl .int .str (fun h _ ih => .lst (e _ _ h) ih) (fun h _ ih => .tup (e _ _ h) ih) (fun h _ ih => .dict (e _ _ h) ih) .nil (fun _ _ a b => .cons a b) .nil (fun _ _ a b => .cons a b) h
theorem dq_dp {K : PySem.W.Frag} {G : Hp} {v : V} {d : PyData} (h : Dq G v d) : d.canLay0 = true → Dp K G v d :=
  Dq.rec (motive_1 := fun v d _ => d.canLay0 = true → Dp K G v d) (motive_2 := fun vs ds _ => PyData.canLayAll0 ds = true → DpAll K G vs ds) (motive_3 := fun _ _ _ => True)
    (fun _ => .non) (fun b _ => .bl b) (fun i _ => .int i) (fun x _ => .str x) (fun h _ ih c => .lst (SqL.of h) (ih c)) (fun h _ ih c => .tup (SqT.of h) (ih c)) (fun _ _ _ c => nomatch c) (fun _ => .nil)
    (fun _ _ a b c => .cons (a (Bool.and_eq_true_iff.mp c).1) (b (Bool.and_eq_true_iff.mp c).2)) trivial (fun _ _ _ _ => trivial) h
theorem dp_up {K : PySem.W.Frag} {G G' : Hp} (e : Same G G') {v : V} {d : PyData} (h : Dp K G v d) : Dp K G' v d :=
  Dp.rec (motive_1 := fun v d _ => Dp K G' v d) (motive_2 := fun vs ds _ => DpAll K G' vs ds) .non .bl .int .str (fun h _ ih => .lst (e.seq h) ih) (fun h _ ih => .tup (same_sqT K e h) ih) .nil (fun _ _ a b => .cons a b) h
def rDat (d : PyData) : VP := ⟨fun v G => Dq G v d, fun e h => dq_up e h⟩
def cLst (R : α → VP) (xs : List α) : CP := ⟨fun o G => ∃ vs, o = .lst vs ∧ reps R xs vs G, fun e ⟨vs, h, h2⟩ => ⟨vs, h, h2.up e⟩, fun ⟨vs, h, _⟩ xs z => by rw [h] at z; cases z⟩
end
def XRep (mg : Str → Option Value) (x : Exc) (cls : Value) (d : Option Addr) (G W H : Hp) : Prop :=
  (∃ C dd v, mg x.nm = some (.ref C) ∧ cls = .ref C ∧ d = some dd ∧ H dd = some (.xd [(x.f, v)]) ∧ W dd = none ∧ Dq G v x.d) ∨
  (∃ C, mg x.nm = some (.ref C) ∧ cls = .ref C ∧ d = none ∧ x.f = ("" : Str))
def Kt (C : Cfg) {α : Type} (R : α → SL) (G W : Hp) (Q : VK) (Φ : α → Nat → Prop) : Prop :=
  ∀ a n v G' W' H', Φ a n → Stp G W G' W' → C.Θ.T n W' H' → Res C.B (R a) v G' W' → Fre (R a) v W → Q v H'
def Xt (C : Cfg) (σ : L2.St) (G W : Hp) (Ψ : Exc → Nat → Prop) : Prop :=
  ∀ x n cls d G' W' H', Ψ x n → XRep C.mg x cls d G' W' H' → Stp G W G' W' → C.Θ.T n W' H' → C.Ew σ cls d H'
theorem Kt.stp {C : Cfg} {α : Type} {R : α → SL} {G W G' W' : Hp} {Q : VK} {Φ : α → Nat → Prop} (k : Kt C R G W Q Φ) (p : Stp G W G' W') : Kt C R G' W' Q Φ :=
  fun a n v G2 W2 H2 h s t r f => k a n v G2 W2 H2 h (p.trans s) t r (f.stp p)
theorem Xt.stp {C : Cfg} {σ : L2.St} {G W G' W' : Hp} {Ψ : Exc → Nat → Prop} (k : Xt C σ G W Ψ) (p : Stp G W G' W') : Xt C σ G' W' Ψ :=
  fun x n cls d G2 W2 H2 h r s t => k x n cls d G2 W2 H2 h r (p.trans s) t
/-- an expression -/
def VE (C : Cfg) {α : Type} (te : TE) (ps : List SL) (m : M α) (R : α → SL) : Prop :=
  ∀ σ G W H n (Q : VK) Φ Ψ, Ee C.B ps σ G W → Stt C n G W H → m Φ Ψ n → Kt C R G W Q Φ → Xt C σ G W Ψ → te σ H Q
/-- a test -/
def VT (C : Cfg) (tt : TT) (ps : List SL) (m : M Bool) : Prop :=
  ∀ σ G W H n (Q : Bool → Hp → Prop) (Φ : Bool → Nat → Prop) Ψ, Ee C.B ps σ G W → Stt C n G W H → m Φ Ψ n →
    (∀ b n G' W' H', Φ b n → Stp G W G' W' → C.Θ.T n W' H' → Q b H') → Xt C σ G W Ψ → tt σ H Q
inductive RepL : List VP → List V → Hp → Prop
  | nil {G} : RepL [] [] G
  | cons {p ps v vs G} : p.P v G → RepL ps vs G → RepL (p :: ps) (v :: vs) G
theorem RepL.up {ps : List VP} {vs : List V} {G G' : Hp} (e : Same G G') (h : RepL ps vs G) : RepL ps vs G' := by
  revert e
  induction h with
  | nil => exact fun _ => .nil
  | cons a _ ih => exact fun e => .cons (VP.up _ e a) (ih e)
/-- arguments -/
def VA (C : Cfg) {α : Type} (ta : TA) (ps : List SL) (m : M α) (Rs : α → List VP) : Prop :=
  ∀ σ G W H n (Q : List V → Hp → Prop) Φ Ψ, Ee C.B ps σ G W → Stt C n G W H → m Φ Ψ n →
    (∀ a n vs G' W' H', Φ a n → Stp G W G' W' → C.Θ.T n W' H' → RepL (Rs a) vs G' → Q vs H') → Xt C σ G W Ψ → ta σ H Q
/-- an operator on values; of one; of several -/
def V2 (C : Cfg) {α β γ : Type} (r : R2) (Ra : α → VP) (Rb : β → VP) (m : α → β → M γ) (R : γ → SL) : Prop :=
  ∀ a b v u σ G W H n (Q : VK) Φ Ψ, (Ra a).P v G → (Rb b).P u G → Stt C n G W H → m a b Φ Ψ n → Kt C R G W Q Φ → Xt C σ G W Ψ → r v u H Q
def V1 (C : Cfg) {α γ : Type} (r : V → Hp → VK → Prop) (Ra : α → VP) (m : α → M γ) (R : γ → SL) : Prop :=
  ∀ a v σ G W H n (Q : VK) Φ Ψ, (Ra a).P v G → Stt C n G W H → m a Φ Ψ n → Kt C R G W Q Φ → Xt C σ G W Ψ → r v H Q
def Vn (C : Cfg) {α γ : Type} (r : List V → Hp → VK → Prop) (Rs : α → List VP) (m : α → M γ) (R : γ → SL) : Prop :=
  ∀ a vs σ G W H n (Q : VK) Φ Ψ, RepL (Rs a) vs G → Stt C n G W H → m a Φ Ψ n → Kt C R G W Q Φ → Xt C σ G W Ψ → r vs H Q
@[reducible] def Fz {α : Type} (R : α → VP) : α → SL := fun a => .fr (R a)
@[reducible] def Ow {α : Type} (c : α → CP) : α → SL := fun a => .ow (c a)
section
variable {C : Cfg} {α β γ : Type} {ps : List SL} {te ta tb : TE} {ma : M α} {mb : M β}
theorem ve_op2 {r : R2} {Ra : α → VP} {Rb : β → VP} {mr : α → β → M γ} {R : γ → SL} (ha : VE C ta ps ma (Fz Ra)) (hb : VE C tb ps mb (Fz Rb)) (hr : V2 C r Ra Rb mr R) :
    VE C (tOp r ta tb) ps (M.bind ma fun a => M.bind mb fun b => mr a b) R := by
  intro σ G W H n Q Φ Ψ e st hm k x
  refine ha σ G W H n _ (fun a n' => M.bind mb (fun b => mr a b) Φ Ψ n') Ψ e st hm ?_ x
  intro a n1 v G1 W1 H1 h1 s1 t1 r1 _
  have st1 := st.stp s1 t1
  refine hb σ G1 W1 H1 n1 _ (fun b n' => mr a b Φ Ψ n') Ψ (e.stp s1) st1 h1 ?_ (x.stp s1)
  intro b n2 u G2 W2 H2 h2 s2 t2 r2 _
  exact hr a b v u σ G2 W2 H2 n2 Q Φ Ψ ((Ra a).up s2.g r1) r2 (st1.stp s2 t2) h2 (k.stp (s1.trans s2)) (x.stp (s1.trans s2))
theorem ve_un {r : V → Hp → VK → Prop} {Ra : α → VP} {mr : α → M γ} {R : γ → SL} (ha : VE C ta ps ma (Fz Ra)) (hr : V1 C r Ra mr R) :
    VE C (tUn r ta) ps (M.bind ma fun a => mr a) R := by
  intro σ G W H n Q Φ Ψ e st hm k x
  refine ha σ G W H n _ (fun a n' => mr a Φ Ψ n') Ψ e st hm ?_ x
  intro a n1 v G1 W1 H1 h1 s1 t1 r1 _
  exact hr a v σ G1 W1 H1 n1 Q Φ Ψ r1 (st.stp s1 t1) h1 (k.stp s1) (x.stp s1)
theorem va_nil : VA C tNil ps (M.pure ()) (fun _ => []) := by
  intro σ G W H n Q Φ Ψ e st hm k x
  exact k () n [] G W H hm (Stp.refl st.gw) st.t .nil
theorem va_cons {Ra : α → VP} {Rs : β → List VP} {tr : TA} (ha : VE C ta ps ma (Fz Ra)) (hr : VA C tr ps mb Rs) :
    VA C (tCons ta tr) ps (M.bind ma fun a => M.bind mb fun b => M.pure (a, b)) (fun q => Ra q.1 :: Rs q.2) := by
  intro σ G W H n Q Φ Ψ e st hm k x
  refine ha σ G W H n _ (fun a n' => M.bind mb (fun b => M.pure (a, b)) Φ Ψ n') Ψ e st hm ?_ x
  intro a n1 v G1 W1 H1 h1 s1 t1 r1 _
  have st1 := st.stp s1 t1
  refine hr σ G1 W1 H1 n1 _ (fun b n' => Φ (a, b) n') Ψ (e.stp s1) st1 h1 ?_ (x.stp s1)
  intro b n2 vs G2 W2 H2 h2 s2 t2 r2
  exact k (a, b) n2 (v :: vs) G2 W2 H2 h2 (s1.trans s2) t2 (.cons ((Ra a).up s2.g r1) r2)
/-- a call of a built-in by its values -/
theorem ve_cb {r : List V → Hp → VK → Prop} {t : TA} {Rs : α → List VP} {mr : α → M γ} {R : γ → SL} (ha : VA C t ps ma Rs) (hr : Vn C r Rs mr R) :
    VE C (tCB r t) ps (M.bind ma fun a => mr a) R := by
  intro σ G W H n Q Φ Ψ e st hm k x
  refine ha σ G W H n _ (fun a n' => mr a Φ Ψ n') Ψ e st hm ?_ x
  intro a n1 vs G1 W1 H1 h1 s1 t1 r1
  exact hr a vs σ G1 W1 H1 n1 Q Φ Ψ r1 (st.stp s1 t1) h1 (k.stp s1) (x.stp s1)
/-! ### ends of a value-level step -/
theorem Kt.here {R : α → SL} {G W H : Hp} {Q : VK} {Φ : α → Nat → Prop} {n : Nat} {a : α} {v : V} (k : Kt C R G W Q Φ) (st : Stt C n G W H) (h : Φ a n) (r : Res C.B (R a) v G W) (f : Fre (R a) v W) : Q v H :=
  k a n v G W H h (Stp.refl st.gw) st.t r f
theorem Kt.hereF {R : α → VP} {G W H : Hp} {Q : VK} {Φ : α → Nat → Prop} {n : Nat} {a : α} {v : V} (k : Kt C (Fz R) G W Q Φ) (st : Stt C n G W H) (h : Φ a n) (r : (R a).P v G) : Q v H :=
  k a n v G W H h (Stp.refl st.gw) st.t r trivial
theorem Kt.newF {R : α → VP} {G W H : Hp} {Q : VK} {Φ : α → Nat → Prop} {n : Nat} {a : α} {p : Addr} {o : HO} (k : Kt C (Fz R) G W Q Φ) (st : Stt C n G W H) (h : Φ a n) (hp : H p = none) (r : (R a).P (.ref p) (upd G p o)) (nt : NT o := by exact ⟨(fun _ h => nomatch h), (fun _ h => nomatch h)⟩) : Q (.ref p) (upd H p o) :=
  k a n _ (upd G p o) (upd W p o) _ h (Stp.newF st hp) (st.newT hp nt) r trivial
theorem Kt.newO {c : α → CP} {G W H : Hp} {Q : VK} {Φ : α → Nat → Prop} {n : Nat} {a : α} {p : Addr} {o : HO} (k : Kt C (Ow c) G W Q Φ) (st : Stt C n G W H) (h : Φ a n) (hp : H p = none) (r : (c a).P o G) (nt : NT o := by exact ⟨(fun _ h => nomatch h), (fun _ h => nomatch h)⟩) : Q (.ref p) (upd H p o) :=
  k a n _ G (upd W p o) _ h (Stp.newO st hp) (st.newT hp nt) ⟨p, o, rfl, upd_same, st.gfree hp, st.bw.free (st.wfree hp), r⟩ fun q e => by cases e; exact st.wfree hp
/-! ### names and constants -/
/-- a name whose datum is known -/
theorem ve_v (R : α → VP) (a : α) {i : Nat} (h : ps[i]? = some (.fr (R a)) := by rfl) : VE C (tVar i) ps (M.pure a) (Fz R) := by
  intro σ G W H n Q Φ Ψ e st hm k x
  obtain ⟨v, h1, h2⟩ := e.at_ h (by simp)
  exact ⟨v, h1, k.hereF st hm h2⟩
theorem ve_c (R : α → VP) (a : α) {v : V} (h : ∀ G, (R a).P v G) : VE C (tC v) ps (M.pure a) (Fz R) := by
  intro σ G W H n Q Φ Ψ e st hm k x
  exact k.hereF st hm (h G)
end
/-- an owned list is shown -/
theorem ve_fr {C : Cfg} {α : Type} {te : TE} {ps : List SL} {γ : Type} {m : M γ} {c : γ → CP} {R : γ → VP} (h : VE C te ps m (Ow c)) (hc : ∀ a p o G, (c a).P o G → G p = none → (R a).P (.ref p) (upd G p o)) : VE C te ps m (Fz R) := by
  intro σ G W H n Q Φ Ψ e st hm k x
  refine h σ G W H n Q Φ Ψ e st hm ?_ x
  intro a n' v G' W' H' hΦ s t r f
  obtain ⟨p, o, rfl, h1, h2, h3, h4⟩ := r
  have hw := f p rfl
  refine k a n' _ (upd G' p o) W' H' hΦ ⟨s.g.trans (same_upd h2), s.w, same_put s.gw h1, fun q x hq => ?_⟩ t (hc a p o G' h4 h2) trivial
  by_cases z : q = p
  · subst z; exact .inr (.inl hw)
  · rw [upd_ne z] at hq; exact s.ng q x hq
theorem ve_frL {C : Cfg} {α : Type} {te : TE} {ps : List SL} {R : α → VP} {m : M (List α)} (h : VE C te ps m (Ow (cLst R))) : VE C te ps m (Fz (rLst R)) :=
  ve_fr (α := α) h fun a p o G hc hp => by
    obtain ⟨vs, rfl, hv⟩ := hc
    exact ⟨p, vs, rfl, upd_same, hv.up (same_upd hp)⟩
end VL
namespace VL
open PySem PySem.Spec PyProof.Rows L2
section
variable {C : Cfg} {α β γ : Type} {ps : List SL}
/-! ### whole numbers, truth values, texts -/
theorem v2_i0 {g : Int → Int → V} (f : Int → Int → γ) (R : γ → VP) (h : ∀ i j G, (R (f i j)).P (g i j) G) : V2 C (rI0 g) rInt rInt (fun i j => M.pure (f i j)) (Fz R) := by
  intro i j v u σ G W H n Q Φ Ψ hv hu st hm k x
  exact ⟨i, j, hv, hu, k.hereF st hm (h i j G)⟩
theorem v2_add : V2 C (rI0 fun i j => .int (i + j)) rInt rInt (fun i j => M.pure (i + j)) (Fz rInt) := v2_i0 _ rInt fun _ _ _ => rfl
theorem v2_lt : V2 C (rI0 fun i j => .bl (decide (i < j))) rInt rInt (fun i j => M.pure (decide (i < j))) (Fz rBl) := v2_i0 _ rBl fun _ _ _ => rfl
theorem v2_le : V2 C (rI0 fun i j => .bl (decide (i ≤ j))) rInt rInt (fun i j => M.pure (decide (i ≤ j))) (Fz rBl) := v2_i0 _ rBl fun _ _ _ => rfl
theorem v2_gt : V2 C (rI0 fun i j => .bl (decide (j < i))) rInt rInt (fun i j => M.pure (decide (j < i))) (Fz rBl) := v2_i0 _ rBl fun _ _ _ => rfl
theorem v2_ic {c : Int → Int → Prop} {g : Int → Int → V} (f : Int → Int → γ) (R : γ → VP) (h : ∀ i j G, (R (f i j)).P (g i j) G) : V2 C (rI c g) rInt rInt (fun i j => M.when (c i j) (f i j)) (Fz R) := by
  intro i j v u σ G W H n Q Φ Ψ hv hu st hm k x
  exact ⟨i, j, hv, hu, hm.1, k.hereF st hm.2 (h i j G)⟩
theorem v2_mul : V2 C (rI CMulW fun i j => .int (i * j)) rInt rInt (fun i j => M.when (CMulW i j) (i * j)) (Fz rInt) := v2_ic _ rInt fun _ _ _ => rfl
theorem v2_mod : V2 C (rI (fun _ j => j ≠ 0) fun i j => .int (i.fmod j)) rInt rInt (fun i j => M.when (j ≠ 0) (i.fmod j)) (Fz rInt) := v2_ic (c := fun _ j => j ≠ 0) _ rInt fun _ _ _ => rfl
theorem v2_pow : V2 C (rI CPow fun i j => .int (i ^ j.toNat)) rInt rInt (fun i j => M.when (CPow i j) (i ^ j.toNat)) (Fz rInt) := v2_ic _ rInt fun _ _ _ => rfl
theorem v1_neg : V1 C (rU fun i => .int (-i)) rInt (fun i => M.pure (-i)) (Fz rInt) := by
  intro i v σ G W H n Q Φ Ψ hv st hm k x
  exact ⟨i, hv, k.hereF st hm rfl⟩
theorem dec_congr {p q : Prop} [Decidable p] [Decidable q] (h : p ↔ q) : decide p = decide q := by
  by_cases hp : p
  · rw [decide_eq_true hp, decide_eq_true (h.mp hp)]
  · rw [decide_eq_false hp, decide_eq_false fun hq => hp (h.mpr hq)]
theorem v2_eqI : V2 C rEq rInt rInt (fun i j => M.pure (decide (i = j))) (Fz rBl) := by
  intro i j v u σ G W H n Q Φ Ψ hv hu st hm k x
  have hv : v = .int i := hv
  have hu : u = .int j := hu
  subst hv hu
  exact ⟨rfl, k.hereF (a := decide (i = j)) st hm (congrArg V.bl (dec_congr (by simp)))⟩
theorem v2_catS : V2 C (fun x y H Q => ∃ i j, x = .str i ∧ y = .str j ∧ i.length + j.length ≤ sizeLine ∧ Q (.str (i ++ j)) H) rStr rStr (fun i j => M.when (i.length + j.length ≤ sizeLine) (i ++ j)) (Fz rStr) := by
  intro i j v u σ G W H n Q Φ Ψ hv hu st hm k x
  exact ⟨i, j, hv, hu, hm.1, k.hereF st hm.2 rfl⟩
theorem v2_isBl : V2 C rIsB rBl rBl (fun a b => M.pure (decide (a = b))) (Fz rBl) := by
  intro i j v u σ G W H n Q Φ Ψ hv hu st hm k x
  exact ⟨i, j, hv, hu, k.hereF st hm rfl⟩
def M.inS (a z : Str) : M Bool := fun Φ _ n => ∃ c, a = ⟨#[c]⟩ ∧ Φ (decide (c ∈ z.cps.toList)) n
def M.niS (a z : Str) : M Bool := fun Φ _ n => ∃ c, a = ⟨#[c]⟩ ∧ Φ (!decide (c ∈ z.cps.toList)) n
theorem v2_inSign : V2 C (fun x y H Q => ∃ (c : Nat) (z : Str), x = .str ⟨#[c]⟩ ∧ y = .str z ∧ Q (.bl (decide (c ∈ z.cps.toList))) H) rStr rStr M.inS (Fz rBl) := by
  rintro i j v u σ G W H n Q Φ Ψ hv hu st ⟨c, rfl, hm⟩ k x
  exact ⟨c, j, hv, hu, k.hereF st hm rfl⟩
theorem v2_niSign : V2 C (fun x y H Q => ∃ (c : Nat) (z : Str), x = .str ⟨#[c]⟩ ∧ y = .str z ∧ Q (.bl (!decide (c ∈ z.cps.toList))) H) rStr rStr M.niS (Fz rBl) := by
  rintro i j v u σ G W H n Q Φ Ψ hv hu st ⟨c, rfl, hm⟩ k x
  exact ⟨c, j, hv, hu, k.hereF st hm rfl⟩
/-! ### lists, tuples -/
def M.idx {α : Type} (xs : List α) (i : Int) : M α := fun Q _ n => ∃ x, atI xs i = some x ∧ Q x n
theorem reps.atI {R : α → VP} {xs : List α} {vs : List V} {G : Hp} {i : Int} {x : α} (h : reps R xs vs G) (e : L2.atI xs i = some x) : ∃ v, L2.atI vs i = some v ∧ (R x).P v G := by
  unfold L2.atI at e ⊢
  rw [h.len]
  cases hi : ixN xs.length i with
  | none => rw [hi] at e; cases e
  | some j =>
    rw [hi] at e
    exact h.get e
theorem v2_ixL {R : α → VP} : V2 C (rIxL C.K) (rLst R) rInt M.idx (Fz R) := by
  rintro xs i v u σ G W H n Q Φ Ψ ⟨p, vs, rfl, h1, h2⟩ hu st ⟨y, hy, hm⟩ k x
  obtain ⟨z, hz, hr⟩ := h2.atI hy
  exact ⟨p, vs, i, z, rfl, hu, SqL.of (st.gh _ _ h1), hz, k.hereF st hm hr⟩
def M.sgn (z : Str) (i : Int) : M Str := fun Φ _ n => z.length ≤ sizeLine ∧ ∃ c, L2.atI z.cps.toList i = some c ∧ Φ ⟨#[c]⟩ n
theorem v2_ixS : V2 C rIxS rStr rInt M.sgn (Fz rStr) := by
  rintro z i v u σ G W H n Q Φ Ψ hv hu st ⟨hl, c, hc, hm⟩ k x
  exact ⟨z, i, c, hv, hu, hl, hc, k.hereF st hm rfl⟩
theorem v2_catL {R : α → VP} : V2 C rCat (rLst R) (rLst R) (fun xs ys => M.when (xs.length + ys.length ≤ sizeLine) (xs ++ ys)) (Ow (cLst R)) := by
  rintro xs ys v u σ G W H n Q Φ Ψ ⟨p, vs, rfl, h1, h2⟩ ⟨q, us, rfl, h3, h4⟩ st ⟨hl, hm⟩ k x
  refine ⟨p, q, vs, us, rfl, rfl, st.gh _ _ h1, st.gh _ _ h3, by rw [h2.len, h4.len]; exact hl, fun r hr => k.newO (a := xs ++ ys) st hm hr ⟨_, rfl, h2.app h4⟩⟩
theorem RepL.len {ps : List VP} {vs : List V} {G : Hp} (h : RepL ps vs G) : vs.length = ps.length := by
  induction h with
  | nil => rfl
  | cons _ _ ih => rw [List.length_cons, List.length_cons, ih]
/-! ### displays -/
theorem ve_tup {t : TA} {m : M α} {Rs : α → List VP} (R : α → VP) (ht : VA C t ps m Rs) (hl : ∀ a, (Rs a).length ≤ 1000) (hR : ∀ a p vs G, G p = some (.tup vs) → RepL (Rs a) vs G → (R a).P (.ref p) G) : VE C (tTup t) ps m (Fz R) := by
  intro σ G W H n Q Φ Ψ e st hm k x
  refine ht σ G W H n _ Φ Ψ e st hm (fun a n' vs G' W' H' hΦ s t' r => ⟨?_, fun p hp => ?_⟩) x
  · rw [r.len]; exact size1000 (hl a)
  · have st' := st.stp s t'
    exact (k.stp s).newF (a := a) st' hΦ hp (hR a p vs _ upd_same (r.up (same_upd (st'.gfree hp))))
theorem ve_lst {t : TA} {m : M α} {Rs : α → List VP} (c : α → CP) (ht : VA C t ps m Rs) (hl : ∀ a, (Rs a).length ≤ 1000) (hR : ∀ a vs G, RepL (Rs a) vs G → (c a).P (.lst vs) G) : VE C (tLst t) ps m (Ow c) := by
  intro σ G W H n Q Φ Ψ e st hm k x
  refine ht σ G W H n _ Φ Ψ e st hm (fun a n' vs G' W' H' hΦ s t' r => ⟨?_, fun p hp => ?_⟩) x
  · rw [r.len]; exact size1000 (hl a)
  · exact (k.stp s).newO (a := a) (st.stp s t') hΦ hp (hR a vs G' r)
/-- another shape of the datum -/
theorem ve_map {te : TE} {m : M α} {R : α → SL} {S : β → SL} (f : α → β) (h : VE C te ps m R) (hR : ∀ a, R a = S (f a)) : VE C te ps (M.bind m fun a => M.pure (f a)) S := by
  intro σ G W H n Q Φ Ψ e st hm k x
  exact h σ G W H n Q (fun a n' => Φ (f a) n') Ψ e st hm (fun a n' v G' W' H' hΦ s t r fr => k (f a) n' v G' W' H' hΦ s t (by rw [← hR]; exact r) (by rw [← hR]; exact fr)) x
theorem ve_weakM {te : TE} {m : M α} {R : α → VP} {S : β → VP} (f : α → β) (h : VE C te ps m (Fz R)) (hR : ∀ a v G, (R a).P v G → (S (f a)).P v G) : VE C te ps (M.bind m fun a => M.pure (f a)) (Fz S) := by
  intro σ G W H n Q Φ Ψ e st hm k x
  exact h σ G W H n Q (fun a n' => Φ (f a) n') Ψ e st hm (fun a n' v G' W' H' hΦ s t r fr => k (f a) n' v G' W' H' hΦ s t (hR a v G' r) trivial) x
/-! ### slices -/
def cutL {α : Type} (xs : List α) (lo hi : Option Int) : List α := (xs.drop (HT.sIx xs.length 0 lo)).take (HT.sIx xs.length xs.length hi - HT.sIx xs.length 0 lo)
theorem reps.cut {R : α → VP} {xs : List α} {vs : List V} {G : Hp} (h : reps R xs vs G) (lo hi : Option Int) : reps R (cutL xs lo hi) (cutV vs lo hi) G := by
  unfold cutL cutV
  rw [h.len]
  exact (h.drop _).take _
def VO (C : Cfg) (to : TO) (ps : List SL) (m : M (Option Int)) : Prop :=
  ∀ σ G W H n (Q : Option Int → Hp → Prop) (Φ : Option Int → Nat → Prop) Ψ, Ee C.B ps σ G W → Stt C n G W H → m Φ Ψ n →
    (∀ b n G' W' H', Φ b n → Stp G W G' W' → C.Θ.T n W' H' → Q b H') → Xt C σ G W Ψ → to σ H Q
theorem vo_none : VO C tNoPart ps (M.pure none) := by
  intro σ G W H n Q Φ Ψ e st hm k x
  exact k none n G W H hm (Stp.refl st.gw) st.t
theorem vo_some {te : TE} {m : M Int} (h : VE C te ps m (Fz rInt)) : VO C (tPart te) ps (M.bind m fun i => M.pure (some i)) := by
  intro σ G W H n Q Φ Ψ e st hm k x
  exact h σ G W H n _ (fun a n' => Φ (some a) n') Ψ e st hm (fun a n' v G' W' H' hΦ s t r _ => ⟨a, r, k (some a) n' G' W' H' hΦ s t⟩) x
def V3 (C : Cfg) {α γ : Type} (r : V → Option Int → Option Int → Hp → VK → Prop) (Ra : α → VP) (m : α → Option Int → Option Int → M γ) (R : γ → SL) : Prop :=
  ∀ a v lo hi σ G W H n (Q : VK) Φ Ψ, (Ra a).P v G → Stt C n G W H → m a lo hi Φ Ψ n → Kt C R G W Q Φ → Xt C σ G W Ψ → r v lo hi H Q
theorem ve_sl {r : V → Option Int → Option Int → Hp → VK → Prop} {te : TE} {tl th : TO} {Ra : α → VP} {ma : M α} {ml mh : M (Option Int)} {mr : α → Option Int → Option Int → M γ} {R : γ → SL} (ha : VE C te ps ma (Fz Ra)) (hl : VO C tl ps ml) (hh : VO C th ps mh) (hr : V3 C r Ra mr R) :
    VE C (tSl r te tl th) ps (M.bind ma fun a => M.bind ml fun lo => M.bind mh fun hi => mr a lo hi) R := by
  intro σ G W H n Q Φ Ψ e st hm k x
  refine ha σ G W H n _ (fun a n' => M.bind ml (fun lo => M.bind mh fun hi => mr a lo hi) Φ Ψ n') Ψ e st hm ?_ x
  intro a n1 v G1 W1 H1 h1 s1 t1 r1 _
  have st1 := st.stp s1 t1
  refine hl σ G1 W1 H1 n1 _ (fun lo n' => M.bind mh (fun hi => mr a lo hi) Φ Ψ n') Ψ (e.stp s1) st1 h1 ?_ (x.stp s1)
  intro lo n2 G2 W2 H2 h2 s2 t2
  have st2 := st1.stp s2 t2
  have s12 := s1.trans s2
  refine hh σ G2 W2 H2 n2 _ (fun hi n' => mr a lo hi Φ Ψ n') Ψ (e.stp s12) st2 h2 ?_ (x.stp s12)
  intro hi n3 G3 W3 H3 h3 s3 t3
  have s13 := s12.trans s3
  exact hr a v lo hi σ G3 W3 H3 n3 Q Φ Ψ ((Ra a).up (s2.trans s3).g r1) (st2.stp s3 t3) h3 (k.stp s13) (x.stp s13)
theorem v3_slL {R : α → VP} : V3 C (rSlL C.K) (rLst R) (fun xs lo hi => M.pure (cutL xs lo hi)) (Ow (cLst R)) := by
  rintro xs v lo hi σ G W H n Q Φ Ψ ⟨p, vs, rfl, h1, h2⟩ st hm k x
  exact ⟨p, vs, rfl, SqL.of (st.gh _ _ h1), fun r hr => k.newO (a := cutL xs lo hi) st hm hr ⟨_, rfl, h2.cut lo hi⟩⟩
theorem v3_slS : V3 C rSlS rStr (fun z lo hi => M.when (z.length ≤ sizeLine) (cutS z lo hi)) (Fz rStr) := by
  rintro z v lo hi σ G W H n Q Φ Ψ hv st hm k x
  exact ⟨z, hv, hm.1, k.hereF st hm.2 rfl⟩
theorem ve_revL {R : α → VP} {te : TE} {m : M (List α)} (h : VE C te ps m (Fz (rLst R))) : VE C (tRevL C.K te) ps (M.bind m fun xs => M.pure xs.reverse) (Ow (cLst R)) := by
  intro σ G W H n Q Φ Ψ e st hm k x
  refine h σ G W H n _ (fun a n' => Φ a.reverse n') Ψ e st hm ?_ x
  rintro xs n1 v G1 W1 H1 h1 s1 t1 ⟨p, vs, rfl, h2, h3⟩ _
  have st1 := st.stp s1 t1
  exact ⟨p, vs, rfl, SqL.of (st1.gh _ _ h2), fun r hr => (k.stp s1).newO (a := xs.reverse) st1 h1 hr ⟨_, rfl, h3.rev⟩⟩
/-! ### built-ins -/
theorem vn_lenL {R : α → VP} : Vn C (fun xs H Q => ∃ p ys, xs = [.ref p] ∧ (SqL C.K H p ys ∨ SqT C.K H p ys) ∧ Q (.int ys.length) H) (fun q : List α × Unit => [rLst R q.1]) (fun q => M.pure (q.1.length : Int)) (Fz rInt) := by
  rintro q vs σ G W H n Q Φ Ψ (_ | ⟨⟨p, us, rfl, h1, h2⟩, _ | _⟩) st hm k x
  exact ⟨p, us, rfl, .inl (SqL.of (st.gh _ _ h1)), k.hereF (a := (q.1.length : Int)) st hm (by rw [h2.len]; rfl)⟩
theorem vn_lenS : Vn C (fun xs H Q => ∃ z, xs = [.str z] ∧ z.length ≤ sizeLine ∧ Q (.int z.length) H) (fun q : Str × Unit => [rStr q.1]) (fun q => M.when (q.1.length ≤ sizeLine) (q.1.length : Int)) (Fz rInt) := by
  rintro q vs σ G W H n Q Φ Ψ (_ | ⟨hv, _ | _⟩) st hm k x
  cases hv
  exact ⟨q.1, rfl, hm.1, k.hereF (a := (q.1.length : Int)) st hm.2 rfl⟩
theorem vn_intI : Vn C (fun xs H Q => (∃ i, xs = [.int i] ∧ Q (.int i) H) ∨ ∃ k, xs = [.bl k] ∧ Q (.int (if k then 1 else 0)) H) (fun q : Int × Unit => [rInt q.1]) (fun q => M.pure q.1) (Fz rInt) := by
  rintro q vs σ G W H n Q Φ Ψ (_ | ⟨hv, _ | _⟩) st hm k x
  cases hv
  exact .inl ⟨q.1, rfl, k.hereF (a := q.1) st hm rfl⟩
theorem vn_intB : Vn C (fun xs H Q => (∃ i, xs = [.int i] ∧ Q (.int i) H) ∨ ∃ k, xs = [.bl k] ∧ Q (.int (if k then 1 else 0)) H) (fun q : Bool × Unit => [rBl q.1]) (fun q => M.pure (if q.1 then (1 : Int) else 0)) (Fz rInt) := by
  rintro q vs σ G W H n Q Φ Ψ (_ | ⟨hv, _ | _⟩) st hm k x
  cases hv
  exact .inr ⟨q.1, rfl, k.hereF (a := if q.1 then (1 : Int) else 0) st hm rfl⟩
def M.strI (i : Int) : M Str := M.when (i.natAbs.log2 < 1920) (Str.ofString (toString i))
theorem vn_strI : Vn C (fun xs H Q => ∃ i, xs = [.int i] ∧ i.natAbs.log2 < 1920 ∧ Q (.str (toString i)) H) (fun q : Int × Unit => [rInt q.1]) (fun q => M.strI q.1) (Fz rStr) := by
  rintro q vs σ G W H n Q Φ Ψ (_ | ⟨hv, _ | _⟩) st hm k x
  cases hv
  exact ⟨q.1, rfl, hm.1, k.hereF (a := Str.ofString (toString q.1)) st hm.2 rfl⟩
theorem vn_listL {R : α → VP} : Vn C (fun xs H Q => ∃ p ys, xs = [.ref p] ∧ (SqL C.K H p ys ∨ SqT C.K H p ys) ∧ ∀ l, H l = none → Q (.ref l) (upd H l (.lst ys))) (fun q : List α × Unit => [rLst R q.1]) (fun q => M.pure q.1) (Ow (cLst R)) := by
  rintro q vs σ G W H n Q Φ Ψ (_ | ⟨⟨p, us, rfl, h1, h2⟩, _ | _⟩) st hm k x
  exact ⟨p, us, rfl, .inl (SqL.of (st.gh _ _ h1)), fun r hr => k.newO (a := q.1) st hm hr ⟨_, rfl, h2⟩⟩
theorem vn_tupL {R : α → VP} : Vn C (fun xs H Q => ∃ p ys, xs = [.ref p] ∧ ((SqL C.K H p ys ∧ ∀ l, H l = none → Q (.ref l) (upd H l (.tup ys))) ∨ (SqT C.K H p ys ∧ Q (.ref p) H))) (fun q : List α × Unit => [rLst R q.1]) (fun q => M.pure q.1) (Fz (rTup R)) := by
  rintro q vs σ G W H n Q Φ Ψ (_ | ⟨⟨p, us, rfl, h1, h2⟩, _ | _⟩) st hm k x
  exact ⟨p, us, rfl, .inl ⟨SqL.of (st.gh _ _ h1), fun r hr => k.newF (a := q.1) st hm hr ⟨r, _, rfl, upd_same, h2.up (same_upd (st.gfree hr))⟩⟩⟩
theorem reps.map {G : Hp} {g : α → V} {R : α → VP} (hR : ∀ a v G, (R a).P v G ↔ v = g a) : ∀ {xs : List α} {vs : List V}, reps R xs vs G → vs = xs.map g
  | [], [], _ => rfl
  | x :: xs, v :: vs, h => by rw [List.map_cons, ← (hR x v G).mp h.1, ← reps.map hR h.2]
theorem reps.of_map {G : Hp} {g : α → V} {R : α → VP} (hR : ∀ a v G, (R a).P v G ↔ v = g a) : ∀ (xs : List α), reps R xs (xs.map g) G
  | [] => trivial
  | x :: xs => ⟨(hR x _ G).mpr rfl, reps.of_map hR xs⟩
theorem reps.ints {G : Hp} {xs : List Int} {vs : List V} (h : reps rInt xs vs G) : vs = xs.map V.int := h.map fun _ _ _ => Iff.rfl
theorem reps.strs {G : Hp} {xs : List Str} {vs : List V} (h : reps rStr xs vs G) : vs = xs.map V.str := h.map fun _ _ _ => Iff.rfl
theorem reps.bls {G : Hp} {xs : List Bool} {vs : List V} (h : reps rBl xs vs G) : vs = xs.map V.bl := h.map fun _ _ _ => Iff.rfl
theorem reps.of_strs {G : Hp} (xs : List Str) : reps rStr xs (xs.map V.str) G := reps.of_map (fun _ _ _ => Iff.rfl) xs
theorem vn_all : Vn C (rAll C.K) (fun q : List Bool × Unit => [rLst rBl q.1]) (fun q => M.pure (q.1.all id)) (Fz rBl) := by
  rintro q vs σ G W H n Q Φ Ψ (_ | ⟨⟨p, us, rfl, h1, h2⟩, _ | _⟩) st hm k x
  rw [h2.bls] at h1
  exact ⟨p, q.1, rfl, SqL.of (st.gh _ _ h1), k.hereF (a := q.1.all id) st hm rfl⟩
def M.max (xs : List Int) : M Int := fun Φ _ n => 0 < xs.length ∧ ∀ m, m ∈ xs → (∀ y, y ∈ xs → y ≤ m) → Φ m n
def M.min (xs : List Int) : M Int := fun Φ _ n => 0 < xs.length ∧ ∀ m, m ∈ xs → (∀ y, y ∈ xs → m ≤ y) → Φ m n
theorem vn_max : Vn C (rMax C.K) (fun q : List Int × Unit => [rLst rInt q.1]) (fun q => M.max q.1) (Fz rInt) := by
  rintro q vs σ G W H n Q Φ Ψ (_ | ⟨⟨p, us, rfl, h1, h2⟩, _ | _⟩) st hm k x
  rw [h2.ints] at h1
  exact ⟨p, q.1, rfl, SqL.of (st.gh _ _ h1), hm.1, fun m h3 h4 => k.hereF (a := m) st (hm.2 m h3 h4) rfl⟩
def M.sortI (xs : List Int) : M (List Int) := fun Φ _ n => xs.length < 64 ∧ ∀ ns : List Int, ns.Perm xs → ns.Pairwise (· ≤ ·) → Φ ns n
def M.sortS (xs : List Str) : M (List Str) := fun Φ _ n => xs.length < 64 ∧ ∀ ns : List Str, ns.Perm xs → sortedS ns = true → Φ ns n
/-! ### deep data: == -/
/-- a kind of values that are data -/
class IsD {α : Type} (R : α → VP) where
  d : α → PyData
  dq : ∀ a v G, (R a).P v G → Dq G v (d a)
instance : IsD rInt := ⟨.int, fun a v G h => by have h : v = .int a := h; subst h; exact .int a⟩
instance : IsD rBl := ⟨.bool, fun a v G h => by have h : v = .bl a := h; subst h; exact .bl a⟩
instance : IsD rStr := ⟨.str, fun a v G h => by have h : v = .str a := h; subst h; exact .str a⟩
instance : IsD rNon := ⟨fun _ => .none, fun a v G h => by have h : v = .non := h; subst h; exact .non⟩
instance : IsD rDat := ⟨id, fun _ _ _ h => h⟩
theorem reps.dq {R : α → VP} [I : IsD R] {G : Hp} : ∀ {xs : List α} {vs : List V}, reps R xs vs G → DqAll G vs (xs.map (IsD.d R))
  | [], [], _ => .nil
  | _ :: _, _ :: _, h => .cons (I.dq _ _ _ h.1) (reps.dq h.2)
instance {R : α → VP} [IsD R] : IsD (rLst R) := ⟨fun xs => .list (xs.map (IsD.d R)), fun xs v G ⟨p, vs, e, h1, h2⟩ => by subst e; exact .lst h1 h2.dq⟩
instance {R : α → VP} [IsD R] : IsD (rTup R) := ⟨fun xs => .tuple (xs.map (IsD.d R)), fun xs v G ⟨p, vs, e, h1, h2⟩ => by subst e; exact .tup h1 h2.dq⟩
instance {R : α → VP} {S : β → VP} [I : IsD R] [J : IsD S] : IsD (rPr R S) := ⟨fun q => .tuple [IsD.d R q.1, IsD.d S q.2], fun q v G ⟨p, a, b, e, h1, h2, h3⟩ => by
  subst e; exact .tup h1 (.cons (I.dq _ _ _ h2) (.cons (J.dq _ _ _ h3) .nil))⟩
instance {R : α → VP} [I : IsD R] : IsD (rOpt R) := ⟨fun q => match q with | none => .none | some a => IsD.d R a, fun q v G h => by
  cases q with
  | none => have h : v = .non := h; subst h; exact .non
  | some a => exact I.dq a v G h⟩
def M.eqD (d e : PyData) : M Bool := fun Q _ n => (SeqAt.shaped d = true ∧ SeqAt.shaped e = true) ∧ Q (PyData.eqv d e) n
def M.neD (d e : PyData) : M Bool := fun Q _ n => (SeqAt.shaped d = true ∧ SeqAt.shaped e = true) ∧ Q (!PyData.eqv d e) n
theorem dq_sh {K : PySem.W.Frag} {G : Hp} {v : V} {d : PyData} (h : Dq G v d) (s : SeqAt.shaped d = true) : Dp K G v d := dq_dp h (SeqAt.canLay_of_shaped s)
theorem v2_eqD {R : α → VP} {S : β → VP} [I : IsD R] [J : IsD S] : V2 C (rEqD C.K) R S (fun a b => M.eqD (IsD.d R a) (IsD.d S b)) (Fz rBl) := by
  rintro a b v u σ G W H n Q Φ Ψ hv hu st ⟨⟨h1, h2⟩, hm⟩ k x
  exact ⟨_, _, dp_up st.gh (dq_sh (I.dq a v G hv) h1), dp_up st.gh (dq_sh (J.dq b u G hu) h2), h1, h2, k.hereF (a := PyData.eqv (IsD.d R a) (IsD.d S b)) st hm rfl⟩
theorem v2_neD {R : α → VP} {S : β → VP} [I : IsD R] [J : IsD S] : V2 C (rNeD C.K) R S (fun a b => M.neD (IsD.d R a) (IsD.d S b)) (Fz rBl) := by
  rintro a b v u σ G W H n Q Φ Ψ hv hu st ⟨⟨h1, h2⟩, hm⟩ k x
  exact ⟨_, _, dp_up st.gh (dq_sh (I.dq a v G hv) h1), dp_up st.gh (dq_sh (J.dq b u G hu) h2), h1, h2, k.hereF (a := !PyData.eqv (IsD.d R a) (IsD.d S b)) st hm rfl⟩
def M.inD (d : PyData) (ds : List PyData) : M Bool := fun Q _ n => (SeqAt.shaped d = true ∧ SeqAt.shaped (.list ds) = true) ∧ Q (ds.any fun z => PyData.eqv z d) n
/-! ### in, of flat things -/
theorem v2_inL : V2 C (rIn C.K false) rStr (rLst rStr) (fun a b => M.pure (decide (a ∈ b))) (Fz rBl) := by
  rintro a b v u σ G W H n Q Φ Ψ hv ⟨p, vs, rfl, h1, h2⟩ st hm k x
  cases hv
  rw [h2.strs] at h1
  exact ⟨p, _, rfl, .inl (SqL.of (st.gh _ _ h1)), rfl, strs_flat _, k.hereF (a := decide (a ∈ b)) st hm (congrArg V.bl (inV_strs a b))⟩
theorem v2_inT : V2 C (rIn C.K false) rStr (rTup rStr) (fun a b => M.pure (decide (a ∈ b))) (Fz rBl) := by
  rintro a b v u σ G W H n Q Φ Ψ hv ⟨p, vs, rfl, h1, h2⟩ st hm k x
  cases hv
  rw [h2.strs] at h1
  exact ⟨p, _, rfl, .inr (SqT.of (st.gh _ _ h1)), rfl, strs_flat _, k.hereF (a := decide (a ∈ b)) st hm (congrArg V.bl (inV_strs a b))⟩
theorem v2_niT : V2 C (rIn C.K true) rStr (rTup rStr) (fun a b => M.pure (!decide (a ∈ b))) (Fz rBl) := by
  rintro a b v u σ G W H n Q Φ Ψ hv ⟨p, vs, rfl, h1, h2⟩ st hm k x
  cases hv
  rw [h2.strs] at h1
  exact ⟨p, _, rfl, .inr (SqT.of (st.gh _ _ h1)), rfl, strs_flat _, k.hereF (a := !decide (a ∈ b)) st hm (congrArg (fun c => V.bl (!c)) (inV_strs a b))⟩
end
end VL
namespace VL
open PySem PySem.Spec PyProof.Rows L2
/-! ### slots, stored to -/
theorem getElem_set {α : Type} {l : List α} {i k : Nat} {x y : α} (h : (l.set i x)[k]? = some y) : (k = i ∧ y = x ∧ i < l.length) ∨ (k ≠ i ∧ l[k]? = some y) := by
  by_cases e : i = k
  · subst e
    by_cases hl : i < l.length
    · rw [List.getElem?_set_self hl] at h
      exact .inl ⟨rfl, (Option.some.inj h).symm, hl⟩
    · rw [List.getElem?_eq_none (by rw [List.length_set]; omega)] at h
      cases h
  · rw [List.getElem?_set_ne e] at h
    exact .inr ⟨fun z => e z.symm, h⟩
section
variable {B : Hp} {ps : List SL} {σ : L2.St} {G W : Hp} {i : Nat} {s : SL} {v : V}
theorem Ee.set (e : Ee B ps σ G W) (r : Res B s v G W) (f : ∀ c, s = .ow c → ∀ k d a, k ≠ i → ps[k]? = some (.ow d) → σ[k]? = some (some (.ref a)) → v ≠ .ref a) : Ee B (ps.set i s) (σ.set i (some v)) G W := by
  refine ⟨by rw [List.length_set, List.length_set]; exact e.len, fun {k t} h n => ?_, fun {k l c d a} hkl h1 h2 h3 h4 => ?_⟩
  · rcases getElem_set h with ⟨rfl, rfl, hl⟩ | ⟨hne, h⟩
    · exact ⟨v, by rw [List.getElem?_set_self (by rw [e.len]; exact hl)], r⟩
    · obtain ⟨u, hu, hr⟩ := e.at_ h n
      exact ⟨u, by rw [List.getElem?_set_ne (fun z => hne z.symm)]; exact hu, hr⟩
  · rcases getElem_set h1 with ⟨rfl, e1, hl⟩ | ⟨hn1, h1⟩
    · rcases getElem_set h2 with ⟨rfl, _, _⟩ | ⟨hn2, h2⟩
      · exact hkl rfl
      · rw [List.getElem?_set_self (by rw [e.len]; exact hl)] at h3
        rw [List.getElem?_set_ne (fun z => hn2 z.symm)] at h4
        exact f c e1.symm l d a hn2 h2 h4 (by injection h3 with h3; injection h3)
    · rw [List.getElem?_set_ne (fun z => hn1 z.symm)] at h3
      rcases getElem_set h2 with ⟨rfl, e2, hl⟩ | ⟨hn2, h2⟩
      · rw [List.getElem?_set_self (by rw [e.len]; exact hl)] at h4
        exact f d e2.symm k c a hkl ((getElem_set h1).resolve_left fun q => hkl q.1).2 h3 (by injection h4 with h4; injection h4)
      · rw [List.getElem?_set_ne (fun z => hn2 z.symm)] at h4
        exact e.sep hkl h1 h2 h3 h4
theorem Ee.setF {p : VP} (e : Ee B ps σ G W) (r : p.P v G) : Ee B (ps.set i (.fr p)) (σ.set i (some v)) G W := e.set (s := .fr p) r fun _ h => nomatch h
theorem Ee.putOwn {c c' : CP} {p : Addr} {o : HO} (e : Ee B ps σ G W) (hi : ps[i]? = some (.ow c)) (hσ : σ[i]? = some (some (.ref p))) (hc : c'.P o G) : Ee B (ps.set i (.ow c')) σ G (upd W p o) := by
  obtain ⟨u, hu, a, q, e1, hw, hg, hb, _⟩ := e.at_ hi (by simp)
  rw [hσ] at hu
  cases hu
  cases e1
  refine ⟨by rw [List.length_set]; exact e.len, fun {k t} h n => ?_, fun {k l d d' a} hkl h1 h2 h3 h4 => ?_⟩
  · rcases getElem_set h with ⟨rfl, rfl, hl⟩ | ⟨hne, h⟩
    · exact ⟨_, hσ, p, o, rfl, upd_same, hg, hb, hc⟩
    · obtain ⟨v, hv, hr⟩ := e.at_ h n
      refine ⟨v, hv, ?_⟩
      cases t with
      | un => trivial
      | fr _ => exact hr
      | bo _ => exact hr
      | ow d =>
        obtain ⟨a, q, e1, hw', hg', hb', hc'⟩ := hr
        refine ⟨a, q, e1, ?_, hg', hb', hc'⟩
        rw [upd_ne]
        · exact hw'
        · rintro rfl
          subst e1
          exact e.sep hne h hi hv hσ
  · have f : ∀ {m : Nat} {d : CP}, (ps.set i (.ow c'))[m]? = some (.ow d) → ∃ d', ps[m]? = some (.ow d') := fun {m d} h => by
      rcases getElem_set h with ⟨rfl, _, _⟩ | ⟨_, h⟩
      · exact ⟨_, hi⟩
      · exact ⟨_, h⟩
    obtain ⟨_, h1⟩ := f h1
    obtain ⟨_, h2⟩ := f h2
    exact e.sep hkl h1 h2 h3 h4
/-- less is known -/
inductive Le : List SL → List SL → Prop
  | nil : Le [] []
  | un {p l s} : Le p l → Le (.un :: p) (s :: l)
  | same {p l s} : Le p l → Le (s :: p) (s :: l)
theorem Le.get {p l : List SL} (h : Le p l) : p.length = l.length ∧ ∀ {k : Nat} {s : SL}, p[k]? = some s → s ≠ .un → l[k]? = some s := by
  induction h with
  | nil => exact ⟨rfl, fun e _ => by simp at e⟩
  | @un p l t _ ih =>
    refine ⟨by rw [List.length_cons, List.length_cons, ih.1], fun {k s} e n => ?_⟩
    cases k with
    | zero => simp at e; exact absurd e.symm n
    | succ k => simp at e ⊢; exact ih.2 e n
  | @same p l t _ ih =>
    refine ⟨by rw [List.length_cons, List.length_cons, ih.1], fun {k s} e n => ?_⟩
    cases k with
    | zero => simpa using e
    | succ k => simp at e ⊢; exact ih.2 e n
theorem Le.refl : ∀ l : List SL, Le l l
  | [] => .nil
  | _ :: l => .same (Le.refl l)
theorem Ee.le {ps' : List SL} (e : Ee B ps σ G W) (h : Le ps' ps) : Ee B ps' σ G W :=
  ⟨by rw [h.get.1]; exact e.len, fun a b => e.at_ (h.get.2 a b) b, fun n a b => e.sep n (h.get.2 a (by simp)) (h.get.2 b (by simp))⟩
theorem Ee.wipe (e : Ee B ps σ G W) : ∀ {vs : List Nat}, (∀ k ∈ vs, ps[k]? = some .un) → Ee B ps (wipe σ vs) G W
  | [], _ => e
  | k :: vs, h => by
    have ih := e.wipe (vs := vs) fun m hm => h m (List.mem_cons_of_mem _ hm)
    have hk := h k List.mem_cons_self
    refine ⟨by unfold L2.wipe; rw [List.length_set]; exact ih.len, fun {m t} a n => ?_, fun {m l c d x} hml a b h3 h4 => ?_⟩
    · obtain ⟨u, hu, hr⟩ := ih.at_ a n
      refine ⟨u, ?_, hr⟩
      unfold L2.wipe
      rw [List.getElem?_set_ne]
      · exact hu
      · rintro rfl; rw [hk] at a; exact n (Option.some.inj a).symm
    · have g : ∀ {m : Nat} {x : Addr}, ((L2.wipe σ vs).set k none)[m]? = some (some (.ref x)) → (L2.wipe σ vs)[m]? = some (some (.ref x)) := fun {m x} q => by
        rcases getElem_set q with ⟨_, q, _⟩ | ⟨_, q⟩
        · cases q
        · exact q
      exact ih.sep hml a b (g h3) (g h4)
end
theorem Stt.put {C : Cfg} {n : Nat} {G W H : Hp} {p : Addr} {u o : HO} (s : Stt C n G W H) (h : W p = some u) (hg : G p = none) (hb : C.B p = none) (nu : NT u := by exact ⟨(fun _ h => nomatch h), (fun _ h => nomatch h)⟩) (no : NT o := by exact ⟨(fun _ h => nomatch h), (fun _ h => nomatch h)⟩) : Stt C n G (upd W p o) (upd H p o) where
  t := C.Θ.put s.t h nu no
  gw := s.gw.unseen hg
  bw := s.bw.unseen hb
  g0 := s.g0
  gb := s.gb
theorem Stp.put {G W G' W' : Hp} {p : Addr} {o : HO} (s : Stp G W G' W') (h : W p = none) (hg : G' p = none) : Stp G W G' (upd W' p o) :=
  ⟨s.g, s.w.unseen h, s.gw.unseen hg, s.ng⟩
/-! ### tests -/
section
variable {C : Cfg} {α β γ : Type} {ps : List SL} {te ta tb : TE} {tt tu : TT} {m mb : M Bool}
theorem vt_test (h : VE C te ps m (Fz rBl)) : VT C (tTest te) ps m := by
  intro σ G W H n Q Φ Ψ e st hm k x
  exact h σ G W H n _ Φ Ψ e st hm (fun b n' v G' W' H' hΦ s t r _ => ⟨b, r, k b n' G' W' H' hΦ s t⟩) x
theorem vt_b (h : VE C te ps m (Fz rBl)) : VT C (tB te) ps m := by
  intro σ G W H n Q Φ Ψ e st hm k x
  exact h σ G W H n _ Φ Ψ e st hm (fun b n' v G' W' H' hΦ s t r _ => ⟨b, r, k b n' G' W' H' hΦ s t⟩) x
theorem vt_and (h : VT C tt ps m) (h2 : VT C tu ps mb) : VT C (tAnd tt tu) ps (M.bind m fun b => M.ite b mb (M.pure false)) := by
  intro σ G W H n Q Φ Ψ e st hm k x
  refine h σ G W H n _ (fun b n' => M.ite b mb (M.pure false) Φ Ψ n') Ψ e st hm (fun b n' G' W' H' hΦ s t => ?_) x
  cases b with
  | true => exact iteT (h2 σ G' W' H' n' Q Φ Ψ (e.stp s) (st.stp s t) hΦ (fun b n2 G2 W2 H2 q s2 t2 => k b n2 G2 W2 H2 q (s.trans s2) t2) (x.stp s))
  | false => exact iteF (k false n' G' W' H' hΦ s t)
theorem vt_or (h : VT C tt ps m) (h2 : VT C tu ps mb) : VT C (tOr tt tu) ps (M.bind m fun b => M.ite b (M.pure true) mb) := by
  intro σ G W H n Q Φ Ψ e st hm k x
  refine h σ G W H n _ (fun b n' => M.ite b (M.pure true) mb Φ Ψ n') Ψ e st hm (fun b n' G' W' H' hΦ s t => ?_) x
  cases b with
  | true => exact iteT (k true n' G' W' H' hΦ s t)
  | false => exact iteF (h2 σ G' W' H' n' Q Φ Ψ (e.stp s) (st.stp s t) hΦ (fun b n2 G2 W2 H2 q s2 t2 => k b n2 G2 W2 H2 q (s.trans s2) t2) (x.stp s))
theorem vt_not (h : VT C tt ps m) : VT C (tNot tt) ps (M.bind m fun b => M.pure (!b)) := by
  intro σ G W H n Q Φ Ψ e st hm k x
  exact h σ G W H n _ (fun b n' => Φ (!b) n') Ψ e st hm (fun b n' G' W' H' hΦ s t => k (!b) n' G' W' H' hΦ s t) x
/-! ### and, or, not, if .. else as values; chains -/
theorem ve_and (h : VE C ta ps m (Fz rBl)) (h2 : VE C tb ps mb (Fz rBl)) : VE C (tAndV ta tb) ps (M.bind m fun b => M.ite b mb (M.pure false)) (Fz rBl) := by
  intro σ G W H n Q Φ Ψ e st hm k x
  refine h σ G W H n _ (fun b n' => M.ite b mb (M.pure false) Φ Ψ n') Ψ e st hm (fun b n' v G' W' H' hΦ s t r _ => ⟨b, r, ?_⟩) x
  have st' := st.stp s t
  cases b with
  | true => exact iteT (h2 σ G' W' H' n' Q Φ Ψ (e.stp s) st' hΦ (k.stp s) (x.stp s))
  | false => exact iteF ((k.stp s).hereF (a := false) st' hΦ rfl)
theorem ve_or (h : VE C ta ps m (Fz rBl)) (h2 : VE C tb ps mb (Fz rBl)) : VE C (tOrV ta tb) ps (M.bind m fun b => M.ite b (M.pure true) mb) (Fz rBl) := by
  intro σ G W H n Q Φ Ψ e st hm k x
  refine h σ G W H n _ (fun b n' => M.ite b (M.pure true) mb Φ Ψ n') Ψ e st hm (fun b n' v G' W' H' hΦ s t r _ => ⟨b, r, ?_⟩) x
  have st' := st.stp s t
  cases b with
  | true => exact iteT ((k.stp s).hereF (a := true) st' hΦ rfl)
  | false => exact iteF (h2 σ G' W' H' n' Q Φ Ψ (e.stp s) st' hΦ (k.stp s) (x.stp s))
theorem ve_not (h : VE C ta ps m (Fz rBl)) : VE C (tNotV ta) ps (M.bind m fun b => M.pure (!b)) (Fz rBl) := by
  intro σ G W H n Q Φ Ψ e st hm k x
  exact h σ G W H n _ (fun b n' => Φ (!b) n') Ψ e st hm (fun b n' v G' W' H' hΦ s t r _ => ⟨b, r, (k.stp s).hereF (a := !b) (st.stp s t) hΦ rfl⟩) x
/-- a < b < c -/
theorem ve_chain {r r' : R2} {tc : TE} {Ra : α → VP} {Rb : β → VP} {Rc : γ → VP} {ma : M α} {mb : M β} {mc : M γ} {f : α → β → M Bool} {g : β → γ → M Bool} (ha : VE C ta ps ma (Fz Ra)) (hb : VE C tb ps mb (Fz Rb)) (hc : VE C tc ps mc (Fz Rc))
    (h1 : V2 C r Ra Rb f (Fz rBl)) (h2 : V2 C r' Rb Rc g (Fz rBl)) : VE C (tChain r r' ta tb tc) ps (M.bind ma fun a => M.bind mb fun b => M.bind (f a b) fun k => M.ite k (M.bind mc fun c => g b c) (M.pure false)) (Fz rBl) := by
  intro σ G W H n Q Φ Ψ e st hm k x
  refine ha σ G W H n _ (fun a n' => M.bind mb (fun b => M.bind (f a b) fun k => M.ite k (M.bind mc fun c => g b c) (M.pure false)) Φ Ψ n') Ψ e st hm ?_ x
  intro a n1 v G1 W1 H1 hm1 s1 t1 r1 _
  have st1 := st.stp s1 t1
  refine hb σ G1 W1 H1 n1 _ (fun b n' => M.bind (f a b) (fun k => M.ite k (M.bind mc fun c => g b c) (M.pure false)) Φ Ψ n') Ψ (e.stp s1) st1 hm1 ?_ (x.stp s1)
  intro b n2 u G2 W2 H2 hm2 s2 t2 r2 _
  have st2 := st1.stp s2 t2
  have s12 := s1.trans s2
  refine h1 a b v u σ G2 W2 H2 n2 _ (fun k n' => M.ite k (M.bind mc fun c => g b c) (M.pure false) Φ Ψ n') Ψ ((Ra a).up s2.g r1) r2 st2 hm2 ?_ (x.stp s12)
  intro c n3 z G3 W3 H3 hm3 s3 t3 r3 _
  have st3 := st2.stp s3 t3
  have s13 := s12.trans s3
  refine ⟨c, r3, ?_⟩
  cases c with
  | false => exact iteF ((k.stp s13).hereF (a := false) st3 hm3 rfl)
  | true =>
    refine iteT (hc σ G3 W3 H3 n3 _ (fun c n' => g b c Φ Ψ n') Ψ (e.stp s13) st3 hm3 ?_ (x.stp s13))
    intro d n4 w G4 W4 H4 hm4 s4 t4 r4 _
    have s14 := s13.trans s4
    exact h2 b d u w σ G4 W4 H4 n4 Q Φ Ψ ((Rb b).up (s3.trans s4).g r2) r4 (st3.stp s4 t4) hm4 (k.stp s14) (x.stp s14)
/-! ### what is walked -/
structure WalkV (C : Cfg) (J : It) (xs : List β) (R : β → VP) (G0 : Hp) : Prop where
  goes : ∀ i n G W H, i < xs.length → Stt C n G W H → Same G0 G → J.go i H
  stops : ∀ n G W H, Stt C n G W H → Same G0 G → J.stop xs.length H
  yields : ∀ i n G W H v H', i < xs.length → Stt C n G W H → Same G0 G → J.yld i H v H' → ∃ x G' W', xs[i]? = some x ∧ Stp G W G' W' ∧ C.Θ.T n W' H' ∧ (R x).P v G'
def VI (C : Cfg) (wi : TI) (ps : List SL) (m : M (List β)) (R : β → VP) : Prop :=
  ∀ σ G W H n (Q : It → Hp → Prop) Φ Ψ, Ee C.B ps σ G W → Stt C n G W H → m Φ Ψ n →
    (∀ xs n' J G' W' H', Φ xs n' → Stp G W G' W' → C.Θ.T n' W' H' → WalkV C J xs R G' → Q J H') → Xt C σ G W Ψ → wi σ H Q
theorem vi_list {R : β → VP} {mx : M (List β)} (h : VE C te ps mx (Fz (rLst R))) : VI C (iList C.K te) ps mx R := by
  intro σ G W H n Q Φ Ψ e st hm k x
  refine h σ G W H n _ Φ Ψ e st hm ?_ x
  rintro xs n' v G' W' H' hΦ s t ⟨p, vs, rfl, h1, h2⟩ _
  have st' := st.stp s t
  refine ⟨p, rfl, ⟨vs, SqL.of (st'.gh _ _ h1)⟩, k xs n' _ G' W' H' hΦ s t ⟨fun i n G W H hi q e => ?_, fun n G W H q e => ?_, fun i n G W H v H' hi q e y => ?_⟩⟩
  · have := q.gh _ _ (e _ _ h1)
    rw [← h2.len] at hi
    exact ⟨vs, vs[i], SqL.of this, List.getElem?_eq_getElem hi⟩
  · exact ⟨vs, SqL.of (q.gh _ _ (e _ _ h1)), by rw [h2.len]; exact Nat.le_refl _⟩
  · obtain ⟨rfl, y⟩ := y
    obtain ⟨x, hx, hr⟩ := h2.get' (y vs (SqL.of (q.gh _ _ (e _ _ h1))))
    exact ⟨x, G, W, hx, Stp.refl q.gw, q.t, (R x).up e hr⟩
theorem vi_tup {R : β → VP} {mx : M (List β)} (h : VE C te ps mx (Fz (rTup R))) : VI C (iTup C.K te) ps mx R := by
  intro σ G W H n Q Φ Ψ e st hm k x
  refine h σ G W H n _ Φ Ψ e st hm ?_ x
  rintro xs n' v G' W' H' hΦ s t ⟨p, vs, rfl, h1, h2⟩ _
  have st' := st.stp s t
  have g : ∀ {n G W H}, Stt C n G W H → Same G' G → SqT C.K H p vs := fun q e => SqT.of ((e.trans q.gh) _ _ h1)
  refine ⟨p, rfl, ⟨vs, SqT.of (st'.gh _ _ h1)⟩, k xs n' _ G' W' H' hΦ s t ⟨fun i n G W H hi q e => ?_, fun n G W H q e => ?_, fun i n G W H v H' hi q e y => ?_⟩⟩
  · rw [← h2.len] at hi
    exact ⟨vs, vs[i], g q e, List.getElem?_eq_getElem hi⟩
  · exact ⟨vs, g q e, by rw [h2.len]; exact Nat.le_refl _⟩
  · obtain ⟨rfl, y⟩ := y
    obtain ⟨x, hx, hr⟩ := h2.get' (y vs (g q e))
    exact ⟨x, G, W, hx, Stp.refl q.gw, q.t, (R x).up e hr⟩
def M.rng (lo hi : Int) : M (List Int) := fun Q _ n => (-(2 ^ 62) ≤ lo ∧ lo < 2 ^ 62 ∧ -(2 ^ 62) ≤ hi ∧ hi < 2 ^ 62) ∧ Q ((List.range (hi - lo).toNat).map fun k : Nat => lo + (k : Int)) n
theorem walk_rng (lo : Int) (k : Nat) (G0 : Hp) : WalkV C (Itr lo k) ((List.range k).map fun j : Nat => lo + (j : Int)) rInt G0 := by
  have hl : ((List.range k).map fun j : Nat => lo + (j : Int)).length = k := by rw [List.length_map, List.length_range]
  refine ⟨fun i n G W H hi q e => by rw [hl] at hi; exact hi, fun n G W H q e => by rw [hl]; exact Nat.le_refl _, fun i n G W H v H' hi q e y => ?_⟩
  obtain ⟨rfl, rfl⟩ := y
  rw [hl] at hi
  exact ⟨lo + (i : Int), G, W, by rw [List.getElem?_map, List.getElem?_range hi]; rfl, Stp.refl q.gw, q.t, rfl⟩
theorem vi_range1 {mx : M Int} (h : VE C te ps mx (Fz rInt)) : VI C (iRng1 (tCons te tNil)) ps (M.bind mx fun j => M.rng 0 j) rInt := by
  intro σ G W H n Q Φ Ψ e st hm k x
  refine h σ G W H n _ (fun j n' => M.rng 0 j Φ Ψ n') Ψ e st hm ?_ x
  rintro j n' v G' W' H' hΦ s t r _
  obtain ⟨⟨_, _, h1, h2⟩, hΦ⟩ := hΦ
  rw [show j - 0 = j by omega] at hΦ
  exact ⟨j, by rw [show v = .int j from r], h1, h2, k _ n' _ G' W' H' hΦ s t (walk_rng 0 j.toNat G')⟩
def signs (z : Str) : List Str := z.cps.toList.map fun c => (⟨#[c]⟩ : Str)
theorem vi_str {mx : M Str} (h : VE C te ps mx (Fz rStr)) : VI C (iStr te) ps (M.bind mx fun z => M.pure (signs z)) rStr := by
  intro σ G W H n Q Φ Ψ e st hm k x
  refine h σ G W H n _ (fun z n' => Φ (signs z) n') Ψ e st hm ?_ x
  rintro z n' v G' W' H' hΦ s t r _
  have hl : (signs z).length = z.cps.size := by unfold signs; simp
  refine ⟨z, r, k _ n' _ G' W' H' hΦ s t ⟨fun i n G W H hi q e => by rw [hl] at hi; exact hi, fun n G W H q e => by rw [hl]; exact Nat.le_refl _, fun i n G W H v H' hi q e y => ?_⟩⟩
  obtain ⟨rfl, c, hc, rfl⟩ := y
  exact ⟨⟨#[c]⟩, G, W, by unfold signs; rw [List.getElem?_map, Array.getElem?_toList, hc]; rfl, Stp.refl q.gw, q.t, rfl⟩
/-! ### targets -/
/-- what a target stores: the slots known then; which slots may differ -/
def VG (C : Cfg) (g : TG) (R : β → VP) (ps : List SL) (ψ : β → List SL) (js : List Nat) : Prop :=
  ∀ b v σ G W H n (Q : L2.St → Hp → Prop), Ee C.B ps σ G W → Stt C n G W H → (R b).P v G → (∀ σ', Ee C.B (ψ b) σ' G W → (∀ vs, (∀ j ∈ js, j ∈ vs) → wipe σ' vs = wipe σ vs) → Q σ' H) → g v σ H Q
theorem wipe_set {σ : L2.St} {j : Nat} {x : Option V} : ∀ {vs : List Nat}, j ∈ vs → wipe (σ.set j x) vs = wipe σ vs
  | [], h => absurd h (by simp)
  | k :: vs, h => by
    unfold wipe
    by_cases e : j ∈ vs
    · rw [wipe_set e]
    · have hk : j = k := (List.mem_cons.mp h).resolve_right e
      subst hk
      have go : ∀ (vs : List Nat) (σ : L2.St), (wipe (σ.set j x) vs).set j none = (wipe σ vs).set j none := by
        intro vs
        induction vs with
        | nil => intro σ; unfold wipe; rw [List.set_set]
        | cons m vs ih =>
          intro σ
          unfold wipe
          by_cases hm : m = j
          · subst hm; rw [ih]
          · rw [List.set_comm _ _ hm, ih, List.set_comm _ _ (fun z => hm z.symm)]
      exact go vs σ
theorem vg_name {R : β → VP} {i : Nat} : VG C (gName i) R ps (fun b => ps.set i (.fr (R b))) [i] := by
  intro b v σ G W H n Q e st r q
  exact q _ (e.setF r) fun vs h => wipe_set (h i (by simp))
theorem vg_pair {R : β → VP} {S : γ → VP} {i j : Nat} : VG C (gTup C.K 2 (gCons (gName i) (gCons (gName j) gNil))) (rPr R S) ps (fun q => (ps.set i (.fr (R q.1))).set j (.fr (S q.2))) [i, j] := by
  rintro q v σ G W H n Q e st ⟨p, a, b, rfl, h1, h2, h3⟩ k
  refine ⟨p, _, rfl, SqT.of (st.gh _ _ h1), rfl, a, [b], rfl, b, [], rfl, rfl, k _ ((e.setF h2).setF h3) fun vs h => ?_⟩
  rw [wipe_set (h j (by simp)), wipe_set (h i (by simp))]
/-! ### comprehensions -/
def M.nox {α : Type} (m : M α) : M α := fun Q _ n => m Q (fun _ _ => False) n
def M.compA {β γ : Type} (f : β → M (Option γ)) : List γ → List β → M (List γ)
  | acc, [] => M.pure acc
  | acc, x :: r => M.bind (f x) fun o => M.compA f (acc ++ o.toList) r
def M.comp {β γ : Type} (xs : List β) (f : β → M (Option γ)) : M (List γ) := fun Q _ n => xs.length ≤ 1000 ∧ M.compA f [] xs Q (fun _ _ => False) n
theorem vt_yes : VT C tYes ps (M.pure true) := by
  intro σ G W H n Q Φ Ψ e st hm k x
  exact k true n G W H hm (Stp.refl st.gw) st.t
theorem xt_no {σ : L2.St} {G W : Hp} : Xt C σ G W fun _ _ => False := fun _ _ _ _ _ _ _ h => h.elim
theorem ve_lc {wi : TI} {g : TG} {vs js : List Nat} {mi : M (List β)} {Rb : β → VP} {ψ : β → List SL} {mt : β → M Bool} {me : β → M γ} {R : γ → VP} (hi : VI C wi ps mi Rb) (hv : ∀ k ∈ vs, ps[k]? = some .un) (hg : VG C g Rb ps ψ js) (hj : ∀ j ∈ js, j ∈ vs)
    (ht : ∀ b, VT C tt (ψ b) (mt b)) (he : ∀ b, VE C te (ψ b) (me b) (Fz R)) :
    VE C (tLc wi g tt te vs) ps (M.bind mi fun xs => M.comp xs fun b => M.bind (mt b) fun c => M.ite c (M.bind (me b) fun y => M.pure (some y)) (M.pure none)) (Ow (cLst R)) := by
  intro σ G W H n Q Φ Ψ e st hm k x
  refine hi σ G W H n _ (fun xs n' => M.comp xs (fun b => M.bind (mt b) fun c => M.ite c (M.bind (me b) fun y => M.pure (some y)) (M.pure none)) Φ Ψ n') Ψ e st hm ?_ x
  rintro xs n1 J G1 W1 H1 ⟨hlen, hc⟩ s1 t1 wk D hD
  have st1 := st.stp s1 t1
  have hW1 := st1.wfree hD
  let f : β → M (Option γ) := fun b => M.bind (mt b) fun c => M.ite c (M.bind (me b) fun y => M.pure (some y)) (M.pure none)
  let I : Nat → Hp → Prop := fun i H => i ≤ xs.length ∧ ∃ G' W' n acc us, Stp G1 W1 G' W' ∧ Stt C n G' W' H ∧ W' D = some (.lst us) ∧ G' D = none ∧ reps R acc us G' ∧ acc.length ≤ i ∧ M.compA f acc (xs.drop i) Φ (fun _ _ => False) n
  refine ⟨fun i m H => m = xs.length - i ∧ I i H, ⟨xs.length, by simp, Nat.zero_le _, G1, upd W1 D (.lst []), n1, [], [], Stp.newO st1 hD, st1.stp (Stp.newO st1 hD) (st1.newT hD), upd_same, st1.gfree hD, trivial, Nat.zero_le _, hc⟩, ?_⟩
  rintro i m H2 ⟨rfl, hi2, G2, W2, n2, acc, us, s2, st2, hD2, hG2, hr, hal, hm2⟩
  by_cases hlt : i < xs.length
  · refine .inr ⟨wk.goes i n2 G2 W2 H2 hlt st2 s2.g, I (i + 1), fun H' p => ⟨xs.length - (i + 1), by omega, rfl, p⟩, fun v H' y => ?_⟩
    obtain ⟨b, G3, W3, hb, s3, t3, r3⟩ := wk.yields i n2 G2 W2 H2 v H' hlt st2 s2.g y
    have st3 := st2.stp s3 t3
    have hdrop : xs.drop i = b :: xs.drop (i + 1) := by
      obtain ⟨h1, h2⟩ := List.getElem?_eq_some_iff.mp hb
      rw [← h2]; exact List.drop_eq_getElem_cons h1
    rw [hdrop] at hm2
    have e3 : Ee C.B ps (wipe σ vs) G3 W3 := ((e.stp (s1.trans (s2.trans s3)))).wipe hv
    refine hg b v (wipe σ vs) G3 W3 H' n2 _ e3 st3 r3 fun σ' e4 hw => ?_
    have hww : wipe σ' vs = wipe σ vs := by
      rw [hw vs hj]
      have idem : ∀ (vs : List Nat) (σ : L2.St), wipe (wipe σ vs) vs = wipe σ vs := by
        intro vs
        have sub : ∀ (us : List Nat), (∀ u ∈ us, u ∈ vs) → ∀ σ : L2.St, wipe (wipe σ us) vs = wipe σ vs := by
          intro us
          induction us with
          | nil => intro _ σ; rfl
          | cons u us ih =>
            intro h σ
            show wipe ((wipe σ us).set u none) vs = _
            rw [wipe_set (h u List.mem_cons_self)]
            exact ih (fun z hz => h z (List.mem_cons_of_mem _ hz)) σ
        exact sub vs fun _ h => h
      exact idem vs σ
    refine ⟨hww, ?_⟩
    refine ht b σ' G3 W3 H' n2 _ (fun c n' => M.ite c (M.bind (me b) fun y => M.pure (some y)) (M.pure none) (fun o n' => M.compA f (acc ++ o.toList) (xs.drop (i + 1)) Φ (fun _ _ => False) n') (fun _ _ => False) n') (fun _ _ => False) e4 st3 hm2 (fun c n3 G4 W4 H4 hm3 s4 t4 => ?_) xt_no
    have st4 := st3.stp s4 t4
    have s14 := s2.trans (s3.trans s4)
    have hD4 := s4.w _ _ (s3.w _ _ hD2)
    have hG4 : G4 D = none := by
      exact stp_no (s3.trans s4) hG2 hD2
    cases c with
    | false =>
      refine iteF ⟨by omega, G4, W4, n3, acc, us, s14, st4, hD4, hG4, hr.up (s3.trans s4).g, by omega, ?_⟩
      have hm3 : M.compA f (acc ++ (none : Option γ).toList) (xs.drop (i + 1)) Φ (fun _ _ => False) n3 := hm3
      rw [show (none : Option γ).toList = [] from rfl, List.append_nil] at hm3
      exact hm3
    | true =>
      refine iteT (he b σ' G4 W4 H4 n3 _ (fun y n' => M.compA f (acc ++ (some y).toList) (xs.drop (i + 1)) Φ (fun _ _ => False) n') (fun _ _ => False) (e4.stp s4) st4 hm3 (fun y n5 u G5 W5 H5 hm5 s5 t5 r5 _ => ?_) xt_no)
      have st5 := st4.stp s5 t5
      have hD5 := s5.w _ _ hD4
      have hG5 : G5 D = none := by
        exact stp_no s5 hG4 hD4
      have hr5 := hr.up (s3.trans (s4.trans s5)).g
      refine ⟨us, st5.wh _ _ hD5, small1000 (by rw [hr.len]; omega), by omega, G5, upd W5 D (.lst (us ++ [u])), n5, acc ++ [y], us ++ [u], (s14.trans s5).put hW1 hG5, st5.put hD5 hG5 ?_, upd_same, hG5, hr5.app ⟨r5, trivial⟩, by rw [List.length_append]; exact Nat.add_le_add_right hal 1, hm5⟩
      exact st1.bw.free hW1
  · have hi3 : i = xs.length := by omega
    subst hi3
    rw [List.drop_length] at hm2
    exact .inl ⟨wk.stops n2 G2 W2 H2 st2 s2.g, k acc n2 _ G2 W2 H2 hm2 (s1.trans s2) st2.t ⟨D, _, rfl, hD2, hG2, st1.bw.free hW1, us, rfl, hr⟩ fun q eq => by cases eq; exact s1.w.free hW1⟩
end
end VL
namespace VL
open PySem PySem.Spec PyProof.Rows L2
inductive Fl (ρ α : Type) where
  | nx (a : α) | rt (r : ρ)
/-- a statement, a block -/
def SV (C : Cfg) {ρ α : Type} (Rr : ρ → SL) (ts : TS) (ps : List SL) (m : M (Fl ρ α)) (ψ : α → List SL) : Prop :=
  ∀ (D : Ends) (σ : L2.St) G W H n Φ Ψ, Ee C.B ps σ G W → Stt C n G W H → m Φ Ψ n →
    (∀ a n σ G' W H, Φ (.nx a) n → Same G G' → Ee C.B (ψ a) σ G' W → Stt C n G' W H → D.nx σ H) →
    (∀ r n v G W H, Φ (.rt r) n → Stt C n G W H → Res C.B (Rr r) v G W → D.rt v H) →
    (∀ x n cls d σ G W H, Ψ x n → XRep C.mg x cls d G W H → Ex_ C.B C.px σ G W → Stt C n G W H → C.Ew σ cls d H) →
    ts D σ H
/-- an expression that may change what the slots own -/
def VX (C : Cfg) {α : Type} (te : TE) (ps : List SL) (m : M α) (R : α → SL) (ψ : α → List SL) : Prop :=
  ∀ σ G W H n (Q : VK) Φ Ψ, Ee C.B ps σ G W → Stt C n G W H → m Φ Ψ n →
    (∀ a n v G' W H, Φ a n → Same G G' → Ee C.B (ψ a) σ G' W → Stt C n G' W H → Res C.B (R a) v G' W → (∀ c, R a = .ow c → ∀ (k : Nat) d p, (ψ a)[k]? = some (.ow d) → σ[k]? = some (some (.ref p)) → v ≠ .ref p) → Q v H) →
    (∀ x n cls d G W H, Ψ x n → XRep C.mg x cls d G W H → Ex_ C.B C.px σ G W → Stt C n G W H → C.Ew σ cls d H) → te σ H Q
def M.seq {ρ α β : Type} (m : M (Fl ρ α)) (f : α → M (Fl ρ β)) : M (Fl ρ β) := fun Q E n => m (fun fl n => match fl with | .nx a => f a Q E n | .rt r => Q (.rt r) n) E n
def M.nx {ρ α : Type} (a : α) : M (Fl ρ α) := fun Q _ n => Q (.nx a) n
def M.rt {ρ α : Type} (r : ρ) : M (Fl ρ α) := fun Q _ n => Q (.rt r) n
/-- the def's answer -/
def M.ret {ρ α : Type} (m : M (Fl ρ α)) : M ρ := fun Q E n => m (fun fl n => match fl with | .nx _ => False | .rt r => Q r n) E n
def M.retN {ρ α : Type} (m : M (Fl ρ α)) (r0 : ρ) : M ρ := fun Q E n => m (fun fl n => match fl with | .nx _ => Q r0 n | .rt r => Q r n) E n
section
variable {C : Cfg} {ρ α β γ : Type} {Rr : ρ → SL} {ps : List SL} {te ta tb : TE} {tt : TT} {t u : TS}
theorem vx_of {m : M α} {R : α → SL} (h : VE C te ps m R) (hp : PxLe C.px ps) : VX C te ps m R (fun _ => ps) := by
  intro σ G W H n Q Φ Ψ e st hm k x
  refine h σ G W H n Q Φ Ψ e st hm (fun a n' v G' W' H' hΦ s t r f => k a n' v G' W' H' hΦ s.g (e.stp s) (st.stp s t) r fun c hc j d p h1 h2 z => ?_) fun y n' cls d G' W' H' hΨ r s t => x y n' cls d G' W' H' hΨ r ((e.stp s).x hp) (st.stp s t)
  obtain ⟨w, hw, a, o, e1, hW, _⟩ := e.at_ h1 (by simp)
  rw [h2] at hw
  cases hw
  cases e1
  rw [hc] at f
  rw [f p z] at hW
  cases hW
theorem sv_nil : SV C Rr tNext ps (M.nx ()) (fun _ => ps) := by
  intro D σ G W H n Φ Ψ e st hm k r x
  exact k () n σ G W H hm (Same.refl _) e st
theorem sv_seq {m : M (Fl ρ α)} {ψ : α → List SL} {f : α → M (Fl ρ β)} {χ : β → List SL} (h : SV C Rr t ps m ψ) (h2 : ∀ a, SV C Rr u (ψ a) (f a) χ) : SV C Rr (tSeq t u) ps (M.seq m f) χ := by
  intro D σ G W H n Φ Ψ e st hm k r x
  exact h { D with nx := u D } σ G W H n _ Ψ e st hm (fun a n' σ' G' W' H' hΦ s e' st' => h2 a D σ' G' W' H' n' Φ Ψ e' st' hΦ (fun a n σ G' W H hΦ s' => k a n σ G' W H hΦ (s.trans s')) r x) r x
theorem sv_ret {m : M ρ} (h : VE C te ps m Rr) (hp : PxLe C.px ps) {ψ : α → List SL} : SV C Rr (tRet te) ps (M.bind m fun a => M.rt a) ψ := by
  intro D σ G W H n Φ Ψ e st hm k r x
  exact h σ G W H n D.rt (fun a n' => Φ (.rt a) n') Ψ e st hm (fun a n' v G' W' H' hΦ s t q f => r a n' v G' W' H' hΦ (st.stp s t) q) fun y n' cls d G' W' H' hΨ q s t => x y n' cls d σ G' W' H' hΨ q ((e.stp s).x hp) (st.stp s t)
/-- an owned slot is given back -/
theorem sv_retO {c : ρ → CP} {b : ρ} {i : Nat} (hi : ps[i]? = some (.ow (c b)) := by rfl) {ψ : α → List SL} : SV C (Ow c) (tRet (tVar i)) ps (M.rt b) ψ := by
  intro D σ G W H n Φ Ψ e st hm k r x
  obtain ⟨v, hv, hr⟩ := e.at_ hi (by simp)
  exact ⟨v, hv, r b n v G W H hm st hr⟩
theorem sv_asgX {m : M α} {R : α → SL} {ψ : α → List SL} {i : Nat} (h : VX C te ps m R ψ) : SV C Rr (tAsg te (gName i)) ps (M.bind m fun a => M.nx a) (fun a => (ψ a).set i (R a)) := by
  intro D σ G W H n Φ Ψ e st hm k r x
  refine h σ G W H n _ (fun a n' => Φ (.nx a) n') Ψ e st hm (fun a n' v G' W' H' hΦ s e' st' q f => ?_) fun y n' cls d G' W' H' hΨ q e' s => x y n' cls d σ G' W' H' hΨ q e' s
  exact k a n' _ G' W' H' hΦ s (e'.set q fun c hc j d b _ h1 h2 => f c hc j d b h1 h2) st'
theorem sv_asg {m : M α} {R : α → SL} {i : Nat} (h : VE C te ps m R) (hp : PxLe C.px ps) : SV C Rr (tAsg te (gName i)) ps (M.bind m fun a => M.nx a) (fun a => ps.set i (R a)) :=
  sv_asgX (vx_of h hp)
theorem sv_exprX {m : M α} {R : α → SL} {ψ : α → List SL} (h : VX C te ps m R ψ) : SV C Rr (tDrop te) ps (M.bind m fun a => M.nx a) ψ := by
  intro D σ G W H n Φ Ψ e st hm k r x
  exact h σ G W H n _ (fun a n' => Φ (.nx a) n') Ψ e st hm (fun a n' v G' W' H' hΦ s e' st' q f => k a n' σ G' W' H' hΦ s e' st') fun y n' cls d G' W' H' hΨ q e' s => x y n' cls d σ G' W' H' hΨ q e' s
theorem sv_expr {m : M α} {R : α → SL} (h : VE C te ps m R) (hp : PxLe C.px ps) : SV C Rr (tDrop te) ps (M.bind m fun a => M.nx a) (fun _ => ps) := sv_exprX (vx_of h hp)
theorem sv_if {m : M Bool} {m1 m2 : M (Fl ρ α)} {ψ : α → List SL} (h : VT C tt ps m) (hp : PxLe C.px ps) (h1 : SV C Rr t ps m1 ψ) (h2 : SV C Rr u ps m2 ψ) : SV C Rr (tIfS tt t u) ps (M.bind m fun b => M.ite b m1 m2) ψ := by
  intro D σ G W H n Φ Ψ e st hm k r x
  refine h σ G W H n _ (fun b n' => M.ite b m1 m2 Φ Ψ n') Ψ e st hm (fun b n' G' W' H' hΦ s t => ?_) fun y n' cls d G' W' H' hΨ q s t => x y n' cls d σ G' W' H' hΨ q ((e.stp s).x hp) (st.stp s t)
  have k' := fun a n σ G'' W H hΦ (s' : Same G' G'') => k a n σ G'' W H hΦ (s.g.trans s')
  cases b with
  | true => exact iteT (h1 D σ G' W' H' n' Φ Ψ (e.stp s) (st.stp s t) hΦ k' r x)
  | false => exact iteF (h2 D σ G' W' H' n' Φ Ψ (e.stp s) (st.stp s t) hΦ k' r x)
/-- another datum for what is known behind it -/
theorem sv_conv {m : M (Fl ρ α)} {ψ : α → List SL} {χ : β → List SL} (f : α → β) (h : SV C Rr t ps m ψ) (hf : ∀ a, Le (χ (f a)) (ψ a)) : SV C Rr t ps (M.seq m fun a => M.nx (f a)) χ := by
  intro D σ G W H n Φ Ψ e st hm k r x
  exact h D σ G W H n _ Ψ e st hm (fun a n' σ' G' W' H' hΦ s e' st' => k (f a) n' σ' G' W' H' hΦ s (e'.le (hf a)) st') r x
/-! ### loops -/
def M.forL {ρ β σ : Type} (f : β → σ → M (Fl ρ σ)) : List β → σ → M (Fl ρ σ)
  | [], s => M.nx s
  | x :: r, s => M.seq (f x s) fun s => M.forL f r s
theorem sv_for {wi : TI} {g : TG} {mi : M (List β)} {Rb : β → VP} {S : Type} {ψ : S → List SL} {χ : S → β → List SL} {js : List Nat} {f : β → S → M (Fl ρ S)} {s0 : S} (hi : VI C wi ps mi Rb) (hp : PxLe C.px ps) (h0 : Le (ψ s0) ps)
    (hg : ∀ s, VG C g Rb (ψ s) (χ s) js) (hb : ∀ b s, SV C Rr t (χ s b) (f b s) ψ) : SV C Rr (tFor wi g t) ps (M.bind mi fun xs => M.forL f xs s0) ψ := by
  intro D σ G W H n Φ Ψ e st hm k r x
  refine hi σ G W H n _ (fun xs n' => M.forL f xs s0 Φ Ψ n') Ψ e st hm ?_ fun y n' cls d G' W' H' hΨ q s t => x y n' cls d σ G' W' H' hΨ q ((e.stp s).x hp) (st.stp s t)
  rintro xs n1 J G1 W1 H1 hm1 s1 t1 wk
  have st1 := st.stp s1 t1
  let I : Nat → L2.St → Hp → Prop := fun i σ H => i ≤ xs.length ∧ ∃ s G W n, Ee C.B (ψ s) σ G W ∧ Stt C n G W H ∧ Same G1 G ∧ M.forL f (xs.drop i) s Φ Ψ n
  refine ⟨fun i m σ H => m = xs.length - i ∧ I i σ H, ⟨xs.length, by simp, Nat.zero_le _, s0, G1, W1, n1, (e.stp s1).le h0, st1, Same.refl _, hm1⟩, ?_⟩
  rintro i m σ2 H2 ⟨rfl, hi2, s, G2, W2, n2, e2, st2, q2, hm2⟩
  by_cases hlt : i < xs.length
  · refine .inr ⟨wk.goes i n2 G2 W2 H2 hlt st2 q2, I (i + 1), fun σ' H' p => ⟨xs.length - (i + 1), by omega, rfl, p⟩, fun v H' y => ?_⟩
    obtain ⟨b, G3, W3, hb', s3, t3, r3⟩ := wk.yields i n2 G2 W2 H2 v H' hlt st2 q2 y
    have st3 := st2.stp s3 t3
    have hdrop : xs.drop i = b :: xs.drop (i + 1) := by
      obtain ⟨h1, h2⟩ := List.getElem?_eq_some_iff.mp hb'
      rw [← h2]; exact List.drop_eq_getElem_cons h1
    rw [hdrop] at hm2
    refine hg s b v σ2 G3 W3 H' n2 _ (e2.stp s3) st3 r3 fun σ' e4 _ => ?_
    exact hb b s { D with nx := I (i + 1), ct := I (i + 1), bk := D.nx } σ' G3 W3 H' n2 _ Ψ e4 st3 hm2 (fun s' n5 σ5 G5 W5 H5 hΦ q5 e5 st5 => ⟨by omega, s', G5, W5, n5, e5, st5, q2.trans (s3.g.trans q5), hΦ⟩) r x
  · have hi3 : i = xs.length := by omega
    subst hi3
    rw [List.drop_length] at hm2
    exact .inl ⟨wk.stops n2 G2 W2 H2 st2 q2, k s n2 σ2 G2 W2 H2 hm2 (s1.g.trans q2) e2 st2⟩
def M.loop {ρ σ : Type} (c : σ → M Bool) (f : σ → M (Fl ρ σ)) : Nat → σ → M (Fl ρ σ)
  | 0, _ => fun _ _ _ => False
  | k + 1, s => M.bind (c s) fun b => M.ite b (M.seq (f s) fun s => M.loop c f k s) (M.nx s)
/-! ### what a slot owns: shown, lent, changed -/
theorem Ee.show {B : Hp} {σ : L2.St} {G W : Hp} {i : Nat} {c : CP} {p : Addr} {o : HO} {q : VP} (e : Ee B ps σ G W) (hi : ps[i]? = some (.ow c)) (hσ : σ[i]? = some (some (.ref p))) (ho : W p = some o) (hg : G p = none) (hq : q.P (.ref p) (upd G p o)) : Ee B (ps.set i (.fr q)) σ (upd G p o) W := by
  refine ⟨by rw [List.length_set]; exact e.len, fun {k t} h n => ?_, fun {k l d d' a} hkl h1 h2 h3 h4 => ?_⟩
  · rcases getElem_set h with ⟨rfl, rfl, hl⟩ | ⟨hne, h⟩
    · exact ⟨_, hσ, hq⟩
    · obtain ⟨v, hv, hr⟩ := e.at_ h n
      refine ⟨v, hv, ?_⟩
      cases t with
      | un => trivial
      | fr r => exact r.up (same_upd hg) hr
      | bo _ => exact hr
      | ow d =>
        obtain ⟨a, q, e1, hw', hg', hb', hc'⟩ := hr
        refine ⟨a, q, e1, hw', ?_, hb', d.up (same_upd hg) hc'⟩
        rw [upd_ne]
        · exact hg'
        · rintro rfl
          subst e1
          exact e.sep hne h hi hv hσ
  · have f : ∀ {m : Nat} {d : CP}, (ps.set i (.fr q))[m]? = some (.ow d) → ps[m]? = some (.ow d) := fun {m d} h => by
      rcases getElem_set h with ⟨_, h, _⟩ | ⟨_, h⟩
      · cases h
      · exact h
    exact e.sep hkl (f h1) (f h2) h3 h4
theorem Stt.show {n : Nat} {G W H : Hp} {p : Addr} {o : HO} (s : Stt C n G W H) (h : W p = some o) (hg : G p = none) (hb : C.B p = none) : Stt C n (upd G p o) W H where
  t := s.t
  gw := same_put s.gw h
  bw := s.bw
  g0 := s.g0.trans (same_upd hg)
  gb := fun q x hq => by
    by_cases z : q = p
    · subst z; exact .inr (.inl hb)
    · rw [upd_ne z] at hq; exact s.gb q x hq
/-- from here on the slot's object is shown -/
theorem sv_show {m : M (Fl ρ α)} {ψ : α → List SL} {i : Nat} {c : CP} {q : VP} (hi : ps[i]? = some (.ow c)) (hc : ∀ p o G, c.P o G → G p = none → q.P (.ref p) (upd G p o)) (h : SV C Rr t (ps.set i (.fr q)) m ψ) : SV C Rr t ps m ψ := by
  intro D σ G W H n Φ Ψ e st hm k r x
  obtain ⟨v, hσ, p, o, rfl, hw, hg, hb, hP⟩ := e.at_ hi (by simp)
  exact h D σ (upd G p o) W H n Φ Ψ (e.show hi hσ hw hg (hc p o G hP hg)) (st.show hw hg hb) hm (fun a n σ G' W H hΦ s => k a n σ G' W H hΦ ((same_upd hg).trans s)) r x
theorem cLst_show {R : α → VP} {xs : List α} (p : Addr) (o : HO) (G : Hp) (h : (cLst R xs).P o G) (hp : G p = none) : (rLst R xs).P (.ref p) (upd G p o) := by
  obtain ⟨vs, rfl, hv⟩ := h
  exact ⟨p, vs, rfl, upd_same, hv.up (same_upd hp)⟩
theorem sv_showL {m : M (Fl ρ α)} {ψ : α → List SL} (i : Nat) {R : β → VP} {xs : List β} (hi : ps[i]? = some (.ow (cLst R xs))) (h : SV C Rr t (ps.set i (.fr (rLst R xs))) m ψ) : SV C Rr t ps m ψ :=
  sv_show hi cLst_show h
/-- a value that leans on no object -/
def Flat {α : Type} (R : α → VP) : Prop := ∀ a v G G', (R a).P v G → (R a).P v G'
theorem flat_int : Flat rInt := fun _ _ _ _ h => h
/-- a slot's object is lent to an expression that gives a flat value -/
theorem ve_lend {m : M α} {R : α → VP} {i : Nat} {c : CP} {q : VP} (hi : ps[i]? = some (.ow c)) (hc : ∀ p o G, c.P o G → G p = none → q.P (.ref p) (upd G p o)) (hR : Flat R) (h : VE C te (ps.set i (.fr q)) m (Fz R)) : VE C te ps (M.nox m) (Fz R) := by
  intro σ G W H n Q Φ Ψ e st hm k x
  obtain ⟨v, hσ, p, o, rfl, hw, hg, hb, hP⟩ := e.at_ hi (by simp)
  have back : ∀ {G' W' : Hp}, Stp (upd G p o) W G' W' → Stp G W G W' := fun s => ⟨Same.refl _, s.w, st.gw.trans s.w, fun q x hq => .inl hq⟩
  exact h σ (upd G p o) W H n Q Φ (fun _ _ => False) (e.show hi hσ hw hg (hc p o G hP hg)) (st.show hw hg hb) hm (fun a n' v G' W' H' hΦ s t r _ => k a n' v G W' H' hΦ (back s) t (hR a v G' G r) trivial) xt_no
end
end VL
namespace VL
open PySem PySem.Spec PyProof.Rows L2
section
variable {C : Cfg} {ρ α β γ : Type} {Rr : ρ → SL} {ps : List SL} {te ta tb : TE} {tt : TT} {t u : TS}
/-! ### what a slot owns, changed -/
/-- the slot's own list, read -/
theorem own_get {σ : L2.St} {G W H : Hp} {n : Nat} {i : Nat} {R : α → VP} {xs : List α} (e : Ee C.B ps σ G W) (st : Stt C n G W H) (hi : ps[i]? = some (.ow (cLst R xs))) :
    ∃ p vs, σ[i]? = some (some (.ref p)) ∧ W p = some (.lst vs) ∧ H p = some (.lst vs) ∧ G p = none ∧ C.B p = none ∧ reps R xs vs G := by
  obtain ⟨v, hσ, p, o, rfl, hw, hg, hb, vs, rfl, hr⟩ := e.at_ hi (by simp)
  exact ⟨p, vs, hσ, hw, st.wh _ _ hw, hg, hb, hr⟩
theorem vx_append {R : α → VP} {xs : List α} {m : M α} {ψ : α → List SL} {i : Nat} (he : VX C te ps m (Fz R) ψ) (hi : ps[i]? = some (.ow (cLst R xs))) (f : α → List α) (hi2 : ∀ a, (ψ a)[i]? = some (.ow (cLst R (f a)))) :
    VX C (tBM C.K "list" rAppend (tVar i) (tCons te tNil)) ps (M.bind m fun a => M.when ((f a).length < sizeLine) a) (fun _ => .fr (rNon ())) (fun a => (ψ a).set i (.ow (cLst R (f a ++ [a])))) := by
  intro σ G W H n Q Φ Ψ e st hm k x
  obtain ⟨p, vs, hσ, hw, hh, hg, hb, hr⟩ := own_get e st hi
  refine ⟨.ref p, hσ, .inl ⟨rfl, vs, SqL.of hh⟩, ?_⟩
  refine he σ G W H n _ (fun a n' => M.when ((f a).length < sizeLine) a Φ Ψ n') Ψ e st hm (fun a n' v G' W' H' hΦ s e' st' r _ => ?_) x
  obtain ⟨q, us, hσ', hw', hh', hg', hb', hr'⟩ := own_get e' st' (hi2 a)
  rw [hσ] at hσ'
  cases hσ'
  refine ⟨p, us, v, rfl, rfl, hh', by rw [hr'.len]; exact hΦ.1, ?_⟩
  exact k a n' .non G' (upd W' p (.lst (us ++ [v]))) _ hΦ.2 s (e'.putOwn (hi2 a) hσ ⟨_, rfl, hr'.app ⟨r, trivial⟩⟩) (st'.put hw' hg' hb') rfl fun c h => nomatch h
theorem sv_append {R : α → VP} {xs : List α} {m : M α} {i : Nat} (he : VE C te ps m (Fz R)) (hp : PxLe C.px ps) (hi : ps[i]? = some (.ow (cLst R xs)) := by rfl) :
    SV C Rr (tDrop (tBM C.K "list" rAppend (tVar i) (tCons te tNil))) ps (M.bind (M.bind m fun a => M.when (xs.length < sizeLine) a) fun a => M.nx a) (fun a => ps.set i (.ow (cLst R (xs ++ [a])))) :=
  sv_exprX (vx_append (vx_of he hp) hi (fun _ => xs) fun _ => hi)
def M.popAt {α : Type} (xs : List α) (j : Int) : M (α × List α) := fun Φ _ n => ∃ (k : Nat) (a : α), (-(2 ^ 63) ≤ j ∧ j < 2 ^ 63) ∧ seqIndex? j xs.length = some k ∧ xs[k]? = some a ∧ Φ (a, xs.eraseIdx k) n
def M.popE {α : Type} (xs : List α) : M (α × List α) := fun Φ _ n => ∃ a, xs[xs.length - 1]? = some a ∧ Φ (a, xs.dropLast) n
theorem vx_popAt {R : α → VP} {xs : List α} {m : M Int} {i : Nat} (he : VE C te ps m (Fz rInt)) (hp : PxLe C.px ps) (hi : ps[i]? = some (.ow (cLst R xs)) := by rfl) :
    VX C (tBM C.K "list" rPopAt (tVar i) (tCons te tNil)) ps (M.bind m fun j => M.popAt xs j) (fun q => .fr (R q.1)) (fun q => ps.set i (.ow (cLst R q.2))) := by
  intro σ G W H n Q Φ Ψ e st hm k x
  obtain ⟨p, vs, hσ, hw, hh, hg, hb, hr⟩ := own_get e st hi
  refine ⟨.ref p, hσ, .inl ⟨rfl, vs, SqL.of hh⟩, ?_⟩
  refine (vx_of he hp) σ G W H n _ (fun j n => M.popAt xs j Φ Ψ n) Ψ e st hm (fun j n' v G' W' H' hΦ s e' st' r _ => ?_) x
  obtain ⟨m, a, ⟨h1, h2⟩, h3, h4, hΦ⟩ := hΦ
  obtain ⟨q, us, hσ', hw', hh', hg', hb', hr'⟩ := own_get e' st' hi
  rw [hσ] at hσ'
  cases hσ'
  obtain ⟨y, hy, hry⟩ := hr'.get h4
  refine ⟨p, us, j, m, y, rfl, by rw [show v = .int j from r], hh', h1, h2, by rw [hr'.len]; exact h3, hy, ?_⟩
  have era : ∀ {xs : List α} {vs : List V} {G : Hp} (m : Nat), reps R xs vs G → reps R (xs.eraseIdx m) (vs.eraseIdx m) G := by
    intro xs
    induction xs with
    | nil =>
      intro vs G m h
      cases vs with
      | nil => exact trivial
      | cons _ _ => exact h.elim
    | cons x xs ih =>
      intro vs G m h
      cases vs with
      | nil => exact h.elim
      | cons v vs =>
        cases m with
        | zero => exact h.2
        | succ m => exact ⟨h.1, ih m h.2⟩
  exact k (a, xs.eraseIdx m) n' y G' (upd W' p (.lst (us.eraseIdx m))) _ hΦ s (e'.putOwn hi hσ ⟨_, rfl, era m hr'⟩) (st'.put hw' hg' hb') hry fun c h => nomatch h
theorem vx_clear {R : α → VP} {xs : List α} {i : Nat} (hp : PxLe C.px ps) (hi : ps[i]? = some (.ow (cLst R xs)) := by rfl) :
    VX C (tBM0 C.K "list" rClear (tVar i)) ps (M.pure ()) (fun _ => .fr (rNon ())) (fun _ => ps.set i (.ow (cLst R []))) := by
  rintro σ G W H n Q Φ Ψ e st hm k x
  obtain ⟨p, vs, hσ, hw, hh, hg, hb, hr⟩ := own_get e st hi
  exact ⟨.ref p, hσ, .inl ⟨rfl, vs, SqL.of hh⟩, p, vs, rfl, rfl, hh, k () n .non G (upd W p (.lst [])) _ hm (Same.refl _) (e.putOwn hi hσ ⟨_, rfl, trivial⟩) (st.put hw hg hb) rfl fun c h => nomatch h⟩
/-- xs[j] = e, xs owned -/
def M.setL {α : Type} (xs : List α) (j : Int) (a : α) : M (List α) := fun Φ _ n => ∃ k, ixN xs.length j = some k ∧ Φ (xs.set k a) n
theorem sv_setL {R : α → VP} {xs : List α} {m : M α} {mj : M Int} {i : Nat} (he : VE C te ps m (Fz R)) (hj : VE C ta ps mj (Fz rInt)) (hp : PxLe C.px ps) (hi : ps[i]? = some (.ow (cLst R xs)) := by rfl) :
    SV C Rr (tAsg te (gSub (tVar i) ta rSetL)) ps (M.bind (M.bind m fun a => M.bind mj fun j => M.setL xs j a) fun ys => M.nx ys) (fun ys => ps.set i (.ow (cLst R ys))) := by
  intro D σ G W H n Φ Ψ e st hm k r x
  refine he σ G W H n _ (fun a n' => M.bind mj (fun j => fun (Φ : Fl ρ (List α) → Nat → Prop) _ n => ∃ k, ixN xs.length j = some k ∧ Φ (.nx (xs.set k a)) n) Φ Ψ n') Ψ e st hm (fun a n1 v G1 W1 H1 hm1 s1 t1 r1 _ => ?_) fun y n' cls d G' W' H' hΨ q s t => x y n' cls d σ G' W' H' hΨ q ((e.stp s).x hp) (st.stp s t)
  have st1 := st.stp s1 t1
  have e1 := e.stp s1
  obtain ⟨p, vs, hσ, hw, hh, hg, hb, hr⟩ := own_get e1 st1 hi
  refine ⟨.ref p, hσ, ?_⟩
  refine hj σ G1 W1 H1 n1 _ (fun j n => ∃ k, ixN xs.length j = some k ∧ Φ (.nx (xs.set k a)) n) Ψ e1 st1 hm1 (fun j n2 u G2 W2 H2 hm2 s2 t2 r2 _ => ?_) fun y n' cls d G' W' H' hΨ q s t => x y n' cls d σ G' W' H' hΨ q ((e1.stp s).x hp) (st1.stp s t)
  obtain ⟨kk, hk, hm2⟩ := hm2
  have st2 := st1.stp s2 t2
  have e2 := e1.stp s2
  obtain ⟨q, us, hσ', hw', hh', hg', hb', hr'⟩ := own_get e2 st2 hi
  rw [hσ] at hσ'
  cases hσ'
  refine ⟨p, us, j, kk, rfl, r2, hh', by rw [hr'.len]; exact hk, ?_⟩
  exact k (xs.set kk a) n2 σ G2 (upd W2 p (.lst (us.set kk v))) _ hm2 (s1.g.trans s2.g) (e2.putOwn hi hσ ⟨_, rfl, hr'.set kk ((R a).up s2.g r1)⟩) (st2.put hw' hg' hb')
end
/-! ### defs -/
section
variable (mg : Str → Option Value) (K : PySem.W.Frag) (TB : List (Addr × Str))
/-- a def's promise by its answer: over any view of the heap -/
def spG {α β : Type} (Rs : α → List VP) (F : α → M β) (Rr : β → SL) : Sp := fun vs H Q E =>
  ∃ (Θ : Th TB) (a : α) (G W : Hp) (n : Nat) (Φ : β → Nat → Prop) (Ψ : Exc → Nat → Prop), RepL (Rs a) vs G ∧ Same G W ∧ Θ.T n W H ∧ F a Φ Ψ n ∧
    Kt ⟨TB, Θ, mg, K, W, G, fun _ => E, []⟩ Rr G W Q Φ ∧ Xt ⟨TB, Θ, mg, K, W, G, fun _ => E, []⟩ [] G W Ψ
/-- .. over one view -/
def spT {α β : Type} (Θ : Addr → Th TB) (Rs : Addr → α → List VP) (F : α → M β) (Rr : β → SL) : Sp := fun vs H Q E =>
  ∃ (s : Addr) (a : α) (G W : Hp) (n : Nat) (Φ : β → Nat → Prop) (Ψ : Exc → Nat → Prop), RepL (Rs s a) vs G ∧ Same G W ∧ (Θ s).T n W H ∧ F a Φ Ψ n ∧
    Kt ⟨TB, Θ s, mg, K, W, G, fun _ => E, []⟩ Rr G W Q Φ ∧ Xt ⟨TB, Θ s, mg, K, W, G, fun _ => E, []⟩ [] G W Ψ
end
theorem spG_len {mg : Str → Option Value} {K : PySem.W.Frag} {TB : List (Addr × Str)} {α β : Type} {Rs : α → List VP} {F : α → M β} {Rr : β → SL} {ps : List Str} (h : ∀ a, (Rs a).length = ps.length := by intro _; rfl) : ∀ vs H Q E, spG mg K TB Rs F Rr vs H Q E → vs.length = ps.length := by
  rintro vs H Q E ⟨_, a, _, _, _, _, _, r, _⟩
  rw [r.len, h]
theorem spT_len {mg : Str → Option Value} {K : PySem.W.Frag} {TB : List (Addr × Str)} {Θ : Addr → Th TB} {α β : Type} {Rs : Addr → α → List VP} {F : α → M β} {Rr : β → SL} {ps : List Str} (h : ∀ s a, (Rs s a).length = ps.length := by intros; rfl) : ∀ vs H Q E, spT mg K TB Θ Rs F Rr vs H Q E → vs.length = ps.length := by
  rintro vs H Q E ⟨_, a, _, _, _, _, _, r, _⟩
  rw [r.len, h]
/-- the slots at a def's start -/
def slots (N : List Str) (rs : List VP) : List SL := rs.map SL.fr ++ List.replicate (N.length - rs.length) .un
theorem repL_get {G : Hp} {rs : List VP} {vs : List V} (r : RepL rs vs G) : ∀ {i : Nat} {p : VP}, rs[i]? = some p → ∃ v, vs[i]? = some v ∧ p.P v G := by
  induction r with
  | nil => intro i p e; simp at e
  | cons a _ ih =>
    intro i p e
    cases i with
    | zero => simp at e; subst e; exact ⟨_, rfl, a⟩
    | succ i => simp at e ⊢; exact ih e
theorem ee_start {B G W : Hp} {N : List Str} {rs : List VP} {vs : List V} (r : RepL rs vs G) : Ee B (slots N rs) (start N vs) G W := by
  refine ⟨?_, fun {i s} h n => ?_, fun {i j c d a} _ h _ _ _ => ?_⟩
  · unfold L2.start slots
    rw [List.length_append, List.length_append, List.length_map, List.length_map, List.length_replicate, List.length_replicate, r.len]
  · unfold slots at h
    by_cases hi : i < rs.length
    · rw [List.getElem?_append_left (by rw [List.length_map]; exact hi), List.getElem?_map] at h
      rw [List.getElem?_eq_getElem hi] at h
      cases h
      obtain ⟨v, hv, hp⟩ := repL_get r (List.getElem?_eq_getElem hi)
      refine ⟨v, ?_, hp⟩
      unfold L2.start
      have hl : i < vs.length := by rw [r.len]; exact hi
      rw [List.getElem?_append_left (by rw [List.length_map]; exact hl), List.getElem?_map, hv]
      rfl
    · rw [List.getElem?_append_right (by rw [List.length_map]; omega), List.getElem?_replicate] at h
      split at h
      · exact absurd (Option.some.inj h).symm n
      · cases h
  · unfold slots at h
    rcases List.mem_append.mp (List.mem_of_getElem? h) with h | h
    · obtain ⟨_, _, h⟩ := List.mem_map.mp h
      cases h
    · have := (List.mem_replicate.mp h).2
      cases this
theorem stt_start {C : Cfg} {n : Nat} {G W H : Hp} (hB : C.B = W) (hG : C.G0 = G) (gw : Same G W) (t : C.Θ.T n W H) : Stt C n G W H :=
  ⟨t, gw, by rw [hB]; exact Same.refl _, by rw [hG]; exact Same.refl _, fun q o h => by rw [hG]; exact .inl h⟩
theorem stt_end {C : Cfg} {n : Nat} {G W G' W' H' : Hp} (hB : C.B = W) (hG : C.G0 = G) (st : Stt C n G' W' H') : Stp G W G' W' :=
  ⟨by rw [← hG]; exact st.g0, by rw [← hB]; exact st.bw, st.gw, fun q o h => by rw [← hG, ← hB]; exact st.gb q o h⟩
theorem res_fre {B : Hp} {s : SL} {v : V} {G W : Hp} (r : Res B s v G W) : Fre s v B := by
  cases s with
  | ow c =>
    obtain ⟨a, o, e, _, _, hb, _⟩ := r
    intro p ep
    rw [e] at ep
    cases ep
    exact hb
  | _ => trivial
/-- a def's body gives what is promised: every way returns -/
theorem fn_G {mg : Str → Option Value} {K : PySem.W.Frag} {TB : List (Addr × Str)} {α β δ : Type} {Rs : α → List VP} {F : α → M β} {Rr : β → SL} {vs : List V} {H : Hp} {Q : VK} {E : XK} {N : List Str} {t : TS} {m : α → M (Fl β δ)} {ψ : α → δ → List SL} (h : spG mg K TB Rs F Rr vs H Q E)
    (hF : ∀ a, F a = M.ret (m a)) (hb : ∀ (Θ : Th TB) (B G0 : Hp) (a : α), SV ⟨TB, Θ, mg, K, B, G0, fun _ => E, []⟩ Rr t (slots N (Rs a)) (m a) (ψ a)) : t { nx := fun _ H' => Q .non H', rt := Q } (start N vs) H := by
  obtain ⟨Θ, a, G, W, n, Φ, Ψ, r, gw, t1, hm, k, x⟩ := h
  rw [hF] at hm
  refine hb Θ W G a _ (start N vs) G W H n _ Ψ (ee_start r) (stt_start rfl rfl gw t1) hm (fun _ _ _ _ _ _ z => z.elim) (fun b n' v G' W' H' hΦ st q => k b n' v G' W' H' hΦ (stt_end rfl rfl st) st.t q (res_fre q)) fun y n' cls d σ G' W' H' hΨ q _ st => x y n' cls d G' W' H' hΨ q (stt_end rfl rfl st) st.t
/-- .. some ways come to the end: None -/
theorem fn_GN {mg : Str → Option Value} {K : PySem.W.Frag} {TB : List (Addr × Str)} {α δ : Type} {Rs : α → List VP} {F : α → M Unit} {vs : List V} {H : Hp} {Q : VK} {E : XK} {N : List Str} {t : TS} {m : α → M (Fl Unit δ)} {ψ : α → δ → List SL} (h : spG mg K TB Rs F (Fz rNon) vs H Q E)
    (hF : ∀ a, F a = M.retN (m a) ()) (hb : ∀ (Θ : Th TB) (B G0 : Hp) (a : α), SV ⟨TB, Θ, mg, K, B, G0, fun _ => E, []⟩ (Fz rNon) t (slots N (Rs a)) (m a) (ψ a)) : t { nx := fun _ H' => Q .non H', rt := Q } (start N vs) H := by
  obtain ⟨Θ, a, G, W, n, Φ, Ψ, r, gw, t1, hm, k, x⟩ := h
  rw [hF] at hm
  refine hb Θ W G a _ (start N vs) G W H n _ Ψ (ee_start r) (stt_start rfl rfl gw t1) hm (fun _ n' σ' G' W' H' hΦ _ _ st => k () n' .non G' W' H' hΦ (stt_end rfl rfl st) st.t rfl trivial) (fun b n' v G' W' H' hΦ st q => k b n' v G' W' H' hΦ (stt_end rfl rfl st) st.t q (res_fre q)) fun y n' cls d σ G' W' H' hΨ q _ st => x y n' cls d G' W' H' hΨ q (stt_end rfl rfl st) st.t
theorem fn_T {mg : Str → Option Value} {K : PySem.W.Frag} {TB : List (Addr × Str)} {Θ : Addr → Th TB} {α β δ : Type} {Rs : Addr → α → List VP} {F : α → M β} {Rr : β → SL} {vs : List V} {H : Hp} {Q : VK} {E : XK} {N : List Str} {t : TS} {m : α → M (Fl β δ)} {ψ : Addr → α → δ → List SL} (h : spT mg K TB Θ Rs F Rr vs H Q E)
    (hF : ∀ a, F a = M.ret (m a)) (hb : ∀ (s : Addr) (B G0 : Hp) (a : α), SV ⟨TB, Θ s, mg, K, B, G0, fun _ => E, []⟩ Rr t (slots N (Rs s a)) (m a) (ψ s a)) : t { nx := fun _ H' => Q .non H', rt := Q } (start N vs) H := by
  obtain ⟨s, a, G, W, n, Φ, Ψ, r, gw, t1, hm, k, x⟩ := h
  rw [hF] at hm
  refine hb s W G a _ (start N vs) G W H n _ Ψ (ee_start r) (stt_start rfl rfl gw t1) hm (fun _ _ _ _ _ _ z => z.elim) (fun b n' v G' W' H' hΦ st q => k b n' v G' W' H' hΦ (stt_end rfl rfl st) st.t q (res_fre q)) fun y n' cls d σ G' W' H' hΨ q _ st => x y n' cls d G' W' H' hΨ q (stt_end rfl rfl st) st.t
section
variable {C : Cfg} {α β γ : Type} {ps : List SL} {ta : TA}
theorem res_call {s : SL} {v : V} {W G' W' : Hp} (hb : Same C.B W) (r : Res W s v G' W') (f : ∀ p, s ≠ .bo p) : Res C.B s v G' W' := by
  cases s with
  | un => trivial
  | fr _ => exact r
  | bo p => exact absurd rfl (f p)
  | ow c =>
    obtain ⟨a, o, e, h1, h2, h3, h4⟩ := r
    exact ⟨a, o, e, h1, h2, hb.free h3, h4⟩
/-- f(..): nothing is raised -/
theorem ve_call {Rs : α → List VP} {F : α → M β} {Rr : β → SL} {m : M α} {E : XK} (ha : VA C ta ps m Rs) (hr : ∀ b p, Rr b ≠ .bo p := by intro _ _ h; cases h) : VE C (tCall (spG C.mg C.K C.TB Rs F Rr) [] E ta) ps (M.bind m fun a => M.nox (F a)) Rr := by
  intro σ G W H n Q Φ Ψ e st hm k x
  refine ha σ G W H n _ (fun a n' => M.nox (F a) Φ Ψ n') Ψ e st hm (fun a n1 vs G1 W1 H1 hm1 s1 t1 r1 => ?_) x
  have st1 := st.stp s1 t1
  rw [List.append_nil]
  refine ⟨C.Θ, a, G1, W1, n1, Φ, fun _ _ => False, r1, st1.gw, st1.t, hm1, fun b n2 v G2 W2 H2 hΦ s2 t2 r2 f2 => ?_, fun _ _ _ _ _ _ _ h => h.elim⟩
  exact (k.stp s1) b n2 v G2 W2 H2 hΦ s2 t2 (res_call st1.bw r2 (hr b)) f2
theorem ve_callT {Θ : Addr → Th C.TB} {s : Addr} {Rs : Addr → α → List VP} {F : α → M β} {Rr : β → SL} {m : M α} {E : XK} (hΘ : C.Θ = Θ s) (ha : VA C ta ps m (Rs s)) (hr : ∀ b p, Rr b ≠ .bo p := by intro _ _ h; cases h) : VE C (tCall (spT C.mg C.K C.TB Θ Rs F Rr) [] E ta) ps (M.bind m fun a => M.nox (F a)) Rr := by
  intro σ G W H n Q Φ Ψ e st hm k x
  refine ha σ G W H n _ (fun a n' => M.nox (F a) Φ Ψ n') Ψ e st hm (fun a n1 vs G1 W1 H1 hm1 s1 t1 r1 => ?_) x
  have st1 := st.stp s1 t1
  rw [List.append_nil]
  refine ⟨s, a, G1, W1, n1, Φ, fun _ _ => False, r1, st1.gw, by rw [← hΘ]; exact st1.t, hm1, fun b n2 v G2 W2 H2 hΦ s2 t2 r2 f2 => ?_, fun _ _ _ _ _ _ _ h => h.elim⟩
  exact (k.stp s1) b n2 v G2 W2 H2 hΦ s2 (by rw [hΘ]; exact t2) (res_call st1.bw r2 (hr b)) f2
end
/-! ### the drawing state as a view -/
def thV {TB : List (Addr × Str)} (s : Addr) : Th TB where
  T n W H := View s n W H ∧ (∀ q o, W q = some o → NT o) ∧ LamX.Tabs TB H
  sub h := h.1.sub
  ext {n W H W' H'} h e e2 hn := by
    obtain ⟨⟨b, c, i, bs, cs, k, l⟩, hnt, ht⟩ := h
    have f : ∀ q u, H q = some u → W q = none → W' q = none := fun q u hq hw => by
      cases z : W' q with
      | none => rfl
      | some o =>
        rcases hn q o z with h | ⟨h, _⟩
        · rw [hw] at h; cases h
        · rw [hq] at h; cases h
    have sb : Same W' H' := fun q o hq => by
      rcases hn q o hq with h | ⟨_, h, _⟩
      · exact e _ _ (k.sub _ _ h)
      · exact h
    refine ⟨⟨b, c, i, bs, cs, { k.ext e with sub := sb, gs := f _ _ k.hs k.gs, gb := f _ _ k.hb k.gb, gc := f _ _ k.hc k.gc }, l⟩, fun q o hq => ?_, ht.ext e⟩
    rcases hn q o hq with h | ⟨_, _, h⟩
    · exact hnt _ _ h
    · exact h
  put {n W H p u o} h e nu no := by
    refine ⟨h.1.put e, fun q x hq => ?_, fun t htm => ?_⟩
    · by_cases z : q = p
      · subst z; rw [upd_same] at hq; cases hq; exact no
      · rw [upd_ne z] at hq; exact h.2.1 _ _ hq
    · have hp := h.1.sub _ _ e
      obtain ⟨ps, h1, h2, h3⟩ := h.2.2 t htm
      refine ⟨ps, ?_, h2, fun pos cv hc => ?_⟩
      · rw [upd_ne (fun z => by rw [z, hp] at h1; exact nu.t _ (Option.some.inj h1))]; exact h1
      · obtain ⟨c, e1, e2⟩ := h3 pos cv hc
        refine ⟨c, e1, ?_⟩
        rw [upd_ne (fun z => by rw [z, hp] at e2; exact nu.x _ (Option.some.inj e2))]; exact e2
  tabs h := h.2.2
  tset {n W H H'} h e t := by
    obtain ⟨⟨b, c, i, bs, cs, k, l⟩, hnt, ht⟩ := h
    have f : ∀ q u, H q = some u → (∀ ps, u ≠ .tbl ps) → H' q = some u := fun q u h n => e q u h n
    exact ⟨⟨b, c, i, bs, cs, { k with sub := fun q o hq => e _ _ (k.sub _ _ hq) (hnt _ _ hq).t, hs := f _ _ k.hs (by intro _ h; cases h), hb := f _ _ k.hb (by intro _ h; cases h), hc := f _ _ k.hc (by intro _ h; cases h) }, l⟩, hnt, t⟩
  see {n W H q o} h hq no nl := by
    obtain ⟨⟨b, c, i, bs, cs, k, l⟩, hnt, ht⟩ := h
    have ne : ∀ a xs, H a = some (.lst xs) → a ≠ q := fun a xs ha z => by rw [z, hq] at ha; exact nl xs (Option.some.inj ha)
    refine ⟨⟨b, c, i, bs, cs, { k with sub := fun a o' ha => ?_, gs := by rw [upd_ne (ne _ _ k.hs)]; exact k.gs, gb := by rw [upd_ne (ne _ _ k.hb)]; exact k.gb, gc := by rw [upd_ne (ne _ _ k.hc)]; exact k.gc }, l⟩, fun a o' ha => ?_, ht⟩
    · by_cases z : a = q
      · subst z; rw [upd_same] at ha; rw [hq]; exact ha
      · rw [upd_ne z] at ha; exact k.sub _ _ ha
    · by_cases z : a = q
      · subst z; rw [upd_same] at ha; cases ha; exact no
      · rw [upd_ne z] at ha; exact hnt _ _ ha
/-- an object that is no list comes into sight -/
def rSt (s : Addr) : VP := ⟨fun v _ => v = .ref s, fun _ h => h⟩
def M.draw (m : Int) : M Int := fun Q _ n => (n ≤ 1000000 ∧ 0 < m ∧ m < 2 ^ 100) ∧ ∀ d, 0 ≤ d → d < m → Q d (n + 1)
open Classical in
/-- the view with all tables in it -/
theorem big_view {TB : List (Addr × Str)} {s : Addr} {n : Nat} {W H : Hp} (t : (thV (TB := TB) s).T n W H) : ∃ G', View s n G' H ∧ ∀ n' H', View s n' G' H' → (thV (TB := TB) s).T n' W H' := by
  obtain ⟨⟨b, c, i, bs, cs, k, l⟩, hnt, ht⟩ := t
  let G' : Hp := fun q => match W q with
    | some o => some o
    | none => if (∃ ps, H q = some (.tbl ps)) ∨ (∃ r, H q = some (LamX.CodeO q r)) then H q else none
  have gw : ∀ q o, W q = some o → G' q = some o := fun q o h => by simp only [G', h]
  have gh : ∀ q o, G' q = some o → H q = some o := fun q o h => by
    simp only [G'] at h
    cases z : W q with
    | some u => rw [z] at h; cases h; exact k.sub _ _ z
    | none => rw [z] at h; simp only at h; split at h
              · exact h
              · cases h
  have gt : ∀ q, ((∃ ps, H q = some (.tbl ps)) ∨ (∃ r, H q = some (LamX.CodeO q r))) → G' q = H q := fun q h => by
    simp only [G']
    cases z : W q with
    | some u => simp only; exact (k.sub _ _ z).symm
    | none => simp only; rw [if_pos h]
  have gn : ∀ q vs, W q = none → H q = some (.lst vs) → G' q = none := fun q vs h1 h2 => by
    simp only [G', h1]
    rw [if_neg]
    rintro (⟨ps, e⟩ | ⟨r, e⟩)
    · rw [h2] at e; cases e
    · rw [h2] at e; cases e
  refine ⟨G', ⟨b, c, i, bs, cs, { k with sub := gh, gs := gn _ _ k.gs k.hs, gb := gn _ _ k.gb k.hb, gc := gn _ _ k.gc k.hc }, l⟩, fun n' H' v => ?_⟩
  obtain ⟨b', c', i', bs', cs', k', l'⟩ := v
  have wn : ∀ q, G' q = none → W q = none := fun q h => by
    cases z : W q with
    | none => rfl
    | some u => rw [gw _ _ z] at h; cases h
  refine ⟨⟨b', c', i', bs', cs', { k' with sub := fun q o h => k'.sub _ _ (gw _ _ h), gs := wn _ k'.gs, gb := wn _ k'.gb, gc := wn _ k'.gc }, l'⟩, hnt, fun p hp => ?_⟩
  obtain ⟨ps, h1, h2, h3⟩ := ht p hp
  refine ⟨ps, k'.sub _ _ ((gt _ (.inl ⟨_, h1⟩)).trans h1), h2, fun pos cv hc => ?_⟩
  obtain ⟨c, e1, e2⟩ := h3 pos cv hc
  exact ⟨c, e1, k'.sub _ _ ((gt _ (.inr ⟨_, e2⟩)).trans e2)⟩
/-- the drawing def as its callers see it -/
theorem sp_draw {mg : Str → Option Value} {K : PySem.W.Frag} {TB : List (Addr × Str)} {vs : List V} {H : Hp} {Q : VK} {E : XK} (h : spT mg K TB thV (fun s (m : Int × Unit) => [rSt s, rInt m.1]) (fun m => M.draw m.1) (Fz rInt) vs H Q E) : spDraw vs H Q E := by
  obtain ⟨s, m, G, W, n, Φ, Ψ, r, gw, t, ⟨⟨h1, h2, h3⟩, hm⟩, k, x⟩ := h
  cases r with
  | cons a r =>
    cases r with
    | cons b r =>
      cases r
      have a : _ = V.ref s := a
      have b : _ = V.int m.1 := b
      subst a b
      obtain ⟨G', v', back⟩ := big_view t
      exact ⟨s, n, G', m.1, rfl, v', h1, h2, h3, fun d H' d0 d1 v => k d (n + 1) (.int d) G W H' (hm d d0 d1) (Stp.refl gw) (back _ _ v) rfl trivial⟩
end VL
namespace VL
open PySem PySem.Spec PyProof.Rows L2
section
variable {C : Cfg} {ρ α β γ δ : Type} {Rr : ρ → SL} {ps : List SL} {te ta tb : TE} {tt : TT} {t u : TS}
/-! ### displays by their data -/
theorem repL_map {R : β → VP} {G : Hp} : ∀ {xs : List β} {vs : List V}, RepL (xs.map R) vs G → reps R xs vs G
  | [], _, .nil => trivial
  | _ :: _, _, .cons a r => ⟨a, repL_map r⟩
theorem ve_lstL (R : β → VP) (f : α → List β) {ta : TA} {m : M α} {Rs : α → List VP} (ha : VA C ta ps m Rs) (hR : ∀ a, Rs a = (f a).map R := by intro _; rfl) (hl : ∀ a, (f a).length ≤ 1000 := by intro _; exact Nat.le_of_ble_eq_true rfl) :
    VE C (tLst ta) ps (M.bind m fun a => M.pure (f a)) (Ow (cLst R)) :=
  ve_map f (ve_lst (fun a => cLst R (f a)) ha (fun a => by rw [hR, List.length_map]; exact hl a) fun a vs G h => ⟨vs, rfl, repL_map (by rw [← hR]; exact h)⟩) fun _ => rfl
theorem ve_tupL (R : β → VP) (f : α → List β) {ta : TA} {m : M α} {Rs : α → List VP} (ha : VA C ta ps m Rs) (hR : ∀ a, Rs a = (f a).map R := by intro _; rfl) (hl : ∀ a, (f a).length ≤ 1000 := by intro _; exact Nat.le_of_ble_eq_true rfl) :
    VE C (tTup ta) ps (M.bind m fun a => M.pure (f a)) (Fz (rTup R)) :=
  ve_map f (ve_tup (fun a => rTup R (f a)) ha (fun a => by rw [hR, List.length_map]; exact hl a) fun a p vs G hp h => ⟨p, vs, rfl, hp, repL_map (by rw [← hR]; exact h)⟩) fun _ => rfl
theorem ve_tup2 {Ra : α → VP} {Rb : β → VP} {ta : TA} {m : M (α × β × Unit)} (ha : VA C ta ps m (fun q => Ra q.1 :: Rb q.2.1 :: [])) : VE C (tTup ta) ps (M.bind m fun q => M.pure (q.1, q.2.1)) (Fz (rPr Ra Rb)) :=
  ve_map (fun q : α × β × Unit => (q.1, q.2.1)) (ve_tup (fun q : α × β × Unit => rPr Ra Rb (q.1, q.2.1)) ha (fun a => Nat.le_of_ble_eq_true rfl) fun a p vs G hp h => by
    cases h with
    | cons h1 h =>
      cases h with
      | cons h2 h =>
        cases h
        exact ⟨p, _, _, rfl, hp, h1, h2⟩) fun _ => rfl
theorem ve_dat {R : α → VP} [I : IsD R] {m : M α} (h : VE C te ps m (Fz R)) : VE C te ps (M.bind m fun a => M.pure (IsD.d R a)) (Fz rDat) := ve_weakM (IsD.d R) h fun a v G h => I.dq a v G h
/-! ### None or a value -/
/-! ### lent slots -/
theorem vt_lend {m : M Bool} {i : Nat} {c : CP} {q : VP} (hi : ps[i]? = some (.ow c)) (hc : ∀ p o G, c.P o G → G p = none → q.P (.ref p) (upd G p o)) (h : VT C tt (ps.set i (.fr q)) m) : VT C tt ps (M.nox m) := by
  intro σ G W H n Q Φ Ψ e st hm k x
  obtain ⟨v, hσ, p, o, rfl, hw, hg, hb, hP⟩ := e.at_ hi (by simp)
  exact h σ (upd G p o) W H n Q Φ (fun _ _ => False) (e.show hi hσ hw hg (hc p o G hP hg)) (st.show hw hg hb) hm (fun a n' G' W' H' hΦ s t => k a n' G W' H' hΦ ⟨Same.refl _, s.w, st.gw.trans s.w, fun q x hq => .inl hq⟩ t) xt_no
/-! ### comprehensions: which slots are wiped -/
theorem hv1 {i : Nat} (h : ps[i]? = some .un) : ∀ k ∈ [i], ps[k]? = some .un := fun k hk => by rw [List.mem_singleton.mp hk]; exact h
theorem hv2 {i j : Nat} (h : ps[i]? = some .un) (h2 : ps[j]? = some .un) : ∀ k ∈ [i, j], ps[k]? = some .un := fun k hk => by
  rcases List.mem_cons.mp hk with rfl | hk
  · exact h
  · exact hv1 h2 k hk
/-! ### calls, whose arguments' kinds are told by reduction -/
theorem va_eq {t : TA} {m : M α} {Rs Rs' : α → List VP} (h : VA C t ps m Rs') (hR : ∀ a, Rs' a = Rs a) : VA C t ps m Rs := by
  have : Rs' = Rs := funext hR
  subst this; exact h
theorem ve_callF {Rs Rs' : α → List VP} {F : α → M β} {Rr : β → SL} {m : M α} {E : XK} {t : TA} (ha : VA C t ps m Rs') (hR : ∀ a, Rs' a = Rs a := by intro _; rfl) (hr : ∀ b p, Rr b ≠ .bo p := by intro _ _ h; cases h) : VE C (tCall (spG C.mg C.K C.TB Rs F Rr) [] E t) ps (M.bind m fun a => M.nox (F a)) Rr := ve_call (va_eq ha hR) hr
theorem ve_callFT {Θ : Addr → Th C.TB} {s : Addr} {Rs : Addr → α → List VP} {Rs' : α → List VP} {F : α → M β} {Rr : β → SL} {m : M α} {E : XK} {t : TA} (hΘ : C.Θ = Θ s) (ha : VA C t ps m Rs') (hR : ∀ a, Rs' a = Rs s a := by intro _; rfl) (hr : ∀ b p, Rr b ≠ .bo p := by intro _ _ h; cases h) : VE C (tCall (spT C.mg C.K C.TB Θ Rs F Rr) [] E t) ps (M.bind m fun a => M.nox (F a)) Rr := ve_callT hΘ (va_eq ha hR) hr
/-- the state as an argument: it is no datum -/
theorem va_st (s : Addr) {i : Nat} {Rs : β → List VP} {tr : TA} {mb : M β} (hr : VA C tr ps mb Rs) (hi : ps[i]? = some (.fr (rSt s)) := by rfl) : VA C (tCons (tVar i) tr) ps mb (fun q => rSt s :: Rs q) := by
  intro σ G W H n Q Φ Ψ e st hm k x
  obtain ⟨v, hσ, hv⟩ := e.at_ hi (by simp)
  refine ⟨v, hσ, hr σ G W H n _ Φ Ψ e st hm (fun b n2 vs G2 W2 H2 h2 s2 t2 r2 => k b n2 (v :: vs) G2 W2 H2 h2 s2 t2 (.cons hv r2)) x⟩
/-! ### keywords -/
/-! ### join -/
def M.join (a : Str) (ys : List Str) : M Str := M.when ((ys.map (·.length)).sum + ys.length * a.length ≤ 16777216) (Txt.join a ys)
theorem ve_join {to te : TE} {m : M Str} {m2 : M (List Str)} (ho : VE C to ps m (Fz rStr)) (he : VE C te ps m2 (Fz (rLst rStr))) :
    VE C (tM1 (fun x xs H Q => ∃ a p, ∃ ys : List Str, x = .str a ∧ xs = [.ref p] ∧ (SqL C.K H p (ys.map V.str) ∨ SqT C.K H p (ys.map V.str)) ∧ (ys.map (·.length)).sum + ys.length * a.length ≤ 16777216 ∧ Q (.str (Txt.join a ys)) H) to te) ps
      (M.bind m fun a => M.bind m2 fun ys => M.join a ys) (Fz rStr) := by
  intro σ G W H n Q Φ Ψ e st hm k x
  refine ho σ G W H n _ (fun a n' => M.bind m2 (fun ys => M.join a ys) Φ Ψ n') Ψ e st hm (fun a n1 v G1 W1 H1 hm1 s1 t1 r1 _ => ?_) x
  have r1 : v = .str a := r1
  have st1 := st.stp s1 t1
  refine ⟨⟨a, r1⟩, ?_⟩
  refine he σ G1 W1 H1 n1 _ (fun ys n' => M.join a ys Φ Ψ n') Ψ (e.stp s1) st1 hm1 ?_ (x.stp s1)
  rintro ys n2 u G2 W2 H2 hm2 s2 t2 ⟨p, vs, rfl, h1, h2⟩ _
  have st2 := st1.stp s2 t2
  rw [h2.strs] at h1
  exact ⟨a, p, ys, r1, rfl, .inl (SqL.of (st2.gh _ _ h1)), hm2.1, (k.stp (s1.trans s2)).hereF (a := Txt.join a ys) st2 hm2.2 rfl⟩
/-! ### isinstance -/
theorem ve_isi {R : α → VP} {m : M α} (nm : String) (f : α → Bool) (h : VE C te ps m (Fz R)) (hf : ∀ a v G K, (R a).P v G → ∃ t, TyX K G v t ∧ PySem.W.kitOne K t (.type nm) = some (f a)) : VE C (tCB (rIsi C.K) (tCons te (tCons (tC (.ty nm)) tNil))) ps (M.bind m fun a => M.pure (f a)) (Fz rBl) := by
  intro σ G W H n Q Φ Ψ e st hm k x
  refine h σ G W H n _ (fun a n' => Φ (f a) n') Ψ e st hm (fun a n1 v G1 W1 H1 hm1 s1 t1 r1 _ => ?_) x
  have st1 := st.stp s1 t1
  obtain ⟨t, h1, h2⟩ := hf a v H1 C.K ((R a).up st1.gh r1)
  exact ⟨v, .ty nm, t, .type nm, f a, rfl, .ty nm, h1, h2, (k.stp s1).hereF (a := f a) st1 hm1 rfl⟩
def isD_bool : PyData → Bool | .bool _ => true | _ => false
def isD_int : PyData → Bool | .int _ => true | .bool _ => true | _ => false
theorem dq_ty {K : PySem.W.Frag} {G : Hp} {v : V} {d : PyData} (h : Dq G v d) : TyX K G v (match d with | .none => .type "NoneType" | .bool _ => .type "bool" | .int _ => .type "int" | .str _ => .type "str" | .list _ => .type "list" | .tuple _ => .type "tuple" | .dict _ => .type "dict") := by
  cases h with
  | non => exact .base .non
  | bl b => exact .base (.bl b)
  | int i => exact .base (.int i)
  | str x => exact .base (.str x)
  | lst h _ => exact .base (.lst h)
  | tup h _ => exact .base (.tup h)
  | dict h _ => exact .base (.dK h)
theorem ve_isiDbool {m : M PyData} (h : VE C te ps m (Fz rDat)) : VE C (tCB (rIsi C.K) (tCons te (tCons (tC (.ty "bool")) tNil))) ps (M.bind m fun a => M.pure (isD_bool a)) (Fz rBl) := ve_isi "bool" _ h fun a v G K h => ⟨_, dq_ty h, by cases a <;> rfl⟩
theorem ve_isiDint {m : M PyData} (h : VE C te ps m (Fz rDat)) : VE C (tCB (rIsi C.K) (tCons te (tCons (tC (.ty "int")) tNil))) ps (M.bind m fun a => M.pure (isD_int a)) (Fz rBl) := ve_isi "int" _ h fun a v G K h => ⟨_, dq_ty h, by cases a <;> rfl⟩
theorem ve_isi_list_list {R : α → VP} {m : M (List α)} (h : VE C te ps m (Fz (rLst R))) : VE C (tCB (rIsi C.K) (tCons te (tCons (tC (.ty "list")) tNil))) ps (M.bind m fun _ => M.pure true) (Fz rBl) := ve_isi "list" (fun _ => true) h fun a v G K ⟨p, vs, e, h1, _⟩ => ⟨.type "list", by subst e; exact .base (.lst h1), rfl⟩
end
end VL
/-! sorted(xs, key=lambda a: (len(a), a)) over tuples of texts -/
namespace VL
open PySem PySem.Spec PyProof.Rows L2 LamX
end VL
namespace VL
open PySem PySem.Spec PyProof.Rows L2 PySem.Calls
/-! ### machine: tuples collected; sorted(tuple, key=..) -/
end VL
namespace VL
open PySem PySem.Spec PyProof.Rows L2 LamX
/-- the key of the names' order -/
def keyLK (z : List Str) : PyData := .tuple [.int z.length, .tuple (z.map .str)]
def leLK : List Str → List Str → Bool := PySem.W.dataLe false keyLK
/-! ### typed -/
def sortLK (xs : List (List Str)) : List (List Str) := xs.mergeSort leLK
end VL
namespace VL
open PySem PySem.Spec PyProof.Rows L2 PySem.Calls
/-! ### machine: sorted of a tuple of texts -/
section
variable {X : Cx}
/-! ### machine: x in a tuple of data -/
/-! ### machine: sorted of data -/
theorem items_D {β : Type} {enc : β → PyData} {pins : List (Addr × Obj)} {σ : L2.St} {H : Hp} {s : Shared} (I : Inv X pins σ H s) : ∀ {vs : List V} {us : List Value} {zs : List β}, Vals vs us → DpAll X.K H vs (zs.map enc) → PySem.W.EachIs (fun u (x : β × V) => RelV x.2 u) us (zs.zip vs) ∧ PySem.W.EachIs (fun u (x : β × V) => ∃ as, Reads s.heap u (enc x.1) as) us (zs.zip vs) ∧ zs.length = vs.length
  | [], _, [], r, _ => by cases r; exact ⟨.nil, .nil, rfl⟩
  | [], _, _ :: _, _, d => nomatch d
  | _ :: _, _, [], _, d => nomatch d
  | v :: vs, _, z :: zs, r, d => by
    cases r with
    | cons r1 r2 =>
      cases d with
      | cons d1 d2 =>
        obtain ⟨a, b, c⟩ := items_D I r2 d2
        obtain ⟨as, ra⟩ := Dp.reads I _ _ _ d1 r1
        exact ⟨.cons r1 a, .cons ⟨as, ra⟩ b, by simp [c]⟩
end
end VL
namespace VL
open PySem PySem.Spec PyProof.Rows L2 LamX
section
variable {C : Cfg} {ρ α β γ δ : Type} {Rr : ρ → SL} {ps : List SL} {te ta tb : TE} {tt : TT} {t u : TS}
/-- x in a tuple of data -/
def M.inDT (d e : PyData) : M Bool := fun Q _ n => ∃ ds, e = .tuple ds ∧ (SeqAt.shaped d = true ∧ SeqAt.shaped e = true) ∧ Q (ds.any fun z => PyData.eqv z d) n
/-- sorted of data -/
def M.sortD {α : Type} (d : α → PyData) (xs : List α) : M (List α) := fun Φ _ n => ((∀ x y, PySem.W.alike (d x) (d y) = true) ∧ (∀ x, ∃ y r, d x = .tuple (y :: r)) ∧ (∀ x, (d x).depth ≤ 60) ∧ PyData.canLayAll0 (xs.map d) = true) ∧ Φ (xs.mergeSort (PySem.W.dataLe false d)) n
/-- list(x) of a datum -/
def M.listD (d : PyData) : M (List PyData) := fun Φ _ n => ∃ ds, (d = .tuple ds ∨ d = .list ds) ∧ Φ ds n
end
/-! ### calls by keywords: the places, told by numbers -/
def gP {α : Type} (a b : Nat) (perm : List Nat) (us ws : List α) : List α := match us.length == a && ws.length == b with
  | true => perm.filterMap fun i => (us ++ ws)[i]?
  | false => []
theorem vals_get {vs : List V} {us : List Value} (r : Vals vs us) (i : Nat) : (vs[i]? = none ∧ us[i]? = none) ∨ ∃ v u, vs[i]? = some v ∧ us[i]? = some u ∧ RelV v u := by
  induction r generalizing i with
  | nil => simp
  | cons a _ ih =>
    cases i with
    | zero => exact .inr ⟨_, _, rfl, rfl, a⟩
    | succ i => simpa using ih i
theorem vals_app {vs zs : List V} {us ws : List Value} (r : Vals vs us) (q : Vals zs ws) : Vals (vs ++ zs) (us ++ ws) := by
  induction r with
  | nil => exact q
  | cons a _ ih => exact .cons a ih
theorem gP_rel {a b : Nat} {perm : List Nat} {vs zs : List V} {us ws : List Value} (r : Vals vs us) (q : Vals zs ws) : Vals (gP a b perm vs zs) (gP a b perm us ws) := by
  unfold gP
  rw [r.length, q.length]
  split
  · induction perm with
    | nil => exact .nil
    | cons i p ih =>
      rw [List.filterMap_cons, List.filterMap_cons]
      rcases vals_get (vals_app r q) i with ⟨h1, h2⟩ | ⟨v, u, h1, h2, h3⟩
      · rw [h1, h2]; exact ih
      · rw [h1, h2]; exact .cons h3 ih
  · exact .nil
theorem kb_P {K : PySem.W.Frag} {x qual : Str} {st : Stmt} {f : Addr} {fd : FuncData} {ps ks : List Str} (a b : Nat) (perm : List Nat) (F : Fun K x qual st f fd) (hp : ps ≠ [])
    (h : ∀ (kV doc pm : Value) (an : Option Addr) (cdv ct : Value) (us ws : List Value), us.length = a → ws.length = b → bindArgs (PySem.W.fnOf x qual (defArgs st) (defBody st) (defScope st) .none kV doc pm an cdv ct) ⟨us, ks.zip ws⟩ = pure (ps.zip (gP a b perm us ws))) :
    KBinds K fd ps ks (gP a b perm) (gP a b perm) := by
  obtain ⟨oc, od, kV, doc, pm, an, cdv, ct, osl, rfl, lk, hcd⟩ := F.ex
  refine ⟨fun s us ws _ hl => ?_, fun r rz => gP_rel r rz⟩
  by_cases e : (us.length == a && ws.length == b) = true
  · have e2 := Bool.and_eq_true_iff.mp e
    exact .of_eq (h kV doc pm an cdv ct us ws (eq_of_beq e2.1) (eq_of_beq e2.2))
  · have e3 : (us.length == a && ws.length == b) = false := by simpa using e
    unfold gP at hl
    rw [e3] at hl
    exact absurd (List.eq_nil_of_length_eq_zero hl.symm) hp
/-! ### a def whose code object's address is known -/
structure FunC (K : PySem.W.Frag) (x qual : Str) (st : Stmt) (f : Addr) (fd : FuncData) (c : Addr) : Prop where
  ex : ∃ (oc : Value) (od : Option Addr) (kV doc pm : Value) (an : Option Addr) (ct : Value) (osl : Array (Option Value)),
    fd = PySem.W.fnOf x qual (defArgs st) (defBody st) (defScope st) .none kV doc pm an (.ref c) ct ∧ K.lookup f = some ⟨oc, od, .func fd, osl⟩ ∧ PySem.W.codeIn K (.ref c) qual = true
  kp : PySem.W.keepIn K (.ref f) = true
theorem FunC.ok {P : Program} {w : World} {K : PySem.W.Frag} {mg : Str → Option Value} {base : Heap} {x qual : Str} {st : Stmt} {f c : Addr} {fd : FuncData} {N ps : List Str} {k : Nat} {sp : Sp} (F : FunC K x qual st f fd c) (S : FnScope N ps (defScope st)) (len : ∀ vs H Q E, sp vs H Q E → vs.length = ps.length)
    (hbody : ∀ (A : Around) (outer : List Env) (s : Shared) (H : Hp) (vs : List V) (Q : VK) (E : XK), Room k (A.deeper (envOfC qual (defScope st) s.heap.objs.size f (.ref c))) → sp vs H Q E →
      ∃ t, PSs (cxOf CX0 P w K mg base N qual (defScope st) f (.ref c) A outer s H E).nox (defBody st) t ∧ t { nx := fun _ H' => Q .non H', rt := Q } (start N vs) H) : FnOk P w K mg base CX0 (k + 1) f fd ps sp := by
  obtain ⟨oc, od, kV, doc, pm, an, ct, osl, rfl, lk, hcd⟩ := F.ex
  refine fn_of lk hcd S len fun A outer s H vs Q E hr hsp => ?_
  obtain ⟨t, h, q⟩ := hbody A outer s H vs Q E hr hsp
  exact ⟨t, h.nox, q⟩
end VL
namespace VL
open PySem PySem.Spec PyProof.Rows L2 LamX
abbrev rLenSq (K : PySem.W.Frag) : List V → Hp → VK → Prop := fun xs H Q => ∃ p ys, xs = [.ref p] ∧ (SqL K H p ys ∨ SqT K H p ys) ∧ Q (.int ys.length) H
/-! ### tests of pure parts -/
section
variable {C : Cfg} {α β : Type} {ps : List SL} {te ta tb : TE} {tt tu : TT} {m : M Bool} {y : Bool}
theorem ve_andP (h : VE C ta ps m (Fz rBl)) (h2 : VE C tb ps (M.pure y) (Fz rBl)) : VE C (tAndV ta tb) ps (M.bind m fun b => M.pure (b && y)) (Fz rBl) := by
  intro σ G W H n Q Φ Ψ e st hm k x
  refine ve_and h h2 σ G W H n Q Φ Ψ e st ?_ k x
  have : (M.bind m fun b => M.ite b (M.pure y) (M.pure false)) = (M.bind m fun b => M.pure (b && y)) := by
    congr 1; funext b; cases b <;> rfl
  rw [this]; exact hm
theorem vt_andP (h : VT C tt ps m) (h2 : VT C tu ps (M.pure y)) : VT C (tAnd tt tu) ps (M.bind m fun b => M.pure (b && y)) := by
  intro σ G W H n Q Φ Ψ e st hm k x
  refine vt_and h h2 σ G W H n Q Φ Ψ e st ?_ k x
  have : (M.bind m fun b => M.ite b (M.pure y) (M.pure false)) = (M.bind m fun b => M.pure (b && y)) := by
    congr 1; funext b; cases b <;> rfl
  rw [this]; exact hm
theorem vt_orP (h : VT C tt ps m) (h2 : VT C tu ps (M.pure y)) : VT C (tOr tt tu) ps (M.bind m fun b => M.pure (b || y)) := by
  intro σ G W H n Q Φ Ψ e st hm k x
  refine vt_or h h2 σ G W H n Q Φ Ψ e st ?_ k x
  have : (M.bind m fun b => M.ite b (M.pure true) (M.pure y)) = (M.bind m fun b => M.pure (b || y)) := by
    congr 1; funext b; cases b <;> rfl
  rw [this]; exact hm
theorem ite_ {b : Bool} {m k : M α} {Φ : α → Nat → Prop} {Ψ : Exc → Nat → Prop} {n : Nat} (h1 : b = true → m Φ Ψ n) (h2 : b = false → k Φ Ψ n) : M.ite b m k Φ Ψ n := by
  cases b with
  | true => exact iteT (h1 rfl)
  | false => exact iteF (h2 rfl)
end
/-! ### the law: from the script to the view -/
def spLawT (K : PySem.W.Frag) (TB : List (Addr × Str)) : Sp := fun vs H Q _ => ∃ (a : Addr) (ns : List Int), vs = [.ref a] ∧ SqL K H a (ns.map V.int) ∧ ns.length ≤ 63 ∧ LamX.Tabs TB H ∧ ∀ H', Q (.bl true) H'
theorem spLawT_len {K : PySem.W.Frag} {TB : List (Addr × Str)} {p : Str} : ∀ vs H Q E, spLawT K TB vs H Q E → vs.length = [p].length := by
  rintro vs H Q E ⟨_, _, rfl, _⟩
  rfl
theorem th_start {TB : List (Addr × Str)} {s : Addr} {H H' : Hp} (v : View s 0 H H') (t : LamX.Tabs TB H) : (thV (TB := TB) s).T 0 (fun _ => none) H' := by
  have sub := v.sub
  obtain ⟨b, c, n, bs, cs, k, l⟩ := v
  exact ⟨⟨b, c, n, bs, cs, { k with sub := fun _ _ h => (nomatch h), gs := rfl, gb := rfl, gc := rfl }, l⟩, fun _ _ h => (nomatch h), t.ext sub⟩
theorem law_T {mg : Str → Option Value} {K : PySem.W.Frag} {TB : List (Addr × Str)} {δ : Type} {vs : List V} {H : Hp} {Q : VK} {E : XK} {N : List Str} {t : TS} {m : M (Fl Bool δ)} {ψ : δ → List SL} (h : spLawT K TB vs H Q E)
    (hb : ∀ (s : Addr) (B G0 : Hp), SV ⟨TB, thV s, mg, K, B, G0, fun _ => E, []⟩ (Fz rBl) t ((SL.un :: .fr (rSt s) :: List.replicate (N.length - 2) .un)) m ψ)
    (hm : ∀ Ψ, M.ret m (fun b _ => b = true) Ψ 0) (hN : 2 ≤ N.length := by decide) :
    tSeq (tAsg (tCall (spStart K) [] E0 (tCons (tVar 0) tNil)) (gName 1)) t { nx := fun _ H' => Q .non H', rt := Q } (start N vs) H := by
  obtain ⟨a, ns, rfl, hS, hl, ht, hQ⟩ := h
  refine ⟨.ref a, rfl, a, ns, rfl, hS, hl, fun s H' v => ?_⟩
  have T := th_start v ht
  have e : (start N [V.ref a]).set 1 (some (.ref s)) = some (.ref a) :: some (.ref s) :: List.replicate (N.length - 2) none := by
    unfold L2.start
    match N, hN with
    | _ :: _ :: N, _ => simp [List.replicate_succ]
  show t { nx := fun _ H' => Q .non H', rt := Q } ((start N [V.ref a]).set 1 (some (.ref s))) H'
  rw [e]
  have un : ∀ {i : Nat} {x : SL}, (List.replicate (N.length - 2) SL.un)[i]? = some x → x = .un := fun {i x} h => by
    rw [List.getElem?_replicate] at h
    split at h
    · exact (Option.some.inj h).symm
    · cases h
  have no : ∀ {i : Nat} {d : CP}, (SL.un :: .fr (rSt s) :: List.replicate (N.length - 2) .un)[i]? = some (.ow d) → False := fun {i d} h => by
    match i with
    | 0 => simp at h
    | 1 => simp at h
    | i + 2 => exact absurd (un (show (List.replicate (N.length - 2) SL.un)[i]? = some (.ow d) by simpa using h)) (by simp)
  refine hb s (fun _ => none) (fun _ => none) _ _ (fun _ => none) (fun _ => none) H' 0 _ (fun _ _ => False) ⟨by simp, fun {i x} h n => ?_, fun {i j c d a} _ h _ _ _ => (no h).elim⟩ ⟨T, Same.refl _, Same.refl _, Same.refl _, fun _ _ h => (nomatch h)⟩ (hm _) ?_ ?_ ?_
  · match i with
    | 0 => simp at h; exact absurd h.symm n
    | 1 => simp at h; subst h; exact ⟨.ref s, rfl, rfl⟩
    | i + 2 => exact absurd (un (show (List.replicate (N.length - 2) SL.un)[i]? = some x by simpa using h)) n
  · intro _ _ _ _ _ _ z; exact z.elim
  · intro r n v G W H z _ hv
    have z : r = true := z
    subst z
    have hv : v = .bl true := hv
    subst hv
    exact hQ H
  · intro _ _ _ _ _ _ _ _ z; exact z.elim
end VL
namespace VL
open PySem PySem.Spec PyProof.Rows L2
/-! ### what a meaning comes to: the parts, shut -/
@[irreducible] def Mi.neD (d e : PyData) : M Bool := M.neD d e
@[irreducible] def Mi.eqD (d e : PyData) : M Bool := M.eqD d e
@[irreducible] def Mi.inD (d : PyData) (ds : List PyData) : M Bool := M.inD d ds
@[irreducible] def Mi.inDT (d e : PyData) : M Bool := M.inDT d e
@[irreducible] def Mi.idx {α : Type} (xs : List α) (i : Int) : M α := M.idx xs i
@[irreducible] def Mi.sgn (z : Str) (i : Int) : M Str := M.sgn z i
@[irreducible] def Mi.rng (lo hi : Int) : M (List Int) := M.rng lo hi
@[irreducible] def Mi.comp {β γ : Type} (xs : List β) (f : β → M (Option γ)) : M (List γ) := M.comp xs f
@[irreducible] def Mi.join (a : Str) (ys : List Str) : M Str := M.join a ys
@[irreducible] def Mi.popAt {α : Type} (xs : List α) (j : Int) : M (α × List α) := M.popAt xs j
@[irreducible] def Mi.popE {α : Type} (xs : List α) : M (α × List α) := M.popE xs
@[irreducible] def Mi.sortI (xs : List Int) : M (List Int) := M.sortI xs
@[irreducible] def Mi.sortS (xs : List Str) : M (List Str) := M.sortS xs
@[irreducible] def Mi.sortD {α : Type} (d : α → PyData) (xs : List α) : M (List α) := M.sortD d xs
@[irreducible] def Mi.listD (d : PyData) : M (List PyData) := M.listD d
@[irreducible] def Mi.setL {α : Type} (xs : List α) (j : Int) (a : α) : M (List α) := M.setL xs j a
@[irreducible] def Mi.max (xs : List Int) : M Int := M.max xs
@[irreducible] def Mi.min (xs : List Int) : M Int := M.min xs
@[irreducible] def Mi.draw (m : Int) : M Int := M.draw m
section
variable {α β γ σ ρ : Type} {Ψ : Exc → Nat → Prop} {n : Nat}
theorem draw_ok {m : Int} {Φ : Int → Nat → Prop} (hn : n ≤ 1000000) (h0 : 0 < m) (h1 : m < 2 ^ 100) (k : ∀ d, 0 ≤ d → d < m → Φ d (n + 1)) : Mi.draw m Φ Ψ n := by delta Mi.draw; exact ⟨⟨hn, h0, h1⟩, k⟩
theorem drop_at {xs ys : List β} {i : Nat} {y : β} (e : xs.drop i = y :: ys) : xs[i]? = some y ∧ xs.drop (i + 1) = ys ∧ i < xs.length := by
  refine ⟨?_, ?_, ?_⟩
  · have : (xs.drop i)[0]? = some y := by rw [e]; rfl
    rwa [List.getElem?_drop, Nat.add_zero] at this
  · have := congrArg List.tail e
    simpa using this
  · have := congrArg List.length e
    simp at this
    omega
theorem drop_nil {xs : List β} {i : Nat} (e : xs.drop i = []) (hi : i ≤ xs.length) : i = xs.length := by
  have := congrArg List.length e
  simp at this
  omega
/-- a comprehension by an invariant -/
theorem comp_rule {f : β → M (Option γ)} {xs : List β} {Φ : List γ → Nat → Prop} (I : Nat → List γ → Nat → Prop) (hl : xs.length ≤ 1000) (h0 : I 0 [] n)
    (hs : ∀ i x acc n', xs[i]? = some x → I i acc n' → ∀ Φ' : Option γ → Nat → Prop, (∀ o n2, I (i + 1) (acc ++ o.toList) n2 → Φ' o n2) → f x Φ' (fun _ _ => False) n')
    (hk : ∀ acc n', I xs.length acc n' → Φ acc n') : Mi.comp xs f Φ Ψ n := by
  delta Mi.comp
  refine ⟨hl, ?_⟩
  have go : ∀ (ys : List β) (i : Nat) (acc : List γ) (n : Nat), xs.drop i = ys → i ≤ xs.length → I i acc n → M.compA f acc ys Φ (fun _ _ => False) n := by
    intro ys
    induction ys with
    | nil =>
      intro i acc n e hi h
      have := drop_nil e hi
      subst this
      exact hk acc n h
    | cons y ys ih =>
      intro i acc n e hi h
      obtain ⟨h1, h2, h3⟩ := drop_at e
      exact hs i y acc n h1 h _ fun o n2 h4 => ih (i + 1) _ n2 h2 h3 h4
  exact go xs 0 [] n rfl (Nat.zero_le _) h0
/-- .. that draws nothing -/
theorem comp_pure {f : β → M (Option γ)} {xs : List β} {Φ : List γ → Nat → Prop} (g : β → Option γ) (hf : ∀ x ∈ xs, ∀ (Φ' : Option γ → Nat → Prop) n', Φ' (g x) n' → f x Φ' (fun _ _ => False) n') (hl : xs.length ≤ 1000) (hk : Φ (xs.filterMap g) n) : Mi.comp xs f Φ Ψ n := by
  refine comp_rule (fun i acc n' => acc = (xs.take i).filterMap g ∧ n' = n) hl ⟨rfl, rfl⟩ (fun i x acc n' hx hI Φ' k => ?_) fun acc n' h => ?_
  · obtain ⟨rfl, rfl⟩ := hI
    refine hf x (List.mem_of_getElem? hx) Φ' _ (k _ _ ⟨?_, rfl⟩)
    rw [List.take_succ, hx, List.filterMap_append]
    simp [List.filterMap]
    cases g x <;> rfl
  · obtain ⟨rfl, rfl⟩ := h
    rw [List.take_length]
    exact hk
theorem comp_map {f : β → M (Option γ)} {xs : List β} {Φ : List γ → Nat → Prop} (g : β → γ) (hf : ∀ x ∈ xs, ∀ (Φ' : Option γ → Nat → Prop) n', Φ' (some (g x)) n' → f x Φ' (fun _ _ => False) n') (hl : xs.length ≤ 1000) (hk : Φ (xs.map g) n) : Mi.comp xs f Φ Ψ n :=
  comp_pure (fun x => some (g x)) hf hl (by rw [List.filterMap_eq_map']; exact hk)
theorem filterMap_if (p : β → Bool) : ∀ xs : List β, xs.filterMap (fun x => if p x then some x else none) = xs.filter p
  | [] => rfl
  | x :: xs => by
    rw [List.filterMap_cons, List.filter_cons]
    cases h : p x with
    | true => simp [filterMap_if p xs]
    | false => simp [filterMap_if p xs]
theorem comp_filter {f : β → M (Option β)} {xs : List β} {Φ : List β → Nat → Prop} (p : β → Bool) (hf : ∀ x ∈ xs, ∀ (Φ' : Option β → Nat → Prop) n', Φ' (if p x then some x else none) n' → f x Φ' (fun _ _ => False) n') (hl : xs.length ≤ 1000) (hk : Φ (xs.filter p) n) : Mi.comp xs f Φ Ψ n :=
  comp_pure (fun x => if p x then some x else none) hf hl (by rw [filterMap_if]; exact hk)
/-- a for loop by an invariant; r: a way out by return -/
theorem for_rule {f : β → σ → M (Fl ρ σ)} {xs : List β} {s : σ} {Φ : Fl ρ σ → Nat → Prop} (I : Nat → σ → Nat → Prop) (h0 : I 0 s n)
    (hs : ∀ i x s n', xs[i]? = some x → I i s n' → ∀ Φ' : Fl ρ σ → Nat → Prop, (∀ s2 n2, I (i + 1) s2 n2 → Φ' (.nx s2) n2) → (∀ r n2, Φ (.rt r) n2 → Φ' (.rt r) n2) → f x s Φ' Ψ n')
    (hk : ∀ s n', I xs.length s n' → Φ (.nx s) n') : M.forL f xs s Φ Ψ n := by
  have go : ∀ (ys : List β) (i : Nat) (s : σ) (n : Nat), xs.drop i = ys → i ≤ xs.length → I i s n → M.forL f ys s Φ Ψ n := by
    intro ys
    induction ys with
    | nil =>
      intro i s n e hi h
      have := drop_nil e hi
      subst this
      exact hk s n h
    | cons y ys ih =>
      intro i s n e hi h
      obtain ⟨h1, h2, h3⟩ := drop_at e
      refine hs i y s n h1 h _ (fun s2 n2 h4 => ih (i + 1) s2 n2 h2 h3 h4) fun r n2 h4 => h4
  exact go xs 0 s n rfl (Nat.zero_le _) h0
theorem atI_lt {xs : List α} {i : Int} (h0 : 0 ≤ i) (h1 : i < xs.length) : ∃ (k : Nat) (h : k < xs.length), i = (k : Int) ∧ L2.atI xs i = some xs[k] := by
  obtain ⟨k, rfl⟩ := Int.eq_ofNat_of_zero_le h0
  have hk : k < xs.length := by omega
  exact ⟨k, hk, rfl, atI_nat (List.getElem?_eq_getElem hk)⟩
theorem sgn_ok {z : Str} {i : Int} {Φ : Str → Nat → Prop} (hz : z.length ≤ 1000) (h0 : 0 ≤ i) (h1 : i < z.length) (k : ∀ c, c ∈ z.cps.toList → z.cps.toList[i.toNat]? = some c → Φ ⟨#[c]⟩ n) : Mi.sgn z i Φ Ψ n := by
  delta Mi.sgn
  obtain ⟨j, hj, rfl, e⟩ := atI_lt (xs := z.cps.toList) h0 (by rw [L2.len_list]; exact h1)
  exact ⟨size1000 hz, _, e, k _ (List.getElem_mem _) (by simp [hj])⟩
theorem rng_nat (m : Nat) : ((List.range (((m : Nat) : Int) - 0).toNat).map fun k : Nat => (0 : Int) + (k : Int)) = (List.range m).map fun i : Nat => (i : Int) := by
  rw [show (((m : Int)) - 0).toNat = m by omega]
  apply List.map_congr_left
  intro a _
  omega
theorem rng0 {m : Nat} {Φ : List Int → Nat → Prop} (h : m < 1000000) (k : Φ ((List.range m).map fun i : Nat => (i : Int)) n) : Mi.rng 0 ((m : Nat) : Int) Φ Ψ n := by
  delta Mi.rng
  refine ⟨⟨by omega, by omega, by omega, by omega⟩, ?_⟩
  rw [rng_nat]
  exact k
theorem idx_i {xs : List α} {i : Int} {x : α} {Φ : α → Nat → Prop} (h : L2.atI xs i = some x) (k : Φ x n) : Mi.idx xs i Φ Ψ n := by delta Mi.idx; exact ⟨x, h, k⟩
theorem sgn_i {z : Str} {i : Int} {c : Nat} {Φ : Str → Nat → Prop} (hz : z.length ≤ sizeLine) (h : L2.atI z.cps.toList i = some c) (k : Φ ⟨#[c]⟩ n) : Mi.sgn z i Φ Ψ n := by delta Mi.sgn; exact ⟨hz, c, h, k⟩
theorem join_i {a : Str} {ys : List Str} {Φ : Str → Nat → Prop} (h : (ys.map (·.length)).sum + ys.length * a.length ≤ 16777216) (k : Φ (Txt.join a ys) n) : Mi.join a ys Φ Ψ n := by delta Mi.join; exact ⟨h, k⟩
theorem sortS_i {xs : List Str} {Φ : List Str → Nat → Prop} (h : xs.length < 64) (k : ∀ ns : List Str, ns.Perm xs → sortedS ns = true → Φ ns n) : Mi.sortS xs Φ Ψ n := by delta Mi.sortS; exact ⟨h, k⟩
theorem popAt_i {xs : List α} {j : Int} {m : Nat} {a : α} {Φ : α × List α → Nat → Prop} (h0 : -(2 ^ 63) ≤ j ∧ j < 2 ^ 63) (h : seqIndex? j xs.length = some m) (h2 : xs[m]? = some a) (k : Φ (a, xs.eraseIdx m) n) : Mi.popAt xs j Φ Ψ n := by delta Mi.popAt; exact ⟨m, a, h0, h, h2, k⟩
theorem setL_i {xs : List α} {j : Int} {a : α} {m : Nat} {Φ : List α → Nat → Prop} (h : ixN xs.length j = some m) (k : Φ (xs.set m a) n) : Mi.setL xs j a Φ Ψ n := by delta Mi.setL; exact ⟨m, h, k⟩
theorem max_i {xs : List Int} {Φ : Int → Nat → Prop} (h : 0 < xs.length) (k : ∀ m, m ∈ xs → (∀ y, y ∈ xs → y ≤ m) → Φ m n) : Mi.max xs Φ Ψ n := by delta Mi.max; exact ⟨h, k⟩
theorem range_at {m i : Nat} {x : Int} (h : ((List.range m).map fun i : Nat => (i : Int))[i]? = some x) : x = (i : Int) ∧ i < m := by
  rw [List.getElem?_map] at h
  cases e : (List.range m)[i]? with
  | none => rw [e] at h; cases h
  | some k =>
    rw [e] at h
    obtain ⟨h1, h2⟩ := List.getElem?_eq_some_iff.mp e
    rw [List.length_range] at h1
    rw [List.getElem_range] at h2
    subst h2
    exact ⟨(Option.some.inj h).symm, h1⟩
end
/-! ### equality of data -/
class IsQ {α : Type} (R : α → VP) [IsD R] where
  ok : α → Prop
  k : Nat
  lay : ∀ a : α, ok a → (IsD.d R a).canLay0 = true
  dep : ∀ a : α, (IsD.d R a).depth ≤ k
  eqv : ∀ a b : α, PyData.eqv (IsD.d R a) (IsD.d R b) = true ↔ a = b
instance : IsQ rInt := ⟨fun _ => True, 0, fun _ _ => by simp [IsD.d, PyData.canLay0], fun _ => by simp [IsD.d, PyData.depth], fun a b => by simp [IsD.d, PyData.eqv]⟩
instance : IsQ rBl := ⟨fun _ => True, 0, fun _ _ => by simp [IsD.d, PyData.canLay0], fun _ => by simp [IsD.d, PyData.depth], fun a b => by simp [IsD.d, PyData.eqv]⟩
instance : IsQ rStr := ⟨fun z => PyData.strOk z = true, 0, fun _ h => by simp [IsD.d, PyData.canLay0, h], fun _ => by simp [IsD.d, PyData.depth], fun a b => by simp [IsD.d, PyData.eqv]⟩
instance : IsQ rNon := ⟨fun _ => True, 0, fun _ _ => by simp [IsD.d, PyData.canLay0], fun _ => by simp [IsD.d, PyData.depth], fun a b => by simp [IsD.d, PyData.eqv]⟩
section
variable {α β : Type} {R : α → VP} {S : β → VP} [IsD R] [IsQ R] [IsD S] [IsQ S]
theorem q_layAll : ∀ xs : List α, (∀ x ∈ xs, IsQ.ok R x) → PyData.canLayAll0 (xs.map (IsD.d R)) = true
  | [], _ => by simp [PyData.canLayAll0]
  | x :: xs, h => by simp [PyData.canLayAll0, IsQ.lay (R := R) x (h x (List.mem_cons_self ..)), q_layAll xs fun y hy => h y (List.mem_cons_of_mem _ hy)]
theorem q_depAll : ∀ xs : List α, PyData.depthAll (xs.map (IsD.d R)) ≤ IsQ.k R
  | [] => by simp [PyData.depthAll]
  | x :: xs => by
    have h1 := IsQ.dep (R := R) x
    have h2 := q_depAll xs
    simp only [List.map_cons, PyData.depthAll]
    omega
theorem q_eqvAll : ∀ xs ys : List α, PyData.eqvAll (xs.map (IsD.d R)) (ys.map (IsD.d R)) = true ↔ xs = ys
  | [], [] => by simp [PyData.eqvAll]
  | [], _ :: _ => by simp [PyData.eqvAll]
  | _ :: _, [] => by simp [PyData.eqvAll]
  | x :: xs, y :: ys => by
    have h1 := IsQ.eqv (R := R) x y
    have h2 := q_eqvAll xs ys
    simp only [List.map_cons, PyData.eqvAll, Bool.and_eq_true, List.cons.injEq]
    rw [h1, h2]
instance : IsQ (rLst R) := ⟨fun xs => ∀ x ∈ xs, IsQ.ok R x, IsQ.k R + 1, fun xs h => by simp only [IsD.d, PyData.canLay0]; exact q_layAll xs h, fun xs => by
  have := q_depAll (R := R) xs
  simp only [IsD.d, PyData.depth]
  omega, fun xs ys => by simp only [IsD.d, PyData.eqv]; exact q_eqvAll xs ys⟩
instance : IsQ (rTup R) := ⟨fun xs => ∀ x ∈ xs, IsQ.ok R x, IsQ.k R + 1, fun xs h => by simp only [IsD.d, PyData.canLay0]; exact q_layAll xs h, fun xs => by
  have := q_depAll (R := R) xs
  simp only [IsD.d, PyData.depth]
  omega, fun xs ys => by simp only [IsD.d, PyData.eqv]; exact q_eqvAll xs ys⟩
instance : IsQ (rPr R S) := ⟨fun q => IsQ.ok R q.1 ∧ IsQ.ok S q.2, max (IsQ.k R) (IsQ.k S) + 1, fun q h => by simp [IsD.d, PyData.canLay0, PyData.canLayAll0, IsQ.lay (R := R) q.1 h.1, IsQ.lay (R := S) q.2 h.2], fun q => by
  have h1 := IsQ.dep (R := R) q.1
  have h2 := IsQ.dep (R := S) q.2
  simp only [IsD.d, PyData.depth, PyData.depthAll]
  omega, fun q r => by
  have h1 := IsQ.eqv (R := R) q.1 r.1
  have h2 := IsQ.eqv (R := S) q.2 r.2
  simp only [IsD.d, PyData.eqv, PyData.eqvAll, Bool.and_eq_true, Bool.and_true, h1, h2]
  obtain ⟨a, b⟩ := q
  obtain ⟨c, d⟩ := r
  simp⟩
theorem q_sh {a : α} (h : IsQ.ok R a) (hk : IsQ.k R ≤ 64) : SeqAt.shaped (IsD.d R a) = true := by
  unfold SeqAt.shaped
  rw [Bool.and_eq_true]
  exact ⟨IsQ.lay a h, decide_eq_true (Nat.le_trans (IsQ.dep a) hk)⟩
variable {Φ : Bool → Nat → Prop} {Ψ : Exc → Nat → Prop} {n : Nat} {a b : α}
theorem ne_no (h : a = b) (ha : IsQ.ok R a) (k : Φ false n) (hk : IsQ.k R ≤ 64 := by decide) : Mi.neD (IsD.d R a) (IsD.d R b) Φ Ψ n := by
  delta Mi.neD
  subst h
  exact ⟨⟨q_sh ha hk, q_sh ha hk⟩, by rw [(IsQ.eqv a a).mpr rfl]; exact k⟩
theorem eq_dec [DecidableEq α] (ha : IsQ.ok R a) (hb : IsQ.ok R b) (k : Φ (decide (a = b)) n) (hk : IsQ.k R ≤ 64 := by decide) : Mi.eqD (IsD.d R a) (IsD.d R b) Φ Ψ n := by
  delta Mi.eqD
  exact ⟨⟨q_sh ha hk, q_sh hb hk⟩, by
  have : PyData.eqv (IsD.d R a) (IsD.d R b) = decide (a = b) := by rw [Bool.eq_iff_iff, IsQ.eqv, decide_eq_true_iff]
  rw [this]; exact k⟩
theorem ne_dec [DecidableEq α] (ha : IsQ.ok R a) (hb : IsQ.ok R b) (k : Φ (!decide (a = b)) n) (hk : IsQ.k R ≤ 64 := by decide) : Mi.neD (IsD.d R a) (IsD.d R b) Φ Ψ n := by
  delta Mi.neD
  exact ⟨⟨q_sh ha hk, q_sh hb hk⟩, by
  have : PyData.eqv (IsD.d R a) (IsD.d R b) = decide (a = b) := by rw [Bool.eq_iff_iff, IsQ.eqv, decide_eq_true_iff]
  rw [this]; exact k⟩
end
end VL
namespace VL
open PySem PySem.Spec PyProof.Rows L2 LamX
end VL
namespace VL
open PySem PySem.Spec PyProof.Rows L2
theorem law_binds {K : PySem.W.Frag} {x qual p : Str} {st : Stmt} {f : Addr} {fd : FuncData} (F : Fun K x qual st f fd) (h : ∀ (kV doc pm : Value) (an : Option Addr) (cdv ct v : Value), bindArgs (PySem.W.fnOf x qual (defArgs st) (defBody st) (defScope st) .none kV doc pm an cdv ct) ⟨[v], []⟩ = pure [(p, v)]) (s : Shared) (v : Value) : BindsTo s fd ⟨[v], []⟩ [(p, v)] := by
  obtain ⟨oc, od, kV, doc, pm, an, cdv, ct, osl, rfl, lk, hcd⟩ := F.ex
  exact .of_eq (h kV doc pm an cdv ct v)
end VL
namespace ZN
open PySem PySem.Spec PyProof.Rows L2
/-! ### over the layer: tuple(zip(*y)), y a tuple of tuples -/
end ZN
namespace VL
open PySem PySem.Spec PyProof.Rows L2 ZN
/-! ### tuple(zip(*lines)), typed -/
def colsL {α : Type} (xss : List (List α)) (n : Nat) : List (List α) := (List.range n).map fun j => xss.filterMap (·[j]?)
def M.exch {α : Type} (xss : List (List α)) : M (List (List α)) := fun Φ _ k => ∃ n, (0 < xss.length ∧ xss.length ≤ 1000 ∧ 0 < n ∧ n ≤ 1000 ∧ ∀ r ∈ xss, r.length = n) ∧ Φ (colsL xss n) k
section
variable {α : Type} {R : α → VP} {G : Hp}
def LR (R : α → VP) (G : Hp) : List (List α) → List (Addr × List V) → Prop
  | [], [] => True
  | x :: xs, q :: qs => (G q.1 = some (.tup q.2) ∧ reps R x q.2 G) ∧ LR R G xs qs
  | _, _ => False
theorem LR.len : ∀ {xss : List (List α)} {ls : List (Addr × List V)}, LR R G xss ls → ls.length = xss.length
  | [], [], _ => rfl
  | _ :: _, _ :: _, h => by rw [List.length_cons, List.length_cons, LR.len h.2]
theorem LR.at_ : ∀ {xss : List (List α)} {ls : List (Addr × List V)} {n : Nat}, LR R G xss ls → (∀ r ∈ xss, r.length = n) → ∀ p ∈ ls, G p.1 = some (.tup p.2) ∧ p.2.length = n
  | [], [], _, _, _, p, hp => by simp at hp
  | x :: xs, q :: qs, n, h, hn, p, hp => by
    rcases List.mem_cons.mp hp with rfl | hp
    · exact ⟨h.1.1, by rw [h.1.2.len]; exact hn x (List.mem_cons_self ..)⟩
    · exact LR.at_ h.2 (fun r hr => hn r (List.mem_cons_of_mem _ hr)) p hp
end
end VL
namespace L2
open PySem PySem.Spec PyProof.Rows
/-! ### sets of texts whose order can be walked: made of a list, sorted -/
/-- an entry's text -/
def txOf (e : Int × Value) : Str := match e.2 with
  | .str x _ => x
  | _ => Str.empty
def addS (k : Str) (l : List Str) : List Str := if k ∈ l then l else k :: l
/-- the payload holds the texts l -/
structure Pay (P : Program) (w : World) (l : List Str) (es : Array (Int × Value)) (t : SetTable) : Prop where
  el : ElemsOf (PySem.strKind P w) es.toList
  pm : (es.toList.map txOf).Perm l
  nd : l.Nodup
  sz : es.size < scanBound
  fits : t.fits es.size = true
  ris : Ris t.place.toList
  led : w.params.followText "set-order" = true ∨ t.led = true
def TxR (P : Program) (w : World) (h : Heap) (a : Addr) (l : List Str) : Prop := ∃ o es ep t, h.get? a = some o ∧ o.ExactSet ∧ o.data = .set es ep t ∧ Pay P w l es t
section
variable {P : Program} {w : World} {A : Around} {E : Value → Shared → Prop} {s : Shared} {a : Addr} {l : List Str}
theorem TxR.at {h h' : Heap} (R : TxR P w h a l) (k : ∀ o, h.get? a = some o → h'.get? a = some o) : TxR P w h' a l := by
  obtain ⟨o, es, ep, t, ho, r⟩ := R
  exact ⟨o, es, ep, t, k o ho, r⟩
theorem el_text {e : Int × Value} {k : Str} (h : (PySem.strKind P w).is k e.2 = true) : txOf e = k := by
  obtain ⟨tk, e1⟩ := Value.isStrOf_shape (x := k) (v := e.2) h
  unfold txOf
  rw [e1]
theorem Pay.mem {es : Array (Int × Value)} {t : SetTable} (p : Pay P w l es t) {k : Str} : k ∈ l ↔ ∃ e ∈ es.toList, (PySem.strKind P w).is k e.2 = true := by
  rw [← p.pm.mem_iff, List.mem_map]
  refine ⟨fun ⟨e, he, q⟩ => ⟨e, he, ?_⟩, fun ⟨e, he, q⟩ => ⟨e, he, el_text q⟩⟩
  obtain ⟨⟨x, hx, _⟩, _⟩ := p.el e he
  rw [el_text hx] at q
  exact q ▸ hx
theorem Pay.len {es : Array (Int × Value)} {t : SetTable} (p : Pay P w l es t) : es.size = l.length := by
  rw [← p.pm.length_eq, List.length_map, Array.length_toList]
/-- the texts of xs, each once -/
def distS (xs : List Str) : List Str := xs.foldl (fun l k => addS k l) []
end
end L2
set_option maxHeartbeats 6400000
namespace L2
open PySem PySem.Spec PyProof.Rows
end L2
namespace VL
open PySem PySem.Spec PyProof.Rows L2
/-! ### sorted(set(texts)) -/
def M.sortSet (xs : List Str) : M (List Str) := fun Φ _ n => xs.length ≤ 1000 ∧ (distS xs).length < 64 ∧ ∀ ys : List Str, ys.Perm (distS xs) → ys.Nodup → sortedS ys = true → Φ ys n
section
variable {C : Cfg} {α β γ ρ : Type} {Rr : ρ → SL} {ps : List SL} {te ta tb : TE} {P : Program} {w : World}
/-! ### insert -/
def M.insert {α : Type} (xs : List α) (j : Int) (a : α) : M (List α) := fun Φ _ n => (xs.length < sizeLine ∧ 0 ≤ j ∧ j < 2 ^ 63) ∧ Φ (xs.take j.toNat ++ [a] ++ xs.drop j.toNat) n
/-- append of what may change another slot -/
theorem vx_appendP {R : α → VP} {xs : List α} {m : M γ} {val : γ → α} {ψ : γ → List SL} {i : Nat} (he : VX C te ps m (fun q => .fr (R (val q))) ψ) (hi : ps[i]? = some (.ow (cLst R xs))) (f : γ → List α) (hi2 : ∀ a, (ψ a)[i]? = some (.ow (cLst R (f a)))) :
    VX C (tBM C.K "list" rAppend (tVar i) (tCons te tNil)) ps (M.bind m fun a => M.when ((f a).length < sizeLine) a) (fun _ => .fr (rNon ())) (fun a => (ψ a).set i (.ow (cLst R (f a ++ [val a])))) := by
  intro σ G W H n Q Φ Ψ e st hm k x
  obtain ⟨p, vs, hσ, hw, hh, hg, hb, hr⟩ := own_get e st hi
  refine ⟨.ref p, hσ, .inl ⟨rfl, vs, SqL.of hh⟩, ?_⟩
  refine he σ G W H n _ (fun a n' => M.when ((f a).length < sizeLine) a Φ Ψ n') Ψ e st hm (fun a n' v G' W' H' hΦ s e' st' r _ => ?_) x
  obtain ⟨q, us, hσ', hw', hh', hg', hb', hr'⟩ := own_get e' st' (hi2 a)
  rw [hσ] at hσ'
  cases hσ'
  refine ⟨p, us, v, rfl, rfl, hh', by rw [hr'.len]; exact hΦ.1, ?_⟩
  exact k a n' .non G' (upd W' p (.lst (us ++ [v]))) _ hΦ.2 s (e'.putOwn (hi2 a) hσ ⟨_, rfl, hr'.app ⟨r, trivial⟩⟩) (st'.put hw' hg' hb') rfl fun c h => nomatch h
/-! ### new lists: their address is none that stood at the start -/
end
end VL
namespace VL
open PySem PySem.Spec PyProof.Rows L2
section
variable {C : Cfg} {α β γ δ ρ : Type} {Rr : ρ → SL} {ps : List SL} {te ta tb : TE} {tt : TT} {t u : TS}
/-! ### what is never reached -/
def M.never {α : Type} : M α := fun _ _ _ => False
/-! ### two clauses -/
def M.comp2A {β δ γ : Type} (f : β → M (List δ)) (g : β → δ → M (Option γ)) : List γ → List β → M (List γ)
  | acc, [] => M.pure acc
  | acc, x :: r => M.bind (f x) fun ys => fun Q E n => ys.length ≤ 1000 ∧ M.bind (M.compA (g x) acc ys) (fun acc => M.comp2A f g acc r) Q E n
def M.comp2 {β δ γ : Type} (xs : List β) (f : β → M (List δ)) (g : β → δ → M (Option γ)) : M (List γ) := fun Q _ n => xs.length ≤ 1000 ∧ M.comp2A f g [] xs Q (fun _ _ => False) n
theorem wipe_idem {vs : List Nat} {σ : L2.St} : wipe (wipe σ vs) vs = wipe σ vs := by
  have sub : ∀ (us : List Nat), (∀ u ∈ us, u ∈ vs) → ∀ σ : L2.St, wipe (wipe σ us) vs = wipe σ vs := by
    intro us
    induction us with
    | nil => intro _ σ; rfl
    | cons u us ih =>
      intro h σ
      show wipe ((wipe σ us).set u none) vs = _
      rw [wipe_set (h u List.mem_cons_self)]
      exact ih (fun z hz => h z (List.mem_cons_of_mem _ hz)) σ
  exact sub vs (fun _ h => h) σ
end
end VL
namespace VL
open PySem PySem.Spec PyProof.Rows L2
/-! ### instances of an own class -/
def SL.isF : SL → Bool | .un => true | .fr _ => true | _ => false
theorem isF_no {ps : List SL} (h : ps.all SL.isF = true) : ∀ (j : Nat) (c : CP), ps[j]? ≠ some (SL.ow c) := fun j c e => by
  have := List.all_eq_true.mp h _ (List.mem_of_getElem? e)
  cases this
theorem isF_nb {ps : List SL} (h : ps.all SL.isF = true) : ∀ (j : Nat) (c : VP), ps[j]? ≠ some (SL.bo c) := fun j c e => by
  have := List.all_eq_true.mp h _ (List.mem_of_getElem? e)
  cases this
/-- an instance of the class at Cl with these attributes and no other -/
def InsP (Cl : Addr) (fl : List (Str × VP)) (o : HO) (G : Hp) : Prop := ∃ dx fs, o = .ins Cl dx fs ∧ (∀ q ∈ fl, ∃ u, fs.lookup q.1 = some u ∧ q.2.P u G) ∧ (∀ f, (∀ q ∈ fl, q.1 ≠ f) → fs.lookup f = none) ∧ fs.length ≤ fl.length
theorem InsP.up {Cl : Addr} {fl : List (Str × VP)} {o : HO} {G G' : Hp} (e : Same G G') (h : InsP Cl fl o G) : InsP Cl fl o G' :=
  let ⟨dx, fs, e1, h1, h2, h3⟩ := h; ⟨dx, fs, e1, fun q hq => let ⟨u, a, b⟩ := h1 q hq; ⟨u, a, q.2.up e b⟩, h2, h3⟩
def cIns (Cl : Addr) (fl : List (Str × VP)) : CP := ⟨InsP Cl fl, fun e h => h.up e, fun ⟨_, _, h, _⟩ xs z => by rw [h] at z; cases z⟩
def rIns (Cl : Addr) (fl : List (Str × VP)) : VP := ⟨fun v G => ∃ p o, v = .ref p ∧ G p = some o ∧ InsP Cl fl o G, fun e ⟨p, o, h, h1, h2⟩ => ⟨p, o, h, e _ _ h1, h2.up e⟩⟩
section
variable {C : Cfg} {α β γ δ ρ : Type} {Rr : ρ → SL} {ps : List SL} {te ta tb : TE} {tt : TT} {t u : TS} {Cl : Addr} {f : Str}
theorem ve_frI {fl : α → List (Str × VP)} {m : M α} (h : VE C te ps m (Ow fun a => cIns Cl (fl a))) : VE C te ps m (Fz fun a => rIns Cl (fl a)) :=
  ve_fr (α := Unit) (c := fun a => cIns Cl (fl a)) (R := fun a => rIns Cl (fl a)) h fun a p o G hc hp => ⟨p, o, rfl, upd_same, hc.up (same_upd hp)⟩
/-- o.f, an attribute -/
theorem ve_fld {fl : α → List (Str × VP)} {R : β → VP} (g : α → β) {m : M α} (h : VE C te ps m (Fz fun a => rIns Cl (fl a))) (c : Cls C.K Cl) (na : NoAttr C.K Cl f) (hf : ∀ a, (f, R (g a)) ∈ fl a) :
    VE C (tFld C.K te f) ps (M.bind m fun a => M.pure (g a)) (Fz R) := by
  intro σ G W H n Q Φ Ψ e st hm k x
  refine h σ G W H n _ (fun a n' => Φ (g a) n') Ψ e st hm ?_ x
  rintro a n1 v G1 W1 H1 h1 s1 t1 ⟨p, o, rfl, h2, dx, fs, rfl, h3, _, _⟩ _
  have st1 := st.stp s1 t1
  obtain ⟨u, hu, hr⟩ := h3 _ (hf a)
  exact ⟨p, Cl, dx, fs, u, rfl, st1.gh _ _ h2, c, na, hu, (k.stp s1).hereF st1 h1 hr⟩
/-- o.f, a property -/
theorem ve_prop {fl : α → List (Str × VP)} {F : α × Unit → M β} {Rr : β → SL} {E : XK} {m : M α} {Rs : α × Unit → List VP} (h : VE C te ps m (Fz fun a => rIns Cl (fl a))) (hR : ∀ a, Rs a = [rIns Cl (fl a.1)] := by intro _; rfl) (hr : ∀ b p, Rr b ≠ .bo p := by intro _ _ h; cases h) :
    VE C (tProp Cl (spG C.mg C.K C.TB Rs F Rr) [] E te) ps (M.bind m fun a => M.nox (F (a, ()))) Rr := by
  intro σ G W H n Q Φ Ψ e st hm k x
  refine h σ G W H n _ (fun a n' => M.nox (F (a, ())) Φ Ψ n') Ψ e st hm ?_ x
  rintro a n1 v G1 W1 H1 hm1 s1 t1 r1 _
  have r0 := r1
  obtain ⟨p, o, rfl, h2, dx, fs, rfl, _⟩ := r1
  have st1 := st.stp s1 t1
  refine ⟨p, dx, fs, rfl, st1.gh _ _ h2, C.Θ, (a, ()), G1, W1, n1, Φ, fun _ _ => False, by rw [hR]; exact .cons r0 .nil, st1.gw, st1.t, hm1, fun b n2 v G2 W2 H2 hΦ s2 t2 r2 f2 => ?_, fun _ _ _ _ _ _ _ h => h.elim⟩
  exact (k.stp s1) b n2 v G2 W2 H2 hΦ s2 t2 (res_call st1.bw r2 (hr b)) f2
/-- o.m(..) -/
theorem ve_meth {fl : α → List (Str × VP)} {Ra : β → List VP} {F : α × β → M γ} {Rr : γ → SL} {E : XK} {m : M α} {mb : M β} {Rs : α × β → List VP} {t : TA} (h : VE C te ps m (Fz fun a => rIns Cl (fl a))) (ha : VA C t ps mb Ra) (hR : ∀ q, Rs q = rIns Cl (fl q.1) :: Ra q.2 := by intro _; rfl)
    (hn : ∀ a, ∀ q ∈ fl a, q.1 ≠ f) (hr : ∀ b p, Rr b ≠ .bo p := by intro _ _ h; cases h) :
    VE C (tMeth Cl f (spG C.mg C.K C.TB Rs F Rr) [] E te t) ps (M.bind m fun a => M.bind mb fun b => M.nox (F (a, b))) Rr := by
  intro σ G W H n Q Φ Ψ e st hm k x
  refine h σ G W H n _ (fun a n' => M.bind mb (fun b => M.nox (F (a, b))) Φ Ψ n') Ψ e st hm ?_ x
  rintro a n1 v G1 W1 H1 hm1 s1 t1 r1 _
  have r0 := r1
  obtain ⟨p, o, rfl, h2, dx, fs, rfl, _, h4, _⟩ := r1
  have st1 := st.stp s1 t1
  refine ⟨p, dx, fs, rfl, st1.gh _ _ h2, h4 _ (hn a), ?_⟩
  refine ha σ G1 W1 H1 n1 _ (fun b n' => M.nox (F (a, b)) Φ Ψ n') Ψ (e.stp s1) st1 hm1 (fun b n2 vs G2 W2 H2 hm2 s2 t2 r2 => ?_) (x.stp s1)
  have st2 := st1.stp s2 t2
  rw [List.append_nil]
  refine ⟨C.Θ, (a, b), G2, W2, n2, Φ, fun _ _ => False, by rw [hR]; exact .cons ((rIns Cl (fl a)).up s2.g r0) r2, st2.gw, st2.t, hm2, fun c n3 v G3 W3 H3 hΦ s3 t3 r3 f3 => ?_, fun _ _ _ _ _ _ _ h => h.elim⟩
  exact (k.stp (s1.trans s2)) c n3 v G3 W3 H3 hΦ s3 t3 (res_call st2.bw r3 (hr c)) f3
end
/-! ### making -/
def del (W : Hp) (x : Addr) : Hp := fun q => if q = x then none else W q
theorem del_ne {W : Hp} {x q : Addr} (h : q ≠ x) : del W x q = W q := if_neg h
theorem del_at {W : Hp} {x : Addr} : del W x x = none := if_pos rfl
theorem del_sub {W : Hp} {x : Addr} : Same (del W x) W := fun q o h => by
  by_cases z : q = x
  · subst z; rw [del_at] at h; cases h
  · rwa [del_ne z] at h
theorem del_none {W : Hp} {x q : Addr} (h : W q = none) : del W x q = none := del_sub.free h
section
variable (mg : Str → Option Value) (K : PySem.W.Frag) (TB : List (Addr × Str))
/-- __init__: x the new instance -/
def spI {α β : Type} (Cl : Addr) (Rs : α → List VP) (F : α → M β) (c : β → CP) : Sp := fun vs H Q E =>
  ∃ (Θ : Th TB) (a : α) (x dx : Addr) (us : List V) (G W : Hp) (n : Nat) (Φ : β → Nat → Prop) (Ψ : Exc → Nat → Prop), vs = .ref x :: us ∧ RepL (Rs a) us G ∧ Same G W ∧ W x = none ∧ Θ.T n (upd W x (.ins Cl dx [])) H ∧ F a Φ Ψ n ∧
    Kt ⟨TB, Θ, mg, K, W, G, fun _ => E, []⟩ (Ow c) G W (fun v H' => v = .ref x → Q .non H') Φ ∧ Xt ⟨TB, Θ, mg, K, W, G, fun _ => E, []⟩ [] G W Ψ
end
theorem spI_len {mg : Str → Option Value} {K : PySem.W.Frag} {TB : List (Addr × Str)} {α β : Type} {Cl : Addr} {Rs : α → List VP} {F : α → M β} {c : β → CP} {p : Str} {ps : List Str} (h : ∀ a, (Rs a).length = ps.length := by intro _; rfl) : ∀ vs H Q E, spI mg K TB Cl Rs F c vs H Q E → vs.length = (p :: ps).length := by
  rintro vs H Q E ⟨_, a, x, dx, us, _, _, _, _, _, rfl, r, _⟩
  rw [List.length_cons, List.length_cons, r.len, h]
section
variable {C : Cfg} {α β γ δ : Type} {ps : List SL} {Cl : Addr}
/-- the last part of an __init__: x is filled -/
def SF (C : Cfg) (Cl x : Addr) {γ : Type} (ts : TS) (ps : List SL) (fl : List (Str × VP)) (m : M γ) (fl' : γ → List (Str × VP)) : Prop :=
  ∀ (D : Ends) (σ : L2.St) G W H n Φ o, Ee C.B ps σ G W → Stt C n G W H → W x = some o → G x = none → InsP Cl fl o G → m Φ (fun _ _ => False) n →
    (∀ d n' σ' G' W' H' o', Φ d n' → Stp G (del W x) G' W' → Stt C n' G' W' H' → W' x = some o' → G' x = none → InsP Cl (fl' d) o' G' → D.nx σ' H') → ts D σ H
theorem sf_one {te : TE} {f : Str} {x : Addr} {fl : List (Str × VP)} {m : M α} {R : α → VP} (hB : C.B = fun _ => none) (hps : ps[0]? = some (.fr ⟨fun v _ => v = .ref x, fun _ h => h⟩)) (hall : ps.all SL.isF = true)
    (he : VE C te (ps.set 0 (.ow (cIns Cl fl))) m (Fz R)) (c : Cls C.K Cl) (na : NoAttr C.K Cl f) (nf : ∀ q ∈ fl, q.1 ≠ f) (hl : fl.length < 1000) :
    SF C Cl x (sFld C.K (tVar 0) te f) ps fl m (fun a => fl ++ [(f, R a)]) := by
  intro D σ G W H n Φ o e st hw hg hi hm k
  have hno := isF_no hall
  obtain ⟨v0, hσ, hv0⟩ := e.at_ hps (by simp)
  have hv0 : v0 = .ref x := hv0
  subst hv0
  have no' : ∀ {i : Nat} {d : CP}, (ps.set 0 (.ow (cIns Cl fl)))[i]? = some (.ow d) → i = 0 := fun {i d} h => by
    rcases getElem_set h with ⟨e, _, _⟩ | ⟨_, h⟩
    · exact e
    · exact absurd h (hno i d)
  have e0 : Ee C.B (ps.set 0 (.ow (cIns Cl fl))) σ G W := by
    refine ⟨by rw [List.length_set]; exact e.len, fun {i s} h n => ?_, fun {i j c d a} hij h1 h2 _ _ => absurd ((no' h1).trans (no' h2).symm) hij⟩
    rcases getElem_set h with ⟨rfl, rfl, _⟩ | ⟨_, h⟩
    · exact ⟨_, hσ, x, o, rfl, hw, hg, by rw [hB], hi⟩
    · exact e.at_ h n
  refine he σ G W H n _ Φ (fun _ _ => False) e0 st hm (fun a n1 v G1 W1 H1 hΦ s1 t1 r1 _ => ?_) fun _ _ _ _ _ _ _ h => h.elim
  have st1 := st.stp s1 t1
  have hw1 := s1.w _ _ hw
  have hg1 : G1 x = none := by
    exact stp_no s1 hg hw ((cIns Cl fl).nt hi)
  obtain ⟨dx, fs, rfl, h3, h4, h5⟩ := hi.up s1.g
  refine ⟨.ref x, hσ, x, Cl, dx, fs, rfl, st1.wh _ _ hw1, c, na, by omega, ?_⟩
  have st2 : Stt C n1 G1 (upd W1 x (.ins Cl dx (putF f v fs))) (upd H1 x (.ins Cl dx (putF f v fs))) := st1.put hw1 hg1 (by rw [hB])
  refine k a n1 σ G1 _ _ _ hΦ ⟨s1.g, fun q u h => ?_, st2.gw, fun q u h => (s1.ng q u h).imp id fun z => z.imp del_none id⟩ st2 upd_same hg1 ⟨dx, _, rfl, fun q hq => ?_, fun g hg => ?_, ?_⟩
  · have hq : q ≠ x := fun z => by subst z; rw [del_at] at h; cases h
    rw [del_ne hq] at h
    rw [upd_ne hq]; exact s1.w _ _ h
  · rcases List.mem_append.mp hq with hq | hq
    · obtain ⟨u, hu, hr⟩ := h3 q hq
      exact ⟨u, by rw [lookup_putF, if_neg (nf q hq)]; exact hu, hr⟩
    · rw [List.mem_singleton.mp hq]
      exact ⟨v, by rw [lookup_putF, if_pos rfl], r1⟩
  · rw [lookup_putF, if_neg (fun z => hg (f, R a) (by simp) z.symm)]
    exact h4 g fun q hq => hg q (List.mem_append_left _ hq)
  · have := length_putF f v fs
    rw [List.length_append, List.length_singleton]; omega
theorem sf_seq {x : Addr} {te : TE} {f : Str} {fl : List (Str × VP)} {m : M α} {R : α → VP} {u : TS} {mb : α → M β} {fl' : β → List (Str × VP)} (hB : C.B = fun _ => none) (hG : C.G0 = fun _ => none) (hps : ps[0]? = some (.fr ⟨fun v _ => v = .ref x, fun _ h => h⟩)) (hall : ps.all SL.isF = true)
    (he : VE C te (ps.set 0 (.ow (cIns Cl fl))) m (Fz R)) (c : Cls C.K Cl) (na : NoAttr C.K Cl f) (nf : ∀ q ∈ fl, q.1 ≠ f) (hl : fl.length < 1000) (h2 : ∀ a, SF C Cl x u ps (fl ++ [(f, R a)]) (mb a) fl') :
    SF C Cl x (tSeq (sFld C.K (tVar 0) te f) u) ps fl (M.bind m mb) fl' := by
  intro D σ G W H n Φ o e st hw hg hi hm k
  have hno := isF_no hall
  obtain ⟨v0, hσ, hv0⟩ := e.at_ hps (by simp)
  have hv0 : v0 = .ref x := hv0
  subst hv0
  have no' : ∀ {i : Nat} {d : CP}, (ps.set 0 (.ow (cIns Cl fl)))[i]? = some (.ow d) → i = 0 := fun {i d} h => by
    rcases getElem_set h with ⟨e, _, _⟩ | ⟨_, h⟩
    · exact e
    · exact absurd h (hno i d)
  have e0 : Ee C.B (ps.set 0 (.ow (cIns Cl fl))) σ G W := by
    refine ⟨by rw [List.length_set]; exact e.len, fun {i s} h n => ?_, fun {i j c d a} hij h1 h2 _ _ => absurd ((no' h1).trans (no' h2).symm) hij⟩
    rcases getElem_set h with ⟨rfl, rfl, _⟩ | ⟨_, h⟩
    · exact ⟨_, hσ, x, o, rfl, hw, hg, by rw [hB], hi⟩
    · exact e.at_ h n
  refine he σ G W H n _ (fun a n' => mb a Φ (fun _ _ => False) n') (fun _ _ => False) e0 st hm (fun a n1 v G1 W1 H1 hΦ s1 t1 r1 _ => ?_) fun _ _ _ _ _ _ _ h => h.elim
  have st1 := st.stp s1 t1
  have hw1 := s1.w _ _ hw
  have hg1 : G1 x = none := by
    exact stp_no s1 hg hw ((cIns Cl fl).nt hi)
  obtain ⟨dx, fs, rfl, h3, h4, h5⟩ := hi.up s1.g
  refine ⟨.ref x, hσ, x, Cl, dx, fs, rfl, st1.wh _ _ hw1, c, na, by omega, ?_⟩
  have st2 : Stt C n1 G1 (upd W1 x (.ins Cl dx (putF f v fs))) (upd H1 x (.ins Cl dx (putF f v fs))) := st1.put hw1 hg1 (by rw [hB])
  have sd : Stp G (del W x) G1 (upd W1 x (.ins Cl dx (putF f v fs))) := ⟨s1.g, fun q u h => by
    have hq : q ≠ x := fun z => by subst z; rw [del_at] at h; cases h
    rw [del_ne hq] at h
    rw [upd_ne hq]; exact s1.w _ _ h, st2.gw, fun q u h => (s1.ng q u h).imp id fun z => z.imp del_none id⟩
  have e2 : Ee C.B ps σ G1 (upd W1 x (.ins Cl dx (putF f v fs))) := ⟨e.len, fun {i s} h n => by
    obtain ⟨v, hv, r⟩ := (e.stp s1).at_ h n
    refine ⟨v, hv, ?_⟩
    cases s with
    | ow d => exact absurd h (hno i d)
    | un => trivial
    | fr _ => exact r
    | bo _ => exact r, fun {i j c d a} _ h1 _ _ _ => absurd h1 (hno i c)⟩
  refine h2 a D σ G1 _ _ n1 Φ _ e2 st2 upd_same hg1 ⟨dx, _, rfl, fun q hq => ?_, fun g hg => ?_, ?_⟩ hΦ fun d n' σ' G' W' H' o' hd s' st' hw' hg' hi' => k d n' σ' G' W' H' o' hd ⟨sd.g.trans s'.g, fun q u h => ?_, s'.gw, fun q u h => ?_⟩ st' hw' hg' hi'
  · rcases List.mem_append.mp hq with hq | hq
    · obtain ⟨u, hu, hr⟩ := h3 q hq
      exact ⟨u, by rw [lookup_putF, if_neg (nf q hq)]; exact hu, hr⟩
    · rw [List.mem_singleton.mp hq]
      exact ⟨v, by rw [lookup_putF, if_pos rfl], r1⟩
  · rw [lookup_putF, if_neg (fun z => hg (f, R a) (by simp) z.symm)]
    exact h4 g fun q hq => hg q (List.mem_append_left _ hq)
  · have := length_putF f v fs
    rw [List.length_append, List.length_singleton]; omega
  · refine s'.w _ _ ?_
    have hq : q ≠ x := fun z => by subst z; rw [del_at] at h; cases h
    rw [del_ne hq]; exact sd.w _ _ h
  · rcases s'.ng q u h with h | h | h
    · exact sd.ng q u h
    · by_cases z : q = x
      · subst z; exact .inr (.inl del_at)
      · rw [del_ne z] at h; exact .inr (.inl (sd.w.free h))
    · exact .inr (.inr h)
end
end VL
namespace VL
open PySem PySem.Spec PyProof.Rows L2
section
variable {C : Cfg} {α β γ δ ρ : Type} {Rr : ρ → SL} {ps : List SL} {te ta tb tc : TE} {tt : TT} {t u : TS} {i j : Nat}
/-! ### pairs -/
/-! ### a, b = a list of two -/
def M.two {α : Type} (xs : List α) : M (α × α) := fun Φ _ n => ∃ a b, xs = [a, b] ∧ Φ (a, b) n
/-! ### dicts by text -/
def repsD {α : Type} (R : α → VP) : List (Str × α) → List (Key × V) → Hp → Prop
  | [], [], _ => True
  | (k, a) :: d, (kk, v) :: ks, G => kk = .inr k ∧ (R a).P v G ∧ repsD R d ks G
  | _, _, _ => False
theorem repsD.up {R : α → VP} {G G' : Hp} : ∀ {d : List (Str × α)} {ks : List (Key × V)}, Same G G' → repsD R d ks G → repsD R d ks G'
  | [], [], _, _ => trivial
  | (_, _) :: _, (_, _) :: _, e, h => ⟨h.1, (R _).up e h.2.1, repsD.up e h.2.2⟩
theorem repsD.len {R : α → VP} {G : Hp} : ∀ {d : List (Str × α)} {ks : List (Key × V)}, repsD R d ks G → ks.length = d.length
  | [], [], _ => rfl
  | (_, _) :: _, (_, _) :: _, h => by rw [List.length_cons, List.length_cons, repsD.len h.2.2]
def putD {α : Type} (d : List (Str × α)) (k : Str) (a : α) : List (Str × α) := if (d.any fun q => decide (q.1 = k)) = true then d.map (fun q => if q.1 = k then (q.1, a) else q) else d ++ [(k, a)]
def getD {α : Type} (d : List (Str × α)) (k : Str) : Option α := (d.find? fun q => decide (q.1 = k)).map (·.2)
theorem getD_nil {k : Str} : getD ([] : List (Str × α)) k = none := rfl
theorem getD_cons {q : Str × α} {d : List (Str × α)} {k : Str} : getD (q :: d) k = if q.1 = k then some q.2 else getD d k := by
  unfold getD
  rw [List.find?_cons]
  by_cases h : q.1 = k
  · simp [h]
  · simp [h]
theorem repsD.get {R : α → VP} {G : Hp} {k : Str} : ∀ {d : List (Str × α)} {ks : List (Key × V)}, repsD R d ks G → match getD d k with | some a => ∃ v, valV ks (.inr k : Key) = some v ∧ (R a).P v G | none => valV ks (.inr k : Key) = none
  | [], [], _ => rfl
  | (k', a) :: d, (kk, v) :: ks, h => by
    obtain ⟨rfl, h1, h2⟩ := h
    have ih := repsD.get (k := k) h2
    by_cases e : k' = k
    · subst e
      rw [getD_cons, if_pos rfl]
      exact ⟨v, valV_pos rfl, h1⟩
    · rw [getD_cons, if_neg e]
      have e2 : ¬ (Sum.inr k' : Key) = .inr k := fun z => e (Sum.inr.inj z)
      revert ih
      cases getD d k with
      | none => exact fun ih => (valV_neg (p := ((.inr k' : Key), v)) e2).trans ih
      | some b => exact fun ⟨u, h3, h4⟩ => ⟨u, (valV_neg (p := ((.inr k' : Key), v)) e2).trans h3, h4⟩
theorem repsD.any {R : α → VP} {G : Hp} {k : Str} : ∀ {d : List (Str × α)} {ks : List (Key × V)}, repsD R d ks G → (ks.any fun kv => decide (kv.1 = (.inr k : Key))) = d.any fun q => decide (q.1 = k)
  | [], [], _ => rfl
  | (k', a) :: d, (kk, v) :: ks, h => by
    obtain ⟨rfl, h1, h2⟩ := h
    rw [List.any_cons, List.any_cons, repsD.any h2]
    congr 1
    by_cases e : k' = k
    · subst e; simp
    · have e2 : ¬ (Sum.inr k' : Key) = .inr k := fun z => e (Sum.inr.inj z)
      simp [e, e2]
theorem repsD.map {R : α → VP} {G : Hp} {k : Str} {a : α} {v : V} (hv : (R a).P v G) : ∀ {d : List (Str × α)} {ks : List (Key × V)}, repsD R d ks G →
    repsD R (d.map fun q => if q.1 = k then (q.1, a) else q) (ks.map fun kv => if kv.1 = (.inr k : Key) then (kv.1, v) else kv) G
  | [], [], _ => trivial
  | (k', b) :: d, (kk, w) :: ks, h => by
    obtain ⟨rfl, h1, h2⟩ := h
    have ih := repsD.map (k := k) hv h2
    by_cases e : k' = k
    · subst e
      simp only [List.map_cons, if_true]
      exact ⟨rfl, hv, ih⟩
    · have e2 : ¬ (Sum.inr k' : Key) = .inr k := fun z => e (Sum.inr.inj z)
      simp only [List.map_cons, if_neg e, if_neg e2]
      exact ⟨rfl, h1, ih⟩
theorem repsD.snoc {R : α → VP} {G : Hp} {k : Str} {a : α} {v : V} (hv : (R a).P v G) : ∀ {d : List (Str × α)} {ks : List (Key × V)}, repsD R d ks G → repsD R (d ++ [(k, a)]) (ks ++ [(.inr k, v)]) G
  | [], [], _ => ⟨rfl, hv, trivial⟩
  | (_, _) :: _, (_, _) :: _, h => ⟨h.1, h.2.1, repsD.snoc hv h.2.2⟩
theorem repsD.put {R : α → VP} {G : Hp} {k : Str} {a : α} {v : V} {d : List (Str × α)} {ks : List (Key × V)} (h : repsD R d ks G) (hv : (R a).P v G) : repsD R (putD d k a) (putK ks (.inr k) v) G := by
  unfold putD putK
  rw [h.any]
  split
  · exact h.map hv
  · exact h.snoc hv
def cDct {α : Type} (R : α → VP) (d : List (Str × α)) : CP := ⟨fun o G => ∃ ks, o = .dK ks ∧ repsD R d ks G, fun e ⟨ks, h, h2⟩ => ⟨ks, h, h2.up e⟩, fun ⟨ks, h, _⟩ xs z => by rw [h] at z; cases z⟩
def rDct {α : Type} (R : α → VP) (d : List (Str × α)) : VP := ⟨fun v G => ∃ p ks, v = .ref p ∧ G p = some (.dK ks) ∧ repsD R d ks G, fun e ⟨p, ks, h, h1, h2⟩ => ⟨p, ks, h, e _ _ h1, h2.up e⟩⟩
theorem cDct_show {R : α → VP} {d : List (Str × α)} (p : Addr) (o : HO) (G : Hp) (h : (cDct R d).P o G) (hp : G p = none) : (rDct R d).P (.ref p) (upd G p o) := by
  obtain ⟨ks, rfl, hv⟩ := h
  exact ⟨p, ks, rfl, upd_same, hv.up (same_upd hp)⟩
theorem ve_frD {R : α → VP} {m : M (List (Str × α))} (h : VE C te ps m (Ow (cDct R))) : VE C te ps m (Fz (rDct R)) :=
  ve_fr (α := Unit) (c := cDct R) (R := rDct R) h fun a p o G hc hp => cDct_show p o G hc hp
theorem sv_showD {Rr : ρ → SL} {m : M (Fl ρ α)} {ψ : α → List SL} (i : Nat) {R : β → VP} {d : List (Str × β)} (hi : ps[i]? = some (.ow (cDct R d))) (h : SV C Rr t (ps.set i (.fr (rDct R d))) m ψ) : SV C Rr t ps m ψ :=
  sv_show hi cDct_show h
theorem sv_dput {R : α → VP} {d : List (Str × α)} {m : M α} {mk : M Str} (he : VE C te ps m (Fz R)) (hk : VE C ta ps mk (Fz rStr)) (hp : PxLe C.px ps) (hi : ps[i]? = some (.ow (cDct R d)) := by rfl) :
    SV C Rr (sDPut (tVar i) ta te) ps (M.bind (M.bind m fun a => M.bind mk fun k => M.when (d.length < sizeLine) (putD d k a)) fun e => M.nx e) (fun e => ps.set i (.ow (cDct R e))) := by
  intro D σ G W H n Φ Ψ e st hm k r x
  refine he σ G W H n _ (fun a n' => M.bind mk (fun k => fun (Φ : Fl ρ (List (Str × α)) → Nat → Prop) _ n => d.length < sizeLine ∧ Φ (.nx (putD d k a)) n) Φ Ψ n') Ψ e st hm (fun a n1 v G1 W1 H1 hm1 s1 t1 r1 _ => ?_) fun y n' cls d G' W' H' hΨ q s t => x y n' cls d σ G' W' H' hΨ q ((e.stp s).x hp) (st.stp s t)
  have st1 := st.stp s1 t1
  have e1 := e.stp s1
  obtain ⟨v0, hσ, p, o, rfl, hw, hg, hb, ks, rfl, hr⟩ := e1.at_ hi (by simp)
  refine ⟨.ref p, hσ, ?_⟩
  refine hk σ G1 W1 H1 n1 _ (fun z n => d.length < sizeLine ∧ Φ (.nx (putD d z a)) n) Ψ e1 st1 hm1 (fun z n2 u G2 W2 H2 hm2 s2 t2 r2 _ => ?_) fun y n' cls d G' W' H' hΨ q s t => x y n' cls d σ G' W' H' hΨ q ((e1.stp s).x hp) (st1.stp s t)
  obtain ⟨hl, hm2⟩ := hm2
  have st2 := st1.stp s2 t2
  have e2 := e1.stp s2
  obtain ⟨v2, hσ', p', o', e5, hw', hg', hb', ks', rfl, hr'⟩ := e2.at_ hi (by simp)
  rw [hσ] at hσ'
  cases hσ'
  cases e5
  have r2 : u = .str z := r2
  subst r2
  refine ⟨p, _, rfl, DPut.k (k := .inr z) (st2.wh _ _ hw') (by rw [hr'.len]; exact hl), ?_⟩
  exact k _ n2 σ G2 (upd W2 p (.dK (putK ks' (.inr z) v))) _ hm2 (s1.g.trans s2.g) (e2.putOwn hi hσ ⟨_, rfl, hr'.put ((R a).up s2.g r1)⟩) (st2.put hw' hg' hb')
def M.dget {α : Type} (d : List (Str × α)) (k : Str) : M α := fun Φ _ n => ∃ a, getD d k = some a ∧ Φ a n
theorem ve_dget {R : α → VP} {m : M (List (Str × α))} {mk : M Str} (h : VE C te ps m (Fz (rDct R))) (hk : VE C ta ps mk (Fz rStr)) : VE C (tDGet te ta) ps (M.bind m fun d => M.bind mk fun k => M.dget d k) (Fz R) := by
  intro σ G W H n Q Φ Ψ e st hm k x
  refine h σ G W H n _ (fun d n' => M.bind mk (fun k => M.dget d k) Φ Ψ n') Ψ e st hm ?_ x
  rintro d n1 v G1 W1 H1 hm1 s1 t1 ⟨p, ks, rfl, h1, h2⟩ _
  have st1 := st.stp s1 t1
  refine hk σ G1 W1 H1 n1 _ (fun z n' => M.dget d z Φ Ψ n') Ψ (e.stp s1) st1 hm1 ?_ (x.stp s1)
  rintro z n2 u G2 W2 H2 ⟨a, ha, hm2⟩ s2 t2 r2 _
  have r2 : u = .str z := r2
  subst r2
  have st2 := st1.stp s2 t2
  have := h2.get (k := z)
  rw [ha] at this
  obtain ⟨w, hw, hr⟩ := this
  refine ⟨p, w, rfl, ?_, (k.stp (s1.trans s2)).hereF st2 hm2 ((R a).up s2.g hr)⟩
  have := DGet.k (k := (.inr z : Key)) (st2.gh _ _ (s2.g _ _ h1))
  rw [hw] at this
  exact this
/-! ### data of None or a value -/
class NoNn {α : Type} (R : α → VP) [IsD R] where
  l : ∀ a : α, PyData.eqv .none (IsD.d R a) = false
  r : ∀ a : α, PyData.eqv (IsD.d R a) .none = false
instance {R : α → VP} {S : β → VP} [IsD R] [IsD S] : NoNn (rPr R S) := ⟨fun a => by simp [IsD.d, PyData.eqv], fun a => by simp [IsD.d, PyData.eqv]⟩
instance {R : α → VP} [IsD R] : NoNn (rTup R) := ⟨fun a => by simp [IsD.d, PyData.eqv], fun a => by simp [IsD.d, PyData.eqv]⟩
instance {R : α → VP} [IsD R] : NoNn (rLst R) := ⟨fun a => by simp [IsD.d, PyData.eqv], fun a => by simp [IsD.d, PyData.eqv]⟩
instance : NoNn rInt := ⟨fun a => by simp [IsD.d, PyData.eqv], fun a => by simp [IsD.d, PyData.eqv]⟩
instance : NoNn rStr := ⟨fun a => by simp [IsD.d, PyData.eqv], fun a => by simp [IsD.d, PyData.eqv]⟩
instance {R : α → VP} [IsD R] [IsQ R] [NoNn R] : IsQ (rOpt R) := ⟨fun q => ∀ a, q = some a → IsQ.ok R a, IsQ.k R, fun q h => by
  cases q with
  | none => simp [IsD.d, PyData.canLay0]
  | some a => exact IsQ.lay (R := R) a (h a rfl), fun q => by
  cases q with
  | none => simp [IsD.d, PyData.depth]
  | some a => exact IsQ.dep (R := R) a, fun q r => by
  cases q with
  | none =>
    cases r with
    | none => simp [IsD.d, PyData.eqv]
    | some b => simp [IsD.d, NoNn.l (R := R) b]
  | some a =>
    cases r with
    | none => simp [IsD.d, NoNn.r (R := R) a]
    | some b => simp only [IsD.d, Option.some.injEq]; exact IsQ.eqv a b⟩
/-! ### defs whose lists are new -/
end
end VL
namespace L2
open PySem PySem.Spec PyProof.Rows
/-! ### the other drawing state: s holds [cells, place, counter] -/
structure VS2 (s c : Addr) (i n : Int) (cs : List Int) (G H : Hp) : Prop where
  sub : Same G H
  gs : G s = none
  gc : G c = none
  cs' : c ≠ s
  hs : H s = some (.lst [.ref c, .int i, .int n])
  hc : H c = some (.lst (cs.map V.int))
  lc : cs.length ≤ 63
  i0 : 0 ≤ i
  n0 : 0 ≤ n
def View2 (s : Addr) (N : Nat) (G H : Hp) : Prop := ∃ c i n cs, VS2 s c i n cs G H ∧ n ≤ (N : Int)
theorem View2.sub {s : Addr} {N : Nat} {G H : Hp} (v : View2 s N G H) : Same G H := let ⟨_, _, _, _, k, _⟩ := v; k.sub
theorem VS2.ext {s c : Addr} {i n : Int} {cs : List Int} {G H H' : Hp} (k : VS2 s c i n cs G H) (e : Same H H') : VS2 s c i n cs G H' :=
  { k with sub := k.sub.trans e, hs := e _ _ k.hs, hc := e _ _ k.hc }
theorem VS2.st {s c : Addr} {i n i' n' : Int} {cs : List Int} {G H : Hp} (k : VS2 s c i n cs G H) (hi : 0 ≤ i') (hn : 0 ≤ n') : VS2 s c i' n' cs G (upd H s (.lst [.ref c, .int i', .int n'])) where
  sub := k.sub.unseen k.gs
  gs := k.gs
  gc := k.gc
  cs' := k.cs'
  hs := upd_same
  hc := by rw [upd_ne k.cs']; exact k.hc
  lc := k.lc
  i0 := hi
  n0 := hn
theorem View2.put {s : Addr} {N : Nat} {G H : Hp} {p : Addr} {u o : HO} (v : View2 s N G H) (h : G p = some u) : View2 s N (upd G p o) (upd H p o) := by
  obtain ⟨c, i, n, cs, k, l⟩ := v
  have f : ∀ q, G q = none → q ≠ p := fun q hq z => by rw [z, h] at hq; cases hq
  refine ⟨c, i, n, cs, ⟨fun q x hq => ?_, ?_, ?_, k.cs', ?_, ?_, k.lc, k.i0, k.n0⟩, l⟩
  · by_cases hqp : q = p
    · subst hqp
      rw [upd_same] at hq ⊢
      exact hq
    · rw [upd_ne hqp] at hq ⊢
      exact k.sub _ _ hq
  · rw [upd_ne (f _ k.gs)]; exact k.gs
  · rw [upd_ne (f _ k.gc)]; exact k.gc
  · rw [upd_ne (f _ k.gs)]; exact k.hs
  · rw [upd_ne (f _ k.gc)]; exact k.hc
end L2
namespace VL
open PySem PySem.Spec PyProof.Rows L2
end VL
namespace VL
open PySem PySem.Spec PyProof.Rows L2
/-! ### a row of a new table, changed in its place at a def's end -/
structure MutR (g : List (List Str)) (r : List Str) (g' : List (List Str)) : Prop where
  len : g'.length = g.length
  at_ : ∀ (t : Nat) (x : List Str), g'[t]? = some x → g[t]? = some x ∨ x = r
end VL
namespace L2
open PySem PySem.Spec PyProof.Rows
end L2
namespace VL
open PySem PySem.Spec PyProof.Rows L2
/-- a class of the text -/
structure ClsI (K : PySem.W.Frag) (mg : Str → Option Value) (x : Str) (fs : List Str) where
  C : Addr
  g : mg x = some (.ref C)
  cl : Cls K C
  na : ∀ f ∈ fs, NoAttr K C f
abbrev rAt (x : Addr) : VP := ⟨fun v _ => v = .ref x, fun _ h => h⟩
theorem nm_ne {fl : List (Str × VP)} {f : Str} (h : (fl.map (·.1)).all (fun g => !decide (g = f)) = true) : ∀ q ∈ fl, q.1 ≠ f := fun q hq e => by
  have := List.all_eq_true.mp h q.1 (List.mem_map.mpr ⟨q, hq, rfl⟩)
  rw [e] at this
  simp at this
def M.seqI {ρ α β : Type} (m : M (Fl ρ α)) (f : α → M β) : M β := fun Q E n => m (fun fl n => match fl with | .nx a => f a Q E n | .rt _ => False) E n
section
variable {C : Cfg} {α β γ δ : Type} {ps : List SL} {Cl x : Addr} {t u : TS}
/-- a part of an __init__ -/
def SI (C : Cfg) (Cl x : Addr) {β : Type} (ts : TS) (ps : List SL) (m : M β) (fl : β → List (Str × VP)) : Prop :=
  ∀ (D : Ends) (σ : L2.St) G W H n Φ Ψ, Ee C.B ps σ G W → Stt C n G W H → m Φ Ψ n →
    (∀ b n' σ' G' W' H' o', Φ b n' → Stp C.G0 (del C.B x) G' W' → C.Θ.T n' W' H' → W' x = some o' → G' x = none → InsP Cl (fl b) o' G' → D.nx σ' H') →
    (∀ y n cls d σ G W H, Ψ y n → XRep C.mg y cls d G W H → Ex_ C.B C.px σ G W → Stt C n G W H → C.Ew σ cls d H) → ts D σ H
theorem si_seq {m : M (Fl Unit δ)} {ψ : δ → List SL} {f : δ → M β} {fl : β → List (Str × VP)} (h : SV C (Fz rNon) t ps m ψ) (h2 : ∀ d, SI C Cl x u (ψ d) (f d) fl) : SI C Cl x (tSeq t u) ps (M.seqI m f) fl := by
  intro D σ G W H n Φ Ψ e st hm k xt
  exact h { D with nx := u D } σ G W H n _ Ψ e st hm (fun d n1 σ1 G1 W1 H1 hΦ _ e1 st1 => h2 d D σ1 G1 W1 H1 n1 Φ Ψ e1 st1 hΦ k xt) (fun _ _ _ _ _ _ z => z.elim) xt
theorem si_end {dx : Addr} {m : M β} {fl : β → List (Str × VP)} (hx : C.B x = some (.ins Cl dx [])) (hg : C.G0 x = none) (hall : ps.all SL.isF = true) (hGB : Same C.G0 C.B) (h : SF { C with B := fun _ => none, G0 := fun _ => none } Cl x t ps [] m fl) : SI C Cl x t ps (M.nox m) fl := by
  intro D σ G1 W1 H1 n1 Φ Ψ e1 st1 hm k xt
  have hw1 : W1 x = some (.ins Cl dx []) := st1.bw _ _ hx
  have hg1 : G1 x = none := by
    cases z : G1 x with
    | none => rfl
    | some u =>
      rcases st1.gb _ _ z with h | h | ⟨xs, h⟩
      · rw [hg] at h; cases h
      · rw [hx] at h; cases h
      · have := st1.gw _ _ z
        rw [hw1] at this
        rw [← Option.some.inj this] at h
        cases h
  have e1' : Ee (fun _ => none) ps σ G1 W1 := ⟨e1.len, fun {i s} h n => by
    obtain ⟨v, hv, r⟩ := e1.at_ h n
    refine ⟨v, hv, ?_⟩
    cases s with
    | ow c => exact absurd h (isF_no hall i c)
    | un => trivial
    | fr _ => exact r
    | bo p => exact absurd h (isF_nb hall i p), fun {i j c d' a'} _ h1 _ _ _ => absurd h1 (isF_no hall i c)⟩
  refine h D σ G1 W1 H1 n1 Φ _ e1' ⟨st1.t, st1.gw, fun _ _ h => (nomatch h), fun _ _ h => (nomatch h), fun _ _ _ => .inr (.inl rfl)⟩ hw1 hg1 ⟨dx, [], rfl, fun _ h => (nomatch h), fun _ _ => rfl, Nat.le_refl _⟩ hm ?_
  intro b n2 σ2 G2 W2 H2 o2 hb2 s2 st2 hw2 hg2 hi2
  refine k b n2 σ2 G2 W2 H2 o2 hb2 ⟨st1.g0.trans s2.g, fun q u h => ?_, s2.gw, fun q u h => ?_⟩ st2.t hw2 hg2 hi2
  · have hq : q ≠ x := fun z => by subst z; rw [del_at] at h; cases h
    rw [del_ne hq] at h
    refine s2.w _ _ ?_
    rw [del_ne hq]; exact st1.bw _ _ h
  · rcases s2.ng q u h with h | h | h
    · rcases st1.gb q u h with h | h
      · exact .inl h
      · exact .inr (h.imp del_none id)
    · by_cases z : q = x
      · subst z; exact .inr (.inl del_at)
      · rw [del_ne z] at h; exact .inr (.inl (by rw [del_ne z]; exact st1.bw.free h))
    · exact .inr (.inr h)
theorem sf_conv {fl0 : List (Str × VP)} {m : M γ} {fl1 : γ → List (Str × VP)} {fl : β → List (Str × VP)} (g : γ → β) (h : SF C Cl x t ps fl0 m fl1) (hf : ∀ c, fl (g c) = fl1 c := by intro _; rfl) : SF C Cl x t ps fl0 (M.bind m fun c => M.pure (g c)) fl := by
  intro D σ G W H n Φ o e st hw hg hi hm k
  exact h D σ G W H n _ o e st hw hg hi hm fun d n' σ' G' W' H' o' hd s st' hw' hg' hi' => k (g d) n' σ' G' W' H' o' hd s st' hw' hg' (by rw [hf]; exact hi')
end
theorem fn_J {mg : Str → Option Value} {K : PySem.W.Frag} {TB : List (Addr × Str)} {α β : Type} {Cl : Addr} {Rs : α → List VP} {F : α → M β} {c : β → CP} {fl : β → List (Str × VP)} {vs : List V} {H : Hp} {Q : VK} {E : XK} {N : List Str} {t : TS} {m : α → M β} (h : spI mg K TB Cl Rs F c vs H Q E)
    (hF : ∀ a, F a = m a) (hc : ∀ b, c b = cIns Cl (fl b))
    (hb : ∀ (Θ : Th TB) (B G0 : Hp) (x dx : Addr) (a : α), B x = some (.ins Cl dx []) → G0 x = none → Same G0 B → SI ⟨TB, Θ, mg, K, B, G0, fun _ => E, []⟩ Cl x t (slots N (rAt x :: Rs a)) (m a) fl) :
    t { nx := fun _ H' => Q .non H', rt := Q } (start N vs) H := by
  obtain ⟨Θ, a, x, dx, us, G, W, n, Φ, Ψ, rfl, r, gw, wx, t0, hm, k, xt⟩ := h
  rw [hF] at hm
  have gx : G x = none := gw.free wx
  refine hb Θ (upd W x (.ins Cl dx [])) G x dx a upd_same gx (gw.trans (same_upd wx)) _ (start N (.ref x :: us)) G (upd W x (.ins Cl dx [])) H n Φ Ψ (ee_start (.cons rfl r)) (stt_start rfl rfl (gw.trans (same_upd wx)) t0) hm ?_ ?_
  · intro b n2 σ2 G2 W2 H2 o2 hb2 s2 t2 hw2 hg2 hi2
    have dl : ∀ q u, W q = some u → del (upd W x (.ins Cl dx [])) x q = some u := fun q u h => by
      have hq : q ≠ x := fun z => by subst z; rw [wx] at h; cases h
      rw [del_ne hq, upd_ne hq]; exact h
    refine k b n2 (.ref x) G2 W2 H2 hb2 ⟨s2.g, fun q u h => s2.w _ _ (dl q u h), s2.gw, fun q u h => (s2.ng q u h).imp id fun z => z.imp (fun z => ?_) id⟩ t2 ⟨x, o2, rfl, hw2, hg2, wx, by rw [hc]; exact hi2⟩ (fun p e => by cases e; exact wx) rfl
    cases e : W q with
    | none => rfl
    | some v => rw [dl q v e] at z; cases z
  · intro y n' cls d σ G' W' H' hΨ q _ st
    refine xt y n' cls d G' W' H' hΨ q ⟨st.g0, (same_upd wx).trans st.bw, st.gw, fun q u h => ?_⟩ st.t
    rcases st.gb q u h with h | h
    · exact .inl h
    · exact .inr (h.free (same_upd wx))
/-! ### shut parts -/
@[irreducible] def Mi.sortSet (xs : List Str) : M (List Str) := M.sortSet xs
@[irreducible] def Mi.insert {α : Type} (xs : List α) (j : Int) (a : α) : M (List α) := M.insert xs j a
@[irreducible] def Mi.dget {α : Type} (d : List (Str × α)) (k : Str) : M α := M.dget d k
@[irreducible] def Mi.comp2 {β δ γ : Type} (xs : List β) (f : β → M (List δ)) (g : β → δ → M (Option γ)) : M (List γ) := M.comp2 xs f g
@[irreducible] def Mi.exch {α : Type} (xss : List (List α)) : M (List (List α)) := M.exch xss
@[irreducible] def Mi.two {α : Type} (xs : List α) : M (α × α) := M.two xs
section
variable {α β γ δ σ ρ : Type} {Ψ : Exc → Nat → Prop} {n : Nat}
theorem dget_i {d : List (Str × α)} {k : Str} {a : α} {Φ : α → Nat → Prop} (h : getD d k = some a) (q : Φ a n) : Mi.dget d k Φ Ψ n := by delta Mi.dget; exact ⟨a, h, q⟩
end
end VL
namespace VL
open PySem PySem.Spec PyProof.Rows L2
/-! ### the head's facts with the getters of properties -/
theorem PrD.prop_ok {K : PySem.W.Frag} {d : PrD} (h : d.ok1 K = true) (hc : d.cm = false) : PropOf K (He.ga K d.cls) d.prop (prAt K d.cls d.prop) (prFn K d.cls d.prop) := by
  unfold PrD.ok1 at h
  rw [hc] at h
  simp only [Bool.false_eq_true, if_false] at h
  obtain ⟨h1, h2⟩ := He.ba h
  obtain ⟨h3, h4⟩ := He.ba h2
  obtain ⟨h5, h6⟩ := He.ba h4
  refine ⟨He.eqO_ok h1, He.eqO_ok h3, of_decide_eq_true h5, ?_⟩
  unfold prFn
  cases e : PySem.W.recIn K (prAt K d.cls d.prop) "property" with
  | none => rw [e] at h6; cases h6
  | some l =>
    rw [e] at h6
    cases l with
    | nil => cases h6
    | cons v r =>
      cases v with
      | ref g => exact ⟨r, rfl⟩
      | _ => cases h6
theorem PrD.fun_ok {K : PySem.W.Frag} {d : PrD} (e : d.obs K = d.val) (c : d.ok2 K = true) : ∃ fd, Fun K d.prop d.qual d.st (d.fnAt K) fd := by
  obtain ⟨kp, c2⟩ := He.ba c
  unfold PrD.obs at e
  cases q : K.lookup (d.fnAt K) with
  | none => rw [q] at c2; cases c2
  | some o =>
    obtain ⟨oc, od, dt, osl⟩ := o
    rw [q] at c2 e
    cases dt with
    | func fd =>
      obtain ⟨n1, n2, n3, n4, n5, n6, n7, n8, n9, n10, n11, n12, n13, n14, n15⟩ := fd
      have e2 : (some (n1, n2, n3, n4, n5, n6, n7, n15) : He.FnW) = some (d.prop, d.qual, defArgs d.st, .stmts (defBody d.st), defScope d.st, mainGlobals, [], builtinsNs) := e
      simp only [Option.some.injEq, Prod.mk.injEq] at e2
      obtain ⟨h1, h2, h3, h4, h5, h6, h7, h8⟩ := e2
      subst h1 h2 h3 h4 h5 h6 h7 h8
      have c3 : (PySem.W.codeIn K n13 d.qual && (He.dflB K n8 [] && He.kwdB K n9 [])) = true := c2
      obtain ⟨k1, k2⟩ := He.ba c3
      obtain ⟨k3, k4⟩ := He.ba k2
      exact ⟨_, He5.fun_of (kws := []) ⟨⟨oc, od, n8, n9, n10, n11, n12, n13, n14, osl, rfl, q, k1, He.dflB_ok k3, He.kwdB_ok k4⟩, kp⟩⟩
    | _ => cases c2
theorem SaysP.pr0 {fa : List He.Fa} {fn : List He.DefD} {prs : List PrD} {tf : List He.Defn} {ex : PySem.W.Frag → Bool} {w : World} {h : Heap} {K : PySem.W.Frag} (c : SaysP fa fn prs tf ex w h K) (i : Nat) {d : PrD} (hd : prs[i]? = some d) :
    d.ok1 K = true ∧ ∃ fd, Fun K d.prop d.qual d.st (d.fnAt K) fd := by
  have hm := List.mem_of_getElem? hd
  obtain ⟨h1, h2⟩ := c.ok d hm
  refine ⟨h1, PrD.fun_ok ?_ h2⟩
  have := congrArg (fun l : List He.FnW => l[i]?) c.ob
  simp only [List.getElem?_map, hd, Option.map_some, Option.some.injEq] at this
  exact this
theorem SaysP.pr {fa : List He.Fa} {fn : List He.DefD} {prs : List PrD} {tf : List He.Defn} {ex : PySem.W.Frag → Bool} {w : World} {h : Heap} {K : PySem.W.Frag} (c : SaysP fa fn prs tf ex w h K) (i : Nat) {d : PrD} (hd : prs[i]? = some d) (hc : d.cm = false) :
    PropOf K (He.ga K d.cls) d.prop (prAt K d.cls d.prop) (prFn K d.cls d.prop) ∧ ∃ fd, Fun K d.prop d.qual d.st (prFn K d.cls d.prop) fd := by
  obtain ⟨h1, h2⟩ := c.pr0 i hd
  refine ⟨PrD.prop_ok h1 hc, ?_⟩
  have e : d.fnAt K = prFn K d.cls d.prop := by unfold PrD.fnAt; rw [hc]; rfl
  rw [e] at h2; exact h2
theorem SaysP.cm {fa : List He.Fa} {fn : List He.DefD} {prs : List PrD} {tf : List He.Defn} {ex : PySem.W.Frag → Bool} {w : World} {h : Heap} {K : PySem.W.Frag} (c : SaysP fa fn prs tf ex w h K) (i : Nat) {d : PrD} (hd : prs[i]? = some d) (hc : d.cm = true) :
    ClX.CRead K (He.ga K d.cls) (.type "type") ∧ ClX.CMet K (He.ga K d.cls) (.type "type") d.prop (prAt K d.cls d.prop) (cmFn K d.cls d.prop) ∧ ∃ fd, Fun K d.prop d.qual d.st (cmFn K d.cls d.prop) fd := by
  obtain ⟨h1, h2⟩ := c.pr0 i hd
  have e : d.fnAt K = cmFn K d.cls d.prop := by unfold PrD.fnAt; rw [hc]; rfl
  rw [e] at h2
  unfold PrD.ok1 at h1
  rw [hc] at h1
  simp only [if_true] at h1
  unfold cmB at h1
  obtain ⟨a1, h1⟩ := He.ba h1
  obtain ⟨a2, h1⟩ := He.ba h1
  obtain ⟨a3, h1⟩ := He.ba h1
  obtain ⟨a4, a5⟩ := He.ba h1
  refine ⟨⟨a4, He.eqO_ok a5⟩, ⟨?_, ?_, a3⟩, h2⟩
  · split at a1
    · rename_i n p C e
      obtain ⟨b1, b2⟩ := He.ba a1
      obtain ⟨b2, b3⟩ := He.ba b2
      rw [e, of_decide_eq_true b1, of_decide_eq_true b2, of_decide_eq_true b3]
    · cases a1
  · unfold cmFn
    split at a2
    · rename_i g r e
      rw [e]; exact ⟨_, rfl⟩
    · cases a2
end VL
namespace VL
open PySem PySem.Spec PyProof.Rows L2
@[irreducible] def Mi.inS (a z : Str) : M Bool := M.inS a z
@[irreducible] def Mi.niS (a z : Str) : M Bool := M.niS a z
theorem inS_i {Ψ : Exc → Nat → Prop} {n : Nat} {c : Nat} {z : Str} {Φ : Bool → Nat → Prop} (k : Φ (decide (c ∈ z.cps.toList)) n) : Mi.inS ⟨#[c]⟩ z Φ Ψ n := by delta Mi.inS; exact ⟨c, rfl, k⟩
theorem niS_i {Ψ : Exc → Nat → Prop} {n : Nat} {c : Nat} {z : Str} {Φ : Bool → Nat → Prop} (k : Φ (!decide (c ∈ z.cps.toList)) n) : Mi.niS ⟨#[c]⟩ z Φ Ψ n := by delta Mi.niS; exact ⟨c, rfl, k⟩
end VL
namespace VL
open PySem PySem.Spec PyProof.Rows L2
/-! ### a loop that seeks -/
section
variable {β ρ γ : Type} {Ψ : Exc → Nat → Prop} {n : Nat}
def found {ρ : Type} (Φ : Fl ρ Unit → Nat → Prop) (n : Nat) : Option ρ → Prop
  | some r => Φ (.rt r) n
  | none => Φ (.nx ()) n
theorem for_first {f : β → Unit → M (Fl ρ Unit)} {Φ : Fl ρ Unit → Nat → Prop} (p : β → Option ρ) : ∀ {xs : List β}, (∀ x ∈ xs, ∀ (Φ' : Fl ρ Unit → Nat → Prop) n', found Φ' n' (p x) → f x () Φ' Ψ n') → found Φ n (xs.findSome? p) → M.forL f xs () Φ Ψ n
  | [], _, k => k
  | x :: xs, hf, k => by
    refine hf x List.mem_cons_self _ n ?_
    rw [List.findSome?_cons] at k
    cases e : p x with
    | some r => rw [e] at k; exact k
    | none =>
      rw [e] at k
      exact for_first p (fun y hy => hf y (List.mem_cons_of_mem _ hy)) k
end
theorem ret_i {ρ α : Type} {m : M (Fl ρ α)} {Φ : ρ → Nat → Prop} {Ψ : Exc → Nat → Prop} {n : Nat} (k : m (fun fl n => match fl with | .nx _ => False | .rt r => Φ r n) Ψ n) : M.ret m Φ Ψ n := k
theorem seq_i {ρ α β : Type} {m : M (Fl ρ α)} {f : α → M (Fl ρ β)} {Φ : Fl ρ β → Nat → Prop} {Ψ : Exc → Nat → Prop} {n : Nat} (k : m (fun fl n => match fl with | .nx a => f a Φ Ψ n | .rt r => Φ (.rt r) n) Ψ n) : M.seq m f Φ Ψ n := k
theorem bind_i {α β : Type} {m : M α} {f : α → M β} {Φ : β → Nat → Prop} {Ψ : Exc → Nat → Prop} {n : Nat} (k : m (fun a n => f a Φ Ψ n) Ψ n) : M.bind m f Φ Ψ n := k
theorem nox_i {α : Type} {m : M α} {Φ : α → Nat → Prop} {Ψ : Exc → Nat → Prop} {n : Nat} (k : m Φ (fun _ _ => False) n) : M.nox m Φ Ψ n := k
theorem pure_i {α : Type} {a : α} {Φ : α → Nat → Prop} {Ψ : Exc → Nat → Prop} {n : Nat} (k : Φ a n) : M.pure a Φ Ψ n := k
/-! ### whole numbers from .. to -/
/-! ### tables as lists of lists -/
structure Grid (ws : List Str) (h w : Nat) (g : List (List Str)) : Prop where
  len : g.length = h
  row : ∀ r ∈ g, r.length = w
  mem : ∀ r ∈ g, ∀ x ∈ r, x ∈ ws
theorem Grid.at_ {ws : List Str} {h w : Nat} {g : List (List Str)} (G : Grid ws h w g) {i : Nat} (hi : i < h) : ∃ r, g[i]? = some r ∧ r ∈ g ∧ r.length = w := by
  have hi' : i < g.length := by rw [G.len]; exact hi
  exact ⟨g[i], List.getElem?_eq_getElem hi', List.getElem_mem _, G.row _ (List.getElem_mem _)⟩
def cell (g : List (List Str)) (i j : Nat) : Option Str := g[i]?.bind (·[j]?)
theorem Grid.put {ws : List Str} {h w k : Nat} {g g' : List (List Str)} {row : List Str} {x : Str} (G : Grid ws h w g) (hr : row ∈ g) (hx : x ∈ ws) (m : MutR g (row.set k x) g') : Grid ws h w g' := by
  have key : ∀ r ∈ g', r ∈ g ∨ r = row.set k x := fun r hr' => by
    obtain ⟨t, ht, e⟩ := List.mem_iff_getElem.mp hr'
    rcases m.at_ t r (by rw [List.getElem?_eq_getElem ht, e]) with h | h
    · exact .inl (List.mem_of_getElem? h)
    · exact .inr h
  refine ⟨by rw [m.len, G.len], fun r hr' => ?_, fun r hr' y hy => ?_⟩
  · rcases key r hr' with h | rfl
    · exact G.row r h
    · rw [List.length_set]; exact G.row row hr
  · rcases key r hr' with h | rfl
    · exact G.mem r h y hy
    · rcases List.mem_or_eq_of_mem_set hy with h | rfl
      · exact G.mem row hr y h
      · exact hx
/-! ### names put by text -/
theorem getD_append {α : Type} {d e : List (Str × α)} {k : Str} : getD (d ++ e) k = match getD d k with | some a => some a | none => getD e k := by
  induction d with
  | nil => rfl
  | cons q d ih =>
    rw [List.cons_append, getD_cons, getD_cons, ih]
    by_cases h : q.1 = k
    · rw [if_pos h, if_pos h]
    · rw [if_neg h, if_neg h]
theorem getD_any {α : Type} {d : List (Str × α)} {k : Str} : (d.any fun q => decide (q.1 = k)) = (getD d k).isSome := by
  induction d with
  | nil => rfl
  | cons q d ih =>
    rw [List.any_cons, getD_cons, ih]
    by_cases h : q.1 = k
    · rw [if_pos h]; simp [h]
    · rw [if_neg h]; simp [h]
theorem getD_map {α : Type} {d : List (Str × α)} {k j : Str} {a : α} : getD (d.map fun q => if q.1 = k then (q.1, a) else q) j = if j = k then (getD d k).map fun _ => a else getD d j := by
  induction d with
  | nil => by_cases h : j = k <;> simp [h, getD_nil]
  | cons q d ih =>
    rw [List.map_cons, getD_cons, ih, getD_cons, getD_cons]
    by_cases h1 : q.1 = k
    · subst h1
      by_cases h2 : j = q.1
      · subst h2; simp
      · have h3 : ¬ q.1 = j := fun z => h2 z.symm
        simp [h2, h3]
    · by_cases h2 : j = k
      · subst h2; simp [h1]
      · simp [h1, h2]
theorem getD_put {α : Type} {d : List (Str × α)} {k j : Str} {a : α} : getD (putD d k a) j = if j = k then some a else getD d j := by
  unfold putD
  by_cases h : (d.any fun q => decide (q.1 = k)) = true
  · rw [if_pos h, getD_map]
    rw [getD_any] at h
    by_cases e : j = k
    · rw [if_pos e, if_pos e]
      cases z : getD d k with
      | none => rw [z] at h; cases h
      | some b => rfl
    · rw [if_neg e, if_neg e]
  · rw [if_neg h, getD_append, getD_cons, getD_nil]
    rw [getD_any] at h
    by_cases e : j = k
    · subst e
      rw [if_pos rfl, if_pos rfl]
      cases z : getD d j with
      | none => rfl
      | some b => rw [z] at h; exact absurd rfl h
    · rw [if_neg e]
      have e2 : ¬ k = j := fun z => e z.symm
      rw [if_neg e2]
      cases getD d j <;> rfl
/-! ### sets of texts -/
theorem nodup_sub {α : Type} [DecidableEq α] : ∀ {xs ys : List α}, xs.Nodup → (∀ x ∈ xs, x ∈ ys) → xs.length ≤ ys.length
  | [], _, _, _ => Nat.zero_le _
  | x :: xs, ys, h, k => by
    have h := List.nodup_cons.mp h
    have := nodup_sub (xs := xs) (ys := ys.erase x) h.2 fun y hy => (List.mem_erase_of_ne (fun z => h.1 (by rw [← z]; exact hy))).mpr (k y (List.mem_cons_of_mem _ hy))
    rw [List.length_erase_of_mem (k x List.mem_cons_self)] at this
    have := List.length_pos_of_mem (k x List.mem_cons_self)
    rw [List.length_cons]; omega
theorem popAt_ok {α : Type} {xs : List α} {d : Int} {Φ : α × List α → Nat → Prop} {Ψ : Exc → Nat → Prop} {n : Nat} (h0 : 0 ≤ d) (h1 : d < xs.length) (hl : xs.length ≤ 1000000) (k : ∀ (m : Nat) (hm : m < xs.length), d = (m : Int) → Φ (xs[m], xs.eraseIdx m) n) : Mi.popAt xs d Φ Ψ n := by
  obtain ⟨m, rfl⟩ := Int.eq_ofNat_of_zero_le h0
  have hm : m < xs.length := by omega
  refine popAt_i (m := m) ⟨by omega, by omega⟩ ?_ (List.getElem?_eq_getElem hm) (k m hm rfl)
  have e : L2.ixN xs.length (m : Int) = some m := by
    unfold L2.ixN
    rw [if_pos (by omega), if_pos (by omega)]
    rfl
  exact (L2.ixN_seq e).1
theorem erase_perm {α : Type} {xs : List α} {m : Nat} (hm : m < xs.length) : (xs[m] :: xs.eraseIdx m).Perm xs := by
  induction xs generalizing m with
  | nil => simp at hm
  | cons x xs ih =>
    cases m with
    | zero => exact List.Perm.refl _
    | succ m =>
      simp only [List.getElem_cons_succ, List.eraseIdx_cons_succ]
      have := ih (m := m) (by simpa using hm)
      exact (List.Perm.swap _ _ _).trans (this.cons x)
/-- six names -/
structure Six (ws : List Str) : Prop where
  len : ws.length = 6
  gd : ∀ x ∈ ws, good x = true
theorem Six.perm {ws us : List Str} (h : Six ws) (p : us.Perm ws) : Six us := ⟨by rw [p.length_eq, h.len], fun x hx => h.gd x (p.mem_iff.mp hx)⟩
theorem Grid.app {ws : List Str} {h h' w : Nat} {g g' : List (List Str)} (a : Grid ws h w g) (b : Grid ws h' w g') : Grid ws (h + h') w (g ++ g') :=
  ⟨by rw [List.length_append, a.len, b.len], fun r hr => (List.mem_append.mp hr).elim (a.row r) (b.row r), fun r hr => (List.mem_append.mp hr).elim (a.mem r) (b.mem r)⟩
theorem Grid.snoc {ws : List Str} {h w : Nat} {g : List (List Str)} {r : List Str} (a : Grid ws h w g) (hr : r.length = w) (hm : ∀ x ∈ r, x ∈ ws) : Grid ws (h + 1) w (g ++ [r]) :=
  a.app (g' := [r]) (h' := 1) ⟨rfl, fun z hz => by rw [List.mem_singleton.mp hz]; exact hr, fun z hz => by rw [List.mem_singleton.mp hz]; exact hm⟩
theorem Grid.nil {ws : List Str} {w : Nat} : Grid ws 0 w [] := ⟨rfl, (fun _ h => nomatch h), (fun _ h => nomatch h)⟩
end VL
namespace VL
open PySem PySem.Spec PyProof.Rows L2
/-! ### exceptions -/
section
variable {C : Cfg} {α β ρ : Type} {Rr : ρ → SL} {ps : List SL} {te : TE} {t : TA} {nm f : Str}
/-- raise X(e) -/
theorem sv_raise {R : α → VP} [IsD R] {A : Addr} {m : M α} {ψ : β → List SL} (x : XCls C.K C.mg nm f) (he : VE C te ps m (Fz R)) (hp : PxLe C.px ps) (hA : x.C = A := by rfl) :
    SV C Rr (fun _ σ H => tMkO A (spXI A f) [] (tCons te tNil) σ H fun cls d H' => C.Ew σ cls d H') ps (M.bind m fun a => M.raise ⟨nm, f, IsD.d R a⟩) ψ := by
  subst hA
  intro D σ G W H n Φ Ψ e st hm k r xt
  refine he σ G W H n _ (fun a n' => Ψ ⟨nm, f, IsD.d R a⟩ n') Ψ e st hm (fun a n1 v G1 W1 H1 hm1 s1 t1 r1 _ => ?_) fun y n' cls d G' W' H' hΨ q s t => xt y n' cls d σ G' W' H' hΨ q ((e.stp s).x hp) (st.stp s t)
  have st1 := st.stp s1 t1
  refine ⟨(show 1 ≤ 1000 by decide), fun a0 ha0 => ⟨a0, v, rfl, upd_same, fun dx n1' n2 => ⟨rfl, dx, [(f, v)], upd_same, ?_, ?_, ?_⟩⟩⟩
  · rw [upd_ne n2]; exact upd_same
  · rw [upd_ne n2] at n1'; exact n1'
  · rw [upd_ne n2] at n1'
    have same : Same H1 (upd (L2.del (upd (upd (upd H1 a0 (exo a0 x.C none)) dx (exd dx [(f, v)])) a0 (exo a0 x.C (some dx))) a0) dx (.xd [(f, v)])) := fun b o hb => by
      have b1 : b ≠ dx := ne_of_none hb n1'
      have b2 : b ≠ a0 := ne_of_none hb ha0
      rw [upd_ne b1, L2.del_ne b2, upd_ne b2, upd_ne b1, upd_ne b2]
      exact hb
    exact xt ⟨nm, f, IsD.d R a⟩ n1 (.ref x.C) (some dx) σ G1 W1 _ hm1 (.inl ⟨x.C, dx, v, x.g, rfl, rfl, upd_same, st1.wfree n1', IsD.dq a v G1 r1⟩) ((e.stp s1).x hp) (st1.more same)
/-- f(..): what f raises goes on -/
theorem ve_callR {Rs Rs' : α → List VP} {F : α → M β} {Rc : β → SL} {m : M α} (ha : VA C t ps m Rs') (hR : ∀ a, Rs' a = Rs a := by intro _; rfl) (hr : ∀ b p, Rc b ≠ .bo p := by intro _ _ h; cases h) :
    VE C (tCallS (spG C.mg C.K C.TB Rs F Rc) (fun σ => C.Ew σ) t) ps (M.bind m fun a => F a) Rc := by
  intro σ G W H n Q Φ Ψ e st hm k x
  refine va_eq ha hR σ G W H n _ (fun a n' => F a Φ Ψ n') Ψ e st hm (fun a n1 vs G1 W1 H1 hm1 s1 t1 r1 => ?_) x
  have st1 := st.stp s1 t1
  refine ⟨C.Θ, a, G1, W1, n1, Φ, Ψ, r1, st1.gw, st1.t, hm1, fun b n2 v G2 W2 H2 hΦ s2 t2 r2 f2 => (k.stp s1) b n2 v G2 W2 H2 hΦ s2 t2 (res_call st1.bw r2 (hr b)) f2, fun y n2 cls d G2 W2 H2 hΨ q s2 t2 => ?_⟩
  exact x y n2 cls d G2 W2 H2 hΨ q (s1.trans s2) t2
/-- o.m(..): what m raises goes on -/
theorem ve_methR {Cl : Addr} {g : Str} {γ : Type} {fl : α → List (Str × VP)} {Ra : β → List VP} {F : α × β → M γ} {Rc : γ → SL} {m : M α} {mb : M β} {Rs : α × β → List VP} (h : VE C te ps m (Fz fun a => rIns Cl (fl a))) (ha : VA C t ps mb Ra) (hR : ∀ q, Rs q = rIns Cl (fl q.1) :: Ra q.2 := by intro _; rfl)
    (hn : ∀ a, ∀ q ∈ fl a, q.1 ≠ g) (hr : ∀ b p, Rc b ≠ .bo p := by intro _ _ h; cases h) :
    VE C (tMethT Cl g (spG C.mg C.K C.TB Rs F Rc) (fun σ => C.Ew σ) te t) ps (M.bind m fun a => M.bind mb fun b => F (a, b)) Rc := by
  intro σ G W H n Q Φ Ψ e st hm k x
  refine h σ G W H n _ (fun a n' => M.bind mb (fun b => F (a, b)) Φ Ψ n') Ψ e st hm ?_ x
  rintro a n1 v G1 W1 H1 hm1 s1 t1 r1 _
  have r0 := r1
  obtain ⟨p, o, rfl, h2, dx, fs, rfl, _, h4, _⟩ := r1
  have st1 := st.stp s1 t1
  refine ⟨p, dx, fs, rfl, st1.gh _ _ h2, h4 _ (hn a), ?_⟩
  refine ha σ G1 W1 H1 n1 _ (fun b n' => F (a, b) Φ Ψ n') Ψ (e.stp s1) st1 hm1 (fun b n2 vs G2 W2 H2 hm2 s2 t2 r2 => ?_) (x.stp s1)
  have st2 := st1.stp s2 t2
  refine ⟨C.Θ, (a, b), G2, W2, n2, Φ, Ψ, by rw [hR]; exact .cons ((rIns Cl (fl a)).up s2.g r0) r2, st2.gw, st2.t, hm2, fun c n3 v G3 W3 H3 hΦ s3 t3 r3 f3 => ?_, fun y n3 cls d G3 W3 H3 hΨ q s3 t3 => ?_⟩
  · exact (k.stp (s1.trans s2)) c n3 v G3 W3 H3 hΦ s3 t3 (res_call st2.bw r3 (hr c)) f3
  · exact x y n3 cls d G3 W3 H3 hΨ q ((s1.trans s2).trans s3) t3
/-- the caught exception, in its slot -/
def rXc (a dd : Addr) (f : Str) (d : PyData) : VP := ⟨fun v G => v = .ref a ∧ ∃ u, G dd = some (.xd [(f, u)]) ∧ Dq G u d, fun e ⟨h, u, h1, h2⟩ => ⟨h, u, e _ _ h1, dq_up e h2⟩⟩
theorem ve_xf {a dd Cx : Addr} {d : PyData} {i : Nat} (h : ps[i]? = some (.fr (rXc a dd f d)) := by rfl) : VE C (tXf a (.ref Cx) (some dd) Cx f (tVar i)) ps (M.pure d) (Fz rDat) := by
  intro σ G W H n Q Φ Ψ e st hm k x
  obtain ⟨v, hσ, rfl, u, h1, h2⟩ := e.at_ h (by simp)
  refine ⟨_, hσ, rfl, rfl, dd, _, u, rfl, st.gh _ _ h1, ?_, k.hereF st hm h2⟩
  simp [List.lookup]
/-- the handlers: by the exception's name -/
def M.hnd {β : Type} (x : Exc) : List (Str × Str × (PyData → M β)) → M β
  | [] => M.never
  | (nm, f, h) :: r => fun Φ Ψ n => (x.nm = nm → x.f = f ∧ h x.d Φ Ψ n) ∧ (x.nm ≠ nm → M.hnd x r Φ Ψ n)
def M.up {ρ α : Type} (m : M (Fl ρ Empty)) : M (Fl ρ α) := fun Φ Ψ n => m (fun fl n => match fl with | .nx z => z.elim | .rt r => Φ (.rt r) n) Ψ n
def M.try_ {ρ α : Type} (m : M (Fl ρ α)) (hs : List (Str × Str × (PyData → M (Fl ρ Empty)))) : M (Fl ρ α) := fun Φ Ψ n => m Φ (fun x n => M.up (M.hnd x hs) Φ Ψ n) n
inductive HL (C : Cfg) (Ew' : L2.St → XK) {ρ : Type} (Rr : ρ → SL) (tbl : List (Str × Addr)) : List (Value × Nat × (Addr → Value → Option Addr → TS)) → List (Str × Str × (PyData → M (Fl ρ Empty))) → Prop
  | nil : HL C Ew' Rr tbl [] []
  | cons {nm f : Str} {i : Nat} {ts : Addr → Value → Option Addr → TS} {h : PyData → M (Fl ρ Empty)} {l : List (Value × Nat × (Addr → Value → Option Addr → TS))} {hs : List (Str × Str × (PyData → M (Fl ρ Empty)))} {ψ : Addr → Addr → PyData → Empty → List SL} {A : Addr} (X : XCls C.K C.mg nm f) (hA : X.C = A) (hm : (nm, A) ∈ tbl) (hi : C.px[i]? = some .un)
      (hb : ∀ a dd d, SV { C with px := [], Ew := Ew' } Rr (ts a (.ref A) (some dd)) (C.px.set i (.fr (rXc a dd f d))) (h d) (ψ a dd d)) (r : HL C Ew' Rr tbl l hs) (hf0 : f ≠ ("" : Str) := by decide) : HL C Ew' Rr tbl ((.ref A, i, ts) :: l) ((nm, f, h) :: hs)
theorem hnd_mem {Ew' : L2.St → XK} {tbl : List (Str × Addr)} {l : List (Value × Nat × (Addr → Value → Option Addr → TS))} {hs : List (Str × Str × (PyData → M (Fl ρ Empty)))} (hl : HL C Ew' Rr tbl l hs) {x : Exc} {Φ : Fl ρ Empty → Nat → Prop} {Ψ : Exc → Nat → Prop} {n : Nat} (h : M.hnd x hs Φ Ψ n) : ∃ A, (x.nm, A) ∈ tbl ∧ C.mg x.nm = some (.ref A) := by
  induction hl with
  | nil => exact h.elim
  | @cons nm f i ts g l hs ψ A X hA hm hi hb r hf0 ih =>
    subst hA
    by_cases e : x.nm = nm
    · exact ⟨X.C, by rw [e]; exact hm, by rw [e]; exact X.g⟩
    · exact ih (h.2 e)
theorem wmany {Ew' : L2.St → XK} {tbl : List (Str × Addr)} {l : List (Value × Nat × (Addr → Value → Option Addr → TS))} {hs : List (Str × Str × (PyData → M (Fl ρ Empty)))} (hl : HL C Ew' Rr tbl l hs) (hE : ∀ p ∈ tbl, ∀ q ∈ tbl, PySem.W.exmOne C.K (.ref p.2) (.ref q.2) = some (decide (p.1 = q.1))) (hF : C.px.all SL.isF = true) (hne : C.px ≠ [])
    {D : Ends} {σ : L2.St} {G W H : Hp} {n : Nat} {Φ : Fl ρ α → Nat → Prop} {Ψ : Exc → Nat → Prop} {x : Exc} {cls : Value} {d : Option Addr} (hx : Ex_ C.B C.px σ G W) (st : Stt C n G W H) (q : XRep C.mg x cls d G W H) (hm : M.up (M.hnd x hs) Φ Ψ n)
    (r : ∀ r n v G W H, Φ (.rt r) n → Stt C n G W H → Res C.B (Rr r) v G W → D.rt v H) (xt : ∀ y n cls d σ G W H, Ψ y n → XRep C.mg y cls d G W H → Ex_ C.B [] σ G W → Stt C n G W H → Ew' σ cls d H) {Wout : WX} :
    wManyAs C.K Wout D l cls d σ H := by
  obtain ⟨A, hA, gA⟩ := hnd_mem hl hm
  rcases q with ⟨Cx, dd, v, hg, rfl, rfl, hdd, hW, hq⟩ | ⟨Cx, hg, rfl, rfl, hf⟩
  rotate_left
  · exfalso
    clear hE hx st r xt hA gA hg
    induction hl with
    | nil => exact hm
    | @cons nm f i ts h l hs ψ A0 X hA0 hmem hi hb hl hf0 ih =>
      by_cases e : x.nm = nm
      · exact hf0 ((hm.1 e).1.symm.trans hf)
      · exact ih (hm.2 e)
  rw [gA] at hg
  cases hg
  have hG : G dd = none := st.gw.free hW
  have hB : C.B dd = none := st.bw.free hW
  have hG0 : C.G0 dd = none := st.g0.free hG
  rcases hx with hx | ⟨hlen, hx⟩
  · exact absurd hx hne
  induction hl with
  | nil => exact hm.elim
  | @cons nm f i ts h l hs ψ A0 X hA0 hmem hi hb hl hf0 ih =>
    subst hA0
    refine ⟨decide (x.nm = nm), hE _ hA _ hmem, fun e a ha => ?_, fun e => ?_⟩
    · have e : x.nm = nm := of_decide_eq_true e
      obtain ⟨hf, hm⟩ := hm.1 e
      have eC : A = X.C := by
        have g2 : C.mg x.nm = some (.ref X.C) := (congrArg C.mg e).trans X.g
        rw [gA] at g2
        injection g2 with g2
        injection g2
      subst eC
      have same : Same (upd G dd (.xd [(x.f, v)])) (upd W dd (.xd [(x.f, v)])) := same_two st.gw
      have st' : Stt { C with px := [], Ew := Ew' } n (upd G dd (.xd [(x.f, v)])) (upd W dd (.xd [(x.f, v)])) H :=
        ⟨C.Θ.see st.t hdd ⟨(fun _ h => nomatch h), (fun _ h => nomatch h)⟩ (fun _ h => nomatch h), same, st.bw.trans (same_upd hW), st.g0.trans (same_upd hG), fun z o hz => by
          by_cases y : z = dd
          · subst y; exact .inr (.inl hB)
          · rw [upd_ne y] at hz; exact st.gb z o hz⟩
      have ee : Ee C.B (C.px.set i (.fr (rXc a dd f x.d))) (σ.set i (some (.ref a))) (upd G dd (.xd [(x.f, v)])) (upd W dd (.xd [(x.f, v)])) := by
        have e0 : Ee C.B C.px σ (upd G dd (.xd [(x.f, v)])) (upd W dd (.xd [(x.f, v)])) := ⟨hlen, fun {j s} h n => by
          obtain ⟨u, hu, hr⟩ := hx h n
          refine ⟨u, hu, ?_⟩
          cases s with
          | un => trivial
          | fr p => exact p.up (same_upd hG) hr
          | bo p => exact hr
          | ow c => exact absurd h (isF_no hF j c), fun {i j c d a} _ h1 _ _ _ => absurd h1 (isF_no hF i c)⟩
        exact e0.setF (p := rXc a dd f x.d) ⟨rfl, v, by rw [upd_same, hf], dq_up (same_upd hG) hq⟩
      exact hb a dd x.d _ _ _ _ H n _ Ψ ee st' hm (fun z _ _ _ _ _ _ => z.elim) (fun r' n' v' G' W' H' hΦ s' res => r r' n' v' G' W' H' hΦ ⟨s'.t, s'.gw, s'.bw, s'.g0, s'.gb⟩ res) (fun y n' cls' d' σ' G' W' H' hΨ q' ex' s' => xt y n' cls' d' σ' G' W' H' hΨ q' (.inl rfl) ⟨s'.t, s'.gw, s'.bw, s'.g0, s'.gb⟩)
    · have e : x.nm ≠ nm := of_decide_eq_false e
      exact ih (hm.2 e)
/-- try: .. except X as e: .. -/
theorem sv_try {C : Cfg} {ps px : List SL} {tbl : List (Str × Addr)} {tb : WX → TS} {l : List (Value × Nat × (Addr → Value → Option Addr → TS))} {hs : List (Str × Str × (PyData → M (Fl ρ Empty)))} {m : M (Fl ρ α)} {ψ : α → List SL} {Wout : WX} (hl : HL { C with px := px } C.Ew Rr tbl l hs)
    (hE : ∀ p ∈ tbl, ∀ q ∈ tbl, PySem.W.exmOne C.K (.ref p.2) (.ref q.2) = some (decide (p.1 = q.1))) (hF : px.all SL.isF = true) (hne : px ≠ []) (hpx : C.px = [])
    (hb : ∀ D : Ends, SV { C with px := px, Ew := fun σ cls d H => wManyAs C.K Wout D l cls d σ H } Rr (tb (wManyAs C.K Wout D l)) ps m ψ) :
    SV C Rr (fun D σ H => tb (wManyAs C.K Wout D l) D σ H) ps (M.try_ m hs) ψ := by
  intro D σ G W H n Φ Ψ e st hm k r xt
  refine hb D D σ G W H n Φ _ e ⟨st.t, st.gw, st.bw, st.g0, st.gb⟩ hm (fun a n' σ' G' W' H' hΦ s e' st' => k a n' σ' G' W' H' hΦ s e' ⟨st'.t, st'.gw, st'.bw, st'.g0, st'.gb⟩) (fun r' n' v G' W' H' hΦ st' res => r r' n' v G' W' H' hΦ ⟨st'.t, st'.gw, st'.bw, st'.g0, st'.gb⟩ res) ?_
  intro x n' cls d σ' G' W' H' hΨ q ex st'
  exact wmany (C := { C with px := px }) hl hE hF hne (Φ := Φ) (Ψ := Ψ) ex ⟨st'.t, st'.gw, st'.bw, st'.g0, st'.gb⟩ q hΨ (fun r' n' v G' W' H' hΦ st' res => r r' n' v G' W' H' hΦ ⟨st'.t, st'.gw, st'.bw, st'.g0, st'.gb⟩ res) (fun y n' cls d σ G W H hΨ q _ s => xt y n' cls d σ G W H hΨ q (.inl hpx) ⟨s.t, s.gw, s.bw, s.g0, s.gb⟩)
end
end VL
namespace L2
open PySem PySem.Spec PyProof.Rows
end L2
namespace VL
open PySem PySem.Spec PyProof.Rows L2
/-! ### the head's facts of the errors' classes -/
theorem new6_ok {l : List (Option Value)} (h : new6 l = true) : ∃ k0 k1 k2 k3 k5, l = [k0, k1, k2, k3, some (Value.builtin "ValueError.__new__"), k5] := by
  unfold new6 at h
  split at h
  · have h := of_decide_eq_true h
    subst h
    exact ⟨_, _, _, _, _, rfl⟩
  · cases h
theorem oexB_ok {K : PySem.W.Frag} {C : Addr} (h : oexB K C = true) : OexC K C := by
  obtain ⟨h0, h⟩ := He.ba h
  obtain ⟨h1, h⟩ := He.ba h
  obtain ⟨h2, h⟩ := He.ba h
  obtain ⟨h3, h4⟩ := He.ba h
  refine ⟨?_, He.eqO_ok h1, of_decide_eq_true h2, of_decide_eq_true h3, h4⟩
  cases q : K.lookup C with
  | none => rw [q] at h0; cases h0
  | some o =>
    obtain ⟨oc, od, dt, sl⟩ := o
    rw [q] at h0
    cases oc with
    | type t =>
      cases dt with
      | cls cd =>
        obtain ⟨a1, h0⟩ := He.ba h0
        obtain ⟨a2, h0⟩ := He.ba h0
        obtain ⟨a3, h0⟩ := He.ba h0
        obtain ⟨a4, a5⟩ := He.ba h0
        have a1 : t = "type" := of_decide_eq_true a1
        subst a1
        obtain ⟨nm, bs, mro, ns, qn, hd, sn, sub, ab, col, del⟩ := cd
        have a3 : hd = true := a3
        have a4' : del = false := by
          have a4 : (!del) = true := a4
          cases del with
          | false => rfl
          | true => cases a4
        clear a4
        subst a3 a4'
        cases mro with
        | nil => cases a2
        | cons v bm =>
          obtain ⟨b1, b2⟩ := He.ba a2
          have b1 : v = Value.ref C := of_decide_eq_true b1
          subst b1
          obtain ⟨l⟩ := sl
          obtain ⟨k0, k1, k2, k3, k5, e⟩ := new6_ok a5
          have e : l = [k0, k1, k2, k3, some (Value.builtin "ValueError.__new__"), k5] := e
          subst e
          exact ⟨nm, qn, ns, bs, bm, sn, sub, ab, col, od, k0, k1, k2, k3, k5, rfl, b2⟩
      | _ => cases h0
    | _ => cases h0
theorem exsB_ok {xs : List (Str × Str)} {K : PySem.W.Frag} (h : exsB xs K = true) {i : Nat} {x : Str × Str} (hx : xs[i]? = some x) : OexC K (He.ga K x.1) ∧ XfC K (He.ga K x.1) ∧ PySem.W.typeIn K (.ref (He.ma K (He.ga K x.1) "__init__")) = some (.type "function") := by
  have := List.all_eq_true.mp h x (List.mem_of_getElem? hx)
  obtain ⟨h1, h⟩ := He.ba this
  obtain ⟨h2, h3⟩ := He.ba h
  exact ⟨oexB_ok h1, xfB_ok h2, of_decide_eq_true h3⟩
end VL
set_option maxHeartbeats 6400000
namespace L2
open PySem PySem.Spec PyProof.Rows
end L2
namespace VL
open PySem PySem.Spec PyProof.Rows L2
section
variable {C : Cfg} {α β ρ : Type} {Rr : ρ → SL} {ps : List SL} {te ta tb : TE} {P : Program} {w : World}
/-- a list or a tuple -/
def rSq (R : α → VP) (xs : List α) : VP := ⟨fun v G => (rLst R xs).P v G ∨ (rTup R xs).P v G, fun e h => h.imp (rLst R xs |>.up e) (rTup R xs |>.up e)⟩
theorem ve_sqL {R : α → VP} {m : M (List α)} (h : VE C te ps m (Fz (rLst R))) : VE C te ps m (Fz (rSq R)) := by
  intro σ G W H n Q Φ Ψ e st hm k x
  exact h σ G W H n Q Φ Ψ e st hm (fun a n' v G' W' H' hΦ s t r f => k a n' v G' W' H' hΦ s t (.inl r) f) x
/-- any value that is a tuple of texts -/
def M.datS (d : PyData) : M (List Str) := fun Φ _ n => ∃ xs : List Str, d = .tuple (xs.map PyData.str) ∧ Φ xs n
theorem dq_strs {G : Hp} : ∀ {vs : List V} {xs : List Str}, DqAll G vs (xs.map PyData.str) → reps rStr xs vs G
  | [], [], _ => trivial
  | v :: vs, x :: xs, h => by
    cases h with
    | cons a b =>
      cases a
      exact ⟨rfl, dq_strs b⟩
  | _ :: _, [], h => by cases h
  | [], _ :: _, h => by cases h
end
@[irreducible] def Mi.datS (d : PyData) : M (List Str) := M.datS d
end VL
namespace L2
open PySem PySem.Spec PyProof.Rows
end L2
namespace VL
open PySem PySem.Spec PyProof.Rows L2
end VL
/-! ### != of two tuples whose items are compared within one model -/
namespace PySem.SeqAt
open AutoSeq1 (wpAny_loadPart')
open MeetsSeq MeetsSeq2 MeetsSeq3 SeqRoads2
end PySem.SeqAt
namespace L2
open PySem PySem.Spec PyProof.Rows
end L2
namespace VL
open PySem PySem.Spec PyProof.Rows L2
/-! ### data that hold at most empty dicts: equal to themselves -/
mutual
def okE : PyData → Bool
  | .none | .bool _ | .int _ | .str _ => true
  | .list xs | .tuple xs => okEs xs
  | .dict ks => ks.isEmpty
def okEs : List PyData → Bool
  | [] => true
  | x :: xs => okE x && okEs xs
end
/-- a != b: of plain data, or of one tuple's data with itself -/
def M.neQ (d e : PyData) : M Bool := fun Φ _ n => (SeqAt.shaped d = true ∧ SeqAt.shaped e = true ∧ Φ (!PyData.eqv d e) n) ∨ ∃ ds, d = .tuple ds ∧ e = .tuple ds ∧ okEs ds = true ∧ PyData.depthAll ds ≤ 60 ∧ Φ false n
@[irreducible] def Mi.neQ (d e : PyData) : M Bool := M.neQ d e
end VL
namespace L2
open PySem PySem.Spec PyProof.Rows
/-- try: .. except X as e: .., with its parts told -/
def tTryAs (K : PySem.W.Frag) (Wout : WX) (tb : WX → TS) (l : List (Value × Nat × (Addr → Value → Option Addr → TS))) : TS := fun D σ H => tb (wManyAs K Wout D l) D σ H
section
variable {X : Cx} {body : List Stmt} {h₀ : ExceptHandler} {hds : List ExceptHandler} {l : List (Value × Nat × (Addr → Value → Option Addr → TS))} {pos : Pos} {tb : WX → TS} {Wout : WX}
theorem ps_tryM (hs : X.stack = X.env :: X.outer) (hf : X.env.frame = some X.env.locals) (hN : X.N.Nodup) (tk : Takes X Wout)
    (hb : ∀ (W : WX) (pn : List (Addr × Obj)) (xe : Value → Shared → Prop), Takes (X.tr pn xe) W → PassesOwn (model X.prog X.w) X.A X.env xe → PSs (X.tr pn xe) body (tb W))
    (hh : HdsAs X (h₀ :: hds) l) : PS X (.Try body (h₀ :: hds) [] [] pos) (tTryAs X.K Wout tb l) := ps_try_manyAs hs hf hN tk hb hh
end
end L2
namespace VL
open PySem PySem.Spec PyProof.Rows L2
theorem sv_tryM {α ρ : Type} {Rr : ρ → SL} {C : Cfg} {ps px : List SL} {tbl : List (Str × Addr)} {tb : WX → TS} {l : List (Value × Nat × (Addr → Value → Option Addr → TS))} {hs : List (Str × Str × (PyData → M (Fl ρ Empty)))} {m : M (Fl ρ α)} {ψ : α → List SL} {Wout : WX} (hl : HL { C with px := px } C.Ew Rr tbl l hs)
    (hE : ∀ p ∈ tbl, ∀ q ∈ tbl, PySem.W.exmOne C.K (.ref p.2) (.ref q.2) = some (decide (p.1 = q.1))) (hF : px.all SL.isF = true) (hne : px ≠ []) (hpx : C.px = [])
    (hb : ∀ D : Ends, SV { C with px := px, Ew := fun σ cls d H => wManyAs C.K Wout D l cls d σ H } Rr (tb (wManyAs C.K Wout D l)) ps m ψ) :
    SV C Rr (tTryAs C.K Wout tb l) ps (M.try_ m hs) ψ := sv_try hl hE hF hne hpx hb
end VL
namespace ZL
open PySem PySem.Spec PyProof.Rows L2 ZN
/-! ### tuple(zip(*y)), y a list or a tuple of lists -/
end ZL
namespace ZT
open PySem PySem.Spec PyProof.Rows L2 ZN
/-! ### tuple(zip(*y)), y a list or a tuple of tuples -/
end ZT
namespace VL
open PySem PySem.Spec PyProof.Rows L2 ZN
section
variable {α : Type} {R : α → VP} {G : Hp}
def LRL (R : α → VP) (G : Hp) : List (List α) → List (Addr × List V) → Prop
  | [], [] => True
  | x :: xs, q :: qs => (G q.1 = some (.lst q.2) ∧ reps R x q.2 G) ∧ LRL R G xs qs
  | _, _ => False
theorem LRL.len : ∀ {xss : List (List α)} {ls : List (Addr × List V)}, LRL R G xss ls → ls.length = xss.length
  | [], [], _ => rfl
  | _ :: _, _ :: _, h => by rw [List.length_cons, List.length_cons, LRL.len h.2]
theorem LRL.at_ : ∀ {xss : List (List α)} {ls : List (Addr × List V)} {n : Nat}, LRL R G xss ls → (∀ r ∈ xss, r.length = n) → ∀ p ∈ ls, G p.1 = some (.lst p.2) ∧ p.2.length = n
  | [], [], _, _, _, p, hp => by simp at hp
  | x :: xs, q :: qs, n, h, hn, p, hp => by
    rcases List.mem_cons.mp hp with rfl | hp
    · exact ⟨h.1.1, by rw [h.1.2.len]; exact hn x (List.mem_cons_self ..)⟩
    · exact LRL.at_ h.2 (fun r hr => hn r (List.mem_cons_of_mem _ hr)) p hp
end
end VL
namespace VL
open PySem PySem.Spec PyProof.Rows L2
/-! ### sorted names, each once -/
def okN (names : List Str) : Prop := ∀ w ∈ names, PyData.strOk w = true
theorem rising_of : ∀ {l : List Str} {p : Str}, (p :: l).Pairwise LeS → risingS p l = true
  | [], _, _ => rfl
  | x :: r, p, h => by
    obtain ⟨h1, h2⟩ := List.pairwise_cons.mp h
    show (!ltCps x.cps.toList p.cps.toList && risingS x r) = true
    rw [Bool.and_eq_true, Bool.not_eq_true']
    exact ⟨h1 x List.mem_cons_self, rising_of h2⟩
theorem sorted_of : ∀ {l : List Str}, l.Pairwise LeS → sortedS l = true
  | [], _ => rfl
  | _ :: _, h => rising_of h
structure Srt (o : List Str) : Prop where
  nd : o.Nodup
  so : sortedS o = true
theorem Srt.uniq {a b : List Str} (ha : Srt a) (hb : Srt b) (h : ∀ x, x ∈ a ↔ x ∈ b) : a = b := sortedS_one ha.so hb.so ((List.perm_ext_iff_of_nodup ha.nd hb.nd).mpr (fun x => h x))
theorem Srt.filter {a : List Str} (ha : Srt a) (p : Str → Bool) : Srt (a.filter p) := ⟨List.Pairwise.filter p ha.nd, sorted_of (List.Pairwise.filter p (sorted_pw ha.so))⟩
/-! ### data that are drawn -/
/-- plain data, or an empty dict -/
def OkD (d : PyData) : Prop := (d.canLay0 = true ∧ d.depth ≤ 50) ∨ d = .dict []
theorem OkD.dep {d : PyData} (h : OkD d) : d.depth ≤ 50 := by
  rcases h with h | rfl
  · exact h.2
  · simp [PyData.depth, PyData.depthKv]
theorem OkD.sh {ds : List PyData} (h : OkD (.tuple ds)) : SeqAt.shaped (.tuple ds) = true := by
  rcases h with h | h
  · unfold SeqAt.shaped
    rw [Bool.and_eq_true]
    exact ⟨h.1, decide_eq_true (by have := h.2; omega)⟩
  · cases h
/-! ### seeking -/
theorem raise_i {α : Type} {x : Exc} {Φ : α → Nat → Prop} {Ψ : Exc → Nat → Prop} {n : Nat} (k : Ψ x n) : M.raise x Φ Ψ n := k
end VL
namespace L2
open PySem PySem.Spec PyProof.Rows
section
variable {X : Cx} {CX : CXT} {k : Nat} {f C : Addr} {fd : FuncData} {ps : List Str} {sp : Sp} {x : Str} {p pos : Pos} {e : Expr} {es : List Expr} {t : TA}
/-! ### C(..), what its __init__ raises goes on -/
def tMakeS (C : Addr) (sp : Sp) (E : L2.St → XK) (t : TA) : TE := fun σ H Q => tMake C sp [] (E σ) t σ H Q
theorem run_makeT {pins : List (Addr × Obj)} {σ : L2.St} {H : Hp} {s : Shared} {Q : VK} {E : XK} {us ds : List Value} {vs dvs : List V} (M : Mk X.K C f) (F : FnOk X.prog X.w X.K X.mg X.base CX k f fd ps sp) (hr : Room (k + 1) X.A) (hb : Binds X.K fd ps ds) (hd : Vals dvs ds) (hx : PassesAt CX X σ E) (I : Inv X pins σ H s) (r : Vals vs us)
    (h : ∀ x dx, H x = none → H dx = none → dx ≠ x → sp (.ref x :: (vs ++ dvs)) (upd (upd H dx (.own x)) x (.ins C dx [])) (fun v H2 => v = .non ∧ Q (.ref x) H2) E) : wpAny (model X.prog X.w) X.A (call (.ref C) us) (EP X pins σ Q) X.xe s := by
  have q := h (s.heap.objs.size + 1) s.heap.objs.size (I.hok.fresh (Nat.le_succ _)) (I.hok.fresh (Nat.le_refl _)) (Nat.ne_of_lt (Nat.lt_succ_self _))
  have J := Inv.made (C := C) I
  have rr : Vals (V.ref (s.heap.objs.size + 1) :: (vs ++ dvs)) (Value.ref (s.heap.objs.size + 1) :: (us ++ ds)) := .cons rfl (r.append hd)
  have ln : (Value.ref (s.heap.objs.size + 1) :: us ++ ds).length = ps.length := rr.length.symm.trans (F.len _ _ _ _ q)
  refine wpAny_call (make_map (f := f) I.kIn M.makes M.init (beq_iff_eq.mp M.fn) (codeAny_mono (F.run _ X.stack _ _ ⟨Value.ref (s.heap.objs.size + 1) :: us, []⟩ (Value.ref (s.heap.objs.size + 1) :: (us ++ ds)) _ _ E (hr.make C us []) (J.env0.make C us []) (hb _ (Value.ref (s.heap.objs.size + 1) :: us) J.kIn ln) rr q) fun z s' hz => ?_))
  cases z with
  | error e => exact hx pins _ _ e s' J hz
  | ok fl =>
    cases fl with
    | ret u =>
      obtain ⟨v, H', J', rv, rfl, q3⟩ := J.after hz
      exact ⟨rv, .ref (s.heap.objs.size + 1), H', J', rfl, q3⟩
    | next | brk | cont => exact False.elim hz
theorem pe_makeS {E : L2.St → XK} (M : Mk X.K C f) (F : FnOk X.prog X.w X.K X.mg X.base CX k f fd ps sp) (hr : Room (k + 1) X.A) (hg : Gl X x) (hm : X.mg x = some (.ref C)) (hb : Binds X.K fd ps []) (hx : ∀ σ, PassesAt CX X σ (E σ)) (ha : PA X (e :: es) t)
    (hdb : (x == ("__debug__" : Str)) = false := by decide) (he : starEach (e :: es) X.env = (false, eval e X.env) :: starEach es X.env := by rfl) (hpl : (backTo pos (starEach es X.env)).any (·.1) = false := by rfl) :
    PE X (.Call (.Name x p) (e :: es) [] pos) (tMakeS C sp E t) := by
  constructor
  intro pins s σ H Q I h
  refine wpAny_Call_Name_kw (ld_glob I hg hm ?_ hdb)
  exact PySem.W.callWith_K (h₀ := X.base) I.ok.mod.kin M.kp (thn (ha.run pos pins s σ H _ I h) fun us s1 ⟨vs, H1, J, r, q⟩ => ⟨J.kIn, run_makeT M F hr hb .nil (hx σ) J r q⟩) he hpl
end
/-! ### names of a comprehension, taken out of a tuple -/
/-! ### not in, of data -/
end L2
namespace VL
open PySem PySem.Spec PyProof.Rows L2
theorem ixB_ok {K : PySem.W.Frag} {C g : Addr} (m : Meth K C "__getitem__" g) (h : PySem.W.fnIn K g = true) : IxF K C g := ⟨m.at_, h, m.fn⟩
section
variable {C : Cfg} {α β γ : Type} {ps : List SL} {Cl : Addr} {te ta : TE}
theorem ve_makeR {Rs : α → List VP} {F : α → M β} {c : β → CP} {m : M α} {t : TA} (ha : VA C t ps m Rs) : VE C (tMakeS Cl (spI C.mg C.K C.TB Cl Rs F c) (fun σ => C.Ew σ) t) ps (M.bind m fun a => F a) (Ow c) := by
  intro σ G W H n Q Φ Ψ e st hm k x
  refine ha σ G W H n _ (fun a n' => F a Φ Ψ n') Ψ e st hm (fun a n1 vs G1 W1 H1 hm1 s1 t1 r1 => ?_) x
  have st1 := st.stp s1 t1
  intro y dx hy hdx hne
  rw [List.append_nil]
  have hW : W1 y = none := st1.wfree hy
  have sH : Same H1 (upd (upd H1 dx (.own y)) y (.ins Cl dx [])) := fun q o h => by
    rw [upd_ne (ne_of_none h hy), upd_ne (ne_of_none h hdx)]; exact h
  have t2 : C.Θ.T n1 (upd W1 y (.ins Cl dx [])) (upd (upd H1 dx (.own y)) y (.ins Cl dx [])) :=
    C.Θ.ext st1.t sH (same_upd hW) fun q o h => by
      by_cases z : q = y
      · subst z; rw [upd_same] at h ⊢; exact .inr ⟨hy, h, by cases h; exact ⟨(fun _ h => nomatch h), (fun _ h => nomatch h)⟩⟩
      · rw [upd_ne z] at h; exact .inl h
  refine ⟨C.Θ, a, y, dx, vs, G1, W1, n1, Φ, Ψ, rfl, r1, st1.gw, hW, t2, hm1, fun b n2 v G2 W2 H2 hΦ s2 t3 r2 f2 => ?_, fun w n2 cls d G2 W2 H2 hΨ q s2 t3 => x w n2 cls d G2 W2 H2 hΨ q (s1.trans s2) t3⟩
  rintro rfl
  exact ⟨rfl, (k.stp s1) b n2 _ G2 W2 H2 hΦ s2 t3 (res_call st1.bw r2 fun p h => nomatch h) f2⟩
/-! ### three values -/
/-! ### data: a tuple of tuples of texts -/
def M.datTT (d : PyData) : M (List (List Str)) := fun Φ _ n => ∃ xss : List (List Str), d = .tuple (xss.map fun xs => PyData.tuple (xs.map PyData.str)) ∧ Φ xss n
end
@[irreducible] def Mi.datTT (d : PyData) : M (List (List Str)) := M.datTT d
/-! ### isinstance of an own class -/
end VL
namespace VL
open PySem PySem.Spec PyProof.Rows L2
section
variable {C : Cfg} {α β γ δ ρ : Type} {Rr : ρ → SL} {ps : List SL} {te ta tb : TE} {tt : TT} {t u : TS}
/-! ### what is never reached, whatever it is -/
/-! ### what is there, of what may be None -/
def M.get {α : Type} (o : Option α) : M α := fun Φ _ n => ∃ a, o = some a ∧ Φ a n
@[irreducible] def Mi.get {α : Type} (o : Option α) : M α := M.get o
/-! ### a tuple of two -/
def M.pr {α : Type} (xs : List α) : M (α × α) := fun Φ _ n => ∃ a b, xs = [a, b] ∧ Φ (a, b) n
@[irreducible] def Mi.pr {α : Type} (xs : List α) : M (α × α) := M.pr xs
end
end VL
namespace L2
open PySem PySem.Spec PySem.Calls PyProof.Rows
end L2
namespace VL
open PySem PySem.Spec PyProof.Rows L2
end VL
namespace VL
open PySem PySem.Spec PyProof.Rows L2
section
variable {C : Cfg} {α β γ δ ρ : Type} {Rr : ρ → SL} {ps : List SL} {te ta tb tk tv : TE} {tt : TT} {t u : TS}
/-! ### dicts by text: how many keys, the keys sorted, a copy -/
theorem vn_lenD {R : α → VP} : Vn C (fun xs H Q => ∃ a kvs, xs = [V.ref a] ∧ H a = some (.dK kvs) ∧ Q (.int kvs.length) H) (fun q : List (Str × α) × Unit => [rDct R q.1]) (fun q => M.pure (q.1.length : Int)) (Fz rInt) := by
  rintro q vs σ G W H n Q Φ Ψ (_ | ⟨⟨p, ks, rfl, h1, h2⟩, _ | _⟩) st hm k x
  exact ⟨p, ks, rfl, st.gh _ _ h1, by rw [h2.len]; exact k.hereF (a := (q.1.length : Int)) st hm rfl⟩
theorem repsD.keys {R : α → VP} {G : Hp} : ∀ {d : List (Str × α)} {ks : List (Key × V)}, repsD R d ks G → ks.map (·.1) = (d.map (·.1)).map Sum.inr
  | [], [], _ => rfl
  | (_, _) :: _, (_, _) :: _, h => by rw [List.map_cons, List.map_cons, List.map_cons, repsD.keys h.2.2, h.1]
theorem vn_sortedD {R : α → VP} : Vn C (fun xs H Q => ∃ (a : Addr) (kvs : List (Key × V)) (ks : List Str), xs = [.ref a] ∧ Rd H a (.dK kvs) ∧ kvs.map (·.1) = ks.map Sum.inr ∧ ks.length < 64 ∧
    ∀ ys p, ys.Perm ks → sortedS ys = true → H p = none → Q (.ref p) (upd H p (.lst (ys.map V.str)))) (fun q : List (Str × α) × Unit => [rDct R q.1]) (fun q => M.sortS (q.1.map (·.1))) (Ow (cLst rStr)) := by
  rintro q vs σ G W H n Q Φ Ψ (_ | ⟨⟨p, ks, rfl, h1, h2⟩, _ | _⟩) st hm k x
  refine ⟨p, ks, q.1.map (·.1), rfl, .inl (st.gh _ _ h1), h2.keys, hm.1, fun ns r hp hs hr => k.newO (a := ns) st (hm.2 ns hp hs) hr ⟨_, rfl, reps.of_strs ns⟩⟩
theorem vn_dictD {R : α → VP} : Vn C (fun xs H Q => ∃ (a : Addr) (kvs : List (Key × V)), xs = [.ref a] ∧ Rd H a (.dK kvs) ∧ ∀ p, H p = none → Q (.ref p) (upd H p (.dK kvs))) (fun q : List (Str × α) × Unit => [rDct R q.1]) (fun q => M.pure q.1) (Ow (cDct R)) := by
  rintro q vs σ G W H n Q Φ Ψ (_ | ⟨⟨p, ks, rfl, h1, h2⟩, _ | _⟩) st hm k x
  exact ⟨p, ks, rfl, .inl (st.gh _ _ h1), fun r hr => k.newO (a := q.1) st hm hr ⟨_, rfl, h2⟩⟩
/-! ### {k: v for x in ..} -/
def M.dcompA {β γ : Type} (f : β → M (Str × γ)) : List (Str × γ) → List β → M (List (Str × γ))
  | acc, [] => M.pure acc
  | acc, x :: r => M.bind (f x) fun q => M.dcompA f (putD acc q.1 q.2) r
def M.dcomp {β γ : Type} (xs : List β) (f : β → M (Str × γ)) : M (List (Str × γ)) := fun Q _ n => xs.length ≤ 1000 ∧ M.dcompA f [] xs Q (fun _ _ => False) n
@[irreducible] def Mi.dcomp {β γ : Type} (xs : List β) (f : β → M (Str × γ)) : M (List (Str × γ)) := M.dcomp xs f
theorem putD_le {d : List (Str × α)} {k : Str} {a : α} : (putD d k a).length ≤ d.length + 1 := by
  unfold putD
  split
  · rw [List.length_map]; omega
  · rw [List.length_append]; exact Nat.le_refl _
theorem ve_dc {wi : TI} {g : TG} {vs js : List Nat} {mi : M (List β)} {Rb : β → VP} {ψ : β → List SL} {mk : β → M Str} {me : β → M γ} {R : γ → VP} (hi : VI C wi ps mi Rb) (hv : ∀ k ∈ vs, ps[k]? = some .un) (hg : VG C g Rb ps ψ js) (hj : ∀ j ∈ js, j ∈ vs)
    (hk : ∀ b, VE C tk (ψ b) (mk b) (Fz rStr)) (he : ∀ b, VE C tv (ψ b) (me b) (Fz R)) :
    VE C (tDc wi g tYes tk tv vs) ps (M.bind mi fun xs => M.dcomp xs fun b => M.bind (mk b) fun x => M.bind (me b) fun y => M.pure (x, y)) (Ow (cDct R)) := by
  intro σ G W H n Q Φ Ψ e st hm k x
  refine hi σ G W H n _ (fun xs n' => M.dcomp xs (fun b => M.bind (mk b) fun x => M.bind (me b) fun y => M.pure (x, y)) Φ Ψ n') Ψ e st hm ?_ x
  rintro xs n1 J G1 W1 H1 ⟨hlen, hc⟩ s1 t1 wk D hD
  have st1 := st.stp s1 t1
  have hW1 := st1.wfree hD
  let f : β → M (Str × γ) := fun b => M.bind (mk b) fun x => M.bind (me b) fun y => M.pure (x, y)
  let I : Nat → Hp → Prop := fun i H => i ≤ xs.length ∧ ∃ G' W' n acc us, Stp G1 W1 G' W' ∧ Stt C n G' W' H ∧ W' D = some (.dK us) ∧ G' D = none ∧ repsD R acc us G' ∧ acc.length ≤ i ∧ M.dcompA f acc (xs.drop i) Φ (fun _ _ => False) n
  refine ⟨fun i m H => m = xs.length - i ∧ I i H, ⟨xs.length, by simp, Nat.zero_le _, G1, upd W1 D (.dK []), n1, [], [], Stp.newO st1 hD, st1.stp (Stp.newO st1 hD) (st1.newT hD), upd_same, st1.gfree hD, trivial, Nat.zero_le _, hc⟩, ?_⟩
  rintro i m H2 ⟨rfl, hi2, G2, W2, n2, acc, us, s2, st2, hD2, hG2, hr, hal, hm2⟩
  by_cases hlt : i < xs.length
  · refine .inr ⟨wk.goes i n2 G2 W2 H2 hlt st2 s2.g, I (i + 1), fun H' p => ⟨xs.length - (i + 1), by omega, rfl, p⟩, fun v H' y => ?_⟩
    obtain ⟨b, G3, W3, hb, s3, t3, r3⟩ := wk.yields i n2 G2 W2 H2 v H' hlt st2 s2.g y
    have st3 := st2.stp s3 t3
    have hdrop : xs.drop i = b :: xs.drop (i + 1) := by
      obtain ⟨h1, h2⟩ := List.getElem?_eq_some_iff.mp hb
      rw [← h2]; exact List.drop_eq_getElem_cons h1
    rw [hdrop] at hm2
    have e3 : Ee C.B ps (wipe σ vs) G3 W3 := ((e.stp (s1.trans (s2.trans s3)))).wipe hv
    refine hg b v (wipe σ vs) G3 W3 H' n2 _ e3 st3 r3 fun σ' e4 hw => ?_
    have hww : wipe σ' vs = wipe σ vs := by rw [hw vs hj]; exact wipe_idem
    refine ⟨hww, ?_⟩
    unfold tYes
    simp only [if_true]
    have none_of : ∀ {Ga Wa Gb Wb : Hp} {us : List (Key × V)}, Ga D = none → Wa D = some (.dK us) → Stp Ga Wa Gb Wb → Gb D = none := fun {Ga Wa Gb Wb us} h1 h2 s => by
      exact stp_no s h1 h2
    have hD3 := s3.w _ _ hD2
    have hG3 := none_of hG2 hD2 s3
    refine hk b σ' G3 W3 H' n2 _ (fun x n' => M.bind (me b) (fun y => M.pure (x, y)) (fun q n' => M.dcompA f (putD acc q.1 q.2) (xs.drop (i + 1)) Φ (fun _ _ => False) n') (fun _ _ => False) n') (fun _ _ => False) e4 st3 hm2 (fun kx n4 z G4 W4 H4 hm4 s4 t4 r4 _ => ?_) xt_no
    have st4 := st3.stp s4 t4
    have hD4 := s4.w _ _ hD3
    have hG4 := none_of hG3 hD3 s4
    refine he b σ' G4 W4 H4 n4 _ (fun y n' => M.dcompA f (putD acc kx y) (xs.drop (i + 1)) Φ (fun _ _ => False) n') (fun _ _ => False) (e4.stp s4) st4 hm4 (fun y n5 u G5 W5 H5 hm5 s5 t5 r5 _ => ?_) xt_no
    have st5 := st4.stp s5 t5
    have hD5 := s5.w _ _ hD4
    have hG5 := none_of hG4 hD4 s5
    have hr5 := hr.up (s3.trans (s4.trans s5)).g
    have r4 : z = .str kx := r4
    refine ⟨us, .inr kx, r4, st5.wh _ _ hD5, small1000 (by rw [hr.len]; omega), by omega, G5, upd W5 D (.dK (putK us (.inr kx) u)), n5, putD acc kx y, putK us (.inr kx) u, (s2.trans (s3.trans (s4.trans s5))).put hW1 hG5, st5.put hD5 hG5 ?_, upd_same, hG5, hr5.put r5, Nat.le_trans putD_le (by omega), hm5⟩
    exact st1.bw.free hW1
  · have hi3 : i = xs.length := by omega
    subst hi3
    rw [List.drop_length] at hm2
    exact .inl ⟨wk.stops n2 G2 W2 H2 st2 s2.g, k acc n2 _ G2 W2 H2 hm2 (s1.trans s2) st2.t ⟨D, _, rfl, hD2, hG2, st1.bw.free hW1, us, rfl, hr⟩ fun q eq => by cases eq; exact s1.w.free hW1⟩
/-! ### except X: .. -/
/-! ### instances are not None -/
end
end VL
namespace L2
open PySem PySem.Spec PyProof.Rows
end L2
namespace VL
open PySem PySem.Spec PyProof.Rows L2
theorem op_eqDK {X : Cx} {K : PySem.W.Frag} (hk : X.K = K) (hu : X.A.units + 64 < cLine) : OpR X (compareOp .Eq) (rEqD K) := by subst hk; exact op_eqD hu
theorem op_neDK {X : Cx} {K : PySem.W.Frag} (hk : X.K = K) (hu : X.A.units + 64 < cLine) : OpR X (compareOp .NotEq) (rNeD K) := by subst hk; exact op_neD hu
end VL
namespace VL
open PySem PySem.Spec PyProof.Rows L2
/-! ### a list of two new dicts, changed in place, then let go -/
def keysI (e : List (Str × Int)) : List Str := e.map Prod.fst
theorem set_id {α : Type} {xs : List α} {i : Nat} {x : α} (h : xs[i]? = some x) : xs.set i x = xs := by
  apply List.ext_getElem?
  intro j
  by_cases e : i = j
  · subst e
    rw [List.getElem?_set_self (List.getElem?_eq_some_iff.mp h).1, h]
  · rw [List.getElem?_set_ne e]
theorem repsD_at {R : Int → VP} {G : Hp} : ∀ {d : List (Str × Int)} {ks : List (Key × V)} {i : Nat} {k : Key} {v : V}, repsD R d ks G → ks[i]? = some (k, v) → ∃ z a, d[i]? = some (z, a) ∧ k = .inr z
  | [], [], _, _, _, _, h => by simp at h
  | (z, a) :: d, (kk, w) :: ks, 0, k, v, h, e => by
    cases e
    exact ⟨z, a, rfl, h.1⟩
  | (z, a) :: d, (kk, w) :: ks, i + 1, k, v, h, e => repsD_at (d := d) (ks := ks) (i := i) h.2.2 e
end VL
namespace VL
open PySem PySem.Spec PyProof.Rows L2
end VL
namespace VL
open PySem PySem.Spec PyProof.Rows L2
/-! ### a list of new lists of names, changed in place, then let go -/
/-- what is at p and below it: new since the heap W, not yet frozen in G' -/
structure Limbo (B W G' W' : Hp) (p : Addr) (bs : List Addr) (gs : List (List Str)) : Prop where
  wp : W' p = some (.lst (bs.map V.ref))
  gp : G' p = none
  fp : W p = none
  bp : B p = none
  len : bs.length = gs.length
  nd : bs.Nodup
  np : ¬ p ∈ bs
  at_ : ∀ (i : Nat) (b : Addr) (g : List Str), bs[i]? = some b → gs[i]? = some g → W' b = some (.lst (g.map V.str))
  off : ∀ b ∈ bs, G' b = none ∧ W b = none ∧ B b = none
theorem Limbo.stp {B W G1 W1 G2 W2 : Hp} {p : Addr} {bs : List Addr} {gs : List (List Str)} (l : Limbo B W G1 W1 p bs gs) (s : Stp G1 W1 G2 W2) : Limbo B W G2 W2 p bs gs :=
  ⟨s.w _ _ l.wp, stp_no s l.gp l.wp, l.fp, l.bp, l.len, l.nd, l.np, fun i b g h1 h2 => s.w _ _ (l.at_ i b g h1 h2), fun b hb => by
    obtain ⟨h1, h2, h3⟩ := l.off b hb
    obtain ⟨i, hi, e⟩ := List.mem_iff_getElem.mp hb
    have hg : i < gs.length := by rw [← l.len]; exact hi
    exact ⟨stp_no s h1 (l.at_ i b gs[i] (by rw [List.getElem?_eq_getElem hi, e]) (List.getElem?_eq_getElem hg)), h2, h3⟩⟩
/-- one more list below -/
theorem Limbo.more {C : Cfg} {n : Nat} {W G1 W1 H1 : Hp} {p b : Addr} {bs : List Addr} {gs : List (List Str)} (st : Stt C n G1 W1 H1) (ww : Same W W1) (l : Limbo C.B W G1 W1 p bs gs) (hb : H1 b = none) :
    Limbo C.B W G1 (upd (upd W1 b (.lst [])) p (.lst ((bs ++ [b]).map V.ref))) p (bs ++ [b]) (gs ++ [[]]) := by
  have wb : W1 b = none := st.wfree hb
  have nbp : b ≠ p := by rintro rfl; rw [l.wp] at wb; cases wb
  have nb : ¬ b ∈ bs := fun h => by
    obtain ⟨i, hi, e⟩ := List.mem_iff_getElem.mp h
    have hg : i < gs.length := by rw [← l.len]; exact hi
    have := l.at_ i b gs[i] (by rw [List.getElem?_eq_getElem hi, e]) (List.getElem?_eq_getElem hg)
    rw [wb] at this; cases this
  refine ⟨upd_same, l.gp, l.fp, l.bp, by simp [l.len], ?_, ?_, fun i c g h1 h2 => ?_, fun c hc => ?_⟩
  · refine List.nodup_append.mpr ⟨l.nd, by simp, fun x hx y hy e => ?_⟩
    rw [List.mem_singleton] at hy
    subst hy; subst e
    exact nb hx
  · intro h
    rcases List.mem_append.mp h with z | z
    · exact l.np z
    · exact nbp (List.mem_singleton.mp z).symm
  · by_cases hi : i < bs.length
    · rw [List.getElem?_append_left hi] at h1
      rw [List.getElem?_append_left (by rw [← l.len]; exact hi)] at h2
      have hc := List.mem_of_getElem? h1
      rw [upd_ne (fun e : c = p => l.np (by rw [← e]; exact hc)), upd_ne (fun e : c = b => nb (by rw [← e]; exact hc))]
      exact l.at_ i c g h1 h2
    · have hi2 : i = bs.length := by
        have := (List.getElem?_eq_some_iff.mp h1).1
        rw [List.length_append, List.length_singleton] at this
        omega
      subst hi2
      rw [List.getElem?_append_right (Nat.le_refl _), Nat.sub_self] at h1
      rw [List.getElem?_append_right (by rw [l.len]; exact Nat.le_refl _), l.len, Nat.sub_self] at h2
      cases h1
      cases h2
      rw [upd_ne nbp, upd_same]
      rfl
  · rcases List.mem_append.mp hc with z | z
    · exact l.off c z
    · rw [List.mem_singleton] at z
      subst z
      exact ⟨st.gw.free wb, ww.free wb, st.bw.free wb⟩
theorem Limbo.start {C : Cfg} {n : Nat} {W G1 W1 H1 : Hp} {p : Addr} (st : Stt C n G1 W1 H1) (ww : Same W W1) (hp : H1 p = none) : Limbo C.B W G1 (upd W1 p (.lst [])) p [] [] :=
  ⟨upd_same, st.gfree hp, ww.free (st.wfree hp), st.bw.free (st.wfree hp), rfl, List.nodup_nil, by simp, fun _ _ _ h => by simp at h, fun _ h => by simp at h⟩
/-- what is in limbo, frozen -/
noncomputable def frzL (G' W' : Hp) (p : Addr) (bs : List Addr) : Hp := fun q => if q = p ∨ q ∈ bs then W' q else G' q
section
variable {C : Cfg} {ps : List SL} {B W G G' W' : Hp} {p : Addr} {bs : List Addr} {gs : List (List Str)}
theorem Limbo.none (l : Limbo B W G' W' p bs gs) {q : Addr} (h : q = p ∨ q ∈ bs) : G' q = none ∧ W q = none ∧ B q = none := by
  rcases h with rfl | h
  · exact ⟨l.gp, l.fp, l.bp⟩
  · exact l.off q h
theorem Limbo.same (l : Limbo B W G' W' p bs gs) : Same G' (frzL G' W' p bs) := fun q o h => by
  unfold frzL
  rw [if_neg fun z => by rw [(l.none z).1] at h; cases h]
  exact h
theorem Limbo.frz {n : Nat} {H : Hp} (l : Limbo C.B W G' W' p bs gs) (st : Stt C n G' W' H) : Stt C n (frzL G' W' p bs) W' H :=
  ⟨st.t, fun q o h => by
    unfold frzL at h
    split at h
    · exact h
    · exact st.gw q o h, st.bw, st.g0.trans l.same, fun q o h => by
    unfold frzL at h
    split at h
    · rename_i z; exact .inr (.inl (l.none z).2.2)
    · exact st.gb q o h⟩
end
end VL
namespace VL
open PySem PySem.Spec PyProof.Rows L2
/-! ### a, b, c, d = a list of four -/
def M.four {α : Type} (xs : List α) : M (α × α × α × α) := fun Φ _ n => ∃ a b c d, xs = [a, b, c, d] ∧ Φ (a, b, c, d) n
@[irreducible] def Mi.four {α : Type} (xs : List α) : M (α × α × α × α) := M.four xs
end VL
namespace L2
open PySem PySem.Spec PyProof.Rows
/-! ### exceptions of an own class that has no own __init__ -/
end L2
namespace VL
open PySem PySem.Spec PyProof.Rows L2
end VL
namespace VL
open PySem PySem.Spec PyProof.Rows L2
end VL
namespace VL
open PySem PySem.Spec PyProof.Rows L2
section
variable {C : Cfg} {α β γ δ ρ : Type} {ps : List SL} {te ta tb tc : TE} {tt : TT} {t u : TS}
/-! ### data: an item of a tuple, a text, a list -/
def M.datAt (d : PyData) (i : Int) : M PyData := fun Φ _ n => ∃ ds e, d = .tuple ds ∧ atI ds i = some e ∧ Φ e n
@[irreducible] def Mi.datAt (d : PyData) (i : Int) : M PyData := M.datAt d i
def M.datStr (d : PyData) : M Str := fun Φ _ n => ∃ z, d = .str z ∧ Φ z n
@[irreducible] def Mi.datStr (d : PyData) : M Str := M.datStr d
theorem datStr_i {z : Str} {Φ : Str → Nat → Prop} {Ψ : Exc → Nat → Prop} {n : Nat} (k : Φ z n) : Mi.datStr (.str z) Φ Ψ n := by delta Mi.datStr; exact ⟨z, rfl, k⟩
theorem ve_datStr {m : M PyData} (h : VE C te ps m (Fz rDat)) : VE C te ps (M.bind m fun d => M.datStr d) (Fz rStr) := by
  intro σ G W H n Q Φ Ψ e st hm k x
  refine h σ G W H n Q (fun d n' => M.datStr d Φ Ψ n') Ψ e st hm ?_ x
  rintro d n1 v G1 W1 H1 ⟨z, rfl, hΦ⟩ s1 t1 r1 _
  refine k z n1 v G1 W1 H1 hΦ s1 t1 ?_ trivial
  have r1 : Dq G1 v (.str z) := r1
  cases r1
  exact rfl
def M.datInt (d : PyData) : M Int := fun Φ _ n => ∃ z, d = .int z ∧ Φ z n
@[irreducible] def Mi.datInt (d : PyData) : M Int := M.datInt d
theorem datInt_i {z : Int} {Φ : Int → Nat → Prop} {Ψ : Exc → Nat → Prop} {n : Nat} (k : Φ z n) : Mi.datInt (.int z) Φ Ψ n := by delta Mi.datInt; exact ⟨z, rfl, k⟩
theorem ve_datInt {m : M PyData} (h : VE C te ps m (Fz rDat)) : VE C te ps (M.bind m fun d => M.datInt d) (Fz rInt) := by
  intro σ G W H n Q Φ Ψ e st hm k x
  refine h σ G W H n Q (fun d n' => M.datInt d Φ Ψ n') Ψ e st hm ?_ x
  rintro d n1 v G1 W1 H1 ⟨z, rfl, hΦ⟩ s1 t1 r1 _
  refine k z n1 v G1 W1 H1 hΦ s1 t1 ?_ trivial
  have r1 : Dq G1 v (.int z) := r1
  cases r1
  exact rfl
def M.datL (d : PyData) : M (List PyData) := fun Φ _ n => ∃ ds, d = .list ds ∧ Φ ds n
@[irreducible] def Mi.datL (d : PyData) : M (List PyData) := M.datL d
/-! ### new rows, one of them changed in its place -/
end
end VL
namespace VL
open PySem PySem.Spec PyProof.Rows L2
/-! ### values that look at no list: they outlive a lent one -/
class LF {α : Type} (R : α → VP) : Prop where
  lf : ∀ {a : α} {v : V} {G : Hp} {p : Addr} {us : List V}, G p = some (.lst us) → (R a).P v G → (R a).P v (del G p)
theorem del_keep {G : Hp} {p q : Addr} {us : List V} {o : HO} (hp : G p = some (.lst us)) (hq : G q = some o) (no : ∀ vs, o ≠ .lst vs) : del G p q = some o := by
  rw [del_ne]
  · exact hq
  · rintro rfl
    rw [hp] at hq
    exact no us (Option.some.inj hq).symm
instance : LF rInt := ⟨fun _ h => h⟩
instance : LF rBl := ⟨fun _ h => h⟩
instance : LF rStr := ⟨fun _ h => h⟩
instance : LF rNon := ⟨fun _ h => h⟩
theorem LF.reps {α : Type} {R : α → VP} [LF R] {G : Hp} {p : Addr} {us : List V} (hp : G p = some (.lst us)) : ∀ {xs : List α} {vs : List V}, VL.reps R xs vs G → VL.reps R xs vs (del G p)
  | [], [], _ => trivial
  | _ :: _, _ :: _, h => ⟨LF.lf hp h.1, LF.reps hp h.2⟩
instance {α : Type} {R : α → VP} [LF R] : LF (rTup R) := ⟨fun hp ⟨q, vs, h, h1, h2⟩ => ⟨q, vs, h, del_keep hp h1 (fun _ h => nomatch h), LF.reps hp h2⟩⟩
instance {α β : Type} {R : α → VP} {S : β → VP} [LF R] [LF S] : LF (rPr R S) := ⟨fun hp ⟨q, x, y, h, h1, h2, h3⟩ => ⟨q, x, y, h, del_keep hp h1 (fun _ h => nomatch h), LF.lf hp h2, LF.lf hp h3⟩⟩
instance {α : Type} {R : α → VP} [LF R] : LF (rOpt R) := ⟨fun {a v G p us} hp h => by
  cases a with
  | none => exact h
  | some a => exact LF.lf (R := R) hp h⟩
section
variable {C : Cfg} {α β γ : Type} {ps : List SL} {te : TE}
theorem lend_back {G W G' W' : Hp} {p : Addr} {o : HO} (gw : Same G W) (hg : G p = none) (hw : W p = some o) (s : Stp (upd G p o) W G' W') : Stp G W (del G' p) W' :=
  ⟨fun q x h => by
    have hq : q ≠ p := by rintro rfl; rw [hg] at h; cases h
    rw [del_ne hq]; exact s.g q x (by rw [upd_ne hq]; exact h), s.w, del_sub.trans s.gw, fun q x h => by
    have hq : q ≠ p := by rintro rfl; rw [del_at] at h; cases h
    rw [del_ne hq] at h
    rcases s.ng q x h with z | z
    · rw [upd_ne hq] at z; exact .inl z
    · exact .inr z⟩
end
end VL
namespace VL
open PySem PySem.Spec PyProof.Rows L2
/-! ### data that hold at most dicts of one flat value: equal to themselves -/
mutual
def okF : PyData → Bool
  | .none | .bool _ | .int _ | .str _ => true
  | .list xs | .tuple xs => okFs xs
  | .dict [] => true
  | .dict [(_, .int _)] => true
  | .dict _ => false
def okFs : List PyData → Bool
  | [] => true
  | x :: xs => okF x && okFs xs
end
section
variable {K : PySem.W.Frag} {H : Hp}
theorem dq_int {v : V} {i : Int} (h : Dq H v (.int i)) : v = .int i := by
  cases h
  rfl
theorem dq_dict {v : V} {l : List (PyData × PyData)} (h : Dq H v (.dict l)) : ∃ (a : Addr) (ks : List (Key × V)) (ds : List (Str × PyData)), v = .ref a ∧ H a = some (.dK ks) ∧ DqKv H ks ds ∧ l = ds.map fun p => (.str p.1, p.2) := by
  generalize e : PyData.dict l = d at h
  cases h with
  | @dict a ks ds h1 h2 =>
    injection e with e
    exact ⟨a, ks, ds, rfl, h1, h2, e⟩
  | _ => cases e
end
end VL
namespace L2
open PySem PySem.Spec PyProof.Rows
end L2
namespace VL
open PySem PySem.Spec PyProof.Rows L2
/-- a != b: of plain data, or of one list's data with itself -/
def M.neL (d e : PyData) : M Bool := fun Φ _ n => (SeqAt.shaped d = true ∧ SeqAt.shaped e = true ∧ Φ (!PyData.eqv d e) n) ∨ ∃ ds, d = .list ds ∧ e = .list ds ∧ okFs ds = true ∧ PyData.depthAll ds ≤ 60 ∧ Φ false n
@[irreducible] def Mi.neL (d e : PyData) : M Bool := M.neL d e
end VL
/-! own ~x, x | y, x & y: one class's instances -/
namespace L2
open PySem PySem.Spec PyProof.Rows
end L2
namespace VL
open PySem PySem.Spec PyProof.Rows L2
end VL
/-! ### a dict held locked over a whole statement: walks of it with calls inside -/
namespace VL
open PySem PySem.Spec PyProof.Rows L2
/-- the locked dict, as a borrowed value: it lies in the base -/
def rLk (d : Addr) (e : List (Str × Int)) : VP := ⟨fun v B => v = .ref d ∧ ∃ od ks, B d = some (.frz od (.dK ks)) ∧ repsD rInt e ks B, fun s ⟨h, od, ks, h1, h2⟩ => ⟨h, od, ks, s _ _ h1, h2.up s⟩⟩
/-- what holds of a value does not hang on a dict -/
class LD (p : VP) : Prop where
  ld : ∀ {v : V} {G : Hp} {d : Addr} {ks : List (Key × V)}, G d = some (.dK ks) → p.P v G → p.P v (del G d)
class LDC (c : CP) : Prop where
  ld : ∀ {o : HO} {G : Hp} {d : Addr} {ks : List (Key × V)}, G d = some (.dK ks) → c.P o G → c.P o (del G d)
/-- a slot that does not hang on a dict, nor on the base -/
class NoD (s : SL) : Prop where
  fr : ∀ p, s = .fr p → LD p
  ow : ∀ c, s = .ow c → LDC c
  bo : ∀ p, s ≠ .bo p
instance : NoD .un := ⟨(fun _ h => nomatch h), (fun _ h => nomatch h), (fun _ h => nomatch h)⟩
instance {p : VP} [h : LD p] : NoD (.fr p) := ⟨(fun q e => by cases e; exact h), (fun _ h => nomatch h), (fun _ h => nomatch h)⟩
instance {c : CP} [h : LDC c] : NoD (.ow c) := ⟨(fun _ h => nomatch h), (fun q e => by cases e; exact h), (fun _ h => nomatch h)⟩
theorem rInt_any {e : List (Str × Int)} {ks : List (Key × V)} {G G' : Hp} : repsD rInt e ks G → repsD rInt e ks G' := by
  revert ks
  induction e with
  | nil => intro ks h; cases ks <;> exact h
  | cons q e ih =>
    intro ks h
    cases ks with
    | nil => exact h
    | cons k ks => exact ⟨h.1, h.2.1, ih h.2.2⟩
section
variable {C : Cfg} {ps : List SL}
/-- for name in the locked dict -/
theorem vi_keysLk {i : Nat} {d : Addr} {e : List (Str × Int)} (hi : ps[i]? = some (.bo (rLk d e))) : VI C (iKeys (tVar i)) ps (M.pure (keysI e)) rStr := by
  intro σ G W H n Q Φ Ψ E st hm k x
  obtain ⟨v, hσ, hv⟩ := E.at_ hi (by simp)
  obtain ⟨rfl, od, ks, hb, hre⟩ := hv
  have g : ∀ {n G W H}, Stt C n G W H → H d = some (.frz od (.dK ks)) := fun q => q.wh _ _ (q.bw _ _ hb)
  have hlen : ks.length = (keysI e).length := by unfold keysI; rw [List.length_map]; exact hre.len
  refine ⟨.ref d, hσ, d, od, rfl, .inl ⟨ks, g st, k _ n _ G W H hm (Stp.refl st.gw) st.t ⟨fun i n G W H hi q e => ?_, fun n G W H q e => ?_, fun i n G W H v H' hi q e' y => ?_⟩⟩⟩
  · exact ⟨g q, by rw [hlen]; exact hi⟩
  · exact ⟨g q, by rw [hlen]; exact Nat.le_refl _⟩
  · obtain ⟨rfl, kk, v', hk, rfl⟩ := y
    obtain ⟨z, a, hz, rfl⟩ := repsD_at hre hk
    refine ⟨z, G, W, ?_, Stp.refl q.gw, q.t, rfl⟩
    unfold keysI
    rw [List.getElem?_map, hz]
    rfl
/-- d[x] of the locked dict -/
theorem ve_dgetLk {i : Nat} {d : Addr} {e : List (Str × Int)} {mk : M Str} {ta : TE} (hi : ps[i]? = some (.bo (rLk d e))) (hk : VE C ta ps mk (Fz rStr)) : VE C (tDGet (tVar i) ta) ps (M.bind mk fun k => M.dget e k) (Fz rInt) := by
  intro σ G W H n Q Φ Ψ E st hm k x
  obtain ⟨v, hσ, hv⟩ := E.at_ hi (by simp)
  obtain ⟨rfl, od, ks, hb, hre⟩ := hv
  refine ⟨.ref d, hσ, ?_⟩
  refine hk σ G W H n _ (fun z n' => M.dget e z Φ Ψ n') Ψ E st hm ?_ x
  rintro z n2 u G2 W2 H2 ⟨a, ha, hm2⟩ s2 t2 r2 _
  have r2 : u = .str z := r2
  subst r2
  have st2 := st.stp s2 t2
  have hd : H2 d = some (.frz od (.dK ks)) := st2.wh _ _ (st2.bw _ _ hb)
  have := hre.get (k := z)
  rw [ha] at this
  obtain ⟨w, hw, hwr⟩ := this
  have hwr : w = .int a := hwr
  subst hwr
  exact ⟨d, .int a, rfl, .inl ⟨ks, .inr z, .inr ⟨od, hd⟩, rfl, hw.symm⟩, (k.stp s2).hereF (a := a) st2 hm2 rfl⟩
end
/-! what looks at no dict -/
theorem keepD {G : Hp} {d q : Addr} {ks : List (Key × V)} {o : HO} (hd : G d = some (.dK ks)) (hq : G q = some o) (no : ∀ k, o ≠ .dK k) : del G d q = some o := by
  rw [del_ne]
  · exact hq
  · rintro rfl
    rw [hd] at hq
    exact no ks (Option.some.inj hq).symm
class LDF {α : Type} (R : α → VP) : Prop where
  ld : ∀ a, LD (R a)
instance : LDF rInt := ⟨fun _ => ⟨fun _ h => h⟩⟩
instance : LDF rBl := ⟨fun _ => ⟨fun _ h => h⟩⟩
instance : LDF rStr := ⟨fun _ => ⟨fun _ h => h⟩⟩
instance : LDF rNon := ⟨fun _ => ⟨fun _ h => h⟩⟩
instance (priority := low) {α : Type} {R : α → VP} [h : LDF R] {a : α} : LD (R a) := h.ld a
theorem LDF.reps {α : Type} {R : α → VP} [h : LDF R] {G : Hp} {d : Addr} {ks : List (Key × V)} (hd : G d = some (.dK ks)) : ∀ {xs : List α} {vs : List V}, VL.reps R xs vs G → VL.reps R xs vs (del G d)
  | [], [], _ => trivial
  | _ :: _, _ :: _, q => ⟨(h.ld _).ld hd q.1, LDF.reps hd q.2⟩
instance {α : Type} {R : α → VP} [LDF R] : LDF (rTup R) := ⟨fun _ => ⟨fun hd ⟨q, vs, h, h1, h2⟩ => ⟨q, vs, h, keepD hd h1 (fun _ h => nomatch h), LDF.reps hd h2⟩⟩⟩
instance {α : Type} {R : α → VP} [LDF R] : LDF (rLst R) := ⟨fun _ => ⟨fun hd ⟨q, vs, h, h1, h2⟩ => ⟨q, vs, h, keepD hd h1 (fun _ h => nomatch h), LDF.reps hd h2⟩⟩⟩
instance {α β : Type} {R : α → VP} {S : β → VP} [a : LDF R] [b : LDF S] : LDF (rPr R S) := ⟨fun _ => ⟨fun hd ⟨q, x, y, h, h1, h2, h3⟩ => ⟨q, x, y, h, keepD hd h1 (fun _ h => nomatch h), (a.ld _).ld hd h2, (b.ld _).ld hd h3⟩⟩⟩
instance {α : Type} {R : α → VP} [b : LDF R] : LDF (rOpt R) := ⟨fun a => ⟨fun {v G d ks} hd h => by
  cases a with
  | none => exact h
  | some a => exact (b.ld a).ld (v := v) hd h⟩⟩
instance {α : Type} {R : α → VP} [LDF R] {xs : List α} : LD (rTup R xs) := LDF.ld (R := rTup R) xs
instance {α : Type} {R : α → VP} [LDF R] {xs : List α} : LD (rLst R xs) := LDF.ld (R := rLst R) xs
instance {α β : Type} {R : α → VP} {S : β → VP} [LDF R] [LDF S] {q : α × β} : LD (rPr R S q) := LDF.ld (R := rPr R S) q
instance {α : Type} {R : α → VP} [LDF R] {q : Option α} : LD (rOpt R q) := LDF.ld (R := rOpt R) q
instance {α : Type} {R : α → VP} [LDF R] {xs : List α} : LDC (cLst R xs) := ⟨fun hd ⟨vs, h, h2⟩ => ⟨vs, h, LDF.reps hd h2⟩⟩
inductive NoDt : List SL → Prop
  | nil : NoDt []
  | cons {s : SL} {l : List SL} [NoD s] : NoDt l → NoDt (s :: l)
theorem NoDt.get : ∀ {l : List SL}, NoDt l → ∀ {j : Nat} {s : SL}, l[j]? = some s → NoD s
  | _, .nil, _, _, h => by simp at h
  | _, @NoDt.cons t _ k _, 0, s, h => by
    have : t = s := by simpa using h
    subst this
    exact k
  | _, @NoDt.cons _ _ _ r, j + 1, s, h => r.get (j := j) (by simpa using h)
/-- all but the one at i -/
inductive NoDx : Nat → List SL → Prop
  | here {s : SL} {l : List SL} : NoDt l → NoDx 0 (s :: l)
  | skip {s : SL} {l : List SL} {i : Nat} [NoD s] : NoDx i l → NoDx (i + 1) (s :: l)
theorem NoDx.get : ∀ {i : Nat} {l : List SL}, NoDx i l → ∀ {j : Nat} {s : SL}, j ≠ i → l[j]? = some s → NoD s
  | _, _, .here r, 0, _, n, _ => absurd rfl n
  | _, _, .here r, j + 1, s, _, h => r.get (j := j) (by simpa using h)
  | _, _, @NoDx.skip t _ _ k _, 0, s, _, h => by
    have : t = s := by simpa using h
    subst this
    exact k
  | _, _, @NoDx.skip _ _ _ _ r, j + 1, s, n, h => r.get (j := j) (fun z => n (by rw [z])) (by simpa using h)
end VL
/-! ### xs.index(x) of a list of ints -/
namespace VL
open PySem PySem.Spec PyProof.Rows L2
def M.index (xs : List Int) (x : Int) : M Int := fun Φ _ n => ∃ j : Nat, xs[j]? = some x ∧ (∀ m, m < j → xs[m]? ≠ some x) ∧ Φ (j : Int) n
@[irreducible] def Mi.index (xs : List Int) (x : Int) : M Int := M.index xs x
def M.datPI (d : PyData) : M (Int × Int) := fun Φ _ n => ∃ a b, d = .tuple [.int a, .int b] ∧ Φ (a, b) n
@[irreducible] def Mi.datPI (d : PyData) : M (Int × Int) := M.datPI d
end VL
/-! str(x) by an own __str__ -/
namespace L2
open PySem PySem.Spec PyProof.Rows
end L2
namespace VL
open PySem PySem.Spec PyProof.Rows L2
end VL
/-! dicts whose keys are tuples of whole numbers and texts: comprehensions, truth -/
namespace L2
open PySem PySem.Spec PyProof.Rows
end L2
/-! dicts with tuple keys: truth; == {} -/
namespace L2
open PySem PySem.Spec PyProof.Rows
end L2
/-! typed: dicts whose keys are pairs of whole numbers -/
namespace VL
open PySem PySem.Spec PyProof.Rows L2
def kP (q : Int × Int) : List Key := [.inl q.1, .inl q.2]
theorem kP_inj {p q : Int × Int} (h : kP p = kP q) : p = q := by
  unfold kP at h
  injection h with h1 h2
  injection h2 with h2 _
  exact Prod.ext (Sum.inl.inj h1) (Sum.inl.inj h2)
def repsP {α : Type} (R : α → VP) : List ((Int × Int) × α) → List (List Key × V) → Hp → Prop
  | [], [], _ => True
  | (k, a) :: d, (kk, v) :: ks, G => kk = kP k ∧ (R a).P v G ∧ repsP R d ks G
  | _, _, _ => False
def putP {α : Type} (d : List ((Int × Int) × α)) (k : Int × Int) (a : α) : List ((Int × Int) × α) := if (d.any fun q => decide (q.1 = k)) = true then d.map (fun q => if q.1 = k then (q.1, a) else q) else d ++ [(k, a)]
def getP {α : Type} (d : List ((Int × Int) × α)) (k : Int × Int) : Option α := (d.find? fun q => decide (q.1 = k)).map (·.2)
section
variable {α : Type} {R : α → VP} {G G' : Hp} {k : Int × Int}
theorem getP_cons {q : (Int × Int) × α} {d : List ((Int × Int) × α)} : getP (q :: d) k = if q.1 = k then some q.2 else getP d k := by
  unfold getP
  rw [List.find?_cons]
  by_cases h : q.1 = k
  · simp [h]
  · simp [h]
theorem repsP.up : ∀ {d : List ((Int × Int) × α)} {ks : List (List Key × V)}, Same G G' → repsP R d ks G → repsP R d ks G'
  | [], [], _, _ => trivial
  | (_, _) :: _, (_, _) :: _, e, h => ⟨h.1, (R _).up e h.2.1, repsP.up e h.2.2⟩
theorem repsP.len : ∀ {d : List ((Int × Int) × α)} {ks : List (List Key × V)}, repsP R d ks G → ks.length = d.length
  | [], [], _ => rfl
  | (_, _) :: _, (_, _) :: _, h => by rw [List.length_cons, List.length_cons, repsP.len h.2.2]
theorem repsP.get : ∀ {d : List ((Int × Int) × α)} {ks : List (List Key × V)}, repsP R d ks G → match getP d k with | some a => ∃ v, valV ks (kP k) = some v ∧ (R a).P v G | none => valV ks (kP k) = none
  | [], [], _ => rfl
  | (k', a) :: d, (kk, v) :: ks, h => by
    obtain ⟨rfl, h1, h2⟩ := h
    have ih := repsP.get h2
    by_cases e : k' = k
    · subst e
      rw [getP_cons, if_pos rfl]
      exact ⟨v, valV_pos rfl, h1⟩
    · rw [getP_cons, if_neg e]
      have e2 : ¬ kP k' = kP k := fun z => e (kP_inj z)
      revert ih
      cases getP d k with
      | none => exact fun ih => (valV_neg (p := (kP k', v)) e2).trans ih
      | some b => exact fun ⟨u, h3, h4⟩ => ⟨u, (valV_neg (p := (kP k', v)) e2).trans h3, h4⟩
theorem repsP.any : ∀ {d : List ((Int × Int) × α)} {ks : List (List Key × V)}, repsP R d ks G → (ks.any fun kv => decide (kv.1 = kP k)) = d.any fun q => decide (q.1 = k)
  | [], [], _ => rfl
  | (k', a) :: d, (kk, v) :: ks, h => by
    obtain ⟨rfl, h1, h2⟩ := h
    rw [List.any_cons, List.any_cons, repsP.any h2]
    congr 1
    by_cases e : k' = k
    · subst e; simp
    · have e2 : ¬ kP k' = kP k := fun z => e (kP_inj z)
      simp [e, e2]
theorem repsP.map {a : α} {v : V} (hv : (R a).P v G) : ∀ {d : List ((Int × Int) × α)} {ks : List (List Key × V)}, repsP R d ks G →
    repsP R (d.map fun q => if q.1 = k then (q.1, a) else q) (ks.map fun kv => if kv.1 = kP k then (kv.1, v) else kv) G
  | [], [], _ => trivial
  | (k', b) :: d, (kk, w) :: ks, h => by
    obtain ⟨rfl, h1, h2⟩ := h
    have ih := repsP.map hv h2
    by_cases e : k' = k
    · subst e
      simp only [List.map_cons, if_true]
      exact ⟨rfl, hv, ih⟩
    · have e2 : ¬ kP k' = kP k := fun z => e (kP_inj z)
      simp only [List.map_cons, if_neg e, if_neg e2]
      exact ⟨rfl, h1, ih⟩
theorem repsP.snoc {a : α} {v : V} (hv : (R a).P v G) : ∀ {d : List ((Int × Int) × α)} {ks : List (List Key × V)}, repsP R d ks G → repsP R (d ++ [(k, a)]) (ks ++ [(kP k, v)]) G
  | [], [], _ => ⟨rfl, hv, trivial⟩
  | (_, _) :: _, (_, _) :: _, h => ⟨h.1, h.2.1, repsP.snoc hv h.2.2⟩
theorem repsP.put {a : α} {v : V} {d : List ((Int × Int) × α)} {ks : List (List Key × V)} (h : repsP R d ks G) (hv : (R a).P v G) : repsP R (putP d k a) (putK ks (kP k) v) G := by
  unfold putP putK
  rw [h.any]
  split
  · exact h.map hv
  · exact h.snoc hv
end
section
variable {C : Cfg} {α β γ δ ρ : Type} {Rr : ρ → SL} {ps : List SL} {te ta tb tk tv : TE} {tt : TT} {t u : TS}
def M.pget {α : Type} (d : List ((Int × Int) × α)) (k : Int × Int) : M α := fun Φ _ n => ∃ a, getP d k = some a ∧ Φ a n
@[irreducible] def Mi.pget {α : Type} (d : List ((Int × Int) × α)) (k : Int × Int) : M α := M.pget d k
/-! ### {k: v for x in .. if ..} -/
def M.pcompA {β γ : Type} (f : β → M (Option ((Int × Int) × γ))) : List ((Int × Int) × γ) → List β → M (List ((Int × Int) × γ))
  | acc, [] => M.pure acc
  | acc, x :: r => M.bind (f x) fun o => M.pcompA f (match o with | some q => putP acc q.1 q.2 | none => acc) r
def M.pcomp {β γ : Type} (xs : List β) (f : β → M (Option ((Int × Int) × γ))) : M (List ((Int × Int) × γ)) := fun Q _ n => xs.length ≤ 1000 ∧ M.pcompA f [] xs Q (fun _ _ => False) n
@[irreducible] def Mi.pcomp {β γ : Type} (xs : List β) (f : β → M (Option ((Int × Int) × γ))) : M (List ((Int × Int) × γ)) := M.pcomp xs f
/-! ### an owned dict, locked while an expression is worked out -/
end
end VL
namespace VL
open PySem PySem.Spec PyProof.Rows L2 RZ
section
variable {C : Cfg} {α β γ δ ρ : Type} {Rr : ρ → SL} {ps : List SL} {te ta tb tc : TE} {tt : TT} {t u : TS}
/-! ### an owned object goes over to another name -/
/-! ### zip of two tuples -/
/-! ### isinstance(a tuple, (list, tuple)) -/
/-! ### (a, b), (c, d) = a pair of pairs -/
/-! ### while -/
def M.whileL {ρ S : Type} (c : S → M Bool) (f : S → M (Fl ρ S)) (s0 : S) : M (Fl ρ S) := fun Q E n => ∃ k, M.loop c f k s0 Q E n
end
end VL
/-! x = {k: v for .. in ..} with keys that are tuples, where the name is stored within the comprehension -/
namespace L2
open PySem PySem.Spec PyProof.Rows
end L2
namespace VL
open PySem PySem.Spec PyProof.Rows L2
@[irreducible] def Mi.whileL {ρ S : Type} (c : S → M Bool) (f : S → M (Fl ρ S)) (s0 : S) : M (Fl ρ S) := M.whileL c f s0
end VL
/-! sorted(d) of a dict whose keys are tuples -/
namespace L2
open PySem PySem.Spec PyProof.Rows VL
end L2
namespace VL
open PySem PySem.Spec PyProof.Rows L2
end VL
/-! own x | y, x & y that may raise, in a try -/
namespace L2
open PySem PySem.Spec PyProof.Rows
def tOpS (r : St → R2) (ta tb : TE) : TE := fun σ H Q => ta σ H fun x H1 => tb σ H1 fun y H2 => r σ x y H2 Q
end L2
namespace VL
open PySem PySem.Spec PyProof.Rows L2
end VL
/-! [left.pop(..) for k in ..] -/
namespace VL
open PySem PySem.Spec PyProof.Rows L2
def M.popLA {α β : Type} (mj : List α → β → M Int) : List α → List β → List α → M (List α × List α)
  | acc, [], xs => M.pure (acc, xs)
  | acc, b :: r, xs => M.bind (mj xs b) fun j => M.bind (M.popAt xs j) fun q => M.popLA mj (acc ++ [q.1]) r q.2
def M.popL {α β : Type} (mj : List α → β → M Int) (ys : List β) (xs : List α) : M (List α × List α) := fun Q _ n => ys.length ≤ 1000 ∧ M.popLA mj [] ys xs Q (fun _ _ => False) n
@[irreducible] def Mi.popL {α β : Type} (mj : List α → β → M Int) (ys : List β) (xs : List α) : M (List α × List α) := M.popL mj ys xs
end VL
/-! list(range(n)) -/
namespace L2
open PySem PySem.Spec PyProof.Rows
end L2
namespace L2
open PySem PySem.Spec PyProof.Rows
end L2
namespace VL
open PySem PySem.Spec PyProof.Rows L2
section
variable {C : Cfg} {ps : List SL} {te : TE}
/-- o.m(k=..) -/
theorem ve_methK {α β γ : Type} {Cl : Addr} {g : Str} {fl : α → List (Str × VP)} {Rb : β → List VP} {δ : Type} {F : δ → M γ} {Rr : γ → SL} {E : XK} {m : M α} {mb : M β} {Rs : δ → List VP} {t : TA} {gV : List V → List V → List V} (f : α → β → δ) (h : VE C te ps m (Fz fun a => rIns Cl (fl a))) (ha : VA C t ps mb Rb)
    (hg : ∀ a b v zs G, (rIns Cl (fl a)).P v G → RepL (Rb b) zs G → RepL (Rs (f a b)) (gV [v] zs) G) (hn : ∀ a, ∀ q ∈ fl a, q.1 ≠ g) (hr : ∀ b p, Rr b ≠ .bo p := by intro _ _ h; cases h) :
    VE C (tMethK Cl g (spG C.mg C.K C.TB Rs F Rr) gV E te t) ps (M.bind m fun a => M.bind mb fun b => M.nox (F (f a b))) Rr := by
  intro σ G W H n Q Φ Ψ e st hm k x
  refine h σ G W H n _ (fun a n' => M.bind mb (fun b => M.nox (F (f a b))) Φ Ψ n') Ψ e st hm ?_ x
  rintro a n1 v G1 W1 H1 hm1 s1 t1 r1 _
  have r0 := r1
  obtain ⟨p, o, rfl, h2, dx, fs, rfl, _, h4, _⟩ := r1
  have st1 := st.stp s1 t1
  refine ⟨p, dx, fs, rfl, st1.gh _ _ h2, h4 _ (hn a), ?_⟩
  refine ha σ G1 W1 H1 n1 _ (fun b n' => M.nox (F (f a b)) Φ Ψ n') Ψ (e.stp s1) st1 hm1 (fun b n2 vs G2 W2 H2 hm2 s2 t2 r2 => ?_) (x.stp s1)
  have st2 := st1.stp s2 t2
  refine ⟨C.Θ, f a b, G2, W2, n2, Φ, fun _ _ => False, hg a b _ vs G2 ((rIns Cl (fl a)).up s2.g r0) r2, st2.gw, st2.t, hm2, fun c n3 v G3 W3 H3 hΦ s3 t3 r3 f3 => ?_, fun _ _ _ _ _ _ _ h => h.elim⟩
  exact (k.stp (s1.trans s2)) c n3 v G3 W3 H3 hΦ s3 t3 (res_call st2.bw r3 (hr c)) f3
end
end VL
/-! ### a new list of two new dicts, held by one slot: read, changed in place, then shown -/
namespace VL
open PySem PySem.Spec PyProof.Rows L2
abbrev E2 : Type := List (Str × Int) × List (Str × Int)
structure NX (B : Hp) (li : Nat) (ps : List SL) (e : E2) (p d0 d1 : Addr) (σ : L2.St) (G W : Hp) : Prop where
  v : σ[li]? = some (some (.ref p))
  un : ps[li]? = some .un
  wp : W p = some (.lst [.ref d0, .ref d1])
  w0 : ∃ k, W d0 = some (.dK k) ∧ repsD rInt e.1 k G
  w1 : ∃ k, W d1 = some (.dK k) ∧ repsD rInt e.2 k G
  ne : d0 ≠ d1
  gp : G p = none
  g0 : G d0 = none
  g1 : G d1 = none
  bp : B p = none
  b0 : B d0 = none
  b1 : B d1 = none
  sep : ∀ {i : Nat} {c : CP} {a : Addr}, ps[i]? = some (.ow c) → σ[i]? = some (some (.ref a)) → a ≠ p ∧ a ≠ d0 ∧ a ≠ d1
section
variable {B : Hp} {li : Nat} {ps : List SL} {e : E2} {p d0 d1 : Addr} {σ : L2.St} {G W G' W' : Hp}
theorem NX.stp (x : NX B li ps e p d0 d1 σ G W) (s : Stp G W G' W') : NX B li ps e p d0 d1 σ G' W' := by
  obtain ⟨k0, h0, r0⟩ := x.w0
  obtain ⟨k1, h1, r1⟩ := x.w1
  exact ⟨x.v, x.un, s.w _ _ x.wp, ⟨k0, s.w _ _ h0, rInt_any r0⟩, ⟨k1, s.w _ _ h1, rInt_any r1⟩, x.ne, stp_no s x.gp x.wp, stp_no s x.g0 h0, stp_no s x.g1 h1, x.bp, x.b0, x.b1, x.sep⟩
theorem NX.p0 (x : NX B li ps e p d0 d1 σ G W) : p ≠ d0 := by
  rintro rfl
  obtain ⟨k, h, _⟩ := x.w0
  rw [x.wp] at h; cases h
theorem NX.p1 (x : NX B li ps e p d0 d1 σ G W) : p ≠ d1 := by
  rintro rfl
  obtain ⟨k, h, _⟩ := x.w1
  rw [x.wp] at h; cases h
/-- another slot is set -/
theorem NX.set (x : NX B li ps e p d0 d1 σ G W) {j : Nat} {s : SL} {u : V} (hj : j ≠ li) (f : ∀ c, s = .ow c → ∀ a, u = .ref a → a ≠ p ∧ a ≠ d0 ∧ a ≠ d1) : NX B li (ps.set j s) e p d0 d1 (σ.set j (some u)) G W :=
  { x with
    v := by rw [List.getElem?_set_ne hj]; exact x.v
    un := by rw [List.getElem?_set_ne hj]; exact x.un
    sep := fun {i c a} h1 h2 => by
      rcases getElem_set h1 with ⟨rfl, e1, hl⟩ | ⟨hne, h1⟩
      · have : (σ.set i (some u))[i]? = some (some u) := by
          cases z : σ[i]? with
          | none => rw [List.getElem?_set] at h2; simp only [if_pos] at h2; split at h2 <;> first | (cases h2) | skip
                    rename_i hh; exact List.getElem?_set_self hh
          | some q => exact List.getElem?_set_self (List.getElem?_eq_some_iff.mp z).1
        rw [this] at h2
        cases h2
        exact f c e1.symm a rfl
      · rw [List.getElem?_set_ne (fun z => hne z.symm)] at h2
        exact x.sep h1 h2 }
theorem Ee.grow (h : Ee B ps σ G W) (s : Same G G') (f : ∀ {i : Nat} {c : CP} {a : Addr}, ps[i]? = some (.ow c) → σ[i]? = some (some (.ref a)) → G' a = none) : Ee B ps σ G' W :=
  ⟨h.len, fun {i t} hi hn => by
    obtain ⟨v, hv, hr⟩ := h.at_ hi hn
    refine ⟨v, hv, ?_⟩
    cases t with
    | un => trivial
    | fr r => exact r.up s hr
    | bo _ => exact hr
    | ow d =>
      obtain ⟨a, q, rfl, hw', hg', hb', hc'⟩ := hr
      exact ⟨a, q, rfl, hw', f hi hv, hb', d.up s hc'⟩, h.sep⟩
end
section
variable {C : Cfg} {ρ α β γ : Type} {Rr : ρ → SL} {ps : List SL} {te ta tb : TE} {tt : TT} {t u : TS} {li : Nat} {e : E2}
/-- the list and its dicts are shown -/
theorem NX.show {σ : L2.St} {G W H : Hp} {n : Nat} {p d0 d1 : Addr} (x : NX C.B li ps e p d0 d1 σ G W) (E : Ee C.B ps σ G W) (st : Stt C n G W H) :
    ∃ G', Same G G' ∧ Ee C.B (ps.set li (.fr (rLst (rDct rInt) [e.1, e.2]))) σ G' W ∧ Stt C n G' W H := by
  obtain ⟨k0, h0, r0⟩ := x.w0
  obtain ⟨k1, h1, r1⟩ := x.w1
  have st1 := st.show h0 x.g0 x.b0
  have g1 : (upd G d0 (.dK k0)) d1 = none := by rw [upd_ne x.ne.symm]; exact x.g1
  have st2 := st1.show h1 g1 x.b1
  have gp : (upd (upd G d0 (.dK k0)) d1 (.dK k1)) p = none := by rw [upd_ne x.p1, upd_ne x.p0]; exact x.gp
  have st3 := st2.show x.wp gp x.bp
  have s3 : Same G (upd (upd (upd G d0 (.dK k0)) d1 (.dK k1)) p (.lst [.ref d0, .ref d1])) := ((same_upd x.g0).trans (same_upd g1)).trans (same_upd gp)
  refine ⟨_, s3, ?_, st3⟩
  have E1 := E.grow s3 (fun {i c a} hi hσ => by
    obtain ⟨n1, n2, n3⟩ := x.sep hi hσ
    rw [upd_ne n1, upd_ne n3, upd_ne n2]
    obtain ⟨v, hv, a', o, e1, _, hg, _⟩ := E.at_ hi (by simp)
    rw [hσ] at hv
    cases hv
    cases e1
    exact hg)
  have := E1.setF (i := li) (v := .ref p) (p := rLst (rDct rInt) [e.1, e.2]) ⟨p, [.ref d0, .ref d1], rfl, upd_same,
    ⟨d0, k0, rfl, by rw [upd_ne x.p0.symm, upd_ne x.ne]; exact upd_same, rInt_any r0⟩, ⟨d1, k1, rfl, by rw [upd_ne x.p1.symm]; exact upd_same, rInt_any r1⟩, trivial⟩
  rwa [set_id x.v] at this
theorem ee_putO {B : Hp} {σ : L2.St} {G W : Hp} {d : Addr} {o : HO} (h : Ee B ps σ G W) (f : ∀ {i : Nat} {c : CP} {a : Addr}, ps[i]? = some (.ow c) → σ[i]? = some (some (.ref a)) → a ≠ d) : Ee B ps σ G (upd W d o) :=
  ⟨h.len, fun {i t} hi hn => by
    obtain ⟨v, hv, hr⟩ := h.at_ hi hn
    refine ⟨v, hv, ?_⟩
    cases t with
    | un => trivial
    | fr r => exact hr
    | bo _ => exact hr
    | ow c =>
      obtain ⟨a, q, rfl, hw', hg', hb', hc'⟩ := hr
      exact ⟨a, q, rfl, by rw [upd_ne (f hi hv)]; exact hw', hg', hb', hc'⟩, h.sep⟩
end
end VL
/-! ### C(k = v, ..) -/
namespace VL
open PySem PySem.Spec PyProof.Rows L2
theorem gP_len {α : Type} {a b : Nat} {perm : List Nat} {us ws : List α} (h : perm.all (fun i => decide (i < a + b)) = true) (h1 : us.length = a) (h2 : ws.length = b) : (gP a b perm us ws).length = perm.length := by
  have e : gP a b perm us ws = perm.filterMap fun i => (us ++ ws)[i]? := by
    unfold gP
    subst h1 h2
    simp
  rw [e]
  clear e
  induction perm with
  | nil => rfl
  | cons i perm ih =>
    rw [List.all_cons, Bool.and_eq_true] at h
    have hi : i < (us ++ ws).length := by rw [List.length_append, h1, h2]; exact of_decide_eq_true h.1
    rw [List.filterMap_cons, List.getElem?_eq_getElem hi]
    show (_ :: _).length = _
    rw [List.length_cons, List.length_cons, ih h.2]
theorem kbn_of {K : PySem.W.Frag} {fd : FuncData} {ps ks : List Str} {a b : Nat} {perm : List Nat} (h : KBinds K fd ps ks (gP a b perm) (gP a b perm)) (hp : perm.all (fun i => decide (i < a + b)) = true) (hk : ks.length = b) (hl : perm.length = ps.length) : KBn K fd ps a ks (gP a b perm) (gP a b perm) :=
  ⟨fun s us ws X l1 l2 => h.to s us ws X ((gP_len hp l1 (l2.trans hk)).trans hl), h.rel⟩
end VL
/-! ### a dict is equal to nothing but dicts -/
namespace PySem.SeqAt
open AutoSeq1 (wpAny_loadPart')
open MeetsSeq
def IsDct (s : Shared) (l : Addr) : Prop := ∃ o, s.heap.get? l = some o ∧ o.cls = .type "dict" ∧ ∃ es ep, o.data = .dict es ep
theorem dict_eq_declines_none (l : Addr) (es : Array DictEntry) (ep : Nat) (dd : Option Addr) (sl : Array (Option Value))  :
    Meets (Builtin.«dict.__eq__» ⟨[.ref l, .none], []⟩) (fun _ R s => s.heap.get? l = some { cls := .type "dict", dict := dd, data := .dict es ep, slots := sl } ∧ R (.ok (.ret .notImplemented)) s) :=
  .of_wp fun prog w A R s h => by obtain ⟨hp, g, d, tk, os⟩ := s; obtain ⟨hl, h⟩ := h; have f1 := F.sub_NoneType_dict; wp_walk using wpAny_loadPart' hl, wpAny_load hl; exact ⟨_, rfl, h⟩
theorem dict_eq_declines_bool (l : Addr) (es : Array DictEntry) (ep : Nat) (dd : Option Addr) (sl : Array (Option Value)) (b : Bool) :
    Meets (Builtin.«dict.__eq__» ⟨[.ref l, .bool b], []⟩) (fun _ R s => s.heap.get? l = some { cls := .type "dict", dict := dd, data := .dict es ep, slots := sl } ∧ R (.ok (.ret .notImplemented)) s) :=
  .of_wp fun prog w A R s h => by obtain ⟨hp, g, d, tk, os⟩ := s; obtain ⟨hl, h⟩ := h; have f1 := F.sub_bool_dict; wp_walk using wpAny_loadPart' hl, wpAny_load hl; exact ⟨_, rfl, h⟩
theorem dict_eq_declines_int (l : Addr) (es : Array DictEntry) (ep : Nat) (dd : Option Addr) (sl : Array (Option Value)) (b : Int) (u : Tok) :
    Meets (Builtin.«dict.__eq__» ⟨[.ref l, .int b u], []⟩) (fun _ R s => s.heap.get? l = some { cls := .type "dict", dict := dd, data := .dict es ep, slots := sl } ∧ R (.ok (.ret .notImplemented)) s) :=
  .of_wp fun prog w A R s h => by obtain ⟨hp, g, d, tk, os⟩ := s; obtain ⟨hl, h⟩ := h; have f1 := F.sub_int_dict; wp_walk using wpAny_loadPart' hl, wpAny_load hl; exact ⟨_, rfl, h⟩
theorem dict_eq_declines_str (l : Addr) (es : Array DictEntry) (ep : Nat) (dd : Option Addr) (sl : Array (Option Value)) (b : Str) (u : Tok) :
    Meets (Builtin.«dict.__eq__» ⟨[.ref l, .str b u], []⟩) (fun _ R s => s.heap.get? l = some { cls := .type "dict", dict := dd, data := .dict es ep, slots := sl } ∧ R (.ok (.ret .notImplemented)) s) :=
  .of_wp fun prog w A R s h => by obtain ⟨hp, g, d, tk, os⟩ := s; obtain ⟨hl, h⟩ := h; have f1 := F.sub_str_dict; wp_walk using wpAny_loadPart' hl, wpAny_load hl; exact ⟨_, rfl, h⟩
theorem int_eq_declines_dict_bool (b : Bool) (l : Addr) (es : Array DictEntry) (ep : Nat) (dd : Option Addr) (sl : Array (Option Value)) :
    Meets (Builtin.«int.__eq__» ⟨[.bool b, .ref l], []⟩) (fun _ R s => s.heap.get? l = some { cls := .type "dict", dict := dd, data := .dict es ep, slots := sl } ∧ R (.ok (.ret .notImplemented)) s) :=
  .of_wp fun prog w A R s h => by obtain ⟨hp, g, d, tk, os⟩ := s; obtain ⟨hl, h⟩ := h; wp_walk using wpAny_loadPart' hl, wpAny_load hl; exact ⟨_, rfl, h⟩
theorem int_eq_declines_dict_int (b : Int) (u : Tok) (l : Addr) (es : Array DictEntry) (ep : Nat) (dd : Option Addr) (sl : Array (Option Value)) :
    Meets (Builtin.«int.__eq__» ⟨[.int b u, .ref l], []⟩) (fun _ R s => s.heap.get? l = some { cls := .type "dict", dict := dd, data := .dict es ep, slots := sl } ∧ R (.ok (.ret .notImplemented)) s) :=
  .of_wp fun prog w A R s h => by obtain ⟨hp, g, d, tk, os⟩ := s; obtain ⟨hl, h⟩ := h; wp_walk using wpAny_loadPart' hl, wpAny_load hl; exact ⟨_, rfl, h⟩
theorem str_eq_declines_dict_str (b : Str) (u : Tok) (l : Addr) (es : Array DictEntry) (ep : Nat) (dd : Option Addr) (sl : Array (Option Value)) :
    Meets (Builtin.«str.__eq__» ⟨[.str b u, .ref l], []⟩) (fun _ R s => s.heap.get? l = some { cls := .type "dict", dict := dd, data := .dict es ep, slots := sl } ∧ R (.ok (.ret .notImplemented)) s) :=
  .of_wp fun prog w A R s h => by obtain ⟨hp, g, d, tk, os⟩ := s; obtain ⟨hl, h⟩ := h; wp_walk using wpAny_loadPart' hl, wpAny_load hl; exact ⟨_, rfl, h⟩
theorem dict_eq_declines_list (l b : Addr) (es : Array DictEntry) (ep : Nat) (dd : Option Addr) (sl : Array (Option Value)) (items : Array Value) (n : Nat) (dd2 : Option Addr) (sl2 : Array (Option Value)) :
    Meets (Builtin.«dict.__eq__» ⟨[.ref l, .ref b], []⟩) (fun _ R s => s.heap.get? l = some { cls := .type "dict", dict := dd, data := .dict es ep, slots := sl } ∧ s.heap.get? b = some { cls := .type "list", dict := dd2, data := .seq items n, slots := sl2 } ∧ R (.ok (.ret .notImplemented)) s) :=
  .of_wp fun prog w A R s h => by obtain ⟨hp, g, d, tk, os⟩ := s; obtain ⟨hl, hb, h⟩ := h; have f1 := F.sub_list_dict; wp_walk using wpAny_loadPart' hl, wpAny_loadPart' hb, wpAny_load hl, wpAny_load hb; exact ⟨_, rfl, h⟩
theorem list_eq_declines_dict (l b : Addr) (es : Array DictEntry) (ep : Nat) (dd : Option Addr) (sl : Array (Option Value)) (items : Array Value) (n : Nat) (dd2 : Option Addr) (sl2 : Array (Option Value)) :
    Meets (Builtin.«list.__eq__» ⟨[.ref b, .ref l], []⟩) (fun _ R s => s.heap.get? l = some { cls := .type "dict", dict := dd, data := .dict es ep, slots := sl } ∧ s.heap.get? b = some { cls := .type "list", dict := dd2, data := .seq items n, slots := sl2 } ∧ R (.ok (.ret .notImplemented)) s) :=
  .of_wp fun prog w A R s h => by obtain ⟨hp, g, d, tk, os⟩ := s; obtain ⟨hl, hb, h⟩ := h; have f1 := F.sub_dict_list; wp_walk using wpAny_loadPart' hl, wpAny_loadPart' hb, wpAny_load hl, wpAny_load hb; exact ⟨_, rfl, h⟩
theorem dict_eq_declines_tuple (l b : Addr) (es : Array DictEntry) (ep : Nat) (dd : Option Addr) (sl : Array (Option Value)) (items : Array Value) (n : Nat) (dd2 : Option Addr) (sl2 : Array (Option Value)) :
    Meets (Builtin.«dict.__eq__» ⟨[.ref l, .ref b], []⟩) (fun _ R s => s.heap.get? l = some { cls := .type "dict", dict := dd, data := .dict es ep, slots := sl } ∧ s.heap.get? b = some { cls := .type "tuple", dict := dd2, data := .seq items n, slots := sl2 } ∧ R (.ok (.ret .notImplemented)) s) :=
  .of_wp fun prog w A R s h => by obtain ⟨hp, g, d, tk, os⟩ := s; obtain ⟨hl, hb, h⟩ := h; have f1 := F.sub_tuple_dict; wp_walk using wpAny_loadPart' hl, wpAny_loadPart' hb, wpAny_load hl, wpAny_load hb; exact ⟨_, rfl, h⟩
theorem tuple_eq_declines_dict (l b : Addr) (es : Array DictEntry) (ep : Nat) (dd : Option Addr) (sl : Array (Option Value)) (items : Array Value) (n : Nat) (dd2 : Option Addr) (sl2 : Array (Option Value)) :
    Meets (Builtin.«tuple.__eq__» ⟨[.ref b, .ref l], []⟩) (fun _ R s => s.heap.get? l = some { cls := .type "dict", dict := dd, data := .dict es ep, slots := sl } ∧ s.heap.get? b = some { cls := .type "tuple", dict := dd2, data := .seq items n, slots := sl2 } ∧ R (.ok (.ret .notImplemented)) s) :=
  .of_wp fun prog w A R s h => by obtain ⟨hp, g, d, tk, os⟩ := s; obtain ⟨hl, hb, h⟩ := h; have f1 := F.sub_dict_tuple; wp_walk using wpAny_loadPart' hl, wpAny_loadPart' hb, wpAny_load hl, wpAny_load hb; exact ⟨_, rfl, h⟩
section
variable {A : Around} {s : Shared}
theorem RcAt.dict_none {l : Addr}  (hl : IsDct s l) (hu : A.units < cLine) : RcAt A s (.ref l) (.none) false := fun prog w E Q h => by
  obtain ⟨⟨cls, dd, dt, sl⟩, ho, hc, es, ep, hd⟩ := id hl
  simp only at hc hd
  subst hc hd
  exact rc_eq_decline_or (k := false) ⟨_, ho, rfl⟩ rfl (by decide) F.sub_NoneType_dict F.slot_dict_eq F.slot_NoneType_eq_refl
    (fun _ hq => call_meets F.slot_dict_eq ⟨_, ho, rfl⟩ F.entry_dict_eq (F.args_dict_eq_2 _ _) (dict_eq_declines_none l es ep dd sl) ⟨ho, hq⟩)
    (fun _ hq => call_gives F.slot_NoneType_eq_refl rfl F.entry_NoneType_eq (F.args_NoneType_eq_2 _ _) (NoneType___eq___none_ref_0 l) hq)
    (fun _ hq => wpAny_of_eq (rfl : isSame (.ref l) (.none) = pure false) hq) (.inr hu) h
theorem EqAt.dict_none {l : Addr}  (hl : IsDct s l) (hu : A.units < cLine) : EqAt A s (.ref l) (.none) false := fun prog w E Q h => by
  unfold eqBool
  refine wpAny_holding ?_
  refine wpAny_ite_split (fun hab => absurd (eq_of_beq hab) nofun) (fun _ => ?_)
  exact wpAny_bind (RcAt.dict_none hl hu prog w E _ (wpAny_truthy_bool h))
theorem RcAt.none_dict {l : Addr}  (hl : IsDct s l) (hu : A.units < cLine) : RcAt A s (.none) (.ref l) false := fun prog w E Q h => by
  obtain ⟨⟨cls, dd, dt, sl⟩, ho, hc, es, ep, hd⟩ := id hl
  simp only at hc hd
  subst hc hd
  exact rc_eq_decline_or (k := false) rfl ⟨_, ho, rfl⟩ (by decide) F.sub_dict_NoneType F.slot_NoneType_eq F.slot_dict_eq_refl
    (fun _ hq => call_gives F.slot_NoneType_eq rfl F.entry_NoneType_eq (F.args_NoneType_eq_2 _ _) (NoneType___eq___none_ref_0 l) hq)
    (fun _ hq => call_meets F.slot_dict_eq_refl ⟨_, ho, rfl⟩ F.entry_dict_eq (F.args_dict_eq_2 _ _) (dict_eq_declines_none l es ep dd sl) ⟨ho, hq⟩)
    (fun _ hq => wpAny_of_eq (rfl : isSame (.none) (.ref l) = pure false) hq) (.inr hu) h
theorem EqAt.none_dict {l : Addr}  (hl : IsDct s l) (hu : A.units < cLine) : EqAt A s (.none) (.ref l) false := fun prog w E Q h => by
  unfold eqBool
  refine wpAny_holding ?_
  refine wpAny_ite_split (fun hab => absurd (eq_of_beq hab) nofun) (fun _ => ?_)
  exact wpAny_bind (RcAt.none_dict hl hu prog w E _ (wpAny_truthy_bool h))
theorem RcAt.dict_bool {l : Addr} (b : Bool) (hl : IsDct s l) (hu : A.units < cLine) : RcAt A s (.ref l) (.bool b) false := fun prog w E Q h => by
  obtain ⟨⟨cls, dd, dt, sl⟩, ho, hc, es, ep, hd⟩ := id hl
  simp only at hc hd
  subst hc hd
  exact rc_eq_decline_or (k := false) ⟨_, ho, rfl⟩ rfl (by decide) F.sub_bool_dict F.slot_dict_eq F.slot_bool_eq_refl
    (fun _ hq => call_meets F.slot_dict_eq ⟨_, ho, rfl⟩ F.entry_dict_eq (F.args_dict_eq_2 _ _) (dict_eq_declines_bool l es ep dd sl b) ⟨ho, hq⟩)
    (fun _ hq => call_meets F.slot_bool_eq_refl rfl F.entry_int_eq (F.args_int_eq_2 _ _) (int_eq_declines_dict_bool b l es ep dd sl) ⟨ho, hq⟩)
    (fun _ hq => wpAny_of_eq (rfl : isSame (.ref l) (.bool b) = pure false) hq) (.inr hu) h
theorem EqAt.dict_bool {l : Addr} (b : Bool) (hl : IsDct s l) (hu : A.units < cLine) : EqAt A s (.ref l) (.bool b) false := fun prog w E Q h => by
  unfold eqBool
  refine wpAny_holding ?_
  refine wpAny_ite_split (fun hab => absurd (eq_of_beq hab) nofun) (fun _ => ?_)
  exact wpAny_bind (RcAt.dict_bool b hl hu prog w E _ (wpAny_truthy_bool h))
theorem RcAt.bool_dict {l : Addr} (b : Bool) (hl : IsDct s l) (hu : A.units < cLine) : RcAt A s (.bool b) (.ref l) false := fun prog w E Q h => by
  obtain ⟨⟨cls, dd, dt, sl⟩, ho, hc, es, ep, hd⟩ := id hl
  simp only at hc hd
  subst hc hd
  exact rc_eq_decline_or (k := false) rfl ⟨_, ho, rfl⟩ (by decide) F.sub_dict_bool F.slot_bool_eq F.slot_dict_eq_refl
    (fun _ hq => call_meets F.slot_bool_eq rfl F.entry_int_eq (F.args_int_eq_2 _ _) (int_eq_declines_dict_bool b l es ep dd sl) ⟨ho, hq⟩)
    (fun _ hq => call_meets F.slot_dict_eq_refl ⟨_, ho, rfl⟩ F.entry_dict_eq (F.args_dict_eq_2 _ _) (dict_eq_declines_bool l es ep dd sl b) ⟨ho, hq⟩)
    (fun _ hq => wpAny_of_eq (rfl : isSame (.bool b) (.ref l) = pure false) hq) (.inr hu) h
theorem EqAt.bool_dict {l : Addr} (b : Bool) (hl : IsDct s l) (hu : A.units < cLine) : EqAt A s (.bool b) (.ref l) false := fun prog w E Q h => by
  unfold eqBool
  refine wpAny_holding ?_
  refine wpAny_ite_split (fun hab => absurd (eq_of_beq hab) nofun) (fun _ => ?_)
  exact wpAny_bind (RcAt.bool_dict b hl hu prog w E _ (wpAny_truthy_bool h))
theorem RcAt.dict_int {l : Addr} (b : Int) (u : Tok) (hl : IsDct s l) (hu : A.units < cLine) : RcAt A s (.ref l) (.int b u) false := fun prog w E Q h => by
  obtain ⟨⟨cls, dd, dt, sl⟩, ho, hc, es, ep, hd⟩ := id hl
  simp only at hc hd
  subst hc hd
  exact rc_eq_decline_or (k := false) ⟨_, ho, rfl⟩ (typeIs_int s b u) (by decide) F.sub_int_dict F.slot_dict_eq F.slot_int_eq_refl
    (fun _ hq => call_meets F.slot_dict_eq ⟨_, ho, rfl⟩ F.entry_dict_eq (F.args_dict_eq_2 _ _) (dict_eq_declines_int l es ep dd sl b u) ⟨ho, hq⟩)
    (fun _ hq => call_meets F.slot_int_eq_refl (typeIs_int s b u) F.entry_int_eq (F.args_int_eq_2 _ _) (int_eq_declines_dict_int b u l es ep dd sl) ⟨ho, hq⟩)
    (fun _ hq => wpAny_of_eq (rfl : isSame (.ref l) (.int b u) = pure false) hq) (.inr hu) h
theorem EqAt.dict_int {l : Addr} (b : Int) (u : Tok) (hl : IsDct s l) (hu : A.units < cLine) : EqAt A s (.ref l) (.int b u) false := fun prog w E Q h => by
  unfold eqBool
  refine wpAny_holding ?_
  refine wpAny_ite_split (fun hab => absurd (eq_of_beq hab) nofun) (fun _ => ?_)
  exact wpAny_bind (RcAt.dict_int b u hl hu prog w E _ (wpAny_truthy_bool h))
theorem RcAt.int_dict {l : Addr} (b : Int) (u : Tok) (hl : IsDct s l) (hu : A.units < cLine) : RcAt A s (.int b u) (.ref l) false := fun prog w E Q h => by
  obtain ⟨⟨cls, dd, dt, sl⟩, ho, hc, es, ep, hd⟩ := id hl
  simp only at hc hd
  subst hc hd
  exact rc_eq_decline_or (k := false) (typeIs_int s b u) ⟨_, ho, rfl⟩ (by decide) F.sub_dict_int F.slot_int_eq F.slot_dict_eq_refl
    (fun _ hq => call_meets F.slot_int_eq (typeIs_int s b u) F.entry_int_eq (F.args_int_eq_2 _ _) (int_eq_declines_dict_int b u l es ep dd sl) ⟨ho, hq⟩)
    (fun _ hq => call_meets F.slot_dict_eq_refl ⟨_, ho, rfl⟩ F.entry_dict_eq (F.args_dict_eq_2 _ _) (dict_eq_declines_int l es ep dd sl b u) ⟨ho, hq⟩)
    (fun _ hq => wpAny_of_eq (rfl : isSame (.int b u) (.ref l) = pure false) hq) (.inr hu) h
theorem EqAt.int_dict {l : Addr} (b : Int) (u : Tok) (hl : IsDct s l) (hu : A.units < cLine) : EqAt A s (.int b u) (.ref l) false := fun prog w E Q h => by
  unfold eqBool
  refine wpAny_holding ?_
  refine wpAny_ite_split (fun hab => absurd (eq_of_beq hab) nofun) (fun _ => ?_)
  exact wpAny_bind (RcAt.int_dict b u hl hu prog w E _ (wpAny_truthy_bool h))
theorem RcAt.dict_str {l : Addr} (b : Str) (u : Tok) (hl : IsDct s l) (hu : A.units < cLine) : RcAt A s (.ref l) (.str b u) false := fun prog w E Q h => by
  obtain ⟨⟨cls, dd, dt, sl⟩, ho, hc, es, ep, hd⟩ := id hl
  simp only at hc hd
  subst hc hd
  exact rc_eq_decline_or (k := false) ⟨_, ho, rfl⟩ (typeIs_str s b u) (by decide) F.sub_str_dict F.slot_dict_eq F.slot_str_eq_refl
    (fun _ hq => call_meets F.slot_dict_eq ⟨_, ho, rfl⟩ F.entry_dict_eq (F.args_dict_eq_2 _ _) (dict_eq_declines_str l es ep dd sl b u) ⟨ho, hq⟩)
    (fun _ hq => call_meets F.slot_str_eq_refl (typeIs_str s b u) F.entry_str_eq (F.args_str_eq_2 _ _) (str_eq_declines_dict_str b u l es ep dd sl) ⟨ho, hq⟩)
    (fun _ hq => wpAny_of_eq (rfl : isSame (.ref l) (.str b u) = pure false) hq) (.inr hu) h
theorem EqAt.dict_str {l : Addr} (b : Str) (u : Tok) (hl : IsDct s l) (hu : A.units < cLine) : EqAt A s (.ref l) (.str b u) false := fun prog w E Q h => by
  unfold eqBool
  refine wpAny_holding ?_
  refine wpAny_ite_split (fun hab => absurd (eq_of_beq hab) nofun) (fun _ => ?_)
  exact wpAny_bind (RcAt.dict_str b u hl hu prog w E _ (wpAny_truthy_bool h))
theorem RcAt.str_dict {l : Addr} (b : Str) (u : Tok) (hl : IsDct s l) (hu : A.units < cLine) : RcAt A s (.str b u) (.ref l) false := fun prog w E Q h => by
  obtain ⟨⟨cls, dd, dt, sl⟩, ho, hc, es, ep, hd⟩ := id hl
  simp only at hc hd
  subst hc hd
  exact rc_eq_decline_or (k := false) (typeIs_str s b u) ⟨_, ho, rfl⟩ (by decide) F.sub_dict_str F.slot_str_eq F.slot_dict_eq_refl
    (fun _ hq => call_meets F.slot_str_eq (typeIs_str s b u) F.entry_str_eq (F.args_str_eq_2 _ _) (str_eq_declines_dict_str b u l es ep dd sl) ⟨ho, hq⟩)
    (fun _ hq => call_meets F.slot_dict_eq_refl ⟨_, ho, rfl⟩ F.entry_dict_eq (F.args_dict_eq_2 _ _) (dict_eq_declines_str l es ep dd sl b u) ⟨ho, hq⟩)
    (fun _ hq => wpAny_of_eq (rfl : isSame (.str b u) (.ref l) = pure false) hq) (.inr hu) h
theorem EqAt.str_dict {l : Addr} (b : Str) (u : Tok) (hl : IsDct s l) (hu : A.units < cLine) : EqAt A s (.str b u) (.ref l) false := fun prog w E Q h => by
  unfold eqBool
  refine wpAny_holding ?_
  refine wpAny_ite_split (fun hab => absurd (eq_of_beq hab) nofun) (fun _ => ?_)
  exact wpAny_bind (RcAt.str_dict b u hl hu prog w E _ (wpAny_truthy_bool h))
theorem ne_of_dict_list {l b : Addr} {items : Array Value} (hl : IsDct s l) (hb : s.heap.IsList b items) : l ≠ b := fun e => by
  subst e
  obtain ⟨o, ho, hc, _⟩ := hl
  obtain ⟨o2, ho2, hc2, _⟩ := hb
  rw [ho] at ho2
  cases ho2
  rw [hc] at hc2
  revert hc2; decide
theorem RcAt.dict_list {l b : Addr} {items : Array Value} (hl : IsDct s l) (hb : s.heap.IsList b items) (hu : A.units < cLine) : RcAt A s (.ref l) (.ref b) false := fun prog w E Q h => by
  have hne := ne_of_dict_list hl hb
  obtain ⟨⟨cls, dd, dt, sl⟩, ho, hc, es, ep, hd⟩ := id hl
  obtain ⟨⟨cls2, dd2, data2, sl2⟩, ho2, hc2, n, hd2⟩ := id hb
  simp only at hc hd hc2 hd2
  subst hc hd hc2 hd2
  exact (rc_eq_decline_or (k := false) ⟨_, ho, rfl⟩ ⟨_, ho2, rfl⟩ (by decide) F.sub_list_dict F.slot_dict_eq F.slot_list_eq_refl
    (fun _ hq => call_meets F.slot_dict_eq ⟨_, ho, rfl⟩ F.entry_dict_eq (F.args_dict_eq_2 _ _) (dict_eq_declines_list l b es ep dd sl items n dd2 sl2) ⟨ho, ho2, hq⟩)
    (fun _ hq => call_meets F.slot_list_eq_refl ⟨_, ho2, rfl⟩ F.entry_list_eq (F.args_list_eq_2 _ _) (list_eq_declines_dict l b es ep dd sl items n dd2 sl2) ⟨ho, ho2, hq⟩)
    (fun _ hq => wpAny_isSame_ref_other hne ho ho2 (by simp) hq) (.inr hu) h)
theorem RcAt.list_dict {l b : Addr} {items : Array Value} (hl : IsDct s l) (hb : s.heap.IsList b items) (hu : A.units < cLine) : RcAt A s (.ref b) (.ref l) false := fun prog w E Q h => by
  have hne := (ne_of_dict_list hl hb).symm
  obtain ⟨⟨cls, dd, dt, sl⟩, ho, hc, es, ep, hd⟩ := id hl
  obtain ⟨⟨cls2, dd2, data2, sl2⟩, ho2, hc2, n, hd2⟩ := id hb
  simp only at hc hd hc2 hd2
  subst hc hd hc2 hd2
  exact (rc_eq_decline_or (k := false) ⟨_, ho2, rfl⟩ ⟨_, ho, rfl⟩ (by decide) F.sub_dict_list F.slot_list_eq F.slot_dict_eq_refl
    (fun _ hq => call_meets F.slot_list_eq ⟨_, ho2, rfl⟩ F.entry_list_eq (F.args_list_eq_2 _ _) (list_eq_declines_dict l b es ep dd sl items n dd2 sl2) ⟨ho, ho2, hq⟩)
    (fun _ hq => call_meets F.slot_dict_eq_refl ⟨_, ho, rfl⟩ F.entry_dict_eq (F.args_dict_eq_2 _ _) (dict_eq_declines_list l b es ep dd sl items n dd2 sl2) ⟨ho, ho2, hq⟩)
    (fun _ hq => wpAny_isSame_ref_other' hne ho2 ho (by simp) hq) (.inr hu) h)
theorem EqAt.dict_list {l b : Addr} {items : Array Value} (hl : IsDct s l) (hb : s.heap.IsList b items) (hu : A.units < cLine) : EqAt A s (.ref l) (.ref b) false := .of_refs (ne_of_dict_list hl hb) (.dict_list hl hb hu)
theorem EqAt.list_dict {l b : Addr} {items : Array Value} (hl : IsDct s l) (hb : s.heap.IsList b items) (hu : A.units < cLine) : EqAt A s (.ref b) (.ref l) false := .of_refs (ne_of_dict_list hl hb).symm (.list_dict hl hb hu)
theorem ne_of_dict_tuple {l b : Addr} {items : Array Value} (hl : IsDct s l) (hb : s.heap.IsTuple b items) : l ≠ b := fun e => by
  subst e
  obtain ⟨o, ho, hc, _⟩ := hl
  obtain ⟨o2, ho2, hc2, _⟩ := hb
  rw [ho] at ho2
  cases ho2
  rw [hc] at hc2
  revert hc2; decide
theorem RcAt.dict_tuple {l b : Addr} {items : Array Value} (hl : IsDct s l) (hb : s.heap.IsTuple b items) (hu : A.units < cLine) : RcAt A s (.ref l) (.ref b) false := fun prog w E Q h => by
  have hne := ne_of_dict_tuple hl hb
  obtain ⟨⟨cls, dd, dt, sl⟩, ho, hc, es, ep, hd⟩ := id hl
  obtain ⟨⟨cls2, dd2, data2, sl2⟩, ho2, hc2, n, hd2⟩ := id hb
  simp only at hc hd hc2 hd2
  subst hc hd hc2 hd2
  exact (rc_eq_decline_or (k := false) ⟨_, ho, rfl⟩ ⟨_, ho2, rfl⟩ (by decide) F.sub_tuple_dict F.slot_dict_eq F.slot_tuple_eq_refl
    (fun _ hq => call_meets F.slot_dict_eq ⟨_, ho, rfl⟩ F.entry_dict_eq (F.args_dict_eq_2 _ _) (dict_eq_declines_tuple l b es ep dd sl items n dd2 sl2) ⟨ho, ho2, hq⟩)
    (fun _ hq => call_meets F.slot_tuple_eq_refl ⟨_, ho2, rfl⟩ F.entry_tuple_eq (F.args_tuple_eq_2 _ _) (tuple_eq_declines_dict l b es ep dd sl items n dd2 sl2) ⟨ho, ho2, hq⟩)
    (fun _ hq => wpAny_isSame_ref_other hne ho ho2 (by simp) hq) (.inr hu) h)
theorem RcAt.tuple_dict {l b : Addr} {items : Array Value} (hl : IsDct s l) (hb : s.heap.IsTuple b items) (hu : A.units < cLine) : RcAt A s (.ref b) (.ref l) false := fun prog w E Q h => by
  have hne := (ne_of_dict_tuple hl hb).symm
  obtain ⟨⟨cls, dd, dt, sl⟩, ho, hc, es, ep, hd⟩ := id hl
  obtain ⟨⟨cls2, dd2, data2, sl2⟩, ho2, hc2, n, hd2⟩ := id hb
  simp only at hc hd hc2 hd2
  subst hc hd hc2 hd2
  exact (rc_eq_decline_or (k := false) ⟨_, ho2, rfl⟩ ⟨_, ho, rfl⟩ (by decide) F.sub_dict_tuple F.slot_tuple_eq F.slot_dict_eq_refl
    (fun _ hq => call_meets F.slot_tuple_eq ⟨_, ho2, rfl⟩ F.entry_tuple_eq (F.args_tuple_eq_2 _ _) (tuple_eq_declines_dict l b es ep dd sl items n dd2 sl2) ⟨ho, ho2, hq⟩)
    (fun _ hq => call_meets F.slot_dict_eq_refl ⟨_, ho, rfl⟩ F.entry_dict_eq (F.args_dict_eq_2 _ _) (dict_eq_declines_tuple l b es ep dd sl items n dd2 sl2) ⟨ho, ho2, hq⟩)
    (fun _ hq => wpAny_isSame_ref_other' hne ho2 ho (by simp) hq) (.inr hu) h)
theorem EqAt.dict_tuple {l b : Addr} {items : Array Value} (hl : IsDct s l) (hb : s.heap.IsTuple b items) (hu : A.units < cLine) : EqAt A s (.ref l) (.ref b) false := .of_refs (ne_of_dict_tuple hl hb) (.dict_tuple hl hb hu)
theorem EqAt.tuple_dict {l b : Addr} {items : Array Value} (hl : IsDct s l) (hb : s.heap.IsTuple b items) (hu : A.units < cLine) : EqAt A s (.ref b) (.ref l) false := .of_refs (ne_of_dict_tuple hl hb).symm (.tuple_dict hl hb hu)
end
end PySem.SeqAt
/-! ### data of any kind compared: == and in, where not both sides hold dicts -/
namespace VL
open PySem PySem.Spec PyProof.Rows L2
mutual
/-- no dict inside -/
def dfree : PyData → Bool
  | .none | .bool _ | .int _ | .str _ => true
  | .list xs | .tuple xs => dfrees xs
  | _ => false
def dfrees : List PyData → Bool
  | [] => true
  | x :: xs => dfree x && dfrees xs
end
def flatD : PyData → Bool
  | .none | .bool _ | .int _ | .str _ => true
  | _ => false
def toV : PyData → V
  | .bool b => .bl b
  | .int i => .int i
  | .str s => .str s
  | _ => .non
mutual
def eqvT : PyData → PyData → Bool
  | .list xs, .list ys => eqvTs xs ys
  | .tuple xs, .tuple ys => eqvTs xs ys
  | d, e => flatD d && flatD e && eqV (toV d) (toV e)
def eqvTs : List PyData → List PyData → Bool
  | [], [] => true
  | x :: xs, y :: ys => eqvT x y && eqvTs xs ys
  | _, _ => false
end
theorem depth_mem {xs : List PyData} {x : PyData} (h : x ∈ xs) : PyData.depth x ≤ PyData.depthAll xs := by
  induction xs with
  | nil => cases h
  | cons y ys ih =>
    simp only [PyData.depthAll]
    rcases List.mem_cons.mp h with rfl | h
    · omega
    · have := ih h; omega
section
variable {H : Hp}
theorem dqAll_at {vs : List V} {ds : List PyData} (h : DqAll H vs ds) : vs.length = ds.length ∧ ∀ (j : Nat) (x : V), vs[j]? = some x → ∃ d, ds[j]? = some d ∧ Dq H x d := by
  induction ds generalizing vs with
  | nil =>
    cases h
    exact ⟨rfl, fun j x h => by simp at h⟩
  | cons d ds ih =>
    cases h with
    | cons a b =>
      obtain ⟨l, r⟩ := ih b
      refine ⟨by rw [List.length_cons, List.length_cons, l], fun j x hx => ?_⟩
      cases j with
      | zero => cases hx; exact ⟨d, rfl, a⟩
      | succ j => exact r j x hx
end
section
variable {X : Cx} {pins : List (Addr × Obj)} {σ : L2.St} {H : Hp} {s : Shared}
theorem isDct (I : Inv X pins σ H s) {a : Addr} {ks : List (Key × V)} (h : H a = some (.dK ks)) : SeqAt.IsDct s a := by
  obtain ⟨_, _, va, _, o, es, ep, ho, hx, hd, _⟩ := (show ObjOk X.prog X.w H s.heap a (.dK ks) from I.hok a _ h)
  exact ⟨o, ho, hx.1, es, ep, hd⟩
theorem isLst (I : Inv X pins σ H s) {a : Addr} {xs : List V} (h : H a = some (.lst xs)) : ∃ us, Vals xs us ∧ s.heap.IsList a us.toArray := by
  obtain ⟨us, r, p, _⟩ := I.list (SqL.of (K := X.K) h)
  exact ⟨us, r, p.isList⟩
theorem isTpl (I : Inv X pins σ H s) {a : Addr} {xs : List V} (h : H a = some (.tup xs)) : ∃ us, Vals xs us ∧ s.heap.IsTuple a us.toArray := by
  obtain ⟨us, r, p, _⟩ := I.tuple (SqT.of (K := X.K) h)
  exact ⟨us, r, tup_of p⟩
/-- by ==, in a container and at the top -/
def Both (A : Around) (s : Shared) (v u : Value) (b : Bool) : Prop := SeqAt.RcAt A s v u b ∧ SeqAt.EqAt A s v u b
theorem mix_l {A : Around} {l : Addr} {items : Array Value} {y : V} {u : Value} (hl : s.heap.IsList l items) (ry : RelV y u) (fy : flatV y = true) (hu : A.units < cLine) : Both A s (.ref l) u false ∧ Both A s u (.ref l) false := by
  cases y with
  | non => cases ry; exact ⟨⟨.list_none hl hu, .list_none hl hu⟩, .none_list hl hu, .none_list hl hu⟩
  | bl b => cases ry; exact ⟨⟨.list_bool b hl hu, .list_bool b hl hu⟩, .bool_list b hl hu, .bool_list b hl hu⟩
  | int i => obtain ⟨t, rfl⟩ := ry; exact ⟨⟨.list_int i t hl hu, .list_int i t hl hu⟩, .int_list i t hl hu, .int_list i t hl hu⟩
  | str z => obtain ⟨t, rfl⟩ := ry; exact ⟨⟨.list_str z t hl hu, .list_str z t hl hu⟩, .str_list z t hl hu, .str_list z t hl hu⟩
  | _ => cases fy
theorem mix_t {A : Around} {l : Addr} {items : Array Value} {y : V} {u : Value} (hl : s.heap.IsTuple l items) (ry : RelV y u) (fy : flatV y = true) (hu : A.units < cLine) : Both A s (.ref l) u false ∧ Both A s u (.ref l) false := by
  cases y with
  | non => cases ry; exact ⟨⟨.tuple_none hl hu, .tuple_none hl hu⟩, .none_tuple hl hu, .none_tuple hl hu⟩
  | bl b => cases ry; exact ⟨⟨.tuple_bool b hl hu, .tuple_bool b hl hu⟩, .bool_tuple b hl hu, .bool_tuple b hl hu⟩
  | int i => obtain ⟨t, rfl⟩ := ry; exact ⟨⟨.tuple_int i t hl hu, .tuple_int i t hl hu⟩, .int_tuple i t hl hu, .int_tuple i t hl hu⟩
  | str z => obtain ⟨t, rfl⟩ := ry; exact ⟨⟨.tuple_str z t hl hu, .tuple_str z t hl hu⟩, .str_tuple z t hl hu, .str_tuple z t hl hu⟩
  | _ => cases fy
theorem mix_d {A : Around} {l : Addr} {y : V} {u : Value} (hl : SeqAt.IsDct s l) (ry : RelV y u) (fy : flatV y = true) (hu : A.units < cLine) : Both A s (.ref l) u false ∧ Both A s u (.ref l) false := by
  cases y with
  | non => cases ry; exact ⟨⟨.dict_none hl hu, .dict_none hl hu⟩, .none_dict hl hu, .none_dict hl hu⟩
  | bl b => cases ry; exact ⟨⟨.dict_bool b hl hu, .dict_bool b hl hu⟩, .bool_dict b hl hu, .bool_dict b hl hu⟩
  | int i => obtain ⟨t, rfl⟩ := ry; exact ⟨⟨.dict_int i t hl hu, .dict_int i t hl hu⟩, .int_dict i t hl hu, .int_dict i t hl hu⟩
  | str z => obtain ⟨t, rfl⟩ := ry; exact ⟨⟨.dict_str z t hl hu, .dict_str z t hl hu⟩, .str_dict z t hl hu, .str_dict z t hl hu⟩
  | _ => cases fy
end
end VL
/-! ### == and in over any data; an own o[i] that may raise; a returned list that is appended to -/
namespace L2
open PySem PySem.Spec PyProof.Rows
/-- o[i] of a class with its own __getitem__ that may raise -/
def rOwnIxS (C : Addr) (sp : Sp) (E : St → XK) : St → R2 := fun σ => rOwnIx C sp (E σ)
theorem pe_ixOwnS {X : Cx} {CX : CXT} {k : Nat} {C g : Addr} {fd : FuncData} {ps : List Str} {sp : Sp} {E : St → XK} {e i : Expr} {pos : Pos} {ta ti : TE} (c : Cls X.K C) (hs : PySem.W.findIn X.K (.ref C) "__getitem__" = some (some (.ref g))) (hf : PySem.W.fnIn X.K g = true) (hfn : PySem.W.isFn X.K (.ref g) = true)
    (F : FnOk X.prog X.w X.K X.mg X.base CX k g fd ps sp) (hr : Room (k + 1) X.A) (hb : Binds X.K fd ps []) (hx : ∀ σ, PassesAt CX X σ (E σ)) (he : PE X e ta) (hi : PE X i ti)
    (hsl : ∀ v u, subscripted i true v u = runValue (.builtin "lifetime.subscript" ⟨[v, u], []⟩) := by intros; with_unfolding_all rfl) : PE X (.Subscript e i pos) (tOpS (rOwnIxS C sp E) ta ti) := by
  refine ⟨fun pins s σ H Q I h => Subscript_ (binT he hi I h fun v u s2 x y H2 I2 rx ry q => ?_)⟩
  obtain ⟨a, dx, fs, rfl, ea, q⟩ := q
  obtain rfl : v = Value.ref a := rx
  obtain ⟨mA, O, _, _, _, _⟩ := ins_get I2.hok ea
  obtain ⟨od, J, _⟩ := O.look
  obtain ⟨m, fr⟩ := I2.fr
  have hv : Vals [V.ref a, y] [Value.ref a, u] := .cons rfl (.cons ry .nil)
  have hl : ([Value.ref a, u] ++ ([] : List Value)).length = ps.length := by
    rw [List.append_nil, ← hv.length]
    exact F.len _ _ _ _ q
  refine PySem.W.sub_K fr I2.ok.mod.kin J hs hf hfn (wpAny_call (codeAny_mono (F.run X.A.in1 X.stack s2 H2 ⟨[.ref a, u], []⟩ ([.ref a, u] ++ []) [.ref a, y] Q (E σ) hr.in1 I2.env0.in1 (hb s2 [.ref a, u] I2.kIn hl) (by rw [List.append_nil]; exact hv) q) fun r s' hq => ?_)) (hsl _ _)
  cases r with
  | error er => exact hx σ pins H2 s2 er s' I2 hq
  | ok fl =>
    cases fl with
    | ret z => exact I2.after hq
    | next => exact False.elim hq
    | brk => exact False.elim hq
    | cont => exact False.elim hq
end L2
namespace VL
open PySem PySem.Spec PyProof.Rows L2
def M.eqX (d e : PyData) : M Bool := fun Φ _ n => (dfree d = true ∨ dfree e = true) ∧ PyData.depth d ≤ 60 ∧ Φ (eqvT d e) n
def M.inX (neg : Bool) (d : PyData) (ds : List PyData) : M Bool := fun Φ _ n => dfrees ds = true ∧ PyData.depthAll ds ≤ 60 ∧ Φ (neg ^^ ds.any fun z => eqvT z d) n
@[irreducible] def Mi.eqX (d e : PyData) : M Bool := M.eqX d e
@[irreducible] def Mi.inX (neg : Bool) (d : PyData) (ds : List PyData) : M Bool := M.inX neg d ds
def M.datT (d : PyData) : M (List PyData) := fun Φ _ n => ∃ ds, d = .tuple ds ∧ Φ ds n
@[irreducible] def Mi.datT (d : PyData) : M (List PyData) := M.datT d
section
variable {C : Cfg} {α β γ ρ : Type} {ps : List SL} {te ta tb : TE} {Cl : Addr} {Rr : ρ → SL}
theorem ve_ixOwnR {fl : α → List (Str × VP)} {Rb : β → VP} {Rc : γ → SL} {F : α × β × Unit → M γ} {Rs : α × β × Unit → List VP} {m : M α} {m2 : M β} (h : VE C ta ps m (Fz fun a => rIns Cl (fl a))) (h2 : VE C tb ps m2 (Fz Rb))
    (hR : ∀ q, Rs q = [rIns Cl (fl q.1), Rb q.2.1] := by intro _; rfl) (hr : ∀ b p, Rc b ≠ .bo p := by intro _ _ h; cases h) :
    VE C (tOpS (rOwnIxS Cl (spG C.mg C.K C.TB Rs F Rc) (fun σ => C.Ew σ)) ta tb) ps (M.bind m fun a => M.bind m2 fun b => F (a, b, ())) Rc := by
  intro σ G W H n Q Φ Ψ e st hm k x
  refine h σ G W H n _ (fun a n' => M.bind m2 (fun b => F (a, b, ())) Φ Ψ n') Ψ e st hm ?_ x
  rintro a n1 v G1 W1 H1 hm1 s1 t1 v0 _
  have st1 := st.stp s1 t1
  refine h2 σ G1 W1 H1 n1 _ (fun b n' => F (a, b, ()) Φ Ψ n') Ψ (e.stp s1) st1 hm1 ?_ (x.stp s1)
  rintro b n2 w G2 W2 H2 hm2 s2 t2 w0 _
  have st2 := st1.stp s2 t2
  have v1 := (rIns Cl (fl a)).up s2.g v0
  have v2 := v1
  obtain ⟨p, o, rfl, h1, dx, fs, rfl, _⟩ := v1
  exact ⟨p, dx, fs, rfl, st2.gh _ _ h1, C.Θ, (a, b, ()), G2, W2, n2, Φ, Ψ, by rw [hR]; exact .cons v2 (.cons w0 .nil), st2.gw, st2.t, hm2, fun c n3 v G3 W3 H3 hΦ s3 t3 r3 f3 => (k.stp (s1.trans s2)) c n3 v G3 W3 H3 hΦ s3 t3 (res_call st2.bw r3 (hr c)) f3, fun y n3 cls d G3 W3 H3 hΨ q s3 t3 => x y n3 cls d G3 W3 H3 hΨ q ((s1.trans s2).trans s3) t3⟩
/-! ### ("told", a new list) -/
structure Plain (ps : List SL) : Prop where
  ow : ∀ (j : Nat) (c : CP), ps[j]? ≠ some (.ow c)
  bo : ∀ (j : Nat) (p : VP), ps[j]? ≠ some (.bo p)
theorem Plain.set {p : VP} {i : Nat} (h : Plain ps) : Plain (ps.set i (.fr p)) :=
  ⟨fun j c z => by
    rcases getElem_set z with ⟨_, z, _⟩ | ⟨_, z⟩
    · cases z
    · exact h.ow j c z, fun j c z => by
    rcases getElem_set z with ⟨_, z, _⟩ | ⟨_, z⟩
    · cases z
    · exact h.bo j c z⟩
end
end VL
/-! ### data that is a pair -/
namespace VL
open PySem PySem.Spec PyProof.Rows L2
def M.datP2 (d : PyData) : M (PyData × PyData) := fun Φ _ n => ∃ x y, d = .tuple [x, y] ∧ Φ (x, y) n
@[irreducible] def Mi.datP2 (d : PyData) : M (PyData × PyData) := M.datP2 d
end VL
namespace L2
open PySem PySem.Spec PyProof.Rows
theorem call_isiF {X : Cx} {K : PySem.W.Frag} (hk : X.K = K) : CallR X (.builtin "isinstance") (rIsi K) := by subst hk; exact call_isi
end L2
namespace HotX
open PySem PySem.Spec PyProof.Rows
end HotX
namespace HotX
open PySem PySem.Spec PyProof.Rows
end HotX
namespace L2H
open PySem PySem.Spec PyProof.Rows L2 HotX
end L2H
namespace L2N
open PySem PySem.Spec PyProof.Rows L2
theorem takes0 {X : Cx} : Takes X (fun _ _ _ _ => False) := fun _ _ x => by
  obtain ⟨_, _, _, _, _, _, _, _, _, _, _, _, _, _, _, _, z⟩ := x
  exact z.elim
end L2N
namespace L2N
open PySem PySem.Spec PyProof.Rows L2
end L2N
namespace L2H
open PySem PySem.Spec PyProof.Rows L2 HotX
theorem FnH.imp {P : Program} {w : World} {K : PySem.W.Frag} {mg : Str → Option Value} {base : Heap} {CX : CXT} {k : Nat} {f : Addr} {fd : FuncData} {ps : List Str} {sp sp' : Sp} (F : FnH P w K mg base CX k f fd ps sp)
    (h : ∀ vs H Q E, sp' vs H Q E → sp vs H Q E) : FnH P w K mg base CX k f fd ps sp' :=
  ⟨fun vs H Q E q => F.len vs H Q E (h _ _ _ _ q), fun A outer s H args us vs Q E p hr hot hp he hb hv hs => F.run A outer s H args us vs Q E p hr hot hp he hb hv (h _ _ _ _ hs)⟩
end L2H
namespace L2P
open PySem PySem.Spec PyProof.Rows L2 HotX L2H
abbrev St := L2.St
/-! ### list comprehensions while an exception is handled -/
/-- the handled exception stands, out of reach, in every state of the context -/
structure HotQ (X : Cx) (p : Addr × Obj) : Prop where
  hot : Hot1 X.A p
  pin : ∀ (pins : List (Addr × Obj)) (σ : St) (H : Hp) (s : Shared), Inv X pins σ H s → PinOk X.stack H s p
  fp : ∀ (pins : List (Addr × Obj)) (σ : St) (H : Hp) (s : Shared) (b : Addr), Inv X pins σ H s → FpOk X pins H b → b ≠ p.1
def HotP (X : Cx) : Prop := ∃ p, HotQ X p
theorem HotP.at {X : Cx} {pins : List (Addr × Obj)} {σ : St} {H : Hp} {s : Shared} (c : HotP X) (I : Inv X pins σ H s) : ∃ x1, HotAt X.A x1 s.heap := by
  obtain ⟨p, ⟨⟨hh, vs, e, e2⟩, hp, _⟩⟩ := c
  exact ⟨p.1, hh, p.2, vs, (hp _ _ _ _ I).get, e, e2⟩
theorem HotP.blk {X : Cx} {pins : List (Addr × Obj)} {σ : St} {H : Hp} {s : Shared} {scope : Scope} {ce : Env} {fp : List Addr} (c : HotP X) (I : Inv X pins σ H s) (hfp : ∀ b ∈ fp, FpOk X pins H b) : HotP (X.blk s H scope ce fp) := by
  obtain ⟨p, q⟩ := c
  have P := q.pin _ _ _ _ I
  have nfp : p.1 ∉ fp := fun hm => q.fp _ _ _ _ _ I (hfp _ hm) rfl
  refine ⟨p, q.hot, fun pins' σ' H' s' I' => ⟨I'.base.keep p.1 p.2 P.get P.free P.nofs nfp, I'.base.free p.1 p.2 P.get P.free nfp, P.nofs, P.nocell⟩, fun pins' σ' H' s' b I' f => ?_⟩
  obtain ⟨_, _, _, f3, _, _⟩ := f
  rcases f3 with z | z
  · exact fun e => nfp (e ▸ z)
  · have := Heap.lt_size P.get
    exact fun e => by
      rw [e] at z
      exact absurd (Nat.lt_of_lt_of_le this z) (Nat.lt_irrefl _)
end L2P
namespace VL
open PySem PySem.Spec PyProof.Rows L2
/-! ### pairs as tuples, in lists and tuples -/
/-! ### dicts and instances look at no list -/
class LFv (U : VP) : Prop where
  lf : ∀ {v : V} {G : Hp} {p : Addr} {us : List V}, G p = some (.lst us) → U.P v G → U.P v (del G p)
instance {α : Type} {R : α → VP} {a : α} [LF R] : LFv (R a) := ⟨fun h k => LF.lf (R := R) h k⟩
theorem LF.repsD {α : Type} {R : α → VP} [LF R] {G : Hp} {p : Addr} {us : List V} (hp : G p = some (.lst us)) : ∀ {d : List (Str × α)} {ks : List (Key × V)}, VL.repsD R d ks G → VL.repsD R d ks (del G p)
  | [], [], _ => trivial
  | (_, _) :: _, (_, _) :: _, ⟨e, h, r⟩ => ⟨e, LF.lf hp h, LF.repsD hp r⟩
instance {α : Type} {R : α → VP} [LF R] : LF (rDct R) := ⟨fun hp ⟨q, ks, h, h1, h2⟩ => ⟨q, ks, h, del_keep hp h1 (fun _ h => nomatch h), LF.repsD hp h2⟩⟩
theorem lf_ins {α : Type} {Cl : Addr} {fl : α → List (Str × VP)} (hf : ∀ a, ∀ z ∈ fl a, LFv z.2) : LF (fun a => rIns Cl (fl a)) := ⟨fun {a v G p us} hp ⟨q, o, h, h1, dx, fs, e, k1, k2, k3⟩ =>
  ⟨q, o, h, del_keep hp h1 (fun us z => by rw [e] at z; cases z), dx, fs, e, fun z hz => let ⟨u, c1, c2⟩ := k1 z hz; ⟨u, c1, (hf a z hz).lf hp c2⟩, k2, k3⟩⟩
end VL
namespace VL
open PySem PySem.Spec PyProof.Rows L2
end VL
namespace L2N
open PySem PySem.Spec PyProof.Rows L2
end L2N
/-! ### data with dicts inside compared -/
namespace VL
open PySem PySem.Spec PyProof.Rows L2
/-- what stands at a text in a dict's data -/
def fndD (z : Str) : List (PyData × PyData) → Option PyData
  | [] => none
  | (.str y, d) :: ks => if y = z then some d else fndD z ks
  | _ :: ks => fndD z ks
mutual
def eqvD : PyData → PyData → Bool
  | .list xs, .list ys => eqvDs xs ys
  | .tuple xs, .tuple ys => eqvDs xs ys
  | .dict ks, .dict ls => ks.length == ls.length && eqvDk ks ls
  | d, e => flatD d && flatD e && eqV (toV d) (toV e)
def eqvDs : List PyData → List PyData → Bool
  | [], [] => true
  | x :: xs, y :: ys => eqvD x y && eqvDs xs ys
  | _, _ => false
def eqvDk : List (PyData × PyData) → List (PyData × PyData) → Bool
  | [], _ => true
  | (.str z, v) :: ks, ls => (match fndD z ls with | some y => eqvD v y | none => false) && eqvDk ks ls
  | _ :: _, _ => false
end
/-- every dict has texts as keys, each once -/
def keysD : List (PyData × PyData) → List Str
  | [] => []
  | (.str z, _) :: ks => z :: keysD ks
  | _ :: ks => keysD ks
mutual
def dok : PyData → Bool
  | .list xs | .tuple xs => doks xs
  | .dict ks => decide (keysD ks).Nodup && dokk ks
  | _ => true
def doks : List PyData → Bool
  | [] => true
  | x :: xs => dok x && doks xs
def dokk : List (PyData × PyData) → Bool
  | [] => true
  | (_, v) :: ks => dok v && dokk ks
end
section
variable {H : Hp}
/-- a value's data are unique -/
theorem dq_inj {v : V} {d : PyData} (h : Dq H v d) : ∀ e, Dq H v e → d = e :=
  Dq.rec (motive_1 := fun v d _ => ∀ e, Dq H v e → d = e) (motive_2 := fun vs ds _ => ∀ es, DqAll H vs es → ds = es) (motive_3 := fun ks ds _ => ∀ es, DqKv H ks es → ds = es)
    (fun e k => by cases k; rfl) (fun b e k => by cases k; rfl) (fun i e k => by cases k; rfl) (fun z e k => by cases k; rfl)
    (fun {a xs ds} h1 _ ih e k => by
      cases k with
      | lst h3 h4 => rw [h1] at h3; cases h3; rw [ih _ h4]
      | tup h3 _ => rw [h1] at h3; cases h3
      | dict h3 _ => rw [h1] at h3; cases h3)
    (fun {a xs ds} h1 _ ih e k => by
      cases k with
      | lst h3 _ => rw [h1] at h3; cases h3
      | tup h3 h4 => rw [h1] at h3; cases h3; rw [ih _ h4]
      | dict h3 _ => rw [h1] at h3; cases h3)
    (fun {a ks ds} h1 _ ih e k => by
      cases k with
      | lst h3 _ => rw [h1] at h3; cases h3
      | tup h3 _ => rw [h1] at h3; cases h3
      | dict h3 h4 => rw [h1] at h3; cases h3; rw [ih _ h4])
    (fun es k => by cases k; rfl) (fun _ _ i1 i2 es k => by
      cases k with
      | cons a b => rw [i1 _ a, i2 _ b])
    (fun es k => by cases k; rfl) (fun _ _ i1 i2 es k => by
      cases k with
      | cons a b => rw [i1 _ a, i2 _ b]) h
def prsD (ds : List (Str × PyData)) : List (PyData × PyData) := ds.map fun p => (.str p.1, p.2)
theorem fnd_prs (z : Str) : ∀ ds : List (Str × PyData), fndD z (prsD ds) = (ds.find? fun p => decide (p.1 = z)).map (·.2)
  | [] => rfl
  | (y, d) :: ds => by
    have ih := fnd_prs z ds
    show (if y = z then some d else fndD z (prsD ds)) = _
    rw [List.find?_cons, ih]
    by_cases e : y = z
    · rw [if_pos e]; simp [e]
    · rw [if_neg e]; simp [e]
theorem keys_prs : ∀ ds : List (Str × PyData), keysD (prsD ds) = ds.map (·.1)
  | [] => rfl
  | (y, d) :: ds => by
    show y :: keysD (prsD ds) = y :: ds.map (·.1)
    rw [keys_prs ds]
theorem kv_val {ks : List (Key × V)} {ds : List (Str × PyData)} (h : DqKv H ks ds) (z : Str) : (valV ks (.inr z) = none ∧ fndD z (prsD ds) = none) ∨ ∃ v d, valV ks (.inr z) = some v ∧ fndD z (prsD ds) = some d ∧ Dq H v d := by
  induction ds generalizing ks with
  | nil => cases h; exact .inl ⟨rfl, rfl⟩
  | cons q ds ih =>
    cases h with
    | @cons k v vs d _ a b =>
      rw [fnd_prs]
      unfold valV
      rw [List.find?_cons, List.find?_cons]
      by_cases e : k = z
      · subst e
        refine .inr ⟨v, d, ?_, ?_, a⟩ <;> simp
      · have e2 : ¬ (Sum.inr k : Key) = .inr z := fun x => e (Sum.inr.inj x)
        rw [decide_eq_false e, decide_eq_false (show ¬ ((Sum.inr k : Key), v).1 = .inr z from e2)]
        have := ih b
        rw [fnd_prs] at this
        exact this
theorem kv_in {ks : List (Key × V)} {ds : List (Str × PyData)} (h : DqKv H ks ds) {k : Key} {v : V} (hm : (k, v) ∈ ks) : ∃ z d, k = .inr z ∧ (z, d) ∈ ds ∧ Dq H v d := by
  induction ds generalizing ks with
  | nil => cases h; cases hm
  | cons q ds ih =>
    cases h with
    | @cons k' v' vs d _ a b =>
      rcases List.mem_cons.mp hm with e | hm
      · cases e
        exact ⟨_, _, rfl, List.mem_cons_self, a⟩
      · obtain ⟨z, d', e1, e2, e3⟩ := ih b hm
        exact ⟨z, d', e1, List.mem_cons_of_mem _ e2, e3⟩
theorem kv_len {ks : List (Key × V)} {ds : List (Str × PyData)} (h : DqKv H ks ds) : ks.length = ds.length := by
  induction ds generalizing ks with
  | nil => cases h; rfl
  | cons q ds ih =>
    cases h with
    | cons a b => rw [List.length_cons, List.length_cons, ih b]
end
theorem eqvDk_all {ls : List (PyData × PyData)} : ∀ ds : List (Str × PyData), eqvDk (prsD ds) ls = ds.all fun p => match fndD p.1 ls with | some y => eqvD p.2 y | none => false
  | [] => by simp [prsD, eqvDk]
  | (z, v) :: ds => by
    have ih := eqvDk_all (ls := ls) ds
    show eqvDk ((.str z, v) :: prsD ds) ls = _
    simp only [eqvDk, ih, List.all_cons]
theorem eqvDs_range : ∀ ds es : List PyData, eqvDs ds es = ((List.range (min ds.length es.length)).all (fun j => match ds[j]?, es[j]? with | some x, some y => eqvD x y | _, _ => true) && ds.length == es.length)
  | [], [] => by simp [eqvDs]
  | [], _ :: _ => by simp [eqvDs]
  | _ :: _, [] => by simp [eqvDs]
  | d :: ds, e :: es => by
    have ih := eqvDs_range ds es
    simp only [eqvDs, ih, List.length_cons]
    rw [show min (ds.length + 1) (es.length + 1) = min ds.length es.length + 1 by omega, List.range_succ_eq_map, List.all_cons, List.all_map]
    show (eqvD d e && _) = ((eqvD d e && _) && _)
    rw [Bool.and_assoc]
    congr 2
    by_cases h : ds.length = es.length <;> simp [h]
theorem fnd_self {ds : List (Str × PyData)} (nd : (ds.map (·.1)).Nodup) {z : Str} {d : PyData} (h : (z, d) ∈ ds) : fndD z (prsD ds) = some d := by
  rw [fnd_prs]
  induction ds with
  | nil => cases h
  | cons q ds ih =>
    rw [List.map_cons] at nd
    obtain ⟨n1, n2⟩ := List.nodup_cons.mp nd
    rw [List.find?_cons]
    rcases List.mem_cons.mp h with e | h
    · subst e; simp
    · have : ¬ q.1 = z := fun e => n1 (e ▸ List.mem_map.mpr ⟨_, h, rfl⟩)
      rw [decide_eq_false this]
      exact ih n2 h
end VL
namespace VL
open PySem PySem.Spec PyProof.Rows L2
section
variable {H : Hp}
theorem eqvD_refl {v : V} {d : PyData} (h : Dq H v d) : dok d = true → eqvD d d = true :=
  Dq.rec (motive_1 := fun _ d _ => dok d = true → eqvD d d = true) (motive_2 := fun _ ds _ => doks ds = true → eqvDs ds ds = true) (motive_3 := fun _ ds _ => dokk (prsD ds) = true → ∀ p ∈ ds, eqvD p.2 p.2 = true)
    (fun _ => by simp [eqvD, flatD, toV, eqV]) (fun b _ => by cases b <;> simp [eqvD, flatD, toV, eqV]) (fun i _ => by simp [eqvD, flatD, toV, eqV]) (fun z _ => by simp [eqvD, flatD, toV, eqV])
    (fun _ _ ih h => by simp only [eqvD]; exact ih (by simpa only [dok] using h))
    (fun _ _ ih h => by simp only [eqvD]; exact ih (by simpa only [dok] using h))
    (fun {a ks ds} _ _ ih h => by
      have h : dok (.dict (prsD ds)) = true := h
      have h : (decide (keysD (prsD ds)).Nodup && dokk (prsD ds)) = true := by simpa only [dok] using h
      obtain ⟨h1, h2⟩ := Bool.and_eq_true_iff.mp h
      have nd := of_decide_eq_true h1
      rw [keys_prs] at nd
      show eqvD (.dict (prsD ds)) (.dict (prsD ds)) = true
      simp only [eqvD, beq_self_eq_true, Bool.true_and]
      rw [eqvDk_all, List.all_eq_true]
      intro p hp
      rw [fnd_self nd hp]
      exact ih h2 p hp)
    (fun _ => by simp [eqvDs]) (fun _ _ i1 i2 h => by
      obtain ⟨h1, h2⟩ := Bool.and_eq_true_iff.mp (show (_ && _) = true by simpa only [doks] using h)
      simp only [eqvDs, i1 h1, i2 h2, Bool.and_self])
    (fun _ p hp => nomatch hp) (fun {k v vs d ds} _ _ i1 i2 h p hp => by
      obtain ⟨h1, h2⟩ := Bool.and_eq_true_iff.mp (show (dok d && dokk (prsD ds)) = true by
        have : dokk ((.str k, d) :: prsD ds) = true := h
        simpa only [dokk] using this)
      rcases List.mem_cons.mp hp with rfl | hp
      · exact i1 h1
      · exact i2 h2 p hp) h
theorem kv_keys {ks : List (Key × V)} {ds : List (Str × PyData)} (h : DqKv H ks ds) : ks.map (·.1) = ds.map fun p => (Sum.inr p.1 : Key) := by
  induction ds generalizing ks with
  | nil => cases h; rfl
  | cons q ds ih =>
    cases h with
    | cons a b => rw [List.map_cons, List.map_cons, ih b]
def kEq (ds es : List (Str × PyData)) : Key → Bool
  | .inr z => match fndD z (prsD ds), fndD z (prsD es) with | some d, some y => eqvD d y | _, _ => false
  | _ => false
theorem eqvD_dict {ks ls : List (Key × V)} {ds es : List (Str × PyData)} (a : DqKv H ks ds) (b : DqKv H ls es) (nd : (ds.map (·.1)).Nodup) :
    eqvD (.dict (prsD ds)) (.dict (prsD es)) = (ks.length == ls.length && ks.all fun p => (valV ls p.1).isSome && kEq ds es p.1) := by
  simp only [eqvD]
  rw [eqvDk_all, kv_len a, kv_len b, show (prsD ds).length = ds.length from List.length_map .., show (prsD es).length = es.length from List.length_map ..]
  congr 1
  have e1 : (ks.all fun p => (valV ls p.1).isSome && kEq ds es p.1) = (ks.map (·.1)).all fun k => (valV ls k).isSome && kEq ds es k := by rw [List.all_map]; rfl
  rw [e1, kv_keys a, List.all_map, Bool.eq_iff_iff, List.all_eq_true, List.all_eq_true]
  refine forall_congr' fun p => forall_congr' fun hp => ?_
  show _ ↔ ((valV ls (.inr p.1)).isSome && kEq ds es (.inr p.1)) = true
  have ek : kEq ds es (.inr p.1) = (match fndD p.1 (prsD es) with | some y => eqvD p.2 y | none => false) := by
    show (match fndD p.1 (prsD ds), fndD p.1 (prsD es) with | some d, some y => eqvD d y | _, _ => false) = _
    rw [fnd_self nd hp]
    cases fndD p.1 (prsD es) <;> rfl
  rw [ek]
  rcases kv_val b p.1 with ⟨h1, h2⟩ | ⟨v, d, h1, h2, _⟩
  · rw [h1, h2]; simp
  · rw [h1, h2]; simp
end
end VL
namespace VL
open PySem PySem.Spec PyProof.Rows L2
section
variable {X : Cx} {pins : List (Addr × Obj)} {σ : L2.St} {H : Hp} {s : Shared}
theorem doks_mem {xs : List PyData} (h : doks xs = true) : ∀ x ∈ xs, dok x = true := by
  induction xs with
  | nil => exact fun x hx => nomatch hx
  | cons y ys ih =>
    simp only [doks, Bool.and_eq_true] at h
    intro x hx
    rcases List.mem_cons.mp hx with rfl | hx
    · exact h.1
    · exact ih h.2 x hx
theorem dokk_mem {ds : List (Str × PyData)} (h : dokk (prsD ds) = true) : ∀ p ∈ ds, dok p.2 = true := by
  induction ds with
  | nil => exact fun x hx => nomatch hx
  | cons y ys ih =>
    have h : dokk ((.str y.1, y.2) :: prsD ys) = true := h
    simp only [dokk, Bool.and_eq_true] at h
    intro x hx
    rcases List.mem_cons.mp hx with rfl | hx
    · exact h.1
    · exact ih h.2 x hx
theorem depthKv_mem {ds : List (Str × PyData)} : ∀ p ∈ ds, PyData.depth p.2 ≤ PyData.depthKv (prsD ds) := by
  induction ds with
  | nil => exact fun x hx => nomatch hx
  | cons y ys ih =>
    intro x hx
    show PyData.depth x.2 ≤ PyData.depthKv ((.str y.1, y.2) :: prsD ys)
    simp only [PyData.depthKv]
    rcases List.mem_cons.mp hx with rfl | hx
    · omega
    · have := ih x hx; omega
theorem fnd_mem {z : Str} {d : PyData} : ∀ {ds : List (Str × PyData)}, fndD z (prsD ds) = some d → (z, d) ∈ ds
  | [], h => by cases h
  | (y, e) :: ds, h => by
    have h : (if y = z then some e else fndD z (prsD ds)) = some d := h
    by_cases k : y = z
    · rw [if_pos k] at h; cases h; rw [k]; exact List.mem_cons_self
    · rw [if_neg k] at h; exact List.mem_cons_of_mem _ (fnd_mem h)
/-- items one by one -/
def dAt (ds es : List PyData) (j : Nat) : Bool := match ds[j]?, es[j]? with | some x, some y => eqvD x y | _, _ => true
theorem eqvD_mix {d e : PyData} (h : flatD d = false ∨ flatD e = false) (h1 : ∀ xs ys, d = .list xs → e = .list ys → False) (h2 : ∀ xs ys, d = .tuple xs → e = .tuple ys → False) (h3 : ∀ xs ys, d = .dict xs → e = .dict ys → False) : eqvD d e = false := by
  unfold eqvD
  split
  · exact (h1 _ _ rfl rfl).elim
  · exact (h2 _ _ rfl rfl).elim
  · exact (h3 _ _ rfl rfl).elim
  · rcases h with h | h <;> simp [h]
theorem eqvD_flat {d e : PyData} (h : flatD d = true) (k : flatD e = true) : eqvD d e = eqV (toV d) (toV e) := by
  cases d <;> first | (cases h; done) | (cases e <;> first | (cases k; done) | simp [eqvD, flatD])
/-- data compared, dicts among them -/
theorem tree_D (I : Inv X pins σ H s) : ∀ (n : Nat) (d e : PyData) (x y : V) (v u : Value), PyData.depth d ≤ n → dok d = true → dok e = true → Dq H x d → Dq H y e → RelV x v → RelV y u → PySem.W.EqTree X.prog X.w s n v u (eqvD d e)
  | n, d, e, x, y, v, u, hn, od, oe, hx, hy, rx, ry => by
    have mixed : ∀ {b : Bool}, (∀ A : Around, A.units < cLine → SeqAt.EqAt A s v u b) → PySem.W.EqTree X.prog X.w s n v u b := fun h => .leaf fun A hu => h A (by omega)
    cases hx with
    | lst h1 h2 =>
      rename_i a xs ds
      obtain rfl : v = _ := rx
      obtain ⟨us, r1, p1⟩ := isLst I h1
      cases hy with
      | lst h3 h4 =>
        rename_i b ys es
        obtain rfl : u = _ := ry
        by_cases eab : a = b
        · subst eab
          have := dq_inj (.lst h1 h2) _ (.lst h3 h4)
          cases this
          rw [eqvD_refl (.lst h1 h2) od]
          exact .same
        obtain ⟨ws, r2, p2⟩ := isLst I h3
        obtain ⟨m, em⟩ : ∃ m, n = m + 1 := ⟨n - 1, by simp only [PyData.depth] at hn; omega⟩
        subst em
        have hm : PyData.depthAll ds ≤ m := by simp only [PyData.depth] at hn; omega
        have od' : doks ds = true := by simpa only [dok] using od
        have oe' : doks es = true := by simpa only [dok] using oe
        have l1 : us.toArray.size = ds.length := by rw [← (dqAll_at h2).1, r1.length]; simp
        have l2 : ws.toArray.size = es.length := by rw [← (dqAll_at h4).1, r2.length]; simp
        simp only [eqvD]
        rw [eqvDs_range]
        by_cases hl : ds.length = es.length
        · have t := PySem.W.EqTree.lists (prog := X.prog) (w := X.w) (s := s) (n := m) (e := dAt ds es) eab p1 p2 (by omega) fun j j1 j2 => by
            obtain ⟨p, hp, rp⟩ := vals_at r1 j j1
            obtain ⟨q, hq, rq⟩ := vals_at r2 j j2
            obtain ⟨dj, ej, hd⟩ := (dqAll_at h2).2 j p hp
            obtain ⟨dk, ek, he⟩ := (dqAll_at h4).2 j q hq
            have m1 := List.mem_of_getElem? ej
            have m2 := List.mem_of_getElem? ek
            have e0 : dAt ds es j = eqvD dj dk := by unfold dAt; rw [ej, ek]
            rw [e0]
            exact tree_D I m dj dk p q _ _ (Nat.le_trans (depth_mem m1) hm) (doks_mem od' _ m1) (doks_mem oe' _ m2) hd he rp rq
          rw [l1] at t
          rw [hl, Nat.min_self, beq_self_eq_true, Bool.and_true, ← hl]
          exact t
        · rw [show (ds.length == es.length) = false by simpa using hl, Bool.and_false]
          exact .listsLen eab p1 p2 (by rw [l1, l2]; simpa using hl)
      | tup h3 h4 =>
        obtain rfl : u = _ := ry
        obtain ⟨ws, r2, p2⟩ := isTpl I h3
        rw [eqvD_mix (.inl rfl) (by intro _ _ h h0; first | (cases h; done) | (cases h0; done)) (by intro _ _ h h0; first | (cases h; done) | (cases h0; done)) (by intro _ _ h h0; first | (cases h; done) | (cases h0; done))]
        exact mixed fun A hu => .list_tuple p1 p2 hu
      | dict h3 h4 =>
        obtain rfl : u = _ := ry
        rw [eqvD_mix (.inl rfl) (by intro _ _ h h0; first | (cases h; done) | (cases h0; done)) (by intro _ _ h h0; first | (cases h; done) | (cases h0; done)) (by intro _ _ h h0; first | (cases h; done) | (cases h0; done))]
        exact mixed fun A hu => .list_dict (isDct I h3) p1 hu
      | _ =>
        rw [eqvD_mix (.inl rfl) (by intro _ _ h h0; first | (cases h; done) | (cases h0; done)) (by intro _ _ h h0; first | (cases h; done) | (cases h0; done)) (by intro _ _ h h0; first | (cases h; done) | (cases h0; done))]
        exact mixed fun A hu => (mix_l p1 ry rfl hu).1.2
    | tup h1 h2 =>
      rename_i a xs ds
      obtain rfl : v = _ := rx
      obtain ⟨us, r1, p1⟩ := isTpl I h1
      cases hy with
      | tup h3 h4 =>
        rename_i b ys es
        obtain rfl : u = _ := ry
        by_cases eab : a = b
        · subst eab
          have := dq_inj (.tup h1 h2) _ (.tup h3 h4)
          cases this
          rw [eqvD_refl (.tup h1 h2) od]
          exact .same
        obtain ⟨ws, r2, p2⟩ := isTpl I h3
        obtain ⟨m, em⟩ : ∃ m, n = m + 1 := ⟨n - 1, by simp only [PyData.depth] at hn; omega⟩
        subst em
        have hm : PyData.depthAll ds ≤ m := by simp only [PyData.depth] at hn; omega
        have od' : doks ds = true := by simpa only [dok] using od
        have oe' : doks es = true := by simpa only [dok] using oe
        have l1 : us.toArray.size = ds.length := by rw [← (dqAll_at h2).1, r1.length]; simp
        have l2 : ws.toArray.size = es.length := by rw [← (dqAll_at h4).1, r2.length]; simp
        simp only [eqvD]
        rw [eqvDs_range]
        have t := PySem.W.EqTree.tuples (prog := X.prog) (w := X.w) (s := s) (n := m) (e := dAt ds es) eab p1 p2 fun j j1 j2 => by
          obtain ⟨p, hp, rp⟩ := vals_at r1 j j1
          obtain ⟨q, hq, rq⟩ := vals_at r2 j j2
          obtain ⟨dj, ej, hd⟩ := (dqAll_at h2).2 j p hp
          obtain ⟨dk, ek, he⟩ := (dqAll_at h4).2 j q hq
          have m1 := List.mem_of_getElem? ej
          have m2 := List.mem_of_getElem? ek
          have e0 : dAt ds es j = eqvD dj dk := by unfold dAt; rw [ej, ek]
          rw [e0]
          exact tree_D I m dj dk p q _ _ (Nat.le_trans (depth_mem m1) hm) (doks_mem od' _ m1) (doks_mem oe' _ m2) hd he rp rq
        rw [l1, l2] at t
        exact t
      | lst h3 h4 =>
        obtain rfl : u = _ := ry
        obtain ⟨ws, r2, p2⟩ := isLst I h3
        rw [eqvD_mix (.inl rfl) (by intro _ _ h h0; first | (cases h; done) | (cases h0; done)) (by intro _ _ h h0; first | (cases h; done) | (cases h0; done)) (by intro _ _ h h0; first | (cases h; done) | (cases h0; done))]
        exact mixed fun A hu => .tuple_list p1 p2 hu
      | dict h3 h4 =>
        obtain rfl : u = _ := ry
        rw [eqvD_mix (.inl rfl) (by intro _ _ h h0; first | (cases h; done) | (cases h0; done)) (by intro _ _ h h0; first | (cases h; done) | (cases h0; done)) (by intro _ _ h h0; first | (cases h; done) | (cases h0; done))]
        exact mixed fun A hu => .tuple_dict (isDct I h3) p1 hu
      | _ =>
        rw [eqvD_mix (.inl rfl) (by intro _ _ h h0; first | (cases h; done) | (cases h0; done)) (by intro _ _ h h0; first | (cases h; done) | (cases h0; done)) (by intro _ _ h h0; first | (cases h; done) | (cases h0; done))]
        exact mixed fun A hu => (mix_t p1 ry rfl hu).1.2
    | dict h1 h2 =>
      rename_i a ks ds
      obtain rfl : v = _ := rx
      have p1 := isDct I h1
      cases hy with
      | dict h3 h4 =>
        rename_i b ls es
        obtain rfl : u = _ := ry
        have od0 : dok (.dict (prsD ds)) = true := od
        have oe0 : dok (.dict (prsD es)) = true := oe
        by_cases eab : a = b
        · subst eab
          have q := dq_inj (.dict h1 h2) _ (.dict h3 h4)
          rw [← q, eqvD_refl (.dict h1 h2) od]
          exact .same
        have hn0 : PyData.depth (.dict (prsD ds)) ≤ n := hn
        obtain ⟨m, em⟩ : ∃ m, n = m + 1 := ⟨n - 1, by simp only [PyData.depth] at hn0; omega⟩
        subst em
        have hm : PyData.depthKv (prsD ds) ≤ m := by simp only [PyData.depth] at hn0; omega
        simp only [dok, Bool.and_eq_true] at od0 oe0
        have nd := of_decide_eq_true od0.1
        rw [keys_prs] at nd
        obtain ⟨_, ya, va, ra, da⟩ := (show ObjOk X.prog X.w H s.heap a (.dK ks) from I.hok a _ h1)
        obtain ⟨_, yb, vb, rb, db⟩ := (show ObjOk X.prog X.w H s.heap b (.dK ls) from I.hok b _ h3)
        have ea : ks.length = va.length := ra.length
        have eb : ls.length = vb.length := rb.length
        show PySem.W.EqTree X.prog X.w s (m + 1) (.ref a) (.ref b) (eqvD (.dict (prsD ds)) (.dict (prsD es)))
        rw [eqvD_dict h2 h4 nd, hits_allV (kEq ds es) ra rb, ea, eb]
        refine .dicts eab ya yb da db fun k v y hm' hv => ?_
        obtain ⟨v0, hm0, rv0⟩ := kv_mem ra hm'
        obtain ⟨y0, hy0, ry0⟩ := val_is rb hv
        obtain ⟨z, d0, rfl, hzd, dq0⟩ := kv_in h2 hm0
        rcases kv_val h4 z with ⟨z1, _⟩ | ⟨v1, d1, z1, z2, dq1⟩
        · rw [hy0] at z1; cases z1
        · rw [hy0] at z1
          cases z1
          have e0 : kEq ds es (.inr z) = eqvD d0 d1 := by
            show (match fndD z (prsD ds), fndD z (prsD es) with | some d, some y => eqvD d y | _, _ => false) = _
            rw [fnd_self nd hzd, z2]
          rw [e0]
          exact tree_D I m d0 d1 v0 y0 _ _ (Nat.le_trans (depthKv_mem _ hzd) hm) (dokk_mem od0.2 _ hzd) (dokk_mem oe0.2 _ (fnd_mem z2)) dq0 dq1 rv0 ry0
      | lst h3 h4 =>
        obtain rfl : u = _ := ry
        obtain ⟨ws, r2, p2⟩ := isLst I h3
        rw [eqvD_mix (.inl rfl) (by intro _ _ h h0; first | (cases h; done) | (cases h0; done)) (by intro _ _ h h0; first | (cases h; done) | (cases h0; done)) (by intro _ _ h h0; first | (cases h; done) | (cases h0; done))]
        exact mixed fun A hu => .dict_list p1 p2 hu
      | tup h3 h4 =>
        obtain rfl : u = _ := ry
        obtain ⟨ws, r2, p2⟩ := isTpl I h3
        rw [eqvD_mix (.inl rfl) (by intro _ _ h h0; first | (cases h; done) | (cases h0; done)) (by intro _ _ h h0; first | (cases h; done) | (cases h0; done)) (by intro _ _ h h0; first | (cases h; done) | (cases h0; done))]
        exact mixed fun A hu => .dict_tuple p1 p2 hu
      | _ =>
        rw [eqvD_mix (.inl rfl) (by intro _ _ h h0; first | (cases h; done) | (cases h0; done)) (by intro _ _ h h0; first | (cases h; done) | (cases h0; done)) (by intro _ _ h h0; first | (cases h; done) | (cases h0; done))]
        exact mixed fun A hu => (mix_d p1 ry rfl hu).1.2
    | _ =>
      cases hy with
      | lst h3 h4 =>
        obtain rfl : u = _ := ry
        obtain ⟨ws, r2, p2⟩ := isLst I h3
        rw [eqvD_mix (.inr rfl) (by intro _ _ h h0; first | (cases h; done) | (cases h0; done)) (by intro _ _ h h0; first | (cases h; done) | (cases h0; done)) (by intro _ _ h h0; first | (cases h; done) | (cases h0; done))]
        exact mixed fun A hu => (mix_l p2 rx rfl hu).2.2
      | tup h3 h4 =>
        obtain rfl : u = _ := ry
        obtain ⟨ws, r2, p2⟩ := isTpl I h3
        rw [eqvD_mix (.inr rfl) (by intro _ _ h h0; first | (cases h; done) | (cases h0; done)) (by intro _ _ h h0; first | (cases h; done) | (cases h0; done)) (by intro _ _ h h0; first | (cases h; done) | (cases h0; done))]
        exact mixed fun A hu => (mix_t p2 rx rfl hu).2.2
      | dict h3 h4 =>
        obtain rfl : u = _ := ry
        rw [eqvD_mix (.inr rfl) (by intro _ _ h h0; first | (cases h; done) | (cases h0; done)) (by intro _ _ h h0; first | (cases h; done) | (cases h0; done)) (by intro _ _ h h0; first | (cases h; done) | (cases h0; done))]
        exact mixed fun A hu => (mix_d (isDct I h3) rx rfl hu).2.2
      | _ =>
        rw [eqvD_flat rfl rfl]
        exact mixed fun A hu => eqAt_V rx ry rfl rfl
end
end VL
namespace L2
open PySem PySem.Spec PyProof.Rows
/-- != of two lists of data, dicts among them -/
def rNeXL : R2 := fun x y H Q => ∃ ds es, VL.Dq H x (.list ds) ∧ VL.Dq H y (.list es) ∧ VL.doks ds = true ∧ VL.doks es = true ∧ PyData.depthAll ds ≤ 60 ∧ Q (.bl (!VL.eqvDs ds es)) H
section
variable {X : Cx} {pins : List (Addr × Obj)} {σ : St} {H : Hp} {s : Shared}
theorem items_D (I : Inv X pins σ H s) {ds es : List PyData} {xs ys : List V} {us ws : List Value} (hn : PyData.depthAll ds ≤ 60) (od : VL.doks ds = true) (oe : VL.doks es = true) (h2 : VL.DqAll H xs ds) (h4 : VL.DqAll H ys es) (r1 : Vals xs us) (r2 : Vals ys ws) :
    ∀ j (j1 : j < us.toArray.size) (j2 : j < ws.toArray.size), PySem.W.EqTree X.prog X.w s 60 us.toArray[j] ws.toArray[j] (VL.dAt ds es j) := fun j j1 j2 => by
  obtain ⟨p, hp, rp⟩ := vals_at r1 j j1
  obtain ⟨q, hq, rq⟩ := vals_at r2 j j2
  obtain ⟨dj, ej, hd⟩ := (VL.dqAll_at h2).2 j p hp
  obtain ⟨dk, ek, he⟩ := (VL.dqAll_at h4).2 j q hq
  have m1 := List.mem_of_getElem? ej
  have m2 := List.mem_of_getElem? ek
  have e0 : VL.dAt ds es j = VL.eqvD dj dk := by unfold VL.dAt; rw [ej, ek]
  rw [e0]
  exact VL.tree_D I 60 dj dk p q _ _ (Nat.le_trans (VL.depth_mem m1) hn) (VL.doks_mem od _ m1) (VL.doks_mem oe _ m2) hd he rp rq
theorem op_neXL (hu : X.A.units + 100 < cLine) : OpR X (compareOp .NotEq) rNeXL := by
  rintro pins s σ H x y v u Q I rx ry ⟨ds, es, hd, he, od, oe, hn, q⟩
  cases hd with
  | lst h1 h2 =>
    cases he with
    | lst h3 h4 =>
      obtain rfl : v = _ := rx
      obtain rfl : u = _ := ry
      obtain ⟨us, r1, p1⟩ := VL.isLst I h1
      obtain ⟨ws, r2, p2⟩ := VL.isLst I h3
      have l1 : us.toArray.size = ds.length := by rw [← (VL.dqAll_at h2).1, r1.length]; simp
      have l2 : ws.toArray.size = es.length := by rw [← (VL.dqAll_at h4).1, r2.length]; simp
      rw [VL.eqvDs_range] at q
      by_cases hl : ds.length = es.length
      · rw [hl, Nat.min_self, beq_self_eq_true, Bool.and_true, ← hl, ← l1] at q
        refine SeqAt.neIn_lists (e := VL.dAt ds es) p1 p2 (by omega) (by omega) (fun j j1 j2 => ?_) ⟨.bl _, H, I, rfl, q⟩
        exact (items_D I hn od oe h2 h4 r1 r2 j j1 j2).at X.A.in1 (by show X.A.units + 1 + 60 < cLine; omega)
      · rw [show (ds.length == es.length) = false by simpa using hl, Bool.and_false] at q
        exact SeqAt.RcNeAt.lists_lengths p1 p2 (by rw [l1, l2]; simpa using hl) (by omega) X.prog X.w _ _ ⟨.bl _, H, I, rfl, q⟩
end
end L2
namespace VL
open PySem PySem.Spec PyProof.Rows L2
def M.neXL (ds es : List PyData) : M Bool := fun Φ _ n => doks ds = true ∧ doks es = true ∧ PyData.depthAll ds ≤ 60 ∧ Φ (!eqvDs ds es) n
def M.eqXL (ds es : List PyData) : M Bool := fun Φ _ n => doks ds = true ∧ doks es = true ∧ PyData.depthAll ds ≤ 60 ∧ Φ (eqvDs ds es) n
section
variable {C : Cfg} {α β : Type}
theorem v2_neXL {R : α → VP} {S : β → VP} [I : IsD R] [J : IsD S] : V2 C rNeXL (rLst R) (rLst S) (fun a b => M.neXL (a.map (IsD.d R)) (b.map (IsD.d S))) (Fz rBl) := by
  rintro a b v u σ G W H n Q Φ Ψ hv hu st ⟨h1, h2, h3, hm⟩ k x
  exact ⟨_, _, dq_up st.gh ((inferInstance : IsD (rLst R)).dq a v G hv), dq_up st.gh ((inferInstance : IsD (rLst S)).dq b u G hu), h1, h2, h3, k.hereF (a := !eqvDs (a.map (IsD.d R)) (b.map (IsD.d S))) st hm rfl⟩
end
end VL
namespace VL
open PySem PySem.Spec PyProof.Rows L2
/-! ### data that are tuples of texts, one by one -/
def M.datSs (ds : List PyData) : M (List (List Str)) := fun Φ _ n => ∃ xss : List (List Str), ds = xss.map (fun xs => PyData.tuple (xs.map PyData.str)) ∧ Φ xss n
@[irreducible] def Mi.datSs (ds : List PyData) : M (List (List Str)) := M.datSs ds
end VL
/-! ### x in [..] and x not in [..] where x has its own __eq__ and the items are data; what is never reached; isinstance of data -/
namespace L2
open PySem PySem.Spec PyProof.Rows
end L2
namespace VL
open PySem PySem.Spec PyProof.Rows L2
def dullD : PyData → Bool | .bool _ => false | _ => true
def M.inOwn {α : Type} (neg : Bool) (F : α × PyData × Unit → M Bool) (a : α) (ds : List PyData) : M Bool := fun Φ _ n => (∀ d ∈ ds, dullD d = true ∧ F (a, d, ()) (fun b n' => b = false ∧ n' = n) (fun _ _ => False) n) ∧ Φ neg n
@[irreducible] def Mi.inOwn {α : Type} (neg : Bool) (F : α × PyData × Unit → M Bool) (a : α) (ds : List PyData) : M Bool := M.inOwn neg F a ds
end VL
/-! ### a held object made of new lists: looked at, changed at the end, then let go -/
namespace VL
open PySem PySem.Spec PyProof.Rows L2
/-- a list of two items of two types -/
def rLL {α β : Type} (R : α → VP) (S : β → VP) (q : α × β) : VP := ⟨fun v G => ∃ p x y, v = .ref p ∧ G p = some (.lst [x, y]) ∧ (R q.1).P x G ∧ (S q.2).P y G,
  fun e ⟨p, x, y, h, h1, h2, h3⟩ => ⟨p, x, y, h, e _ _ h1, (R _).up e h2, (S _).up e h3⟩⟩
instance {α β : Type} {R : α → VP} {S : β → VP} [I : IsD R] [J : IsD S] : IsD (rLL R S) := ⟨fun q => .list [IsD.d R q.1, IsD.d S q.2], fun q v G ⟨p, x, y, e, h, h1, h2⟩ => by
  subst e; exact .lst h (.cons (I.dq _ _ _ h1) (.cons (J.dq _ _ _ h2) .nil))⟩
abbrev Cells := List (Addr × List V)
abbrev cAt (cs : Cells) : List Addr := cs.map (·.1)
def shG (G W : Hp) (cs : Cells) : Hp := fun x => if x ∈ (cAt cs) then W x else G x
def unG (G : Hp) (cs : Cells) : Hp := fun x => if x ∈ (cAt cs) then none else G x
theorem shG_in {G W : Hp} {cs : Cells} {x : Addr} (h : x ∈ (cAt cs)) : shG G W cs x = W x := if_pos h
theorem shG_no {G W : Hp} {cs : Cells} {x : Addr} (h : x ∉ (cAt cs)) : shG G W cs x = G x := if_neg h
theorem unG_in {G : Hp} {cs : Cells} {x : Addr} (h : x ∈ (cAt cs)) : unG G cs x = none := if_pos h
theorem unG_no {G : Hp} {cs : Cells} {x : Addr} (h : x ∉ (cAt cs)) : unG G cs x = G x := if_neg h
theorem LF.un {α : Type} {R : α → VP} [LF R] {a : α} {v : V} {G : Hp} (h : (R a).P v G) : ∀ {cs : Cells}, (∀ q ∈ cs, G q.1 = some (.lst q.2)) → (R a).P v (unG G cs)
  | [], _ => by
    have : unG G [] = G := funext fun x => unG_no (by simp)
    rw [this]; exact h
  | q :: cs, hc => by
    have ih := LF.un h (cs := cs) fun z hz => hc z (List.mem_cons_of_mem _ hz)
    by_cases hq : q.1 ∈ (cAt cs)
    · have : unG G (q :: cs) = unG G cs := funext fun x => by
        by_cases hx : x ∈ (cAt cs)
        · rw [unG_in hx, unG_in (List.mem_cons_of_mem _ hx)]
        · rw [unG_no hx, unG_no]
          intro h
          rcases List.mem_cons.mp h with e | e
          · exact hx (e ▸ hq)
          · exact hx e
      rw [this]; exact ih
    · have : unG G (q :: cs) = del (unG G cs) q.1 := funext fun x => by
        by_cases hx : x = q.1
        · subst hx; rw [del_at, unG_in List.mem_cons_self]
        · rw [del_ne hx]
          by_cases hy : x ∈ (cAt cs)
          · rw [unG_in hy, unG_in (List.mem_cons_of_mem _ hy)]
          · rw [unG_no hy, unG_no]
            intro h
            rcases List.mem_cons.mp h with e | e
            · exact hx e
            · exact hy e
      rw [this]
      exact LF.lf (by rw [unG_no hq]; exact hc q List.mem_cons_self) ih
structure NH (B : Hp) (li : Nat) (ps : List SL) (P : VP) (v : V) (cs : Cells) (σ : L2.St) (G W : Hp) : Prop where
  hv : σ[li]? = some (some v)
  un : ps[li]? = some .un
  ce : ∀ q ∈ cs, W q.1 = some (.lst q.2) ∧ G q.1 = none ∧ B q.1 = none
  sh : ∀ G', Same G G' → (∀ q ∈ cs, G' q.1 = some (.lst q.2)) → P.P v G'
  sep : ∀ {i : Nat} {c : CP} {a : Addr}, ps[i]? = some (.ow c) → σ[i]? = some (some (.ref a)) → a ∉ (cAt cs)
section
variable {C : Cfg} {ρ α β γ : Type} {Rr : ρ → SL} {B : Hp} {li : Nat} {ps : List SL} {P : VP} {v : V} {cs : Cells} {σ : L2.St} {G W G' W' H : Hp} {n : Nat} {te ta tb : TE} {tt : TT} {t u : TS} {S : V → Cells → Prop}
theorem NH.at_ (x : NH B li ps P v cs σ G W) {a : Addr} (h : a ∈ (cAt cs)) : ∃ us, W a = some (.lst us) ∧ G a = none ∧ B a = none := by
  obtain ⟨q, hq, rfl⟩ := List.mem_map.mp h
  exact ⟨_, x.ce q hq⟩
theorem NH.stp (x : NH B li ps P v cs σ G W) (s : Stp G W G' W') : NH B li ps P v cs σ G' W' :=
  ⟨x.hv, x.un, fun q hq => ⟨s.w _ _ (x.ce q hq).1, stp_no s (x.ce q hq).2.1 (x.ce q hq).1, (x.ce q hq).2.2⟩, fun G2 e => x.sh G2 (s.g.trans e), x.sep⟩
theorem NH.set (x : NH B li ps P v cs σ G W) {j : Nat} {s : SL} {u : V} (hj : j ≠ li) (f : ∀ c, s = .ow c → ∀ a, u = .ref a → a ∉ (cAt cs)) : NH B li (ps.set j s) P v cs (σ.set j (some u)) G W :=
  { x with
    hv := by rw [List.getElem?_set_ne hj]; exact x.hv
    un := by rw [List.getElem?_set_ne hj]; exact x.un
    sep := fun {i c a} h1 h2 => by
      rcases getElem_set h1 with ⟨rfl, e1, hl⟩ | ⟨hne, h1⟩
      · have : (σ.set i (some u))[i]? = some (some u) := by
          cases z : σ[i]? with
          | none => rw [List.getElem?_set] at h2; simp only [if_pos] at h2; split at h2 <;> first | (cases h2) | skip
                    rename_i hh; exact List.getElem?_set_self hh
          | some q => exact List.getElem?_set_self (List.getElem?_eq_some_iff.mp z).1
        rw [this] at h2
        cases h2
        exact f c e1.symm a rfl
      · rw [List.getElem?_set_ne (fun z => hne z.symm)] at h2
        exact x.sep h1 h2 }
theorem NH.show (x : NH C.B li ps P v cs σ G W) (E : Ee C.B ps σ G W) (st : Stt C n G W H) :
    Same G (shG G W cs) ∧ (∀ q ∈ cs, shG G W cs q.1 = some (.lst q.2)) ∧ Ee C.B (ps.set li (.fr P)) σ (shG G W cs) W ∧ Stt C n (shG G W cs) W H := by
  have s1 : Same G (shG G W cs) := fun q o h => by
    by_cases z : q ∈ (cAt cs)
    · obtain ⟨us, h1, h2, _⟩ := x.at_ z
      rw [h2] at h; cases h
    · rw [shG_no z]; exact h
  have s2 : Same (shG G W cs) W := fun q o h => by
    by_cases z : q ∈ (cAt cs)
    · rwa [shG_in z] at h
    · rw [shG_no z] at h; exact st.gw _ _ h
  have hc : ∀ q ∈ cs, shG G W cs q.1 = some (.lst q.2) := fun q hq => by
    rw [shG_in (List.mem_map.mpr ⟨q, hq, rfl⟩)]; exact (x.ce q hq).1
  refine ⟨s1, hc, ?_, ⟨st.t, s2, st.bw, st.g0.trans s1, fun q o h => ?_⟩⟩
  · have E1 := E.grow s1 (fun {i c a} hi hσ => by
      rw [shG_no (x.sep hi hσ)]
      obtain ⟨v, hv, a', o, e1, _, hg, _⟩ := E.at_ hi (by simp)
      rw [hσ] at hv
      cases hv
      cases e1
      exact hg)
    have := E1.setF (i := li) (v := v) (p := P) (x.sh _ s1 hc)
    rwa [set_id x.hv] at this
  · by_cases z : q ∈ (cAt cs)
    · obtain ⟨us, _, _, h3⟩ := x.at_ z
      exact .inr (.inl h3)
    · rw [shG_no z] at h; exact st.gb q o h
/-- a cell is changed -/
theorem NH.put (x : NH C.B li ps P v cs σ G W) (E : Ee C.B ps σ G W) (st : Stt C n G W H) {a : Addr} (ha : a ∈ (cAt cs)) (us : List V) :
    Ee C.B ps σ G (upd W a (.lst us)) ∧ Stt C n G (upd W a (.lst us)) (upd H a (.lst us)) := by
  obtain ⟨ws, h1, h2, h3⟩ := x.at_ ha
  exact ⟨ee_putO E fun hi hσ e => x.sep hi hσ (e ▸ ha), st.put h1 h2 h3⟩
/-! #### a list of two new lists -/
def M.held2 {ρ α β γ : Type} (m1 : M α) (m2 : M β) (f : α × β → M (Fl ρ γ)) : M (Fl ρ γ) := fun Φ _ n => (M.bind m1 fun a => M.bind m2 fun b => f (a, b)) Φ (fun _ _ => False) n
/-- x[0].clear(); x[1].append(..); then x is let go -/
def M.end2 {ρ γ δ : Type} (len : Nat) (m : M γ) (k : M (Fl ρ δ)) : M (Fl ρ δ) := M.bind m fun _ => fun Φ Ψ n => len < sizeLine ∧ k Φ Ψ n
end
@[irreducible] def Mi.held2 {ρ α β γ : Type} (m1 : M α) (m2 : M β) (f : α × β → M (Fl ρ γ)) : M (Fl ρ γ) := M.held2 m1 m2 f
@[irreducible] def Mi.end2 {ρ γ δ : Type} (len : Nat) (m : M γ) (k : M (Fl ρ δ)) : M (Fl ρ δ) := M.end2 len m k
@[irreducible] def Mi.neXL (ds es : List PyData) : M Bool := M.neXL ds es
@[irreducible] def Mi.eqXL (ds es : List PyData) : M Bool := M.eqXL ds es
theorem neXL_i {ds es : List PyData} {Φ : Bool → Nat → Prop} {Ψ : Exc → Nat → Prop} {n : Nat} (h1 : doks ds = true) (h2 : doks es = true) (h3 : PyData.depthAll ds ≤ 60) (k : Φ (!eqvDs ds es) n) : Mi.neXL ds es Φ Ψ n := by delta Mi.neXL; exact ⟨h1, h2, h3, k⟩
end VL
/-! ### == of any two data, dicts among them -/
namespace VL
open PySem PySem.Spec PyProof.Rows L2
end VL
namespace L2
open PySem PySem.Spec PyProof.Rows
end L2
namespace VL
open PySem PySem.Spec PyProof.Rows L2
def M.eqG (d e : PyData) : M Bool := fun Φ _ n => dok d = true ∧ dok e = true ∧ PyData.depth d ≤ 60 ∧ Φ (eqvD d e) n
@[irreducible] def Mi.eqG (d e : PyData) : M Bool := M.eqG d e
def isStrD : PyData → Bool | .str _ => true | _ => false
def isIntD : PyData → Bool | .int _ => true | _ => false
def oneD : List (PyData × PyData) → Bool
  | [] => true
  | [q] => isStrD q.1 && isIntD q.2
  | _ => false
mutual
def okG : PyData → Bool
  | .none | .bool _ | .int _ | .str _ => true
  | .list xs | .tuple xs => okGs xs
  | .dict ks => oneD ks
def okGs : List PyData → Bool
  | [] => true
  | x :: xs => okG x && okGs xs
end
theorem okG_dict {ks : List (PyData × PyData)} (h : okG (.dict ks) = true) : ks = [] ∨ ∃ z i, ks = [(.str z, .int i)] := by
  have h : oneD ks = true := by simpa only [okG] using h
  match ks, h with
  | [], _ => exact .inl rfl
  | [(a, b)], h =>
    have h : isStrD a = true ∧ isIntD b = true := Bool.and_eq_true_iff.mp h
    obtain ⟨h1, h2⟩ := h
    cases a <;> cases b <;> first | (cases h1; done) | (cases h2; done) | exact .inr ⟨_, _, rfl⟩
mutual
theorem okG_dok : ∀ d : PyData, okG d = true → dok d = true ∧ eqvD d d = true ∧ okF d = true
  | .none, _ => ⟨by simp [dok], by simp [eqvD, flatD, toV, eqV], by simp [okF]⟩
  | .bool b, _ => ⟨by simp [dok], by cases b <;> simp [eqvD, flatD, toV, eqV], by simp [okF]⟩
  | .int _, _ => ⟨by simp [dok], by simp [eqvD, flatD, toV, eqV], by simp [okF]⟩
  | .str _, _ => ⟨by simp [dok], by simp [eqvD, flatD, toV, eqV], by simp [okF]⟩
  | .list ds, h => by simp only [dok, eqvD, okF]; exact okGs_doks ds (by simpa only [okG] using h)
  | .tuple ds, h => by simp only [dok, eqvD, okF]; exact okGs_doks ds (by simpa only [okG] using h)
  | .dict ks, h => by
    rcases okG_dict h with rfl | ⟨z, i, rfl⟩
    · exact ⟨by simp [dok, keysD, dokk], by simp [eqvD, eqvDk], by simp [okF]⟩
    · exact ⟨by simp [dok, keysD, dokk], by simp [eqvD, eqvDk, fndD, flatD, toV, eqV], by simp [okF]⟩
theorem okGs_doks : ∀ ds : List PyData, okGs ds = true → doks ds = true ∧ eqvDs ds ds = true ∧ okFs ds = true
  | [], _ => ⟨by simp [doks], by simp [eqvDs], by simp [okFs]⟩
  | d :: ds, h => by
    have h : okG d = true ∧ okGs ds = true := by simpa only [okGs, Bool.and_eq_true] using h
    obtain ⟨a1, a2, a3⟩ := okG_dok d h.1
    obtain ⟨b1, b2, b3⟩ := okGs_doks ds h.2
    simp only [doks, eqvDs, okFs, Bool.and_eq_true]
    exact ⟨⟨a1, b1⟩, ⟨a2, b2⟩, ⟨a3, b3⟩⟩
end
end VL
/-! ### a held list of new lists of texts: its rows are changed, or set anew -/
namespace VL
open PySem PySem.Spec PyProof.Rows L2
section
variable {C : Cfg} {ρ α β γ : Type} {Rr : ρ → SL} {B : Hp} {li : Nat} {ps : List SL} {v : V} {cs : Cells} {σ : L2.St} {G W G' W' H : Hp} {n : Nat} {te ta tb tw ti tj : TE} {tt : TT} {t u : TS} {P : VP} {S : V → Cells → Prop} {g : List (List Str)}
def M.gput (g : List (List Str)) (mw : M Str) (mi mj : M Int) : M (List (List Str)) := M.bind mw fun w => M.bind mi fun i => fun Φ Ψ n =>
  ∃ row, atI g i = some row ∧ M.bind mj (fun j => fun Φ _ n => ∃ k, ixN row.length j = some k ∧ ∀ g', MutR g (row.set k w) g' → Φ g' n) Φ Ψ n
def M.gset (g : List (List Str)) (me : M (List Str)) (mi : M Int) : M (List (List Str)) := M.bind me fun r => M.bind mi fun i => fun Φ _ n => ∃ k, ixN g.length i = some k ∧ Φ (g.set k r) n
def M.heldG {ρ γ : Type} (m : M (List (List Str))) (f : List (List Str) → M (Fl ρ γ)) : M (Fl ρ γ) := fun Φ _ n => (M.bind m f) Φ (fun _ _ => False) n
/-- x[0].append(..); x.append(..); then x is let go -/
def M.endG {ρ γ δ ε : Type} (g : List (List Str)) (m1 : M γ) (m2 : M δ) (k : M (Fl ρ ε)) : M (Fl ρ ε) := fun Φ Ψ n => ∃ r0 rs, g = r0 :: rs ∧ r0.length < sizeLine ∧ (M.bind m1 fun _ => M.bind m2 fun _ => fun Φ Ψ n => g.length < sizeLine ∧ k Φ Ψ n) Φ Ψ n
end
@[irreducible] def Mi.gput (g : List (List Str)) (mw : M Str) (mi mj : M Int) : M (List (List Str)) := M.gput g mw mi mj
@[irreducible] def Mi.gset (g : List (List Str)) (me : M (List Str)) (mi : M Int) : M (List (List Str)) := M.gset g me mi
@[irreducible] def Mi.heldG {ρ γ : Type} (m : M (List (List Str))) (f : List (List Str) → M (Fl ρ γ)) : M (Fl ρ γ) := M.heldG m f
@[irreducible] def Mi.endG {ρ γ δ ε : Type} (g : List (List Str)) (m1 : M γ) (m2 : M δ) (k : M (Fl ρ ε)) : M (Fl ρ ε) := M.endG g m1 m2 k
end VL
namespace VL
open PySem PySem.Spec PyProof.Rows L2
/-! ### a, b = x, y -/
end VL
/-! classmethods that raise or are called by keywords, cls(..) that raises, x.split(y), isinstance(e, D) of a caught exception -/
namespace L2
open PySem PySem.Spec PyProof.Rows
/-! ### isinstance(e, D), e the exception that the suite holds -/
end L2
namespace VL
open PySem PySem.Spec PyProof.Rows L2
end VL
/-! sorted(set(whole numbers)) -/
namespace VL
open PySem PySem.Spec PyProof.Rows L2
def M.sortSetI (xs : List Int) : M (List Int) := fun Φ _ n => xs.length < 64 ∧ ∀ ns : List Int, ns.Pairwise (· < ·) → (∀ k, k ∈ ns ↔ k ∈ xs) → Φ ns n
@[irreducible] def Mi.sortSetI (xs : List Int) : M (List Int) := M.sortSetI xs
theorem reps_ints_of {G : Hp} : ∀ ns : List Int, reps rInt ns (ns.map V.int) G
  | [] => trivial
  | a :: ns => ⟨rfl, reps_ints_of ns⟩
theorem reps_ints' {G : Hp} : ∀ {ns : List Int} {vs : List V}, reps rInt ns vs G → vs = ns.map V.int
  | [], [], _ => rfl
  | a :: ns, v :: vs, ⟨h1, h2⟩ => by
    have h1 : v = .int a := h1
    rw [h1, reps_ints' h2]
    rfl
  | [], _ :: _, h => h.elim
  | _ :: _, [], h => h.elim
section
variable {C : Cfg} {β : Type} {ps : List SL} {te : TE} {w : World}
theorem ve_sortSetI {m : M (List Int)} (h : VE C te ps m (Fz (rLst rInt))) :
    VE C (tCB (rSortedSet w) (tCons (tCB (rSetOfI C.K w) (tCons te tNil)) tNil)) ps (M.bind m fun xs => M.sortSetI xs) (Ow (cLst rInt)) := by
  intro σ G W H n Q Φ Ψ e st hm k x
  refine h σ G W H n _ (fun xs n' => M.sortSetI xs Φ Ψ n') Ψ e st hm ?_ x
  rintro xs n1 v G1 W1 H1 ⟨h1, hΦ⟩ s1 t1 ⟨p, vs, rfl, h3, h4⟩ _
  have st1 := st.stp s1 t1
  have hv := reps_ints' h4
  subst hv
  refine ⟨p, xs, rfl, SqL.of (st1.gh _ _ h3), by omega, fun q c hc hq => ?_⟩
  refine ⟨q, _, c, rfl, upd_same, by omega, fun ns r pw me _ hr => ?_⟩
  have st2 := st1.more (same_upd (o := SetO w q (fun j => decide (j ∈ xs)) c) hq)
  exact (k.stp s1).newO st2 (hΦ ns pw fun j => by rw [me j, decide_eq_true_iff]) hr ⟨_, rfl, reps_ints_of ns⟩
end
end VL
namespace ZM
open PySem PySem.Spec PyProof.Rows L2 ZN
/-! ### tuple(zip(*y)), y a tuple of lists and tuples -/
end ZM
namespace VL
open PySem PySem.Spec PyProof.Rows L2 ZN
section
variable {α : Type} {R : α → VP} {G : Hp}
def LRM (R : α → VP) (G : Hp) : List (List α) → List (Addr × List V) → Prop
  | [], [] => True
  | x :: xs, q :: qs => ((G q.1 = some (.lst q.2) ∨ G q.1 = some (.tup q.2)) ∧ reps R x q.2 G) ∧ LRM R G xs qs
  | _, _ => False
theorem LRM.len : ∀ {xss : List (List α)} {ls : List (Addr × List V)}, LRM R G xss ls → ls.length = xss.length
  | [], [], _ => rfl
  | _ :: _, _ :: _, h => by rw [List.length_cons, List.length_cons, LRM.len h.2]
theorem LRM.at_ : ∀ {xss : List (List α)} {ls : List (Addr × List V)} {n : Nat}, LRM R G xss ls → (∀ r ∈ xss, r.length = n) → ∀ p ∈ ls, (G p.1 = some (.lst p.2) ∨ G p.1 = some (.tup p.2)) ∧ p.2.length = n
  | [], [], _, _, _, p, hp => by simp at hp
  | x :: xs, q :: qs, n, h, hn, p, hp => by
    rcases List.mem_cons.mp hp with rfl | hp
    · exact ⟨h.1.1, by rw [h.1.2.len]; exact hn x (List.mem_cons_self ..)⟩
    · exact LRM.at_ h.2 (fun r hr => hn r (List.mem_cons_of_mem _ hr)) p hp
end
end VL
/-! a list or a tuple: walked, its length, as a tuple; data as one -/
namespace L2
open PySem PySem.Spec PyProof.Rows
section
variable {X : Cx} {tg : Expr}
def iSq (K : PySem.W.Frag) (tl : TE) : TI := fun σ H R => tl σ H fun x H1 => ∃ a, x = .ref a ∧ (((∃ xs, SqL K H1 a xs) ∧ R (Itl K a) H1) ∨ ((∃ xs, SqT K H1 a xs) ∧ R (Itt K a) H1))
theorem pi_sq {l : Expr} {tl : TE} (hl : PE X l tl) : PI X tg l (iSq X.K tl) := by
  refine ⟨fun pins s σ H R I h => ?_⟩
  refine thn (hl.run pins s σ H _ I h) fun v s1 ⟨x, H1, I1, r1, q1⟩ => ?_
  obtain ⟨a, e, q⟩ := q1
  subst e
  cases r1
  rcases q with ⟨⟨xs, hq⟩, q⟩ | ⟨⟨xs, hq⟩, q⟩
  · obtain ⟨its, rv, p, hz⟩ := I1.list hq
    refine wpAny_pyIter_list p.isList ?_
    refine ⟨s1.heap.objs.size, [s1.heap.objs.size], _, _, H1, rfl, I1.kept (t' := s1.toks) fun b o e => Heap.get?_push_of_some _ e, turn_list a _, ⟨_, Heap.get?_push_size _ rfl, rfl, rfl⟩, fun b hb => ?_, q⟩
    have e : b = s1.heap.objs.size := by simpa using hb
    subst e
    exact I1.fpOk (Nat.le_refl _) (I1.hok.fresh (Nat.le_refl _))
  · obtain ⟨its, rv, p, hz⟩ := I1.tuple hq
    refine wpAny_pyIter_tuple (show s1.heap.IsTuple a its.toArray from p) ?_
    refine ⟨s1.heap.objs.size, [s1.heap.objs.size], _, _, H1, rfl, I1.kept (t' := s1.toks) fun b o e => Heap.get?_push_of_some _ e, turn_tuple a _, ⟨_, Heap.get?_push_size _ rfl, rfl, rfl⟩, fun b hb => ?_, q⟩
    have e : b = s1.heap.objs.size := by simpa using hb
    subst e
    exact I1.fpOk (Nat.le_refl _) (I1.hok.fresh (Nat.le_refl _))
theorem pi_sqF {K : PySem.W.Frag} {l : Expr} {tl : TE} (hk : X.K = K) (hl : PE X l tl) : PI X tg l (iSq K tl) := by subst hk; exact pi_sq hl
end
end L2
namespace VL
open PySem PySem.Spec PyProof.Rows L2
section
variable {C : Cfg} {α β : Type} {ps : List SL} {te : TE}
theorem vi_sq {R : β → VP} {mx : M (List β)} (h : VE C te ps mx (Fz (rSq R))) : VI C (iSq C.K te) ps mx R := by
  intro σ G W H n Q Φ Ψ e st hm k x
  refine h σ G W H n _ Φ Ψ e st hm ?_ x
  rintro xs n' v G' W' H' hΦ s t (⟨p, vs, rfl, h1, h2⟩ | ⟨p, vs, rfl, h1, h2⟩) _
  · have st' := st.stp s t
    refine ⟨p, rfl, .inl ⟨⟨vs, SqL.of (st'.gh _ _ h1)⟩, k xs n' _ G' W' H' hΦ s t ⟨fun i n G W H hi q e => ?_, fun n G W H q e => ?_, fun i n G W H v H' hi q e y => ?_⟩⟩⟩
    · have := q.gh _ _ (e _ _ h1)
      rw [← h2.len] at hi
      exact ⟨vs, vs[i], SqL.of this, List.getElem?_eq_getElem hi⟩
    · exact ⟨vs, SqL.of (q.gh _ _ (e _ _ h1)), by rw [h2.len]; exact Nat.le_refl _⟩
    · obtain ⟨rfl, y⟩ := y
      obtain ⟨x, hx, hr⟩ := h2.get' (y vs (SqL.of (q.gh _ _ (e _ _ h1))))
      exact ⟨x, G, W, hx, Stp.refl q.gw, q.t, (R x).up e hr⟩
  · have st' := st.stp s t
    have g : ∀ {n G W H}, Stt C n G W H → Same G' G → SqT C.K H p vs := fun q e => SqT.of ((e.trans q.gh) _ _ h1)
    refine ⟨p, rfl, .inr ⟨⟨vs, SqT.of (st'.gh _ _ h1)⟩, k xs n' _ G' W' H' hΦ s t ⟨fun i n G W H hi q e => ?_, fun n G W H q e => ?_, fun i n G W H v H' hi q e y => ?_⟩⟩⟩
    · rw [← h2.len] at hi
      exact ⟨vs, vs[i], g q e, List.getElem?_eq_getElem hi⟩
    · exact ⟨vs, g q e, by rw [h2.len]; exact Nat.le_refl _⟩
    · obtain ⟨rfl, y⟩ := y
      obtain ⟨x, hx, hr⟩ := h2.get' (y vs (g q e))
      exact ⟨x, G, W, hx, Stp.refl q.gw, q.t, (R x).up e hr⟩
theorem vn_lenQ {R : α → VP} : Vn C (fun xs H Q => ∃ p ys, xs = [.ref p] ∧ (SqL C.K H p ys ∨ SqT C.K H p ys) ∧ Q (.int ys.length) H) (fun q : List α × Unit => [rSq R q.1]) (fun q => M.pure (q.1.length : Int)) (Fz rInt) := by
  rintro q vs σ G W H n Q Φ Ψ (_ | ⟨(⟨p, us, rfl, h1, h2⟩ | ⟨p, us, rfl, h1, h2⟩), _ | _⟩) st hm k x
  · exact ⟨p, us, rfl, .inl (SqL.of (st.gh _ _ h1)), k.hereF (a := (q.1.length : Int)) st hm (by rw [h2.len]; rfl)⟩
  · exact ⟨p, us, rfl, .inr (SqT.of (st.gh _ _ h1)), k.hereF (a := (q.1.length : Int)) st hm (by rw [h2.len]; rfl)⟩
/-- data that are a list or a tuple of texts -/
def M.datSq (d : PyData) : M (List Str) := fun Φ _ n => ∃ xs : List Str, (d = .tuple (xs.map PyData.str) ∨ d = .list (xs.map PyData.str)) ∧ Φ xs n
theorem ve_datSq {m : M PyData} (h : VE C te ps m (Fz rDat)) : VE C te ps (M.bind m fun d => M.datSq d) (Fz (rSq rStr)) := by
  intro σ G W H n Q Φ Ψ e st hm k x
  refine h σ G W H n _ (fun d n' => M.datSq d Φ Ψ n') Ψ e st hm (fun d n1 v G1 W1 H1 hm1 s1 t1 r1 f1 => ?_) x
  obtain ⟨xs, hd, hΦ⟩ := hm1
  refine k xs n1 v G1 W1 H1 hΦ s1 t1 ?_ f1
  rcases hd with rfl | rfl
  · have r1 : Dq G1 v (.tuple (xs.map PyData.str)) := r1
    cases r1 with
    | tup h1 h2 => exact .inr ⟨_, _, rfl, h1, dq_strs h2⟩
  · have r1 : Dq G1 v (.list (xs.map PyData.str)) := r1
    cases r1 with
    | lst h1 h2 => exact .inl ⟨_, _, rfl, h1, dq_strs h2⟩
@[irreducible] def Mi.datSq (d : PyData) : M (List Str) := M.datSq d
end
end VL
/-! [new, new, ..][i]: the picked object is the caller's own -/
namespace VL
open PySem PySem.Spec PyProof.Rows L2
section
variable {C : Cfg} {α β : Type} {ps : List SL} {te ti : TE} {ta : TA}
def OwnAll (B W G' W' : Hp) (c : α → CP) : List α → List V → Prop
  | [], [] => True
  | a :: as, v :: vs => (∃ d o, v = .ref d ∧ W d = none ∧ W' d = some o ∧ G' d = none ∧ B d = none ∧ (c a).P o G') ∧ OwnAll B W G' W' c as vs
  | _, _ => False
theorem OwnAll.at_ {B W G' W' : Hp} {c : α → CP} : ∀ {as : List α} {vs : List V} {i : Nat} {a : α}, OwnAll B W G' W' c as vs → as[i]? = some a → ∃ d o, vs[i]? = some (.ref d) ∧ W d = none ∧ W' d = some o ∧ G' d = none ∧ B d = none ∧ (c a).P o G'
  | a :: as, v :: vs, 0, b, h, e => by
    cases e
    obtain ⟨d, o, rfl, h1⟩ := h.1
    exact ⟨d, o, rfl, h1⟩
  | a :: as, v :: vs, i + 1, b, h, e => OwnAll.at_ (i := i) h.2 (by simpa using e)
  | [], [], _, _, _, e => by simp at e
  | [], _ :: _, _, _, h, _ => h.elim
  | _ :: _, [], _, _, h, _ => h.elim
theorem OwnAll.len {B W G' W' : Hp} {c : α → CP} : ∀ {as : List α} {vs : List V}, OwnAll B W G' W' c as vs → vs.length = as.length
  | [], [], _ => rfl
  | _ :: _, _ :: _, h => by rw [List.length_cons, List.length_cons, OwnAll.len h.2]
  | [], _ :: _, h => h.elim
  | _ :: _, [], h => h.elim
theorem OwnAll.stp {B W W0 G1 W1 G2 W2 : Hp} {c : α → CP} (s : Stp G1 W1 G2 W2) (hw : ∀ d, W d = none → W0 d = none) : ∀ {as : List α} {vs : List V}, OwnAll B W G1 W1 c as vs → OwnAll B W0 G2 W2 c as vs
  | [], [], _ => trivial
  | a :: _, _ :: _, ⟨⟨d, o, h0, h1, h2, h3, h4, h5⟩, h⟩ => ⟨⟨d, o, h0, hw d h1, s.w _ _ h2, stp_no s h3 h2 ((c a).nt h5), h4, (c a).up s.g h5⟩, OwnAll.stp s hw h⟩
  | [], _ :: _, h => h.elim
  | _ :: _, [], h => h.elim
end
end VL
/-! sorted({d[x] for x in a tuple of texts}); list(d); a shown dict locked while an expression is worked out -/
namespace VL
open PySem PySem.Spec PyProof.Rows L2
def VQ (C : Cfg) (te : TE) (ps : List SL) (a : Option Int) : Prop := ∀ σ G W H (Q : VK), Ee C.B ps σ G W → Same G H → (∃ z, a = some z ∧ Q (.int z) H) → te σ H Q
def M.sortSC (xs : List Str) (f : Str → Option Int) : M (List Int) := fun Φ _ n => xs.length < 64 ∧ (∀ x ∈ xs, (f x).isSome = true) ∧ ∀ ns : List Int, ns.Pairwise (· < ·) → (∀ k, k ∈ ns ↔ ∃ x ∈ xs, f x = some k) → Φ ns n
@[irreducible] def Mi.sortSC (xs : List Str) (f : Str → Option Int) : M (List Int) := M.sortSC xs f
theorem sortSC_i {xs : List Str} {f : Str → Option Int} {Φ : List Int → Nat → Prop} {Ψ : Exc → Nat → Prop} {n : Nat} (h : xs.length < 64) (h1 : ∀ x ∈ xs, (f x).isSome = true) (k : ∀ ns : List Int, ns.Pairwise (· < ·) → (∀ k, k ∈ ns ↔ ∃ x ∈ xs, f x = some k) → Φ ns n) : Mi.sortSC xs f Φ Ψ n := by delta Mi.sortSC; exact ⟨h, h1, k⟩
section
variable {C : Cfg} {α β : Type} {ps : List SL} {te ti : TE} {w : World}
theorem vq_dget {Cl : Addr} {fl : List (Str × VP)} {e : List (Str × Int)} {f b : Str} {i j : Nat} (hi : ps[i]? = some (.fr (rIns Cl fl))) (c : Cls C.K Cl) (na : NoAttr C.K Cl f) (hf : (f, rDct rInt e) ∈ fl) (hj : ps[j]? = some (.fr (rStr b))) :
    VQ C (tDGet (tFld C.K (tVar i) f) (tVar j)) ps (getD e b) := by
  rintro σ G W H Q E sg ⟨z, hz, hq⟩
  obtain ⟨v, hσ, p, o, rfl, h2, dx, fs, rfl, h3, _, _⟩ := E.at_ hi (by simp)
  obtain ⟨u, hu, q, ks, rfl, g1, g2⟩ := h3 _ hf
  obtain ⟨v2, hσ2, hv2⟩ := E.at_ hj (by simp)
  have hv2 : v2 = .str b := hv2
  subst hv2
  have g3 := g2.get (k := b)
  rw [hz] at g3
  obtain ⟨w, hw, hr⟩ := g3
  have hr : w = .int z := hr
  subst hr
  refine ⟨.ref p, hσ, p, Cl, dx, fs, _, rfl, sg _ _ h2, c, na, hu, .str b, hσ2, q, .int z, rfl, ?_, hq⟩
  have := DGet.k (k := (.inr b : Key)) (sg _ _ g1)
  rw [hw] at this
  exact this
theorem ve_sortSC {mi : M (List Str)} {j : Nat} {val : Str → Option Int} (hi : VE C ti ps mi (Fz (rTup rStr))) (hv : ∀ k ∈ [j], ps[k]? = some .un) (he : ∀ b, VQ C te (ps.set j (.fr (rStr b))) (val b)) :
    VE C (tCB (rSortedSet w) (tCons (tScI w (iTup C.K ti) (gName j) te [j]) tNil)) ps (M.bind mi fun xs => M.sortSC xs val) (Ow (cLst rInt)) := by
  intro σ G W H n Q Φ Ψ e st hm k x
  refine hi σ G W H n _ (fun xs n' => M.sortSC xs val Φ Ψ n') Ψ e st hm ?_ x
  rintro xs n1 v G1 W1 H1 ⟨hlen, hs, hΦ⟩ s1 t1 ⟨p, vs, rfl, h1, h2⟩ _
  have st1 := st.stp s1 t1
  have gT : ∀ {H : Hp}, Same G1 H → SqT C.K H p vs := fun q => SqT.of (q _ _ h1)
  refine ⟨p, rfl, ⟨vs, gT st1.gh⟩, fun D hD => ?_⟩
  have hG1 := st1.gfree hD
  have sD : ∀ o, Same G1 (upd H1 D o) := fun o => st1.gh.trans (same_upd hD)
  refine ⟨fun i m H => m = xs.length - i ∧ i ≤ xs.length ∧ ∃ S c, H = upd H1 D (SetO w D S c) ∧ c ≤ i ∧ ∀ z, S z = true ↔ ∃ x ∈ xs.take i, val x = some z, ⟨xs.length, by simp, Nat.zero_le _, _, 0, rfl, Nat.le_refl _, fun z => by simp⟩, ?_⟩
  rintro i m H2 ⟨rfl, hi2, S, c, rfl, hc, hS⟩
  by_cases hlt : i < xs.length
  · refine .inr ⟨⟨vs, vs[i]'(by rw [h2.len]; exact hlt), gT (sD _), List.getElem?_eq_getElem _⟩, fun H => i + 1 ≤ xs.length ∧ ∃ S c, H = upd H1 D (SetO w D S c) ∧ c ≤ i + 1 ∧ ∀ z, S z = true ↔ ∃ x ∈ xs.take (i + 1), val x = some z, fun H' q => ⟨xs.length - (i + 1), by omega, rfl, q⟩, fun x H' y => ?_⟩
    obtain ⟨rfl, y⟩ := y
    obtain ⟨b, hb, hr⟩ := h2.get' (y vs (gT (sD _)))
    have hr : x = .str b := hr
    subst hr
    have e3 : Ee C.B ps (wipe σ [j]) G1 W1 := (e.stp s1).wipe hv
    have e4 : Ee C.B (ps.set j (.fr (rStr b))) ((wipe σ [j]).set j (some (.str b))) G1 W1 := e3.setF (p := rStr b) rfl
    have hbx : b ∈ xs := List.mem_of_getElem? hb
    obtain ⟨z, hz⟩ := Option.isSome_iff_exists.mp (hs b hbx)
    refine ⟨by show (wipe ((wipe σ [j]).set j _) [j]) = wipe σ [j]; have hw : ∀ τ : L2.St, wipe τ [j] = τ.set j none := fun _ => rfl; rw [hw, hw, List.set_set, List.set_set], he b _ G1 W1 _ _ e4 (sD _) ⟨z, hz, z, S, c, rfl, upd_same, by unfold scanBound; omega, by omega, fun k => S k || decide (k = z), if S z = true then c else c + 1, upd_upd, ?_, fun k => ?_⟩⟩
    · split <;> omega
    · rw [List.take_succ, hb, Bool.or_eq_true, decide_eq_true_iff, hS k]
      constructor
      · rintro (⟨x, hx, h⟩ | rfl)
        · exact ⟨x, List.mem_append_left _ hx, h⟩
        · exact ⟨b, by simp, hz⟩
      · rintro ⟨x, hx, h⟩
        rcases List.mem_append.mp hx with hx | hx
        · exact .inl ⟨x, hx, h⟩
        · have : x = b := by simpa using hx
          subst this
          rw [hz] at h
          exact .inr (Option.some.inj h).symm
  · have hi3 : i = xs.length := by omega
    subst hi3
    refine .inl ⟨⟨vs, gT (sD _), by rw [h2.len]; exact Nat.le_refl _⟩, ?_⟩
    refine ⟨D, S, c, rfl, upd_same, by omega, fun ns r pw me _ hr => ?_⟩
    have st2 := st1.more (same_upd (o := SetO w D S c) hD)
    exact (k.stp s1).newO st2 (hΦ ns pw fun j => by rw [me j, hS j, List.take_length]) hr ⟨_, rfl, reps_ints_of ns⟩
theorem ve_lockF {i : Nat} {e : List (Str × Int)} {m : M α} {Rv : α → SL} (hn : NoDx i ps) (h : ∀ d B G0, VE { C with B := B, G0 := G0 } te (ps.set i (.bo (rLk d e))) m Rv) (hr : ∀ a p, Rv a ≠ .bo p := by intro _ _ h; cases h) (hi : ps[i]? = some (.fr (rDct rInt e)) := by rfl) :
    VE C (tLockE te) ps (M.nox m) Rv := by
  intro σ G W H n Q Φ Ψ E st hm k x
  obtain ⟨v, hσ, hv⟩ := E.at_ hi (by simp)
  obtain ⟨d, ks, rfl, hg, hre⟩ := hv
  have hw := st.gw _ _ hg
  have hh := st.gh _ _ hg
  refine ⟨d, .dK ks, hh, trivial, fun od => ?_⟩
  have ntd : NT (.dK ks) := ⟨(fun _ h => nomatch h), (fun _ h => nomatch h)⟩
  have ntf : NT (.frz od (.dK ks)) := ⟨(fun _ h => nomatch h), (fun _ h => nomatch h)⟩
  have st' : Stt { C with B := upd C.B d (.frz od (.dK ks)), G0 := del C.G0 d } n (del G d) (upd W d (.frz od (.dK ks))) (upd H d (.frz od (.dK ks))) := {
    t := C.Θ.put st.t hw ntd ntf
    gw := fun q o hq => by
      have hne : q ≠ d := by rintro rfl; rw [del_at] at hq; cases hq
      rw [del_ne hne] at hq
      rw [upd_ne hne]
      exact st.gw _ _ hq
    bw := same_two st.bw
    g0 := fun q o hq => by
      have hq : (del C.G0 d) q = some o := hq
      have hne : q ≠ d := by rintro rfl; rw [del_at] at hq; cases hq
      rw [del_ne hne] at hq ⊢
      exact st.g0 _ _ hq
    gb := fun q o hq => by
      have hne : q ≠ d := by rintro rfl; rw [del_at] at hq; cases hq
      rw [del_ne hne] at hq
      show (del C.G0 d) q = some o ∨ Nw (upd C.B d (.frz od (.dK ks))) q o
      unfold Nw
      rw [del_ne hne, upd_ne hne]
      exact st.gb _ _ hq }
  have E' : Ee (upd C.B d (.frz od (.dK ks))) (ps.set i (.bo (rLk d e))) σ (del G d) (upd W d (.frz od (.dK ks))) := by
    refine ⟨by rw [List.length_set]; exact E.len, fun {j s} hj hs => ?_, fun {j l c c' a} hjl h1 h2 h3 h4 => ?_⟩
    · rcases getElem_set hj with ⟨rfl, rfl, _⟩ | ⟨hne, hj⟩
      · exact ⟨_, hσ, rfl, od, ks, upd_same, rInt_any hre⟩
      · obtain ⟨u, hu, hR⟩ := E.at_ hj hs
        refine ⟨u, hu, ?_⟩
        have N := hn.get (by first | exact hne | exact Ne.symm hne) hj
        cases s with
        | un => trivial
        | fr p => exact (N.fr p rfl).ld hg hR
        | bo p => exact absurd rfl (N.bo p)
        | ow c =>
          obtain ⟨a, o, rfl, h1, h2, h3, h4⟩ := hR
          have hne : a ≠ d := by rintro rfl; rw [hg] at h2; cases h2
          exact ⟨a, o, rfl, by rw [upd_ne hne]; exact h1, by rw [del_ne hne]; exact h2, by rw [upd_ne hne]; exact h3, (N.ow c rfl).ld hg h4⟩
    · rcases getElem_set h1 with ⟨_, z, _⟩ | ⟨_, h1⟩
      · cases z
      · rcases getElem_set h2 with ⟨_, z, _⟩ | ⟨_, h2⟩
        · cases z
        · exact E.sep hjl h1 h2 h3 h4
  -- back again
  have back : ∀ {n1 : Nat} {G1 W1 H1 : Hp}, Stt { C with B := upd C.B d (.frz od (.dK ks)), G0 := del C.G0 d } n1 G1 W1 H1 → G1 d = none ∧ W1 d = some (.frz od (.dK ks)) ∧ H1 d = some (.frz od (.dK ks)) ∧ Stt C n1 (upd G1 d (.dK ks)) (upd W1 d (.dK ks)) (upd H1 d (.dK ks)) := fun {n1 G1 W1 H1} s => by
    have w1 : W1 d = some (.frz od (.dK ks)) := s.bw _ _ (show (upd C.B d (.frz od (.dK ks))) d = _ from upd_same)
    have g1 : G1 d = none := by
      cases z : G1 d with
      | none => rfl
      | some o =>
        rcases s.gb _ _ z with y | y | ⟨xs, y⟩
        · have y : (del C.G0 d) d = some o := y
          rw [del_at] at y; cases y
        · have y : (upd C.B d (.frz od (.dK ks))) d = none := y
          rw [upd_same] at y; cases y
        · have := s.gw _ _ z
          rw [w1] at this
          rw [← Option.some.inj this] at y
          cases y
    refine ⟨g1, w1, s.wh _ _ w1, ?_⟩
    refine { t := C.Θ.put s.t w1 ntf ntd, gw := same_two s.gw, bw := fun q o hq => ?_, g0 := fun q o hq => ?_, gb := fun q o hq => ?_ }
    · by_cases z : q = d
      · subst z
        have := st.bw _ _ hq
        rw [hw] at this
        rw [upd_same]; exact this
      · rw [upd_ne z]
        exact s.bw _ _ (by show (upd C.B d (.frz od (.dK ks))) q = some o; rw [upd_ne z]; exact hq)
    · by_cases z : q = d
      · subst z
        have := st.g0 _ _ hq
        rw [hg] at this
        rw [upd_same]; exact this
      · rw [upd_ne z]
        exact s.g0 _ _ (by show (del C.G0 d) q = some o; rw [del_ne z]; exact hq)
    · by_cases z : q = d
      · subst z
        rw [upd_same] at hq
        cases hq
        exact st.gb _ _ hg
      · rw [upd_ne z] at hq
        rcases s.gb _ _ hq with y | y
        · have y : (del C.G0 d) q = some o := y
          rw [del_ne z] at y; exact .inl y
        · have y : Nw (upd C.B d (.frz od (.dK ks))) q o := y
          unfold Nw at y
          rw [upd_ne z] at y; exact .inr y
  have res : ∀ {s : SL} {v : V} {G1 W1 : Hp}, G1 d = none → (∀ p, s ≠ .bo p) → Res (upd C.B d (.frz od (.dK ks))) s v G1 W1 → Res C.B s v (upd G1 d (.dK ks)) (upd W1 d (.dK ks)) := fun {s v G1 W1} g1 nb r => by
    cases s with
    | un => trivial
    | fr p => exact p.up (same_upd g1) r
    | bo p => exact absurd rfl (nb p)
    | ow c =>
      obtain ⟨a, o, rfl, h1, h2, h3, h4⟩ := r
      have hne : a ≠ d := by rintro rfl; rw [upd_same] at h3; cases h3
      exact ⟨a, o, rfl, by rw [upd_ne hne]; exact h1, by rw [upd_ne hne]; exact h2, by rw [upd_ne hne] at h3; exact h3, c.up (same_upd g1) h4⟩
  refine h d _ _ σ (del G d) _ _ n _ Φ (fun _ _ => False) E' st' hm (fun a n1 v1 G1 W1 H1 hΦ s1 t1 r1 f1 => ?_) xt_no
  have st1 := st'.stp s1 t1
  obtain ⟨g1, w1, h1, s2⟩ := back st1
  refine ⟨h1, k a n1 v1 _ _ _ hΦ ⟨fun q o hq => ?_, fun q o hq => ?_, s2.gw, fun q o hq => ?_⟩ s2.t (res g1 (hr a) r1) ?_⟩
  · by_cases z : q = d
    · subst z; rw [hg] at hq; rw [upd_same]; exact hq
    · rw [upd_ne z]; exact s1.g _ _ (by rw [del_ne z]; exact hq)
  · by_cases z : q = d
    · subst z; rw [hw] at hq; rw [upd_same]; exact hq
    · rw [upd_ne z]; exact s1.w _ _ (by rw [upd_ne z]; exact hq)
  · by_cases z : q = d
    · subst z; rw [upd_same] at hq; cases hq; exact .inl hg
    · rw [upd_ne z] at hq
      rcases s1.ng q o hq with y | y
      · rw [del_ne z] at y; exact .inl y
      · unfold Nw at y ⊢
        rw [upd_ne z] at y; exact .inr y
  · revert f1
    generalize Rv a = s
    intro f1
    cases s with
    | ow c =>
      intro p hp
      have := f1 p hp
      by_cases z : p = d
      · subst z; rw [upd_same] at this; cases this
      · rwa [upd_ne z] at this
    | _ => trivial
instance {s : Addr} : LD (rSt s) := ⟨fun _ h => h⟩
instance {e : List (Str × Int)} : LDC (cDct rInt e) := ⟨fun _ ⟨ks, h, h2⟩ => ⟨ks, h, rInt_any h2⟩⟩
end
end VL
/-! sorted(xs, key=lambda part: part.outcomes[0]) over instances whose getter tells a tuple of texts -/
namespace VL
open PySem PySem.Spec PyProof.Rows L2 LamX
end VL
namespace VL
open PySem PySem.Spec PyProof.Rows L2 LamX
end VL
namespace VL
open PySem PySem.Spec PyProof.Rows L2 LamX
def leS : Str → Str → Bool := PySem.W.dataLe false (fun z : Str => PyData.str z)
end VL
/-! max(whole numbers, default=d) -/
namespace VL
open PySem PySem.Spec PyProof.Rows L2
end VL
namespace VL
open PySem PySem.Spec PyProof.Rows L2
/-! typed -/
def M.maxD (d : Int) (xs : List Int) : M Int := fun Φ _ n => (xs = [] → Φ d n) ∧ ∀ m, m ∈ xs → (∀ y ∈ xs, y ≤ m) → Φ m n
@[irreducible] def Mi.maxD (d : Int) (xs : List Int) : M Int := M.maxD d xs
def M.sortOut {α : Type} (key : α → Option Str) (xs : List α) : M (List α) := fun Φ _ n => (∀ x ∈ xs, (key x).isSome = true) ∧ Φ (xs.mergeSort fun x y => leS ((key x).getD default) ((key y).getD default)) n
@[irreducible] def Mi.sortOut {α : Type} (key : α → Option Str) (xs : List α) : M (List α) := M.sortOut key xs
end VL
/-! ### trees: instances whose field holds a tuple of instances of the same class -/
namespace VL
open PySem PySem.Spec PyProof.Rows L2
inductive d_Tree where
  | mk (kind : Str) (outs : List Str) (parts : List d_Tree) (dep : Int)
def d_Tree.kind : d_Tree → Str | .mk k _ _ _ => k
def d_Tree.outs : d_Tree → List Str | .mk _ o _ _ => o
def d_Tree.parts : d_Tree → List d_Tree | .mk _ _ p _ => p
def d_Tree.dep : d_Tree → Int | .mk _ _ _ d => d
theorem VP.ext' {p q : VP} (h : ∀ v G, p.P v G ↔ q.P v G) : p = q := by
  obtain ⟨a, _⟩ := p
  obtain ⟨b, _⟩ := q
  have : a = b := funext fun v => funext fun G => propext (h v G)
  subst this
  rfl
/-! ### defs with *args -/
end VL
namespace VL
open PySem PySem.Spec PyProof.Rows L2
end VL
/-! min of texts; len(set(texts)); dict displays of texts -/
namespace L2
open PySem PySem.Spec PyProof.Rows
end L2
namespace VL
open PySem PySem.Spec PyProof.Rows L2
def M.minS (xs : List Str) : M Str := fun Φ _ n => 0 < xs.length ∧ ∀ m, m ∈ xs → (∀ y ∈ xs, LeS m y) → Φ m n
@[irreducible] def Mi.minS (xs : List Str) : M Str := M.minS xs
end VL
/-! C61: f-strings of texts. -/
namespace VL
open PySem PySem.Spec PyProof.Rows L2
section
variable {C : Cfg} {α : Type} {ps : List SL}
def M.cat (a b : Str) : M Str := M.when ((a ++ b).length ≤ sizeLine) (a ++ b)
def M.fits (a : Str) : M Str := M.when (a.length ≤ sizeLine) a
@[irreducible] def Mi.cat (a b : Str) : M Str := M.cat a b
@[irreducible] def Mi.fits (a : Str) : M Str := M.fits a
end
end VL
/-! C62: == of tuples by the parts' own ==, told either way. -/
/-! C63: == of tuples of instances that have an own __eq__. -/
namespace L2
open PySem PySem.Spec PyProof.Rows
end L2
/-! C64: == of trees in the typed layer. -/
namespace VL
open PySem PySem.Spec PyProof.Rows L2
def eqL {α : Type} (f : α → α → Bool) : List α → List α → Bool
  | [], [] => true
  | x :: xs, y :: ys => f x y && eqL f xs ys
  | _, _ => false
/-- no higher than m -/
def lvT : Nat → d_Tree → Bool
  | 0, _ => false
  | m + 1, a => a.outs.all PyData.strOk && a.parts.all (lvT m)
def okT : Nat → d_Tree → Bool
  | 0, _ => true
  | m + 1, a => a.outs.all PyData.strOk && a.parts.all (okT m)
/-- the same kind, outcomes and parts -/
def eqTb : Nat → d_Tree → d_Tree → Bool
  | 0, _, _ => false
  | m + 1, a, b => decide (a.kind = b.kind) && (decide (a.outs = b.outs) && eqL (eqTb m) a.parts b.parts)
end VL
namespace VL
open PySem PySem.Spec PyProof.Rows L2
end VL
/-! C65: classmethods with *args that raise; lists of a text and a datum or a tree -/
namespace L2
open PySem PySem.Spec PyProof.Rows
end L2
namespace VL
open PySem PySem.Spec PyProof.Rows L2
section
variable {C : Cfg} {α β γ : Type} {ps : List SL} {t : TA} {te ta tb : TE}
/-! a datum or a tree -/
/-- a list of a text and a datum or a tree -/
def M.unT (q : PyData ⊕ d_Tree) : M d_Tree := fun Q _ n => ∃ t, q = .inr t ∧ Q t n
def M.unD (q : Str × (PyData ⊕ d_Tree)) : M (Str × PyData) := fun Q _ n => ∃ d, q.2 = .inl d ∧ Q (q.1, d) n
@[irreducible] def Mi.unT (q : PyData ⊕ d_Tree) : M d_Tree := M.unT q
@[irreducible] def Mi.unD (q : Str × (PyData ⊕ d_Tree)) : M (Str × PyData) := M.unD q
end
end VL
/-! C66: x == () -/
namespace L2
open PySem PySem.Spec PyProof.Rows
end L2
namespace VL
open PySem PySem.Spec PyProof.Rows L2
def M.eqT0 {α β : Type} (a : List α) (b : List β) : M Bool := M.when (b.length = 0) (a.length == 0)
@[irreducible] def Mi.eqT0 {α β : Type} (a : List α) (b : List β) : M Bool := M.eqT0 a b
end VL
/-! C67: a def with a lambda of its own that may raise. -/
namespace VL
open PySem PySem.Spec PyProof.Rows L2 VL
theorem FunC.okX {P : Program} {w : World} {K : PySem.W.Frag} {mg : Str → Option Value} {base : Heap} {x qual : Str} {st : Stmt} {f c : Addr} {fd : FuncData} {N ps : List Str} {k : Nat} {sp : Sp} (F : FunC K x qual st f fd c) (S : FnScope N ps (defScope st)) (len : ∀ vs H Q E, sp vs H Q E → vs.length = ps.length)
    (hbody : ∀ (A : Around) (outer : List Env) (s : Shared) (H : Hp) (vs : List V) (Q : VK) (E : XK), Room k (A.deeper (envOfC qual (defScope st) s.heap.objs.size f (.ref c))) → sp vs H Q E →
      ∃ t, PSs (cxOf (L2.CX P w) P w K mg base N qual (defScope st) f (.ref c) A outer s H E) (defBody st) t ∧ t { nx := fun _ H' => Q .non H', rt := Q } (start N vs) H) : FnOk P w K mg base (L2.CX P w) (k + 1) f fd ps sp := by
  obtain ⟨oc, od, kV, doc, pm, an, ct, osl, rfl, lk, hcd⟩ := F.ex
  exact fn_of lk hcd S len fun A outer s H vs Q E hr hsp => hbody A outer s H vs Q E hr hsp
end VL
/-! C68: xs.count(x) of a list of texts. -/
namespace VL
open PySem PySem.Spec PyProof.Rows L2 VL
end VL
/-! C69: a text walked in a comprehension under an except suite; several except clauses with names whose exceptions have context None. -/
namespace HotX
open PySem PySem.Spec PyProof.Rows
end HotX
namespace L2N
open PySem PySem.Spec PyProof.Rows L2
inductive HdsAs (X : Cx) : List ExceptHandler → List (Value × Nat × (Addr → Value → Option Addr → TS)) → Prop
  | nil : HdsAs X [] []
  | cons {x n : Str} {c : Value} {i : Nat} {ts : Addr → Value → Option Addr → TS} {b₀ : Stmt} {suite : List Stmt} {np pos' : Pos} {hds : List ExceptHandler} {l : List (Value × Nat × (Addr → Value → Option Addr → TS))}
      (hi : X.N[i]? = some n) (hln : X.env.kindOf n = some .local) (hc : Names X x c)
      (hsu : ∀ (a : Addr) (oe : Obj) (cls : Value) (d : Option Addr) (pn : List (Addr × Obj)), Zn cls d oe → (∃ vs, oe.data = .fields vs) → PSs (X.suite a ((a, oe) :: pn)) (b₀ :: suite) (ts a cls d)) (r : HdsAs X hds l) :
      HdsAs X (.ExceptHandler (some (.Name x np)) (some n) (b₀ :: suite) pos' :: hds) ((c, i, ts) :: l)
section
variable {X : Cx} {body : List Stmt} {h₀ : ExceptHandler} {hds : List ExceptHandler} {l : List (Value × Nat × (Addr → Value → Option Addr → TS))} {pos : Pos} {tb : WX → TS} {Wout : WX}
theorem ps_try_manyAs (hs : X.stack = X.env :: X.outer) (hf : X.env.frame = some X.env.locals) (hN : X.N.Nodup) (tk : Takes X Wout)
    (hb : ∀ (W : WX) (pn : List (Addr × Obj)) (xe : Value → Shared → Prop), Takes (X.tr pn xe) W → PassesOwn (model X.prog X.w) X.A X.env xe → PSs (X.tr pn xe) body (tb W))
    (hh : HdsAs X (h₀ :: hds) l) : PS X (.Try body (h₀ :: hds) [] [] pos) (fun D σ H => tb (wManyAs X.K Wout D l) D σ H) := by
  refine ⟨fun pins s σ H D I h => wpAny_Try_except ?_⟩
  have ok := I.ok
  have hfr : X.A.frames = some (X.env :: X.outer) := by rw [ok.frames, hs]
  refine wpAny_mono ((hb (wManyAs X.K Wout D l) (X.pn ++ pins) (fun e s₁ => wpAny (model X.prog X.w) X.A (noteFrame e X.env) (fun _ s₂ => wpAny (model X.prog X.w) X.A (setFlight e none) (fun _ s₃ =>
    wpAny (model X.prog X.w) X.A (handleBy e X.env (h₀ :: hds)) (SP X pins D) X.xe s₃) X.xe s₂) X.xe s₁) (fun u s' xx => ?_) PassesOwn.looking).run [] s σ H D (I.toTry _) h) (fun f s1 hsp => ?_) (fun e s1 he => he)
  · obtain ⟨a, B, sI, pins', σ', H', cls, d, rfl, J', nb, up, sky, na, os, ag, w⟩ := xx
    have J : Inv X pins σ' H' sI := J'.ofTry ok
    have sky' : Sky B (X.env :: X.outer) a (Zn cls d) X.env.locals s'.heap := by rw [← hs]; exact sky
    refine Sky.land Zn.steady hfr hf sky' fun h3 fl3 up3 => ?_
    have J3 : Inv X pins σ' H' { s' with heap := h3 } := J.landed nb fl3.1 (up.trans up3) os ag
    obtain ⟨oe3, vs3, he3, hz3, hd3⟩ := fl3.there
    have nfr : a ∉ frs (X.env :: X.outer) := fun hm => by
      obtain ⟨_, o', e', hnf⟩ := fl3.2.2.1.mem hm
      rw [he3] at e'
      cases e'
      exact hnf _ hd3
    have nL : a ≠ X.env.locals := fun z => nfr (List.mem_filterMap.mpr ⟨X.env, List.mem_cons_self, by rw [hf, z]⟩)
    have nF : a ∉ X.fs := fun hm => by
      obtain ⟨e, he, q⟩ := List.mem_filterMap.mp hm
      exact nfr (List.mem_filterMap.mpr ⟨e, List.mem_cons_of_mem _ he, q⟩)
    have S3 := J3.suite he3 hd3 na nL nF
    have go : ∀ {hds' : List ExceptHandler} {l' : List (Value × Nat × (Addr → Value → Option Addr → TS))}, HdsAs X hds' l' → wManyAs X.K Wout D l' cls d σ' H' →
        wpAny (model X.prog X.w) X.A (handleBy (.ref a) X.env hds') (SP X pins D) X.xe { s' with heap := h3 } := by
      intro hds' l' hk
      induction hk with
      | nil =>
        intro w
        refine wpAny_handleBy_nil ?_
        obtain ⟨k1, k2, k3, oe, vs, T, oT, ts', he, hz, hd, h1, hr⟩ := id fl3
        have fin : wpAny (model X.prog X.w) X.A (setFlight (.ref a) X.env.frame) (fun _ s4 => wpAny (model X.prog X.w) X.A (throw (.ref a) : Sem Flow) (SP X pins D) X.xe s4) X.xe { s' with heap := h3 } := by
          rw [hf]
          exact HandSPX.setFlight_upZ fl3 fun h4 hh4 up4 => wpAny_throw (tk _ _ ⟨a, B, sI, pins, σ', H', cls, d, rfl, J, nb, (up.trans up3).trans up4, .inr (.inr (by rw [hs]; exact hh4)), na, os, ag, w⟩)
        unfold PySem.passOn
        refine wpAny_bind (wpAny_field he hd h1 ?_)
        rw [if_neg (show ¬ ((Value.ref T == Value.none) = true) from by simp)]
        first
          | exact wpAny_bind (wpAny_pure (wpAny_bind fin))
          | exact wpAny_bind fin
      | @cons x n c i ts b₀ suite np pos' hds2 l2 hi hln hc hsu r ih =>
        intro w
        obtain ⟨b, hb1, hyes, hno⟩ := w
        refine wpAny_handleBy_cons (codeAny_handlers_test ?_) (by intro q; cases q)
        have LT : PySem.W.Looks (model X.prog X.w) h3 (typeOf (.ref a)) cls := fun A Q E s k q => wpAny_typeOf_ref (k _ _ he3) (by rw [hz3.1]; exact q)
        have LM := PySem.W.exm_one (M := model X.prog X.w) J3.kIn LT hb1
        have test : ∀ {Q : Value → Shared → Prop} {E : Value → Shared → Prop}, Q c { s' with heap := h3 } → wpAny (model X.prog X.w) (X.A.mark (some (.ref a))) (eval (.Name x np) X.env) Q E { s' with heap := h3 } := fun {Q E} q => by
          obtain ⟨hg, hdbg, hm⟩ := hc
          rcases hm with hm | ⟨hm, hv, hnn⟩
          · exact ld_glob (X := X.suite a ((a, oe3) :: (X.pn ++ pins))) S3 hg hm q hdbg
          · exact ld_blt (X := X.suite a ((a, oe3) :: (X.pn ++ pins))) S3 hg hm hv q hnn hdbg
        refine test (LM.here ?_)
        cases b with
        | false => exact ih (hno rfl)
        | true =>
          refine codeAny_handlers_suite_as (HandSPX.lands_againZ fl3 fun h4 fl4 up4 => ?_)
          have J4 : Inv X pins σ' H' { s' with heap := h4 } := J.landed nb fl4.1 ((up.trans up3).trans up4) os ag
          obtain ⟨oe4, vs4, he4, hz4, hd4⟩ := fl4.there
          have S4 := J4.suite he4 hd4 na nL nF
          refine store_ok (X := X.suite a ((a, oe4) :: (X.pn ++ pins))) (v := .ref a) S4 hN hi (.inl hln) rfl (fun s5 S5 => ?_) (.inr hln)
          refine wpAny_mono ((hsu a oe4 cls d (X.pn ++ pins) hz4 ⟨_, hd4⟩).run [] s5 _ H' _ S5 (hyes rfl a na)) (fun f s6 hsp => ?_) (fun _ _ z => False.elim z)
          have fin : ∀ {σ6 : St} {H6 : Hp} {Q : Shared → Prop}, Inv (X.suite a ((a, oe4) :: (X.pn ++ pins))) [] σ6 H6 s6 → (∀ s7, Inv X pins (σ6.set i none) H6 s7 → Q s7) →
              wpAny (model X.prog X.w) X.A (do bindName X.env n .none; unbindBehindTheSuite X.env n pos') (fun _ s7 => Q s7) X.xe s6 := fun {σ6 H6 Q} S6 hq => gone_ok (S6.unsuite ok) hN hi hln hq
          cases f with
          | next =>
            obtain ⟨σ6, H6, S6, q6⟩ := hsp
            exact fin S6 fun s7 J7 => ⟨_, _, J7, q6⟩
          | brk =>
            obtain ⟨σ6, H6, S6, q6⟩ := hsp
            exact fin S6 fun s7 J7 => ⟨_, _, J7, q6⟩
          | cont =>
            obtain ⟨σ6, H6, S6, q6⟩ := hsp
            exact fin S6 fun s7 J7 => ⟨_, _, J7, q6⟩
          | ret u =>
            obtain ⟨v6, σ6, H6, S6, r6, q6⟩ := hsp
            exact fin S6 fun s7 J7 => ⟨_, _, _, J7, r6, q6⟩
    exact go hh w
  · cases f with
    | next =>
      obtain ⟨σ', H', J', q⟩ := hsp
      exact wpAny_execs_nil ⟨σ', H', J'.ofTry ok, q⟩
    | brk =>
      obtain ⟨σ', H', J', q⟩ := hsp
      exact ⟨σ', H', J'.ofTry ok, q⟩
    | cont =>
      obtain ⟨σ', H', J', q⟩ := hsp
      exact ⟨σ', H', J'.ofTry ok, q⟩
    | ret u =>
      obtain ⟨v, σ', H', J', r, q⟩ := hsp
      exact ⟨v, σ', H', J'.ofTry ok, r, q⟩
end
end L2N
namespace L2H
open PySem PySem.Spec PyProof.Rows L2
theorem RoomH.units {k : Nat} {A : Around} (r : RoomH k A) : A.units + 64 < cLine := by have := r.un; omega
end L2H
/-! C70: lists or tuples of lists or tuples: an item, as one. -/
namespace VL
open PySem PySem.Spec PyProof.Rows L2 VL
end VL
/-! C71: a classmethod with *args called with a starred list. -/
namespace L2
open PySem PySem.Spec PyProof.Rows
end L2
namespace VL
open PySem PySem.Spec PyProof.Rows L2
end VL
/-! C72: != of two lists whose items are equal, some by an own __eq__; data or a tree as an optional tree. -/
namespace L2
open PySem PySem.Spec PyProof.Rows
end L2
namespace VL
open PySem PySem.Spec PyProof.Rows L2
/-- != of two such lists, which are equal -/
def M.neOt (m : Nat) (a b : Str × (PyData ⊕ d_Tree)) : M Bool := fun Φ _ n => (a.1 = b.1 ∧ ((∃ d, a.2 = .inl d ∧ b.2 = .inl d ∧ okF d = true ∧ PyData.depth d ≤ 60) ∨ ∃ s t, a.2 = .inr s ∧ b.2 = .inr t ∧ lvT m s = true ∧ okT m t = true ∧ eqTb m s t = true)) ∧ Φ false n
/-- none, or a tree -/
def otO : Option d_Tree → PyData ⊕ d_Tree
  | none => .inl .none
  | some t => .inr t
def M.unO (q : PyData ⊕ d_Tree) : M (Option d_Tree) := fun Φ _ n => ∃ o, q = otO o ∧ Φ o n
@[irreducible] def Mi.neOt (m : Nat) (a b : Str × (PyData ⊕ d_Tree)) : M Bool := M.neOt m a b
@[irreducible] def Mi.unO (q : PyData ⊕ d_Tree) : M (Option d_Tree) := M.unO q
end VL
/-! x in a list or a tuple of texts -/
namespace VL
open PySem PySem.Spec PyProof.Rows L2
section
variable {C : Cfg}
theorem v2_inQ : V2 C (rIn C.K false) rStr (rSq rStr) (fun a b => M.pure (decide (a ∈ b))) (Fz rBl) := by
  rintro a b v u σ G W H n Q Φ Ψ hv (h | h) st hm k x
  · exact v2_inL a b v u σ G W H n Q Φ Ψ hv h st hm k x
  · exact v2_inT a b v u σ G W H n Q Φ Ψ hv h st hm k x
end
end VL
/-! dicts by text: x in d, d != e, a dict as data, dict(pairs), walked in a comprehension -/
namespace L2
open PySem PySem.Spec PyProof.Rows
section
open PySem.W
variable {prog : Program} {w : World} {K : Type} [DecidableEq K] {knd : KeyKind prog w K} {A : Around} {E : Value → Shared → Prop} {s : Shared}
theorem dict_neIn {a b : Addr} {ka kb : List (K × Value)} {r : Bool} {Q : Value → Shared → Prop} (ha : (a == sysModules) = false) (hb : (b == sysModules) = false) (da : s.heap.DictOf knd a ka) (db : s.heap.DictOf knd b kb) (hu : A.units < cLine) (hits : ka.length = kb.length → KeqHitsIn prog w A.in1 s kb ka r)
    (h : Q (.bool (!(ka.length == kb.length && r))) s) : wpAny (model prog w) A (compareOp .NotEq (.ref a) (.ref b)) Q E s := by
  refine wpAny_richCompare_same_room (op := .NotEq) da.typeIs db.typeIs PySem.F.slot_dict_ne (wpAny_call_entry PySem.F.slot_dict_ne da.typeIs PySem.F.entry_dict_ne ?_ (PySem.F.args_dict_ne_2 _ _)) hu; show wpAny _ _ (Builtin.Dict.dictSlotArgs "__ne__" ⟨[.ref a, .ref b], []⟩ >>= _) _ _ s
  refine wpAny_bind ?_; unfold Builtin.Dict.dictSlotArgs; refine wpAny_bind (wpAny_notOrdered_dict da.typeIs ?_); show wpAny _ _ (pure (Value.ref a, Value.ref b)) _ _ s; refine wpAny_pure ?_
  refine wpAny_bind (wpAny_isInstance (T := "dict") db.typeIs PySem.F.sub_dict_dict ?_); simp only [Bool.not_true, Bool.false_eq_true, if_false]; refine wpAny_bind (wpAny_pure (wpAny_bind (wpAny_pure ?_)))
  refine wpAny_bind (keq_samePairsIn ha hb da db hits ?_); refine wpAny_pure ⟨_, rfl, ?_, ?_⟩; · exact fun x => nomatch x
  simpa using h
end
def rNeDG : R2 := fun x y H Q => ∃ d e, VL.Dq H x (.dict d) ∧ VL.Dq H y (.dict e) ∧ VL.dok (.dict d) = true ∧ VL.dok (.dict e) = true ∧ PyData.depth (.dict d) ≤ 60 ∧ Q (.bl (!VL.eqvD (.dict d) (.dict e))) H
section
variable {X : Cx}
open VL in
theorem op_neDG (hu : X.A.units + 100 < cLine) : OpR X (compareOp .NotEq) rNeDG := by
  rintro pins s σ H x y v u Q I rx ry ⟨d, e, hd, he, od, oe, hn, q⟩
  obtain ⟨a, ks, ds, rfl, h1, h2, ed⟩ := dq_dict hd
  obtain ⟨b, ls, es, rfl, h3, h4, ee⟩ := dq_dict he
  obtain rfl : v = _ := rx
  obtain rfl : u = _ := ry
  have ed : d = prsD ds := ed
  have ee : e = prsD es := ee
  subst ed ee
  have od0 := od
  have oe0 := oe
  have hm : PyData.depthKv (prsD ds) ≤ 60 := by simp only [PyData.depth] at hn; omega
  simp only [dok, Bool.and_eq_true] at od0 oe0
  have nd := of_decide_eq_true od0.1
  rw [keys_prs] at nd
  obtain ⟨_, ya, va, ra, da⟩ := (show ObjOk X.prog X.w H s.heap a (.dK ks) from I.hok a _ h1)
  obtain ⟨_, yb, vb, rb, db⟩ := (show ObjOk X.prog X.w H s.heap b (.dK ls) from I.hok b _ h3)
  have ea : ks.length = va.length := ra.length
  have eb : ls.length = vb.length := rb.length
  rw [eqvD_dict h2 h4 nd, hits_allV (kEq ds es) ra rb, ea, eb] at q
  refine dict_neIn ya yb da db (by omega) (fun _ => PySem.W.KeqHitsIn.of (e := kEq ds es) _ fun k v y hm' hv => ?_) ⟨.bl _, H, I, rfl, q⟩
  obtain ⟨v0, hm0, rv0⟩ := kv_mem ra hm'
  obtain ⟨y0, hy0, ry0⟩ := val_is rb hv
  obtain ⟨z, d0, rfl, hzd, dq0⟩ := kv_in h2 hm0
  rcases kv_val h4 z with ⟨z1, _⟩ | ⟨v1, d1, z1, z2, dq1⟩
  · rw [hy0] at z1; cases z1
  · rw [hy0] at z1
    cases z1
    have e0 : kEq ds es (.inr z) = eqvD d0 d1 := by
      show (match fndD z (prsD ds), fndD z (prsD es) with | some d, some y => eqvD d y | _, _ => false) = _
      rw [fnd_self nd hzd, z2]
    rw [e0]
    exact (tree_D I 60 d0 d1 v0 y0 _ _ (Nat.le_trans (depthKv_mem _ hzd) hm) (dokk_mem od0.2 _ hzd) (dokk_mem oe0.2 _ (fnd_mem z2)) dq0 dq1 rv0 ry0).at X.A.in1 (by show X.A.units + 1 + 60 < cLine; omega)
end
end L2
namespace VL
open PySem PySem.Spec PyProof.Rows L2
theorem repsD_dq {α : Type} {R : α → VP} [I : IsD R] {G : Hp} : ∀ {d : List (Str × α)} {ks : List (Key × V)}, repsD R d ks G → DqKv G ks (d.map fun p => (p.1, IsD.d R p.2))
  | [], [], _ => .nil
  | [], _ :: _, h => h.elim
  | _ :: _, [], h => h.elim
  | (z, a) :: d, (k, v) :: ks, h => by
    obtain ⟨h1, h2, h3⟩ := h
    have h1 : k = .inr z := by first | exact h1 | exact h1.symm
    subst h1
    exact .cons (I.dq a v G h2) (repsD_dq h3)
instance {α : Type} {R : α → VP} [I : IsD R] : IsD (rDct R) := ⟨fun d => .dict (d.map fun p => (.str p.1, IsD.d R p.2)), fun d v G h => by
  obtain ⟨p, ks, rfl, h1, h2⟩ := h
  have := Dq.dict h1 (repsD_dq h2)
  rw [List.map_map] at this
  exact this⟩
section
variable {C : Cfg} {α β : Type} {ps : List SL} {te ta : TE}
def M.neDG (d e : PyData) : M Bool := fun Φ _ n => dok d = true ∧ dok e = true ∧ PyData.depth d ≤ 60 ∧ Φ (!eqvD d e) n
theorem v2_neDG {R : α → VP} {S : β → VP} [I : IsD R] [J : IsD S] : V2 C rNeDG (rDct R) (rDct S) (fun a b => M.neDG (IsD.d (rDct R) a) (IsD.d (rDct S) b)) (Fz rBl) := by
  rintro a b v u σ G W H n Q Φ Ψ hv hu st ⟨h1, h2, h3, hm⟩ k x
  exact ⟨_, _, dq_up st.gh ((inferInstance : IsD (rDct R)).dq a v G hv), dq_up st.gh ((inferInstance : IsD (rDct S)).dq b u G hu), h1, h2, h3, k.hereF (a := !eqvD (IsD.d (rDct R) a) (IsD.d (rDct S) b)) st hm rfl⟩
theorem ve_niDct {R : β → VP} {mk : M Str} {m : M (List (Str × β))} (hk : VE C ta ps mk (Fz rStr)) (h : VE C te ps m (Fz (rDct R))) : VE C (tDNotIn ta te) ps (M.bind mk fun k => M.bind m fun d => M.pure (!(getD d k).isSome)) (Fz rBl) := by
  intro σ G W H n Q Φ Ψ e st hm k x
  refine hk σ G W H n _ (fun z n' => M.bind m (fun d => M.pure (!(getD d z).isSome)) Φ Ψ n') Ψ e st hm ?_ x
  rintro z n1 u G1 W1 H1 hm1 s1 t1 r1 _
  have r1 : u = .str z := r1
  subst r1
  have st1 := st.stp s1 t1
  refine h σ G1 W1 H1 n1 _ (fun d n' => Φ (!(getD d z).isSome) n') Ψ (e.stp s1) st1 hm1 ?_ (x.stp s1)
  rintro d n2 v G2 W2 H2 hm2 s2 t2 ⟨p, ks, rfl, h1, h2⟩ _
  have st2 := st1.stp s2 t2
  have q := h2.get (k := z)
  refine ⟨p, valV ks (.inr z), rfl, DGet.k (k := (.inr z : Key)) (st2.gh _ _ h1), ?_⟩
  have e1 : (valV ks (.inr z)).isSome = (getD d z).isSome := by
    revert q
    cases getD d z with
    | none => intro h; rw [h]; rfl
    | some a => rintro ⟨w, hw, _⟩; rw [hw]; rfl
  rw [e1]
  exact (k.stp (s1.trans s2)).hereF (a := !(getD d z).isSome) st2 hm2 rfl
end
end VL
/-! dict(pairs), d.clear(), a dict of data as one of whole numbers -/
namespace VL
open PySem PySem.Spec PyProof.Rows L2
section
variable {C : Cfg} {α β : Type} {ps : List SL} {te ta : TE}
def dOf {α : Type} (d : List (Str × α)) (qs : List (Str × α)) : List (Str × α) := qs.foldl (fun acc q => putD acc q.1 q.2) d
theorem reps_pairs {R : α → VP} {G : Hp} : ∀ {qs : List (Str × α)} {vs : List V}, reps (rPr rStr R) qs vs G → ∃ (as : List Addr) (kvs : List (Key × V)), vs = as.map V.ref ∧ Paired (fun p (kv : Key × V) => G p = some (.tup [kV kv.1, kv.2])) as kvs ∧ ∀ {d : List (Str × α)} {ks : List (Key × V)}, repsD R d ks G → repsD R (dOf d qs) (mergeK ks kvs) G
  | [], [], _ => ⟨[], [], rfl, .nil, fun h => h⟩
  | [], _ :: _, h => h.elim
  | _ :: _, [], h => h.elim
  | q :: qs, v :: vs, h => by
    obtain ⟨⟨p, x, y, rfl, g, hx, hy⟩, h2⟩ := h
    obtain ⟨as, kvs, rfl, pr, k⟩ := reps_pairs h2
    have hx : x = .str q.1 := hx
    subst hx
    exact ⟨p :: as, (.inr q.1, y) :: kvs, rfl, .cons g pr, fun hd => k (hd.put hy)⟩
theorem vn_dictPr {K : PySem.W.Frag} (hK : C.K = K) {R : α → VP} : Vn C (fun xs H Q => ∃ (a : Addr) (ps : List Addr) (kvs : List (Key × V)), xs = [.ref a] ∧ SqL K H a (ps.map V.ref) ∧ Paired (fun p (kv : Key × V) => SqT K H p [kV kv.1, kv.2]) ps kvs ∧ ∀ p, H p = none → Q (.ref p) (upd H p (.dK (mergeK [] kvs))))
    (fun q : List (Str × α) × Unit => [rLst (rPr rStr R) q.1]) (fun q => M.pure (dOf [] q.1)) (Ow (cDct R)) := by
  subst hK
  rintro q vs σ G W H n Q Φ Ψ (_ | ⟨⟨p, us, rfl, h1, h2⟩, _ | _⟩) st hm k x
  obtain ⟨as, kvs, rfl, pr, kd⟩ := reps_pairs h2
  have pr2 : Paired (fun p (kv : Key × V) => SqT C.K H p [kV kv.1, kv.2]) as kvs := by
    have : ∀ {as : List Addr} {kvs : List (Key × V)}, Paired (fun p (kv : Key × V) => G p = some (.tup [kV kv.1, kv.2])) as kvs → Paired (fun p (kv : Key × V) => SqT C.K H p [kV kv.1, kv.2]) as kvs := by
      intro as kvs h
      induction h with
      | nil => exact .nil
      | cons a b ih => exact .cons (SqT.of (st.gh _ _ a)) ih
    exact this pr
  exact ⟨p, as, kvs, rfl, SqL.of (st.gh _ _ h1), pr2, fun r hr => k.newO (a := dOf [] q.1) st hm hr ⟨_, rfl, kd (show repsD R [] [] G from trivial)⟩⟩
theorem own_getD {σ : L2.St} {G W H : Hp} {n : Nat} {i : Nat} {R : α → VP} {d : List (Str × α)} (e : Ee C.B ps σ G W) (st : Stt C n G W H) (hi : ps[i]? = some (.ow (cDct R d))) :
    ∃ p ks, σ[i]? = some (some (.ref p)) ∧ W p = some (.dK ks) ∧ H p = some (.dK ks) ∧ G p = none ∧ C.B p = none ∧ repsD R d ks G := by
  obtain ⟨v, hσ, p, o, rfl, hw, hg, hb, ks, rfl, hr⟩ := e.at_ hi (by simp)
  exact ⟨p, ks, hσ, hw, st.wh _ _ hw, hg, hb, hr⟩
theorem vx_clearD {R : α → VP} {d : List (Str × α)} {i : Nat} (hp : PxLe C.px ps) (hi : ps[i]? = some (.ow (cDct R d)) := by rfl) :
    VX C (tBM0 C.K "dict" rDClear (tVar i)) ps (M.pure ()) (fun _ => .fr (rNon ())) (fun _ => ps.set i (.ow (cDct R []))) := by
  rintro σ G W H n Q Φ Ψ e st hm k x
  obtain ⟨p, ks, hσ, hw, hh, hg, hb, hr⟩ := own_getD e st hi
  exact ⟨.ref p, hσ, .inr (.inr (.inl ⟨rfl, .inl ⟨ks, hh⟩⟩)), p, ks, rfl, rfl, hh, k () n .non G (upd W p (.dK [])) _ hm (Same.refl _) (e.putOwn hi hσ ⟨_, rfl, trivial⟩) (st.put hw hg hb) rfl fun c h => nomatch h⟩
def M.datDI (d : List (Str × PyData)) : M (List (Str × Int)) := fun Φ _ n => ∃ e : List (Str × Int), d = e.map (fun p => (p.1, .int p.2)) ∧ Φ e n
theorem repsD_int {G : Hp} : ∀ {d : List (Str × Int)} {ks : List (Key × V)}, repsD rDat (d.map fun p => (p.1, PyData.int p.2)) ks G → repsD rInt d ks G
  | [], [], _ => trivial
  | [], _ :: _, h => h.elim
  | _ :: _, [], h => h.elim
  | (z, a) :: d, (k, v) :: ks, h => by
    obtain ⟨h1, h2, h3⟩ := h
    exact ⟨h1, dq_int h2, repsD_int h3⟩
theorem ve_dctI {m : M (List (Str × PyData))} (h : VE C te ps m (Fz (rDct rDat))) : VE C te ps (M.bind m fun d => M.datDI d) (Fz (rDct rInt)) := by
  intro σ G W H n Q Φ Ψ e st hm k x
  refine h σ G W H n Q (fun d n' => M.datDI d Φ Ψ n') Ψ e st hm (fun d n2 v G2 W2 H2 hΦ s2 t2 r2 f2 => ?_) x
  obtain ⟨e, rfl, hΦ⟩ := hΦ
  obtain ⟨p, ks, rfl, h1, h2⟩ := r2
  exact k e n2 _ G2 W2 H2 hΦ s2 t2 ⟨p, ks, rfl, h1, repsD_int h2⟩ f2
end
@[irreducible] def Mi.neDG (d e : PyData) : M Bool := M.neDG d e
@[irreducible] def Mi.datDI (d : List (Str × PyData)) : M (List (Str × Int)) := M.datDI d
theorem neDG_i {d e : PyData} {Φ : Bool → Nat → Prop} {Ψ : Exc → Nat → Prop} {n : Nat} (h1 : dok d = true) (h2 : dok e = true) (h3 : PyData.depth d ≤ 60) (k : Φ (!eqvD d e) n) : Mi.neDG d e Φ Ψ n := by delta Mi.neDG; exact ⟨h1, h2, h3, k⟩
theorem datDI_i {e : List (Str × Int)} {Φ : List (Str × Int) → Nat → Prop} {Ψ : Exc → Nat → Prop} {n : Nat} (k : Φ e n) : Mi.datDI (e.map fun p => (p.1, PyData.int p.2)) Φ Ψ n := by delta Mi.datDI; exact ⟨e, rfl, k⟩
end VL
/-! a dict that is handed to a maker and changed afterwards: what is made does not hold it -/
namespace VL
open PySem PySem.Spec PyProof.Rows L2
/-- the dict at p0 -/
def rDctAt {α : Type} (p0 : Addr) (R : α → VP) (d : List (Str × α)) : VP := ⟨fun v G => v = .ref p0 ∧ ∃ ks, G p0 = some (.dK ks) ∧ repsD R d ks G, fun e ⟨h, ks, h1, h2⟩ => ⟨h, ks, e _ _ h1, h2.up e⟩⟩
/-- a dict elsewhere -/
def rDctNe {α : Type} (p0 : Addr) (R : α → VP) (d : List (Str × α)) : VP := ⟨fun v G => ∃ p ks, v = .ref p ∧ p ≠ p0 ∧ G p = some (.dK ks) ∧ repsD R d ks G, fun e ⟨p, ks, h, h0, h1, h2⟩ => ⟨p, ks, h, h0, e _ _ h1, h2.up e⟩⟩
section
variable {mg : Str → Option Value} {K : PySem.W.Frag} {TB : List (Addr × Str)}
variable (mg K TB) in
def spIN {α β : Type} (Cl : Addr) (Rs : Addr → α → List VP) (F : α → M β) (c : Addr → β → CP) : Sp := fun vs H Q E => ∃ p0, spI mg K TB Cl (Rs p0) F (c p0) vs H Q E
theorem spIN_len {α β : Type} {Cl : Addr} {Rs : Addr → α → List VP} {F : α → M β} {c : Addr → β → CP} {p : Str} {ps : List Str} (h : ∀ p0 a, (Rs p0 a).length = ps.length := by intro _ _; rfl) : ∀ vs H Q E, spIN mg K TB Cl Rs F c vs H Q E → vs.length = (p :: ps).length := by
  rintro vs H Q E ⟨p0, h0⟩
  exact spI_len (h p0) vs H Q E h0
end
section
variable {C : Cfg} {α β γ δ : Type} {ps : List SL} {te : TE} {Cl : Addr}
theorem ve_at {p0 : Addr} {R : α → VP} {m : M (List (Str × α))} (h : VE C te ps m (Fz (rDctAt p0 R))) : VE C te ps m (Fz (rDct R)) := by
  intro σ G W H n Q Φ Ψ e st hm k x
  exact h σ G W H n Q Φ Ψ e st hm (fun a n' v G' W' H' hΦ s t r f => k a n' v G' W' H' hΦ s t (let ⟨r0, ks, r1, r2⟩ := r; ⟨p0, ks, r0, r1, r2⟩) f) x
theorem ve_frDne {p0 : Addr} {i : Nat} {S : δ → VP} {d : List (Str × δ)} {R : α → VP} {m : M (List (Str × α))} (h : VE C te ps m (Ow (cDct R))) (hi : ps[i]? = some (.fr (rDctAt p0 S d)) := by rfl) : VE C te ps m (Fz (rDctNe p0 R)) := by
  intro σ G W H n Q Φ Ψ e st hm k x
  obtain ⟨v0, _, _, ks0, g0, _⟩ := e.at_ hi (by simp)
  refine h σ G W H n Q Φ Ψ e st hm ?_ x
  intro a n' v G' W' H' hΦ s t r f
  obtain ⟨p, o, rfl, h1, h2, h3, ks, rfl, h4⟩ := r
  have hw := f p rfl
  have ne : p ≠ p0 := fun z => by subst z; rw [s.g _ _ g0] at h2; cases h2
  refine k a n' _ (upd G' p (.dK ks)) W' H' hΦ ⟨s.g.trans (same_upd h2), s.w, same_put s.gw h1, fun q x hq => ?_⟩ t ⟨p, ks, rfl, ne, upd_same, h4.up (same_upd h2)⟩ trivial
  by_cases z : q = p
  · subst z; exact .inr (.inl hw)
  · rw [upd_ne z] at hq; exact s.ng q x hq
theorem ve_makeKN {Rs : Addr → α → List VP} {F : α → M β} {c : Addr → β → CP} {c2 : β → CP} {m : M γ} {R2 : Addr → γ → List VP} {E : XK} {tk : TA} {gV : List V → List V → List V} {k0 : Nat} {i : Nat} {R : δ → VP} {d : List (Str × δ)} (f : γ → α) (hi : ps[i]? = some (.ow (cDct R d)))
    (hc : ∀ b o G2 p ks, G2 p = some (.dK ks) → (c p b).P o G2 → (c2 b).P o (VL.del G2 p)) (ha : ∀ p0, VA C tk (ps.set i (.fr (rDctAt p0 R d))) m (R2 p0)) (hk : ∀ p0 b, (R2 p0 b).length = k0)
    (hg : ∀ p0 x b zs G, RepL (R2 p0 b) zs G → ∃ vs, gV [x] zs = x :: vs ∧ RepL (Rs p0 (f b)) vs G) :
    VE C (tMakeK Cl 0 k0 (spIN C.mg C.K C.TB Cl Rs F c) gV E tNil tk) ps (M.nox (M.bind m fun a => M.nox (F (f a)))) (Ow c2) := by
  intro σ G W H n Q Φ Ψ e st hm k x
  obtain ⟨v, hσ, p, o, rfl, hw, hgp, hb, hP⟩ := e.at_ hi (by simp)
  have hP0 := hP
  obtain ⟨ks, rfl, _⟩ := hP
  have hsh : (rDctAt p R d).P (.ref p) (upd G p (.dK ks)) := by
    obtain ⟨p', ks', e', h', h''⟩ := cDct_show p _ G hP0 hgp
    cases e'
    exact ⟨rfl, ks', h', h''⟩
  have e1 := e.show hi hσ hw hgp hsh
  have st0 := st.show hw hgp hb
  refine ha p σ (upd G p (.dK ks)) W H n _ (fun a n' => M.nox (F (f a)) Φ (fun _ _ => False) n') (fun _ _ => False) e1 st0 hm (fun a n1 zs G1 W1 H1 hm1 s1 t1 r1 => ?_) xt_no
  have st1 := st0.stp s1 t1
  refine ⟨rfl, r1.len.trans (hk p a), ?_⟩
  intro y dx hy hdx hne
  have hW : W1 y = none := st1.wfree hy
  have sH : Same H1 (upd (upd H1 dx (.own y)) y (.ins Cl dx [])) := fun q o h => by
    rw [upd_ne (ne_of_none h hy), upd_ne (ne_of_none h hdx)]; exact h
  have t2 : C.Θ.T n1 (upd W1 y (.ins Cl dx [])) (upd (upd H1 dx (.own y)) y (.ins Cl dx [])) :=
    C.Θ.ext st1.t sH (same_upd hW) fun q o h => by
      by_cases z : q = y
      · subst z; rw [upd_same] at h ⊢; exact .inr ⟨hy, h, by cases h; exact ⟨(fun _ h => nomatch h), (fun _ h => nomatch h)⟩⟩
      · rw [upd_ne z] at h; exact .inl h
  obtain ⟨vs, hv, rv⟩ := hg p (.ref y) a zs G1 r1
  rw [hv]
  refine ⟨p, C.Θ, f a, y, dx, vs, G1, W1, n1, Φ, fun _ _ => False, rfl, rv, st1.gw, hW, t2, hm1, fun b n2 v G2 W2 H2 hΦ s2 t3 r2 f2 => ?_, fun _ _ _ _ _ _ _ h => h.elim⟩
  rintro rfl
  have r3 := res_call st1.bw r2 fun p h => nomatch h
  obtain ⟨a', o', e1, h1, h2, h3, h4⟩ := r3
  exact ⟨rfl, k b n2 _ (VL.del G2 p) W2 H2 hΦ (lend_back st.gw hgp hw (s1.trans s2)) t3 ⟨a', o', e1, h1, del_none h2, h3, hc b o' G2 p ks (s2.g _ _ (s1.g _ _ upd_same)) h4⟩ fun q hq => s1.w.free (f2 q hq)⟩
end
end VL
namespace VL
open PySem PySem.Spec PyProof.Rows L2
theorem strs_any {G G' : Hp} : ∀ {xs : List Str} {vs : List V}, reps rStr xs vs G → reps rStr xs vs G'
  | [], [], _ => trivial
  | [], _ :: _, h => h.elim
  | _ :: _, [], h => h.elim
  | _ :: _, _ :: _, h => ⟨h.1, strs_any h.2⟩
end VL
/-! a comprehension whose element may raise -/
namespace L2N
open PySem PySem.Spec PyProof.Rows L2
section
variable {M : Model} {A : Around} {E : Value → Shared → Prop} {st : Shared} {Z : Obj → Prop} {gr : Heap} {env cenv : Env} {outer : List Env} {L a : Addr}
/-- a frame notes an exception that another one holds -/
theorem look_otherZ {fl : Value} {Q : Unit → Shared → Prop} (hZ : PXN.Steady1 Z) (hfr : A.frames = some (env :: outer)) (hf : env.frame = some L) (nfl : (fl == rawInt L) = false) (k0 : gr.StaysIn st.heap) (ga : gr.get? a = none) (ff : st.heap.FunFrames gr (env :: outer)) (tr : HandSPX.TracedZ st.heap gr a Z fl)
    (hQ : ∀ h2, HandSPX.HeldZ gr (env :: outer) a Z L h2 → st.heap.UpToSlots h2 → Q () { st with heap := h2 }) : wpAny M A (noteFrame (.ref a) env) Q E st := by
  obtain ⟨ob, us, T, oT, ts, q1, q2, q3, q4, q5, q6, q7, q8, q9⟩ := tr
  unfold noteFrame; simp only [hf]
  refine wpAny_bind (wpAny_field q1 q3 q4 ?_); rw [if_pos (show (Value.ref T != Value.none) = true by simp)]
  refine wpAny_bind (wpAny_field q7 q8 q9 ?_); rw [if_neg (show ¬ ((fl == rawInt L) = true) by rw [nfl]; decide)]
  refine wpAny_bind (wpAny_setField q7 q8 (Array.getElem?_eq_some_iff.mp q9).1 ?_)
  have oth : ∀ c, c ≠ T → (st.heap.update T (Obj.mapFields (·.setIfInBounds 3 Value.none))).get? c = st.heap.get? c := fun c hc => Heap.get?_update_other _ _ fun z => hc z.symm
  have nrec : ∀ c ob2, st.heap.get? c = some ob2 → (∀ ws, ob2.data ≠ .fields ws) → c ≠ T := fun c ob2 h1 h2 z => by
    subst z; rw [q7] at h1; cases h1; exact h2 ts q8
  refine PXN.wpAny_entryZ hZ hfr (ff.of_keeps fun c ob2 h1 h2 => ⟨ob2, (oth c (nrec c ob2 h1 h2)).trans h1, rfl⟩) hf ((oth a fun z => q6 z.symm).trans q1) (fun c ob2 h1 => (oth c fun z => by subst z; rw [q5] at h1; cases h1).trans (k0 c ob2 h1)) ga q3 (Array.getElem?_eq_some_iff.mp q4).1 q2 fun h2 ⟨n1, n2, n3, n4⟩ => ?_
  exact hQ h2 ⟨n1, ga, n2, n3⟩ fun c ob2 h1 h3 => n4 c ob2 ((oth c (nrec c ob2 h1 h3)).trans h1) h3
/-- noted by the frame in which a block of the def runs -/
theorem sky_noted {C : Addr} {Q : Unit → Shared → Prop} (hZ : PXN.Steady1 Z) (hfr : A.frames = some (env :: outer)) (hf : env.frame = some L) (hc : cenv.frame = env.frame) (sk : Sky gr (env :: outer) a Z C st.heap)
    (hQ : ∀ h2, HandSPX.HeldZ gr (env :: outer) a Z L h2 → st.heap.UpToSlots h2 → Q () { st with heap := h2 }) : wpAny M A (noteFrame (.ref a) cenv) Q E st := by
  rw [noteFrame_env _ hc]
  rcases sk with ⟨k1, k2, k3, ob, us, k4, k5, k6, k7⟩ | fl | hd
  · exact PXN.look_newZ hZ hfr k3 hf k4 k1 k2 k6 k7 k5 hQ
  · exact PXN.looks_onZ hZ hfr hf fl hQ
  · obtain ⟨h1, h2, h3, h4⟩ := hd
    cases e : rawInt C == rawInt L with
    | false => exact look_otherZ hZ hfr hf e h1 h2 h3 h4 hQ
    | true =>
      have e2 : rawInt C = rawInt L := by simpa using e
      rw [e2] at h4
      exact HandSPX.againZ hf h4 (hQ st.heap ⟨h1, h2, h3, h4⟩ (Heap.UpToSlots.refl _))
theorem traced_sub {h gr gr2 : Heap} {fl : Value} (sub : ∀ b o, gr2.get? b = some o → gr.get? b = some o) (t : HandSPX.TracedZ h gr a Z fl) : HandSPX.TracedZ h gr2 a Z fl := by
  obtain ⟨ob, us, T, oT, ts, q1, q2, q3, q4, q5, q6⟩ := t
  refine ⟨ob, us, T, oT, ts, q1, q2, q3, q4, ?_, q6⟩
  cases e : gr2.get? T with
  | none => rfl
  | some o => rw [sub _ _ e] at q5; cases q5
/-- a smaller ground -/
theorem sky_sub {l : List Env} {C : Addr} {h gr gr2 : Heap} (sub : ∀ b o, gr2.get? b = some o → gr.get? b = some o) (sk : Sky gr l a Z C h) : Sky gr2 l a Z C h := by
  have none_of : ∀ {b}, gr.get? b = none → gr2.get? b = none := fun {b} hb => by
    cases e : gr2.get? b with
    | none => rfl
    | some o => rw [sub _ _ e] at hb; cases hb
  have frm : h.FunFrames gr l → h.FunFrames gr2 l := fun f => funFrames_none f fun b hb => none_of (f.mem hb).1
  rcases sk with ⟨k1, k2, k3, k4⟩ | ⟨k1, k2, k3, k4⟩ | ⟨k1, k2, k3, k4⟩
  · exact .inl ⟨fun b o e => k1 b o (sub b o e), none_of k2, frm k3, k4⟩
  · exact .inr (.inl ⟨fun b o e => k1 b o (sub b o e), none_of k2, frm k3, traced_sub sub k4⟩)
  · exact .inr (.inr ⟨fun b o e => k1 b o (sub b o e), none_of k2, frm k3, traced_sub sub k4⟩)
end
section
variable {X : Cx}
/-- an exception out of a comprehension's block is in the def's air -/
theorem blk_fails {pins pn : List (Addr × Obj)} {σ : L2.St} {H3 : Hp} {s3 : Shared} {scope : Scope} {ce : Env} {fp : List Addr} {xe : Value → Shared → Prop} {Wx Wb : WX} (hs : X.stack = X.env :: X.outer) (hf : X.env.frame = some X.env.locals) (tk : Takes X Wx)
    (I3 : Inv X pins σ H3 s3) (hce : ce.frame = X.env.frame) (cL : ce.locals = s3.heap.objs.size) (f3 : ∀ b ∈ fp, FpOk X pins H3 b) (hW : ∀ cls d σb Hb, Wb cls d σb Hb → Wx cls d σ Hb) {u : Value} {s' : Shared}
    (x : XE ((X.blk s3 H3 scope ce fp).tr pn xe) Wb u s') : notedBy (model X.prog X.w) X.A ce (CompFails (model X.prog X.w) X.A X.xe ce) u s' := by
  obtain ⟨a, B, sI, pins', σb, Hb, cls, d, rfl, J, nb, up, sky, na, os, ag, w⟩ := x
  have I7 : Inv X pins σ Hb sI := I3.call' (ch := fp) J.os J.base J.hok J.bare fun b hb => ⟨(f3 b hb).2.2.2.1, (f3 b hb).2.1, (f3 b hb).2.2.2.2.1, (f3 b hb).2.2.2.2.2⟩
  have nC : Hb ce.locals = none := J.free
  have fC : FpOk X pins Hb ce.locals := by
    have z := I3.fpOk (H' := Hb) (b := s3.heap.objs.size) (Nat.le_refl _) (by rw [← cL]; exact nC)
    rwa [← cL] at z
  have I8 : Inv X pins σ Hb { sI with heap := PySem.W.hideAll sI.heap [ce.locals], toks := sI.toks } := I7.turned (it := ce.locals) (fun b o hb e => PySem.W.hideAll_get _ e (by simpa using hb)) fC.1 fC.2.1 fC.2.2.2.1 fC.2.2.2.2.1 fC.2.2.2.2.2
  have sk2 : Sky (PySem.W.hideAll B [ce.locals]) (X.env :: X.outer) a (Zn cls d) ce.locals s'.heap := by
    rw [← hs]
    exact sky_sub (fun b o e => PySem.W.of_hideAll _ e) sky
  have hfr : X.A.frames = some (X.env :: X.outer) := by rw [I3.ok.frames, hs]
  refine sky_noted Zn.steady hfr hf hce sk2 fun h1 hh up1 => ?_
  obtain ⟨m, hn, _⟩ := J.loc
  have slots : ∀ {h h' : Heap}, h.UpToSlots h' → ∀ {m}, h.Ns ce.locals m → h'.Ns ce.locals m := fun k _ hn => hn.upToSlots k
  refine ⟨m, slots up1 (slots up hn), fun h2 m2 hn2 sb => ?_⟩
  have bC : (PySem.W.hideAll B [ce.locals]).get? ce.locals = none := PySem.W.hideAll_none _ (by simp)
  obtain ⟨g1, g2, g3, ob, us, T, oT, ts, q1, q2, q3, q4, q5, q6, q7, q8, q9⟩ := hh
  have nf : ∀ {b o ws}, h1.get? b = some o → o.data = .fields ws → b ≠ ce.locals := fun {b o ws} e1 e2 z => by
    subst z
    obtain ⟨oL, es, ep, e3, e4, _⟩ := slots up1 (slots up hn)
    rw [e1] at e3; cases e3; rw [e2] at e4; cases e4
  have hh2 : HandSPX.HeldZ (PySem.W.hideAll B [ce.locals]) (X.env :: X.outer) a (Zn cls d) X.env.locals h2 := ⟨fun b o e => (sb.2 b fun z => by subst z; rw [bC] at e; cases e).trans (g1 b o e), g2, Heap.FunFrames.sameBut sb hn2 g3,
    ob, us, T, oT, ts, (sb.2 a (nf q1 q3)).trans q1, q2, q3, q4, q5, q6, (sb.2 T (nf q7 q8)).trans q7, q8, q9⟩
  unfold PySem.passOn
  refine wpAny_bind (wpAny_field ((sb.2 a (nf q1 q3)).trans q1) q3 q4 ?_)
  rw [if_neg (show ¬ ((Value.ref T == Value.none) = true) by simp), hce, hf]
  refine wpAny_bind (PX.setFlight_onZ hh2 fun h3 hh3 up3 => wpAny_throw (tk _ _ ⟨a, PySem.W.hideAll B [ce.locals], _, pins, σ, Hb, cls, d, rfl, I8, fun b o e hb => ?_, fun b o e nfl => ?_, .inr (.inr ?_), na, os, ag, hW _ _ _ _ w⟩))
  · have ne : b ≠ ce.locals := fun z => by subst z; rw [PySem.W.hideAll_none _ (by simp)] at e; cases e
    exact PySem.W.hideAll_get _ (nb b o (PySem.W.of_hideAll _ e) hb) (by simpa using ne)
  · have ne : b ≠ ce.locals := fun z => by subst z; rw [PySem.W.hideAll_none _ (by simp)] at e; cases e
    obtain ⟨l1, e1⟩ := up b o (PySem.W.of_hideAll _ e) nfl
    obtain ⟨l2, e2⟩ := up1 b _ e1 nfl
    obtain ⟨l3, e3⟩ := up3 b _ ((sb.2 b ne).trans e2) nfl
    exact ⟨l3, e3⟩
  · rw [hs]; exact hh3
end
end L2N
/-! [elt for target in iter if ..] whose element may raise -/
namespace L2N
open PySem PySem.Spec PyProof.Rows L2
section
variable {X : Cx}
/-- tLc, its element told which exceptions the def takes -/
def tLcR (wi : TI) (g : TG) (tt : TT) (te : WX → TE) (Wx : WX) (vs : List Nat) : TE := fun σ H Q => tLc wi g tt (te fun cls d _ H' => Wx cls d σ H') vs σ H Q
theorem pe_lcR {elt tg iter : Expr} {ifs : List Expr} {scope : Scope} {own : List (Str × Nat)} {pos : Pos} {wi : TI} {g : TG} {tt : TT} {te : WX → TE} {Wx : WX} (hc : X.calm = true) (hst : X.stack = X.env :: X.outer) (hfr : X.env.frame = some X.env.locals) (hN : X.N.Nodup) (tk : Takes X Wx)
    (hi : PI X tg iter wi) (bo : BlkOk X.N X.env.scope scope own)
    (hg : ∀ (s : Shared) (H : Hp) (C : Addr) (cl : List (Str × Addr)) (fp : List Addr), PG (X.blk s H scope (compEnvC scope cl C X.env) fp) tg g) (ht : ∀ (s : Shared) (H : Hp) (C : Addr) (cl : List (Str × Addr)) (fp : List Addr), PTs (X.blk s H scope (compEnvC scope cl C X.env) fp) ifs tt)
    (he : ∀ (s : Shared) (H : Hp) (C : Addr) (cl : List (Str × Addr)) (fp : List Addr) (pn : List (Addr × Obj)) (xe : Value → Shared → Prop) (W : WX), Takes ((X.blk s H scope (compEnvC scope cl C X.env) fp).tr pn xe) W → PE ((X.blk s H scope (compEnvC scope cl C X.env) fp).tr pn xe) elt (te W))
    (hfold : ∀ x, foldedSetIterable iter X.env x = pure x := by intro _; rfl) :
    PE X (.ListComp elt [⟨tg, iter, ifs, 0⟩] scope pos) (tLcR wi g tt te Wx (own.map (·.2))) := by
  refine ⟨fun pins s σ H Q I hw => ?_⟩
  rw [eval_ListComp]
  have hcells : ∀ y ∈ scope.names, y.2 = .free → ∃ c, X.env.cells.lookup y.1 = some c := fun y hy e => (bo.free y hy e).elim (fun k => I.ok.has _ (.inl k)) fun k => I.ok.has _ (.inr k)
  refine comprehension_at (use := none) rfl hfold (closure_ok hcells) bo.kind (fun y hy e => by rw [bo.uniq y hy, e]) (thn (hi.run pins s σ H _ I hw) fun xv s1 h1 => thn h1 fun itv s2 h2 => ?_)
  obtain ⟨iA, fp, tn, J, H2, rfl, I2, T, stN, fpk, owes⟩ := h2
  refine wpAny_newObj_type (newEnv_comp ?_) (by show 0 ≤ sizeLine; decide)
  generalize eD : s2.heap.objs.size = D
  obtain ⟨W, ⟨n0, w0⟩, turn⟩ := owes D (I2.hok.fresh (Nat.le_of_eq eD))
  generalize e3 : ({ s2 with heap := s2.heap.push { cls := .type "list", data := .seq ([] : List Value).toArray } } : Shared) = s3
  have hp3 : s3.heap = s2.heap.push { cls := .type "list", data := .seq ([] : List Value).toArray } := by rw [← e3]
  have I3 : Inv X pins σ (upd H2 D (.lst [])) s3 := by
    rw [← e3]
    exact I2.laid (t' := s2.toks) (fun b o e => Heap.get?_push_of_some _ e) (Nat.le_of_eq eD) ⟨Nat.zero_le _, [], 0, .nil, by rw [← eD]; exact Heap.get?_push_size _ rfl⟩
  have small : ∀ b ∈ fp, b < s2.heap.objs.size := fun b hb => let ⟨_, e, _⟩ := T.obj _ _ stN b hb; Heap.lt_size e
  have fpk3 : ∀ b ∈ fp, FpOk X pins (upd H2 D (.lst [])) b ∧ b < s3.heap.objs.size := fun b hb =>
    ⟨⟨by rw [upd_ne (by rw [← eD]; exact Nat.ne_of_lt (small b hb))]; exact (fpk b hb).1, (fpk b hb).2⟩, by rw [hp3, Heap.size_push]; exact Nat.lt_succ_of_lt (small b hb)⟩
  have stN3 : tn 0 s3.heap := T.keep _ _ _ stN fun b _ o e => by rw [hp3]; exact Heap.get?_push_of_some _ e
  have I4 := block_start I3 bo hN fpk3
  have PGx := hg s3 (upd H2 D (.lst [])) s3.heap.objs.size (cellsFrom (s3.heap.objs.size + 1) scope.names (cloFrom X.env.cells scope.names [])) fp
  have PTx := ht s3 (upd H2 D (.lst [])) s3.heap.objs.size (cellsFrom (s3.heap.objs.size + 1) scope.names (cloFrom X.env.cells scope.names [])) fp
  have PEx := he s3 (upd H2 D (.lst [])) s3.heap.objs.size (cellsFrom (s3.heap.objs.size + 1) scope.names (cloFrom X.env.cells scope.names [])) fp
  have goal : codeAny (model X.prog X.w) X.A (.compStart (.ListComp elt [⟨tg, iter, ifs, 0⟩] scope pos) 0 (.ref iA) (.ref D) (compEnvC scope (cellsFrom (s3.heap.objs.size + 1) scope.names (cloFrom X.env.cells scope.names [])) s3.heap.objs.size X.env))
      (compEnds (model X.prog X.w) X.A X.xe none (EP X pins σ Q) (.ref D) (compEnvC scope (cellsFrom (s3.heap.objs.size + 1) scope.names (cloFrom X.env.cells scope.names [])) s3.heap.objs.size X.env)) { s3 with heap := pushCells (s3.heap.push { cls := .type "dict", data := .dict #[] }) scope.names } := by
    generalize hcv : compEnvC scope (cellsFrom (s3.heap.objs.size + 1) scope.names (cloFrom X.env.cells scope.names [])) s3.heap.objs.size X.env = cv at I4 PGx PTx PEx ⊢
    have cvL : cv.locals = s3.heap.objs.size := by subst hcv; rfl
    have cvF : cv.frame = X.env.frame := by subst hcv; rfl
    generalize eH : upd H2 D (.lst []) = H3 at I3 I4 PGx PTx PEx w0 fpk3
    generalize e4 : ({ s3 with heap := pushCells (s3.heap.push { cls := .type "dict", data := .dict #[] }) scope.names } : Shared) = s4 at I4 ⊢
    have stN4 : tn 0 s4.heap := T.keep _ _ _ stN3 fun b _ o e => by rw [← e4]; exact pushCells_keeps _ _ _ _ (Heap.get?_push_of_some _ e)
    have okB : (X.blk s3 H3 scope cv fp).Ok := I4.ok
    have still : ∀ {τ : L2.St} {Hx : Hp} {sx : Shared}, Inv (X.blk s3 H3 scope cv fp) [] τ Hx sx → (∀ b ∈ fp, Hx b = none) → ∀ b ∈ fp, FpOk (X.blk s3 H3 scope cv fp) [] Hx b := fun {τ Hx sx} Ix hn b hb =>
      ⟨hn b hb, (Ix.ok.exf b hb).1, Ix.ok.exfs b hb, .inl hb, fun x c e => (Ix.ok.exf b hb).2 x c e, fun p hp => nomatch (show p ∈ ([] : List (Addr × Obj)) from hp)⟩
    have run : codeAny (model X.prog X.w) X.A (.compLoop (.ListComp elt [⟨tg, iter, ifs, 0⟩] scope pos) 0 (.ref iA) (.ref D) cv) (compEnds (model X.prog X.w) X.A X.xe none (EP X pins σ Q) (.ref D) cv) s4 := by
      refine compLoop_any (fun n sx => ∃ i Hx, Inv (X.blk s3 H3 scope cv fp) [] (wipe σ (own.map (·.2))) Hx sx ∧ tn i sx.heap ∧ (∀ b ∈ fp, Hx b = none) ∧ W i n Hx) ?_ n0 ⟨0, H3, I4, stN4, fun b hb => (fpk3 b hb).1.1, w0⟩
      rintro n s5 ⟨i, H5, I5, stN5, nn5, w5⟩
      rcases turn i n H5 w5 with ⟨stop, fin⟩ | ⟨go, Nx, less, step⟩
      · refine thnF (T.done (X.blk s3 H3 scope cv fp) rfl rfl rfl hc i [] s5 _ H5 (fun _ _ => False) I5 (still I5 nn5) stN5 stop) ?_
        rintro r s6 ⟨rfl, I6⟩
        have I7 : Inv X pins σ H5 s6 := I3.call' (ch := fp) I6.os I6.base I6.hok I6.bare fun b hb => let f := (fpk3 b hb).1.2; ⟨f.2.2.1, f.1, f.2.2.2.1, f.2.2.2.2⟩
        have nC : H5 cv.locals = none := I6.free
        have hC : FpOk X pins H5 cv.locals := by
          rw [cvL] at nC ⊢
          exact I3.fpOk (Nat.le_refl _) nC
        obtain ⟨m, hn, _⟩ := I6.loc
        obtain ⟨f0, f1, f2, f3, f4, f5⟩ := hC
        exact ⟨m, hn, fun h' sb => ⟨.ref D, H5, I7.turned (t' := s6.toks) (fun b o hb e => (sb.2 b hb).trans e) f0 f1 f3 f4 f5, rfl, fin⟩⟩
      · refine thnF (T.item (X.blk s3 H3 scope cv fp) rfl rfl rfl hc i [] s5 _ H5 (fun _ _ => False) I5 (still I5 nn5) stN5 go) ?_
        rintro r s6 ⟨u, rfl, h6⟩
        refine thnF h6 fun _ s7 ⟨x, H7, I7, r7, y7, stN7, nn7⟩ => ?_
        refine thnF (PGx.run _ s7 _ H7 x u _ (I7.pinned (still I7 nn7) (T.obj _ _ stN7)) r7 (step x H7 y7)) fun _ s8 ⟨σ8, H8, I8, ew, q8⟩ => ?_
        refine thnF (PTx.run _ s8 σ8 H8 _ I8 q8) fun b s9 ⟨H9, I9, q9⟩ => ?_
        have next : ∀ {sx : Shared} {Hx : Hp}, Inv (X.blk s3 H3 scope cv fp) ([] ++ pinsAt fp s7.heap) σ8 Hx sx → Nx Hx → ∃ m, m < n ∧ ∃ i Hy, Inv (X.blk s3 H3 scope cv fp) [] (wipe σ (own.map (·.2))) Hy sx ∧ tn i sx.heap ∧ (∀ b ∈ fp, Hy b = none) ∧ W i m Hy := fun {sx Hx} Ix nx => by
          obtain ⟨m, lt, wm⟩ := less Hx nx
          have stay : ∀ b ∈ fp, ∀ o, s7.heap.get? b = some o → sx.heap.get? b = some o ∧ Hx b = none := fun b hb o e =>
            let z := Ix.pin (b, o) (List.mem_append_right _ (List.mem_append_right _ (mem_pinsAt hb e)))
            ⟨z.1, z.2.1⟩
          refine ⟨m, lt, i + 1, Hx, (Ix.unpinned (pins := [])).weak (by rw [← ew, wipe_length]) (fun j v e => (wipe_some (ew ▸ e)).1), T.keep _ _ _ stN7 fun b hb o e => (stay b hb o e).1, fun b hb => ?_, wm⟩
          obtain ⟨o, e, _⟩ := T.obj _ _ stN7 b hb
          exact (stay b hb o e).2
        cases b with
        | false =>
          simp only [Bool.false_eq_true, if_false] at q9 ⊢
          exact next I9 q9
        | true =>
          simp only [if_true] at q9 ⊢
          refine thn ((PEx _ _ _ fun u sx x => blk_fails hst hfr tk I3 cvF cvL (fun b hb => (fpk3 b hb).1) (fun _ _ _ _ w => w) x).run [] s9 σ8 H9 _ (I9.toTry fun u sx => notedBy (model X.prog X.w) X.A cv (CompFails (model X.prog X.w) X.A X.xe cv) u sx) q9) fun z s10 ⟨yv, H10, I10, r10, acc, a10, z10, nx⟩ => ?_
          exact app_ok (X := X.blk s3 H3 scope cv fp) (I10.ofTry okB) a10 z10 r10 fun s11 I11 => next I11 nx
    exact codeAny_compStart_list run (T.self X.A 0 _ _ _ stN4 run)
  exact goal
end
end L2N
/-! typed: [elt for target in iter if ..] whose element may raise -/
namespace VL
open PySem PySem.Spec PyProof.Rows L2 L2N
section
variable {C : Cfg} {α β γ δ : Type} {ps : List SL} {tt : TT} {n : Nat} {Ψ : Exc → Nat → Prop}
/-- a comprehension whose step may raise -/
def M.compX (xs : List β) (f : β → M (Option γ)) : M (List γ) := fun Q E n => xs.length ≤ 1000 ∧ M.compA f [] xs Q E n
@[irreducible] def Mi.compX (xs : List β) (f : β → M (Option γ)) : M (List γ) := M.compX xs f
theorem ve_lcR {wi : TI} {g : TG} {te : WX → TE} {vs js : List Nat} {mi : M (List β)} {Rb : β → VP} {ψ : β → List SL} {mt : β → M Bool} {me : β → M γ} {R : γ → VP} (hi : VI C wi ps mi Rb) (hv : ∀ k ∈ vs, ps[k]? = some .un) (hg : VG C g Rb ps ψ js) (hj : ∀ j ∈ js, j ∈ vs)
    (ht : ∀ b, VT C tt (ψ b) (mt b)) (he : ∀ (σ : L2.St) b, VE { C with Ew := fun _ => C.Ew σ } (te fun cls d _ H => C.Ew σ cls d H) (ψ b) (me b) (Fz R)) :
    VE C (tLcR wi g tt te (fun cls d σ H => C.Ew σ cls d H) vs) ps (M.bind mi fun xs => M.compX xs fun b => M.bind (M.nox (mt b)) fun c => M.ite c (M.bind (me b) fun y => M.pure (some y)) (M.pure none)) (Ow (cLst R)) := by
  intro σ G W H n Q Φ Ψ e st hm k x
  refine hi σ G W H n _ (fun xs n' => M.compX xs (fun b => M.bind (M.nox (mt b)) fun c => M.ite c (M.bind (me b) fun y => M.pure (some y)) (M.pure none)) Φ Ψ n') Ψ e st hm ?_ x
  rintro xs n1 J G1 W1 H1 ⟨hlen, hc⟩ s1 t1 wk D hD
  have st1 := st.stp s1 t1
  have hW1 := st1.wfree hD
  let f : β → M (Option γ) := fun b => M.bind (M.nox (mt b)) fun c => M.ite c (M.bind (me b) fun y => M.pure (some y)) (M.pure none)
  let I : Nat → Hp → Prop := fun i H => i ≤ xs.length ∧ ∃ G' W' n acc us, Stp G1 W1 G' W' ∧ Stt C n G' W' H ∧ W' D = some (.lst us) ∧ G' D = none ∧ reps R acc us G' ∧ acc.length ≤ i ∧ M.compA f acc (xs.drop i) Φ Ψ n
  refine ⟨fun i m H => m = xs.length - i ∧ I i H, ⟨xs.length, by simp, Nat.zero_le _, G1, upd W1 D (.lst []), n1, [], [], Stp.newO st1 hD, st1.stp (Stp.newO st1 hD) (st1.newT hD), upd_same, st1.gfree hD, trivial, Nat.zero_le _, hc⟩, ?_⟩
  rintro i m H2 ⟨rfl, hi2, G2, W2, n2, acc, us, s2, st2, hD2, hG2, hr, hal, hm2⟩
  by_cases hlt : i < xs.length
  · refine .inr ⟨wk.goes i n2 G2 W2 H2 hlt st2 s2.g, I (i + 1), fun H' p => ⟨xs.length - (i + 1), by omega, rfl, p⟩, fun v H' y => ?_⟩
    obtain ⟨b, G3, W3, hb, s3, t3, r3⟩ := wk.yields i n2 G2 W2 H2 v H' hlt st2 s2.g y
    have st3 := st2.stp s3 t3
    have hdrop : xs.drop i = b :: xs.drop (i + 1) := by
      obtain ⟨h1, h2⟩ := List.getElem?_eq_some_iff.mp hb
      rw [← h2]; exact List.drop_eq_getElem_cons h1
    rw [hdrop] at hm2
    have e3 : Ee C.B ps (wipe σ vs) G3 W3 := ((e.stp (s1.trans (s2.trans s3)))).wipe hv
    refine hg b v (wipe σ vs) G3 W3 H' n2 _ e3 st3 r3 fun σ' e4 hw => ?_
    refine ⟨by rw [hw vs hj]; exact wipe_idem, ?_⟩
    refine ht b σ' G3 W3 H' n2 _ (fun c n' => M.ite c (M.bind (me b) fun y => M.pure (some y)) (M.pure none) (fun o n' => M.compA f (acc ++ o.toList) (xs.drop (i + 1)) Φ Ψ n') Ψ n') (fun _ _ => False) e4 st3 hm2 (fun c n3 G4 W4 H4 hm3 s4 t4 => ?_) xt_no
    have st4 := st3.stp s4 t4
    have s14 := s2.trans (s3.trans s4)
    have hD4 := s4.w _ _ (s3.w _ _ hD2)
    have hG4 : G4 D = none := stp_no (s3.trans s4) hG2 hD2
    cases c with
    | false =>
      refine iteF ⟨by omega, G4, W4, n3, acc, us, s14, st4, hD4, hG4, hr.up (s3.trans s4).g, by omega, ?_⟩
      have hm3 : M.compA f (acc ++ (none : Option γ).toList) (xs.drop (i + 1)) Φ Ψ n3 := hm3
      rw [show (none : Option γ).toList = [] from rfl, List.append_nil] at hm3
      exact hm3
    | true =>
      refine iteT (he σ b σ' G4 W4 H4 n3 _ (fun y n' => M.compA f (acc ++ (some y).toList) (xs.drop (i + 1)) Φ Ψ n') Ψ (e4.stp s4) ⟨st4.t, st4.gw, st4.bw, st4.g0, st4.gb⟩ hm3 (fun y n5 u G5 W5 H5 hm5 s5 t5 r5 _ => ?_) fun y n5 cls d G5 W5 H5 hy q s5 t5 => x y n5 cls d G5 W5 H5 hy q ((s1.trans s14).trans s5) t5)
      have st5 := st4.stp s5 t5
      have hD5 := s5.w _ _ hD4
      have hG5 : G5 D = none := stp_no s5 hG4 hD4
      have hr5 := hr.up (s3.trans (s4.trans s5)).g
      refine ⟨us, st5.wh _ _ hD5, small1000 (by rw [hr.len]; omega), by omega, G5, upd W5 D (.lst (us ++ [u])), n5, acc ++ [y], us ++ [u], (s14.trans s5).put hW1 hG5, st5.put hD5 hG5 ?_, upd_same, hG5, hr5.app ⟨r5, trivial⟩, by rw [List.length_append]; exact Nat.add_le_add_right hal 1, hm5⟩
      exact st1.bw.free hW1
  · have hi3 : i = xs.length := by omega
    subst hi3
    rw [List.drop_length] at hm2
    exact .inl ⟨wk.stops n2 G2 W2 H2 st2 s2.g, k acc n2 _ G2 W2 H2 hm2 (s1.trans s2) st2.t ⟨D, _, rfl, hD2, hG2, st1.bw.free hW1, us, rfl, hr⟩ fun q eq => by cases eq; exact s1.w.free hW1⟩
/-- every step has an answer -/
theorem compX_map {f : β → M (Option γ)} {xs : List β} {Φ : List γ → Nat → Prop} (g : β → γ) (hf : ∀ x ∈ xs, ∀ (Φ' : Option γ → Nat → Prop), Φ' (some (g x)) n → f x Φ' Ψ n) (hl : xs.length ≤ 1000) (hk : Φ (xs.map g) n) : Mi.compX xs f Φ Ψ n := by
  delta Mi.compX
  refine ⟨hl, ?_⟩
  have go : ∀ (xs : List β) (acc : List γ), (∀ x ∈ xs, ∀ (Φ' : Option γ → Nat → Prop), Φ' (some (g x)) n → f x Φ' Ψ n) → Φ (acc ++ xs.map g) n → M.compA f acc xs Φ Ψ n := by
    intro xs
    induction xs with
    | nil => intro acc _ h; rw [List.map_nil, List.append_nil] at h; exact h
    | cons x r ih =>
      intro acc hf h
      refine hf x List.mem_cons_self _ (ih _ (fun z hz => hf z (List.mem_cons_of_mem _ hz)) ?_)
      have e : acc ++ (some (g x)).toList ++ r.map g = acc ++ (x :: r).map g := by simp
      rw [e]; exact h
  exact go xs [] hf (by simpa using hk)
/-- a step raises: those before it have an answer -/
theorem compX_raise {f : β → M (Option γ)} {xs l r : List β} {x : β} {Φ : List γ → Nat → Prop} (e : xs = l ++ x :: r) (hl : xs.length ≤ 1000) (g : β → γ) (hf : ∀ y ∈ l, ∀ (Φ' : Option γ → Nat → Prop), Φ' (some (g y)) n → f y Φ' Ψ n) (hx : ∀ Φ' : Option γ → Nat → Prop, f x Φ' Ψ n) : Mi.compX xs f Φ Ψ n := by
  delta Mi.compX
  refine ⟨hl, ?_⟩
  subst e
  have go : ∀ (l : List β) (acc : List γ), (∀ y ∈ l, ∀ (Φ' : Option γ → Nat → Prop), Φ' (some (g y)) n → f y Φ' Ψ n) → M.compA f acc (l ++ x :: r) Φ Ψ n := by
    intro l
    induction l with
    | nil => intro acc _; exact hx _
    | cons y l ih => intro acc hf; exact hf y List.mem_cons_self _ (ih _ fun z hz => hf z (List.mem_cons_of_mem _ hz))
  exact go l [] hf
end
end VL
/-! a comprehension whose element may raise -/
namespace L2
open PySem PySem.Spec PyProof.Rows
section
variable {M : Model} {A : Around} {E : Value → Shared → Prop} {st : Shared} {Z : Obj → Prop} {gr : Heap} {env cenv : Env} {outer : List Env} {L a : Addr}
/-- a frame notes an exception that another one holds -/
theorem look_otherZ {fl : Value} {Q : Unit → Shared → Prop} (hZ : HandSPX.Steady Z) (hfr : A.frames = some (env :: outer)) (hf : env.frame = some L) (nfl : (fl == rawInt L) = false) (k0 : gr.StaysIn st.heap) (ga : gr.get? a = none) (ff : st.heap.FunFrames gr (env :: outer)) (tr : HandSPX.TracedZ st.heap gr a Z fl)
    (hQ : ∀ h2, HandSPX.HeldZ gr (env :: outer) a Z L h2 → st.heap.UpToSlots h2 → Q () { st with heap := h2 }) : wpAny M A (noteFrame (.ref a) env) Q E st := by
  obtain ⟨ob, us, T, oT, ts, q1, q2, q3, q4, q5, q6, q7, q8, q9⟩ := tr
  unfold noteFrame; simp only [hf]
  refine wpAny_bind (wpAny_field q1 q3 q4 ?_); rw [if_pos (show (Value.ref T != Value.none) = true by simp)]
  refine wpAny_bind (wpAny_field q7 q8 q9 ?_); rw [if_neg (show ¬ ((fl == rawInt L) = true) by rw [nfl]; decide)]
  refine wpAny_bind (wpAny_setField q7 q8 (Array.getElem?_eq_some_iff.mp q9).1 ?_)
  have oth : ∀ c, c ≠ T → (st.heap.update T (Obj.mapFields (·.setIfInBounds 3 Value.none))).get? c = st.heap.get? c := fun c hc => Heap.get?_update_other _ _ fun z => hc z.symm
  have nrec : ∀ c ob2, st.heap.get? c = some ob2 → (∀ ws, ob2.data ≠ .fields ws) → c ≠ T := fun c ob2 h1 h2 z => by
    subst z; rw [q7] at h1; cases h1; exact h2 ts q8
  refine HandSPX.wpAny_entryZ hZ hfr (ff.of_keeps fun c ob2 h1 h2 => ⟨ob2, (oth c (nrec c ob2 h1 h2)).trans h1, rfl⟩) hf ((oth a fun z => q6 z.symm).trans q1) (fun c ob2 h1 => (oth c fun z => by subst z; rw [q5] at h1; cases h1).trans (k0 c ob2 h1)) ga q3 (Array.getElem?_eq_some_iff.mp q4).1 q2 fun h2 ⟨n1, n2, n3, n4⟩ => ?_
  exact hQ h2 ⟨n1, ga, n2, n3⟩ fun c ob2 h1 h3 => n4 c ob2 ((oth c (nrec c ob2 h1 h3)).trans h1) h3
/-- noted by the frame in which a block of the def runs -/
theorem sky_noted {C : Addr} {Q : Unit → Shared → Prop} (hZ : HandSPX.Steady Z) (hfr : A.frames = some (env :: outer)) (hf : env.frame = some L) (hc : cenv.frame = env.frame) (sk : Sky gr (env :: outer) a Z C st.heap)
    (hQ : ∀ h2, HandSPX.HeldZ gr (env :: outer) a Z L h2 → st.heap.UpToSlots h2 → Q () { st with heap := h2 }) : wpAny M A (noteFrame (.ref a) cenv) Q E st := by
  rw [noteFrame_env _ hc]
  rcases sk with ⟨k1, k2, k3, ob, us, k4, k5, k6, k7⟩ | fl | hd
  · exact HandSPX.look_newZ hZ hfr k3 hf k4 k1 k2 k6 k7 k5 hQ
  · exact HandSPX.looks_onZ hZ hfr hf fl hQ
  · obtain ⟨h1, h2, h3, h4⟩ := hd
    cases e : rawInt C == rawInt L with
    | false => exact look_otherZ hZ hfr hf e h1 h2 h3 h4 hQ
    | true =>
      have e2 : rawInt C = rawInt L := by simpa using e
      rw [e2] at h4
      exact HandSPX.againZ hf h4 (hQ st.heap ⟨h1, h2, h3, h4⟩ (Heap.UpToSlots.refl _))
theorem traced_sub {h gr gr2 : Heap} {fl : Value} (sub : ∀ b o, gr2.get? b = some o → gr.get? b = some o) (t : HandSPX.TracedZ h gr a Z fl) : HandSPX.TracedZ h gr2 a Z fl := by
  obtain ⟨ob, us, T, oT, ts, q1, q2, q3, q4, q5, q6⟩ := t
  refine ⟨ob, us, T, oT, ts, q1, q2, q3, q4, ?_, q6⟩
  cases e : gr2.get? T with
  | none => rfl
  | some o => rw [sub _ _ e] at q5; cases q5
/-- a smaller ground -/
theorem sky_sub {l : List Env} {C : Addr} {h gr gr2 : Heap} (sub : ∀ b o, gr2.get? b = some o → gr.get? b = some o) (sk : Sky gr l a Z C h) : Sky gr2 l a Z C h := by
  have none_of : ∀ {b}, gr.get? b = none → gr2.get? b = none := fun {b} hb => by
    cases e : gr2.get? b with
    | none => rfl
    | some o => rw [sub _ _ e] at hb; cases hb
  have frm : h.FunFrames gr l → h.FunFrames gr2 l := fun f => funFrames_none f fun b hb => none_of (f.mem hb).1
  rcases sk with ⟨k1, k2, k3, k4⟩ | ⟨k1, k2, k3, k4⟩ | ⟨k1, k2, k3, k4⟩
  · exact .inl ⟨fun b o e => k1 b o (sub b o e), none_of k2, frm k3, k4⟩
  · exact .inr (.inl ⟨fun b o e => k1 b o (sub b o e), none_of k2, frm k3, traced_sub sub k4⟩)
  · exact .inr (.inr ⟨fun b o e => k1 b o (sub b o e), none_of k2, frm k3, traced_sub sub k4⟩)
end
section
variable {X : Cx}
/-- an exception out of a comprehension's block is in the def's air -/
theorem blk_fails {pins pn : List (Addr × Obj)} {σ : L2.St} {H3 : Hp} {s3 : Shared} {scope : Scope} {ce : Env} {fp : List Addr} {xe : Value → Shared → Prop} {Wx Wb : WX} (hs : X.stack = X.env :: X.outer) (hf : X.env.frame = some X.env.locals) (tk : Takes X Wx)
    (I3 : Inv X pins σ H3 s3) (hce : ce.frame = X.env.frame) (cL : ce.locals = s3.heap.objs.size) (f3 : ∀ b ∈ fp, FpOk X pins H3 b) (hW : ∀ cls d σb Hb, Wb cls d σb Hb → Wx cls d σ Hb) {u : Value} {s' : Shared}
    (x : XE ((X.blk s3 H3 scope ce fp).tr pn xe) Wb u s') : notedBy (model X.prog X.w) X.A ce (CompFails (model X.prog X.w) X.A X.xe ce) u s' := by
  obtain ⟨a, B, sI, pins', σb, Hb, cls, d, rfl, J, nb, up, sky, na, os, ag, w⟩ := x
  have I7 : Inv X pins σ Hb sI := I3.call' (ch := fp) J.os J.base J.hok J.bare fun b hb => ⟨(f3 b hb).2.2.2.1, (f3 b hb).2.1, (f3 b hb).2.2.2.2.1, (f3 b hb).2.2.2.2.2⟩
  have nC : Hb ce.locals = none := J.free
  have fC : FpOk X pins Hb ce.locals := by
    have z := I3.fpOk (H' := Hb) (b := s3.heap.objs.size) (Nat.le_refl _) (by rw [← cL]; exact nC)
    rwa [← cL] at z
  have I8 : Inv X pins σ Hb { sI with heap := PySem.W.hideAll sI.heap [ce.locals], toks := sI.toks } := I7.turned (it := ce.locals) (fun b o hb e => PySem.W.hideAll_get _ e (by simpa using hb)) fC.1 fC.2.1 fC.2.2.2.1 fC.2.2.2.2.1 fC.2.2.2.2.2
  have sk2 : Sky (PySem.W.hideAll B [ce.locals]) (X.env :: X.outer) a (Zc cls d) ce.locals s'.heap := by
    rw [← hs]
    exact sky_sub (fun b o e => PySem.W.of_hideAll _ e) sky
  have hfr : X.A.frames = some (X.env :: X.outer) := by rw [I3.ok.frames, hs]
  refine sky_noted Zc.steady hfr hf hce sk2 fun h1 hh up1 => ?_
  obtain ⟨m, hn, _⟩ := J.loc
  have slots : ∀ {h h' : Heap}, h.UpToSlots h' → ∀ {m}, h.Ns ce.locals m → h'.Ns ce.locals m := fun k _ hn => hn.upToSlots k
  refine ⟨m, slots up1 (slots up hn), fun h2 m2 hn2 sb => ?_⟩
  have bC : (PySem.W.hideAll B [ce.locals]).get? ce.locals = none := PySem.W.hideAll_none _ (by simp)
  obtain ⟨g1, g2, g3, ob, us, T, oT, ts, q1, q2, q3, q4, q5, q6, q7, q8, q9⟩ := hh
  have nf : ∀ {b o ws}, h1.get? b = some o → o.data = .fields ws → b ≠ ce.locals := fun {b o ws} e1 e2 z => by
    subst z
    obtain ⟨oL, es, ep, e3, e4, _⟩ := slots up1 (slots up hn)
    rw [e1] at e3; cases e3; rw [e2] at e4; cases e4
  have hh2 : HandSPX.HeldZ (PySem.W.hideAll B [ce.locals]) (X.env :: X.outer) a (Zc cls d) X.env.locals h2 := ⟨fun b o e => (sb.2 b fun z => by subst z; rw [bC] at e; cases e).trans (g1 b o e), g2, Heap.FunFrames.sameBut sb hn2 g3,
    ob, us, T, oT, ts, (sb.2 a (nf q1 q3)).trans q1, q2, q3, q4, q5, q6, (sb.2 T (nf q7 q8)).trans q7, q8, q9⟩
  unfold PySem.passOn
  refine wpAny_bind (wpAny_field ((sb.2 a (nf q1 q3)).trans q1) q3 q4 ?_)
  rw [if_neg (show ¬ ((Value.ref T == Value.none) = true) by simp), hce, hf]
  refine wpAny_bind (PX.setFlight_onZ hh2 fun h3 hh3 up3 => wpAny_throw (tk _ _ ⟨a, PySem.W.hideAll B [ce.locals], _, pins, σ, Hb, cls, d, rfl, I8, fun b o e hb => ?_, fun b o e nfl => ?_, .inr (.inr ?_), na, os, ag, hW _ _ _ _ w⟩))
  · have ne : b ≠ ce.locals := fun z => by subst z; rw [PySem.W.hideAll_none _ (by simp)] at e; cases e
    exact PySem.W.hideAll_get _ (nb b o (PySem.W.of_hideAll _ e) hb) (by simpa using ne)
  · have ne : b ≠ ce.locals := fun z => by subst z; rw [PySem.W.hideAll_none _ (by simp)] at e; cases e
    obtain ⟨l1, e1⟩ := up b o (PySem.W.of_hideAll _ e) nfl
    obtain ⟨l2, e2⟩ := up1 b _ e1 nfl
    obtain ⟨l3, e3⟩ := up3 b _ ((sb.2 b ne).trans e2) nfl
    exact ⟨l3, e3⟩
  · rw [hs]; exact hh3
end
end L2
namespace L2
open PySem PySem.Spec PyProof.Rows
section
variable {X : Cx}
theorem pe_lcR {elt tg iter : Expr} {ifs : List Expr} {scope : Scope} {own : List (Str × Nat)} {pos : Pos} {wi : TI} {g : TG} {tt : TT} {te : WX → TE} {Wx : WX} (hc : X.calm = true) (hst : X.stack = X.env :: X.outer) (hfr : X.env.frame = some X.env.locals) (hN : X.N.Nodup) (tk : Takes X Wx)
    (hi : PI X tg iter wi) (bo : BlkOk X.N X.env.scope scope own)
    (hg : ∀ (s : Shared) (H : Hp) (C : Addr) (cl : List (Str × Addr)) (fp : List Addr), PG (X.blk s H scope (compEnvC scope cl C X.env) fp) tg g) (ht : ∀ (s : Shared) (H : Hp) (C : Addr) (cl : List (Str × Addr)) (fp : List Addr), PTs (X.blk s H scope (compEnvC scope cl C X.env) fp) ifs tt)
    (he : ∀ (s : Shared) (H : Hp) (C : Addr) (cl : List (Str × Addr)) (fp : List Addr) (pn : List (Addr × Obj)) (xe : Value → Shared → Prop) (W : WX), Takes ((X.blk s H scope (compEnvC scope cl C X.env) fp).tr pn xe) W → PE ((X.blk s H scope (compEnvC scope cl C X.env) fp).tr pn xe) elt (te W))
    (hfold : ∀ x, foldedSetIterable iter X.env x = pure x := by intro _; rfl) :
    PE X (.ListComp elt [⟨tg, iter, ifs, 0⟩] scope pos) (L2N.tLcR wi g tt te Wx (own.map (·.2))) := by
  refine ⟨fun pins s σ H Q I hw => ?_⟩
  rw [eval_ListComp]
  have hcells : ∀ y ∈ scope.names, y.2 = .free → ∃ c, X.env.cells.lookup y.1 = some c := fun y hy e => (bo.free y hy e).elim (fun k => I.ok.has _ (.inl k)) fun k => I.ok.has _ (.inr k)
  refine comprehension_at (use := none) rfl hfold (closure_ok hcells) bo.kind (fun y hy e => by rw [bo.uniq y hy, e]) (thn (hi.run pins s σ H _ I hw) fun xv s1 h1 => thn h1 fun itv s2 h2 => ?_)
  obtain ⟨iA, fp, tn, J, H2, rfl, I2, T, stN, fpk, owes⟩ := h2
  refine wpAny_newObj_type (newEnv_comp ?_) (by show 0 ≤ sizeLine; decide)
  generalize eD : s2.heap.objs.size = D
  obtain ⟨W, ⟨n0, w0⟩, turn⟩ := owes D (I2.hok.fresh (Nat.le_of_eq eD))
  generalize e3 : ({ s2 with heap := s2.heap.push { cls := .type "list", data := .seq ([] : List Value).toArray } } : Shared) = s3
  have hp3 : s3.heap = s2.heap.push { cls := .type "list", data := .seq ([] : List Value).toArray } := by rw [← e3]
  have I3 : Inv X pins σ (upd H2 D (.lst [])) s3 := by
    rw [← e3]
    exact I2.laid (t' := s2.toks) (fun b o e => Heap.get?_push_of_some _ e) (Nat.le_of_eq eD) ⟨Nat.zero_le _, [], 0, .nil, by rw [← eD]; exact Heap.get?_push_size _ rfl⟩
  have small : ∀ b ∈ fp, b < s2.heap.objs.size := fun b hb => let ⟨_, e, _⟩ := T.obj _ _ stN b hb; Heap.lt_size e
  have fpk3 : ∀ b ∈ fp, FpOk X pins (upd H2 D (.lst [])) b ∧ b < s3.heap.objs.size := fun b hb =>
    ⟨⟨by rw [upd_ne (by rw [← eD]; exact Nat.ne_of_lt (small b hb))]; exact (fpk b hb).1, (fpk b hb).2⟩, by rw [hp3, Heap.size_push]; exact Nat.lt_succ_of_lt (small b hb)⟩
  have stN3 : tn 0 s3.heap := T.keep _ _ _ stN fun b _ o e => by rw [hp3]; exact Heap.get?_push_of_some _ e
  have I4 := block_start I3 bo hN fpk3
  have PGx := hg s3 (upd H2 D (.lst [])) s3.heap.objs.size (cellsFrom (s3.heap.objs.size + 1) scope.names (cloFrom X.env.cells scope.names [])) fp
  have PTx := ht s3 (upd H2 D (.lst [])) s3.heap.objs.size (cellsFrom (s3.heap.objs.size + 1) scope.names (cloFrom X.env.cells scope.names [])) fp
  have PEx := he s3 (upd H2 D (.lst [])) s3.heap.objs.size (cellsFrom (s3.heap.objs.size + 1) scope.names (cloFrom X.env.cells scope.names [])) fp
  have goal : codeAny (model X.prog X.w) X.A (.compStart (.ListComp elt [⟨tg, iter, ifs, 0⟩] scope pos) 0 (.ref iA) (.ref D) (compEnvC scope (cellsFrom (s3.heap.objs.size + 1) scope.names (cloFrom X.env.cells scope.names [])) s3.heap.objs.size X.env))
      (compEnds (model X.prog X.w) X.A X.xe none (EP X pins σ Q) (.ref D) (compEnvC scope (cellsFrom (s3.heap.objs.size + 1) scope.names (cloFrom X.env.cells scope.names [])) s3.heap.objs.size X.env)) { s3 with heap := pushCells (s3.heap.push { cls := .type "dict", data := .dict #[] }) scope.names } := by
    generalize hcv : compEnvC scope (cellsFrom (s3.heap.objs.size + 1) scope.names (cloFrom X.env.cells scope.names [])) s3.heap.objs.size X.env = cv at I4 PGx PTx PEx ⊢
    have cvL : cv.locals = s3.heap.objs.size := by subst hcv; rfl
    have cvF : cv.frame = X.env.frame := by subst hcv; rfl
    generalize eH : upd H2 D (.lst []) = H3 at I3 I4 PGx PTx PEx w0 fpk3
    generalize e4 : ({ s3 with heap := pushCells (s3.heap.push { cls := .type "dict", data := .dict #[] }) scope.names } : Shared) = s4 at I4 ⊢
    have stN4 : tn 0 s4.heap := T.keep _ _ _ stN3 fun b _ o e => by rw [← e4]; exact pushCells_keeps _ _ _ _ (Heap.get?_push_of_some _ e)
    have okB : (X.blk s3 H3 scope cv fp).Ok := I4.ok
    have still : ∀ {τ : L2.St} {Hx : Hp} {sx : Shared}, Inv (X.blk s3 H3 scope cv fp) [] τ Hx sx → (∀ b ∈ fp, Hx b = none) → ∀ b ∈ fp, FpOk (X.blk s3 H3 scope cv fp) [] Hx b := fun {τ Hx sx} Ix hn b hb =>
      ⟨hn b hb, (Ix.ok.exf b hb).1, Ix.ok.exfs b hb, .inl hb, fun x c e => (Ix.ok.exf b hb).2 x c e, fun p hp => nomatch (show p ∈ ([] : List (Addr × Obj)) from hp)⟩
    have run : codeAny (model X.prog X.w) X.A (.compLoop (.ListComp elt [⟨tg, iter, ifs, 0⟩] scope pos) 0 (.ref iA) (.ref D) cv) (compEnds (model X.prog X.w) X.A X.xe none (EP X pins σ Q) (.ref D) cv) s4 := by
      refine compLoop_any (fun n sx => ∃ i Hx, Inv (X.blk s3 H3 scope cv fp) [] (wipe σ (own.map (·.2))) Hx sx ∧ tn i sx.heap ∧ (∀ b ∈ fp, Hx b = none) ∧ W i n Hx) ?_ n0 ⟨0, H3, I4, stN4, fun b hb => (fpk3 b hb).1.1, w0⟩
      rintro n s5 ⟨i, H5, I5, stN5, nn5, w5⟩
      rcases turn i n H5 w5 with ⟨stop, fin⟩ | ⟨go, Nx, less, step⟩
      · refine thnF (T.done (X.blk s3 H3 scope cv fp) rfl rfl rfl hc i [] s5 _ H5 (fun _ _ => False) I5 (still I5 nn5) stN5 stop) ?_
        rintro r s6 ⟨rfl, I6⟩
        have I7 : Inv X pins σ H5 s6 := I3.call' (ch := fp) I6.os I6.base I6.hok I6.bare fun b hb => let f := (fpk3 b hb).1.2; ⟨f.2.2.1, f.1, f.2.2.2.1, f.2.2.2.2⟩
        have nC : H5 cv.locals = none := I6.free
        have hC : FpOk X pins H5 cv.locals := by
          rw [cvL] at nC ⊢
          exact I3.fpOk (Nat.le_refl _) nC
        obtain ⟨m, hn, _⟩ := I6.loc
        obtain ⟨f0, f1, f2, f3, f4, f5⟩ := hC
        exact ⟨m, hn, fun h' sb => ⟨.ref D, H5, I7.turned (t' := s6.toks) (fun b o hb e => (sb.2 b hb).trans e) f0 f1 f3 f4 f5, rfl, fin⟩⟩
      · refine thnF (T.item (X.blk s3 H3 scope cv fp) rfl rfl rfl hc i [] s5 _ H5 (fun _ _ => False) I5 (still I5 nn5) stN5 go) ?_
        rintro r s6 ⟨u, rfl, h6⟩
        refine thnF h6 fun _ s7 ⟨x, H7, I7, r7, y7, stN7, nn7⟩ => ?_
        refine thnF (PGx.run _ s7 _ H7 x u _ (I7.pinned (still I7 nn7) (T.obj _ _ stN7)) r7 (step x H7 y7)) fun _ s8 ⟨σ8, H8, I8, ew, q8⟩ => ?_
        refine thnF (PTx.run _ s8 σ8 H8 _ I8 q8) fun b s9 ⟨H9, I9, q9⟩ => ?_
        have next : ∀ {sx : Shared} {Hx : Hp}, Inv (X.blk s3 H3 scope cv fp) ([] ++ pinsAt fp s7.heap) σ8 Hx sx → Nx Hx → ∃ m, m < n ∧ ∃ i Hy, Inv (X.blk s3 H3 scope cv fp) [] (wipe σ (own.map (·.2))) Hy sx ∧ tn i sx.heap ∧ (∀ b ∈ fp, Hy b = none) ∧ W i m Hy := fun {sx Hx} Ix nx => by
          obtain ⟨m, lt, wm⟩ := less Hx nx
          have stay : ∀ b ∈ fp, ∀ o, s7.heap.get? b = some o → sx.heap.get? b = some o ∧ Hx b = none := fun b hb o e =>
            let z := Ix.pin (b, o) (List.mem_append_right _ (List.mem_append_right _ (mem_pinsAt hb e)))
            ⟨z.1, z.2.1⟩
          refine ⟨m, lt, i + 1, Hx, (Ix.unpinned (pins := [])).weak (by rw [← ew, wipe_length]) (fun j v e => (wipe_some (ew ▸ e)).1), T.keep _ _ _ stN7 fun b hb o e => (stay b hb o e).1, fun b hb => ?_, wm⟩
          obtain ⟨o, e, _⟩ := T.obj _ _ stN7 b hb
          exact (stay b hb o e).2
        cases b with
        | false =>
          simp only [Bool.false_eq_true, if_false] at q9 ⊢
          exact next I9 q9
        | true =>
          simp only [if_true] at q9 ⊢
          refine thn ((PEx _ _ _ fun u sx x => blk_fails hst hfr tk I3 cvF cvL (fun b hb => (fpk3 b hb).1) (fun _ _ _ _ w => w) x).run [] s9 σ8 H9 _ (I9.toTry fun u sx => notedBy (model X.prog X.w) X.A cv (CompFails (model X.prog X.w) X.A X.xe cv) u sx) q9) fun z s10 ⟨yv, H10, I10, r10, acc, a10, z10, nx⟩ => ?_
          exact app_ok (X := X.blk s3 H3 scope cv fp) (I10.ofTry okB) a10 z10 r10 fun s11 I11 => next I11 nx
    exact codeAny_compStart_list run (T.self X.A 0 _ _ _ stN4 run)
  exact goal
end
end L2
set_option pp.deepTerms false
set_option pp.deepTerms.threshold 8
namespace K03
open PySem PySem.Spec PyProof.Rows L2 VL
structure TxtB (mg : Str → Option Value) : Prop where
  z_abs : mg "abs" = none
  z_all : mg "all" = none
  z_bool : mg "bool" = none
  z_dict : mg "dict" = none
  z_int : mg "int" = none
  z_isinstance : mg "isinstance" = none
  z_len : mg "len" = none
  z_list : mg "list" = none
  z_max : mg "max" = none
  z_range : mg "range" = none
  z_set : mg "set" = none
  z_sorted : mg "sorted" = none
  z_str : mg "str" = none
  z_tuple : mg "tuple" = none
  c_DIGITS : ∃ t, mg "DIGITS" = some (.str "0123456789" t)
  c_LETTERS : ∃ t, mg "LETTERS" = some (.str "abcdefghijklmnopqrstuvwxyz" t)
  c_LONGEST_NAME : ∃ t, mg "LONGEST_NAME" = some (.int 6 t)
  c_MOST_OUTCOMES : ∃ t, mg "MOST_OUTCOMES" = some (.int 6 t)
section
variable {P : Program} {w : World} {K : PySem.W.Frag} {mg : Str → Option Value} {base : Heap} {W_Wishes : ClsI K mg "Wishes" ["_outcomes", "_amounts"]}
abbrev N_Lstart : List Str := ["_law_script", "_law_cell"]
theorem sc_Lstart : FnScope ["_law_script", "_law_cell"] ["_law_script"] (defScope s_Lstart) := ⟨rfl, rfl, rfl, by decide +kernel, rfl, by decide +kernel, by decide +kernel⟩
theorem ok_Lstart {f : Addr} {fd : FuncData} (F : Fun K "_law_start" "_law_start" s_Lstart f fd) (T : TxtB mg) : FnOk P w K mg base CX0 1 f fd ["_law_script"] (spStart K) := by
  refine F.ok sc_Lstart (fun vs H Q E h => ?_) (fun cdv A outer s H vs Q E hr h => ?_)
  · obtain ⟨a, ns, rfl, _⟩ := h
    rfl
  · obtain ⟨a, ns, rfl, hS, hlen, q⟩ := h
    refine ⟨_, (pss_one (ps_ret (pe_lst (pa_cons (pe_lc (own := [("_law_cell", 1)]) (g := gName 1) rfl sc_Lstart.nd (pi_list (pv 0)) (blkOk_by (own := [("_law_cell", 1)]) (N := N_Lstart) (sc := defScope s_Lstart) (by decide +kernel)) (fun _ _ _ _ _ => (pg_name (i := 1) sc_Lstart.nd rfl (.inl rfl))) (fun _ _ _ _ _ => (pts_one (pt_cmpR op_ge (pe_callB call_abs (by rfl) T.z_abs (by decide +kernel) (pa_cons (pv 1) pa_nil)) (pe_op op_pow pe_int pe_int) (nomark _)))) (fun _ _ _ _ _ => (pe_callB call_abs (by rfl) T.z_abs (by decide +kernel) (pa_cons (pv 1) pa_nil)))) (pa_cons (pe_op op_cat (pe_callTy call_list_of (by rfl) T.z_list (by decide +kernel) (pa_cons (pv 0) pa_nil)) (pe_lst (pa_cons pe_int pa_nil))) (pa_cons pe_int pa_nil)))))), ?_⟩
    refine ⟨_, rfl, a, rfl, ⟨_, hS⟩, fun D hD => lc_list (K := K) (a := a) (xs := ns.map V.int) (fun i H' => ∃ bs : List Int, H' = upd H D (.lst (bs.map V.int)) ∧ (∀ x ∈ bs, (0 : Int) ≤ x) ∧ bs.length ≤ i)
      ⟨[], rfl, (fun _ h => nomatch h), Nat.le_refl _⟩ (fun i H' _ ⟨bs, e, _⟩ => by rw [e]; exact (same_of_none hD).seq hS) ?_ ?_⟩
    · rintro i x H' hx ⟨bs, rfl, h0, hb⟩
      have hi : i < ns.length := by
        have := (List.getElem?_eq_some_iff.mp hx).1
        rwa [List.length_map] at this
      obtain ⟨z, rfl⟩ : ∃ z, x = V.int z := by
        rw [List.getElem?_map] at hx
        cases e : ns[i]? with
        | none => rw [e] at hx; cases hx
        | some u => rw [e] at hx; exact ⟨u, (Option.some.inj hx).symm⟩
      refine ⟨rfl, .int z, rfl, z, rfl, _, _, rfl, rfl, cpow1018, _, _, rfl, rfl, _, rfl, ite2 (fun _ => ?_) (fun _ => ⟨bs, rfl, h0, by omega⟩)⟩
      refine ⟨.int z, rfl, z, rfl, _, upd_same, ?_, ?_⟩
      · rw [List.length_map]; exact small1000 (by omega)
      · refine ⟨bs ++ [if z < 0 then -z else z], by rw [upd_upd, List.map_append]; rfl, fun x hx => ?_, by simp; omega⟩
        rcases List.mem_append.mp hx with hx | hx
        · exact h0 x hx
        · have e : x = if z < 0 then -z else z := by simpa using hx
          rw [e]
          split <;> omega
    · rintro H' ⟨bs, rfl, h0, hb⟩
      have s1 : Same H (upd H D (.lst (bs.map V.int))) := same_of_none hD
      refine ⟨.ref a, rfl, a, _, rfl, .inl (s1.seq hS), fun l hl => ?_⟩
      have s2 := same_of_none (o := HO.lst (ns.map V.int)) hl
      refine ⟨by show 1 ≤ sizeLine; decide, fun p hp => ?_⟩
      have s3 := same_of_none (o := HO.lst [V.int 5]) hp
      refine ⟨l, p, _, _, rfl, rfl, s3 _ _ upd_same, upd_same, ?_, fun c hc => ?_⟩
      · rw [List.length_map]
        show ns.length + 1 ≤ sizeLine
        exact Nat.le_of_lt (small1000 (by omega))
      have s4 := same_of_none (o := HO.lst (ns.map V.int ++ [V.int 5])) hc
      refine ⟨by show 3 ≤ sizeLine; decide, fun s hs => q s _ ?_⟩
      have s5 := same_of_none (o := HO.lst [.ref D, .ref c, V.int 0]) hs
      have sa : Same (upd H D (.lst (bs.map V.int))) _ := s2.trans (s3.trans s4)
      have hc0 : H c = none := s1.free ((s2.trans s3).free hc)
      have hs0 : H s = none := s1.free (sa.free hs)
      refine ⟨D, c, 0, bs, ns ++ [5], ⟨s1.trans (sa.trans s5), hs0, hD, hc0, ?_, ?_, ?_, upd_same, s5 _ _ (sa _ _ upd_same), s5 _ _ ?_, h0, by rw [List.length_map] at hb; omega, by simp; omega, Int.le_refl _⟩, Int.le_refl _⟩
      · exact ne_of_none (sa _ _ upd_same) hs
      · exact ne_of_none upd_same hs
      · exact ne_of_none ((s2.trans s3) _ _ upd_same) hc
      · rw [upd_same, List.map_append]
        rfl
theorem sc_Ldraw : FnScope ["_law_state", "_law_size", "_law_digit", "_law_cell", "_law_left"] ["_law_state", "_law_size"] (defScope s_Ldraw) := ⟨rfl, rfl, rfl, by decide +kernel, rfl, by decide +kernel, by decide +kernel⟩
set_option maxHeartbeats 20000000 in
theorem ok_Ldraw {f : Addr} {fd : FuncData} (F : Fun K "_law_draw" "_law_draw" s_Ldraw f fd) (T : TxtB mg) : FnOk P w K mg base CX0 1 f fd ["_law_state", "_law_size"] spDraw := by
  refine F.ok sc_Ldraw (fun vs H Q E h => ?_) (fun cdv A outer s H vs Q E hr h => ?_)
  · obtain ⟨s, N, G, m, rfl, _⟩ := h
    rfl
  · obtain ⟨s, N, G, m, rfl, ⟨b, c, n, bs, cs, k, hnN⟩, hN, hm, hm2, q⟩ := h
    refine ⟨_, (pss_cons (ps_augS (pv 0) pe_int pg_list pe_int ip_add set_list)
      (pss_cons (ps_while PassesOwn.never (PW.pt (pw_and (pt_cmpR (op_neDK (K := K) rfl hr.units) (pe_ix ix_list (pv 0) pe_int (fun _ _ => rfl)) (pe_lst pa_nil) (nomark _)) (pw_and1 (pt_cmpR op_eq (pe_ix ix_list (pe_ix ix_list (pv 0) pe_int (fun _ _ => rfl)) pe_int (fun _ _ => rfl)) pe_int (nomark _))))) (pss_one (ps_asg (pe_slice sl_list (pe_ix ix_list (pv 0) pe_int (fun _ _ => rfl)) (po_some pe_int) po_none) (pg_sub (pv 0) pe_int set_list))))
      (pss_cons (ps_if (pt_cmpR (op_neDK (K := K) rfl hr.units) (pe_ix ix_list (pv 0) pe_int (fun _ _ => rfl)) (pe_lst pa_nil) (nomark _)) (pss_cons (ps_set (i := 2) sc_Ldraw.nd rfl (.inl rfl) (pe_op op_modN (pe_callTy call_int1 (by rfl) T.z_int (by decide +kernel) (pa_cons (pe_ix ix_list (pe_ix ix_list (pv 0) pe_int (fun _ _ => rfl)) pe_int (fun _ _ => rfl)) pa_nil)) (pv 1)))
      (pss_cons (ps_asg (pe_op op_fdivW (pe_ix ix_list (pe_ix ix_list (pv 0) pe_int (fun _ _ => rfl)) pe_int (fun _ _ => rfl)) (pv 1)) (pg_sub (pe_ix ix_list (pv 0) pe_int (fun _ _ => rfl)) pe_int set_list))
      (pss_one (ps_ret (pv 2))))) pss_nil)
      (pss_cons (ps_set (i := 3) sc_Ldraw.nd rfl (.inl rfl) (pe_op op_modN (pe_callTy call_int1 (by rfl) T.z_int (by decide +kernel) (pa_cons (pe_ix ix_list (pe_ix ix_list (pv 0) pe_int (fun _ _ => rfl)) (pe_op op_modN (pe_callTy call_int1 (by rfl) T.z_int (by decide +kernel) (pa_cons (pe_ix ix_list (pv 0) pe_int (fun _ _ => rfl)) pa_nil)) (pe_callB call_len_seq (by rfl) T.z_len PySem.boot_len (pa_cons (pe_ix ix_list (pv 0) pe_int (fun _ _ => rfl)) pa_nil))) (fun _ _ => rfl)) pa_nil)) pe_int))
      (pss_cons (ps_set (i := 4) sc_Ldraw.nd rfl (.inl rfl) (pe_op op_modN (pe_callTy call_int1 (by rfl) T.z_int (by decide +kernel) (pa_cons (pe_op op_pow (pe_op op_add (pe_op op_add (pe_op op_mulW (pv 3) pe_int) (pe_op op_mulW (pe_ix ix_list (pv 0) pe_int (fun _ _ => rfl)) pe_int)) pe_int) pe_int) pa_nil)) pe_int))
      (pss_one (ps_ret (pe_op op_modN (pe_op op_modN (pe_callTy call_int1 (by rfl) T.z_int (by decide +kernel) (pa_cons (pe_op op_pow (pe_op op_add (pe_op op_add (pe_op op_mulW (pv 4) pe_int) (pe_op op_mulW (pe_ix ix_list (pv 0) pe_int (fun _ _ => rfl)) pe_int)) pe_int) pe_int) pa_nil)) pe_int) (pv 1))))))))), ?_⟩
    -- state[2] += 1
    refine ⟨.ref s, rfl, s, _, 2, _, rfl, rfl, SqL.of k.hs, atI_nat (j := 2) rfl, n, 1, rfl, rfl, s, _, 2, 2, rfl, rfl, k.hs, rfl, ?_⟩
    have k1 := k.count
    -- while state[0] != [] and state[0][0] == 0
    refine ⟨fun m' σ H' => ∃ b bs, bs.length = m' ∧ σ = [some (.ref s), some (.int m), none, none, none] ∧ VS s b c (n + 1) bs cs G H', ⟨bs.length, b, bs, rfl, rfl, k1⟩, ?_⟩
    rintro m' σ H' ⟨b, bs, rfl, rfl, k⟩
    refine ⟨.ref s, rfl, s, _, 0, _, rfl, rfl, SqL.of k.hs, atI_nat (j := 0) rfl, Nat.zero_le _, fun p hp => ?_⟩
    have kp := k.ext (same_of_none (o := .lst []) hp)
    refine ⟨.list (bs.map .int), .list [], .lst (SqL.of kp.hb) (dpAll_ints bs), .lst (SqL.of upd_same) .nil, shaped_ints bs, rfl, _, rfl, ?_⟩
    cases bs with
    | nil =>
      refine iteF (iteF ?_)
      refine ⟨.ref s, rfl, s, _, 0, _, rfl, rfl, SqL.of kp.hs, atI_nat (j := 0) rfl, Nat.zero_le _, fun p2 hp2 => ?_⟩
      have kq := kp.ext (same_of_none (o := .lst []) hp2)
      refine ⟨.list [], .list [], .lst (SqL.of kq.hb) .nil, .lst (SqL.of upd_same) .nil, rfl, rfl, _, rfl, iteF ?_⟩
      obtain ⟨j, z, hj, hz⟩ := ix_mod cs (n + 1) k.lc.1
      have hl : ((cs.map V.int).length : Int) ≠ 0 := by rw [List.length_map]; have := k.lc.1; omega
      refine ⟨.ref s, rfl, s, _, 1, _, rfl, rfl, SqL.of kq.hs, atI_nat (j := 1) rfl, .ref s, rfl, s, _, 2, _, rfl, rfl, SqL.of kq.hs, atI_nat (j := 2) rfl, .inl ⟨_, rfl, .ref s, rfl, s, _, 1, _, rfl, rfl, SqL.of kq.hs, atI_nat (j := 1) rfl, c, _, rfl, .inl (SqL.of kq.hc), n + 1, _, rfl, rfl, hl, c, _, _, .int z, rfl, rfl, SqL.of kq.hc, ?_, .inl ⟨_, rfl, z, 2147483647, rfl, rfl, nz1, ?_⟩⟩⟩
      · rw [List.length_map, hj]
        exact atI_nat (by rw [List.getElem?_map, hz]; rfl)
      obtain ⟨c0, c1⟩ := fmod_in z (m := 2147483647) (by decide)
      have hn0 := k.n0
      have hn1 : n + 1 ≤ 1000002 := by omega
      refine ⟨_, rfl, _, _, rfl, rfl, wmul c0 (by omega) (by decide) (by decide), .ref s, rfl, s, _, 2, _, rfl, rfl, SqL.of kq.hs, atI_nat (j := 2) rfl, _, _, rfl, rfl, wmul (by omega) (by omega) (by decide) (by decide), _, _, rfl, rfl, _, _, rfl, rfl, _, _, rfl, rfl, pow5 (by omega) (by omega), .inl ⟨_, rfl, _, _, rfl, rfl, nz1, ?_⟩⟩
      obtain ⟨d0, d1⟩ := fmod_in ((z.fmod 2147483647 * 48271 + (n + 1) * 69621 + 7) ^ (5 : Int).toNat) (m := 2147483647) (by decide)
      refine ⟨_, rfl, _, _, rfl, rfl, wmul d0 (by omega) (by decide) (by decide), .ref s, rfl, s, _, 2, _, rfl, rfl, SqL.of kq.hs, atI_nat (j := 2) rfl, _, _, rfl, rfl, wmul (by omega) (by omega) (by decide) (by decide), _, _, rfl, rfl, _, _, rfl, rfl, _, _, rfl, rfl, pow5 (by omega) (by omega), .inl ⟨_, rfl, _, _, rfl, rfl, nz2, _, rfl, _, _, rfl, rfl, by omega, ?_⟩⟩
      exact q _ _ (fmod_in _ hm).1 (fmod_in _ hm).2 ⟨b, c, n + 1, [], cs, kq, by omega⟩
    | cons y r =>
      refine iteT ?_
      refine ⟨.ref s, rfl, s, _, 0, _, rfl, rfl, SqL.of kp.hs, atI_nat (j := 0) rfl, b, _, 0, .int y, rfl, rfl, SqL.of kp.hb, atI_nat (j := 0) rfl, rfl, _, rfl, ?_⟩
      refine ite2 (fun e0 => ?_) (fun e0 => ?_)
      · have hy : y = 0 := V.int.inj (of_decide_eq_true e0)
        refine ⟨fun σ' H' => ∃ b, σ' = [some (.ref s), some (.int m), none, none, none] ∧ VS s b c (n + 1) r cs G H', fun σ' H' ⟨b, e, k⟩ => ⟨r.length, by simp, b, r, rfl, e, k⟩, ?_⟩
        refine ⟨.ref s, rfl, s, _, 0, _, rfl, rfl, SqL.of kp.hs, atI_nat (j := 0) rfl, 1, rfl, b, _, rfl, SqL.of kp.hb, fun p2 hp2 => ?_⟩
        have kq := kp.ext (same_of_none (o := .lst (cutV ((y :: r).map V.int) (some 1) none)) hp2)
        refine ⟨.ref s, rfl, s, _, 0, 0, rfl, rfl, kq.hs, rfl, p2, rfl, ?_⟩
        rw [show cutV ((y :: r).map V.int) (some 1) none = r.map V.int from cut1 _ _] at kq ⊢
        exact kp.big hp2
      · have hy : ¬ y = 0 := fun e => e0 (decide_eq_true (by rw [e]))
        have hy0 : 0 ≤ y := k.nn y List.mem_cons_self
        refine ⟨.ref s, rfl, s, _, 0, _, rfl, rfl, SqL.of kp.hs, atI_nat (j := 0) rfl, Nat.zero_le _, fun p2 hp2 => ?_⟩
        have kq := kp.ext (same_of_none (o := .lst []) hp2)
        refine ⟨.list ((y :: r).map .int), .list [], .lst (SqL.of kq.hb) (dpAll_ints _), .lst (SqL.of upd_same) .nil, shaped_ints _, rfl, _, rfl, iteT ?_⟩
        refine ⟨.ref s, rfl, s, _, 0, _, rfl, rfl, SqL.of kq.hs, atI_nat (j := 0) rfl, b, _, 0, .int y, rfl, rfl, SqL.of kq.hb, atI_nat (j := 0) rfl, .inl ⟨_, rfl, _, rfl, y, m, rfl, rfl, by omega, ?_⟩⟩
        refine ⟨.ref s, rfl, s, _, 0, _, rfl, rfl, SqL.of kq.hs, atI_nat (j := 0) rfl, b, _, 0, .int y, rfl, rfl, SqL.of kq.hb, atI_nat (j := 0) rfl, _, rfl, y, m, rfl, rfl, wide_div (b := 100) hm (by omega) (by decide) (by decide), .ref s, rfl, s, _, 0, _, rfl, rfl, SqL.of kq.hs, atI_nat (j := 0) rfl, b, _, 0, 0, rfl, rfl, kq.hb, ixN_zero, ?_⟩
        refine ⟨_, rfl, ?_⟩
        exact q _ _ (fmod_in _ hm).1 (fmod_in _ hm).2 ⟨b, c, n + 1, _, cs, kq.head (Int.ediv_nonneg hy0 (by omega)), by omega⟩
def F_Ldraw (q : Int × Unit) : M Int := Mi.draw q.1
theorem okT_Ldraw {f : Addr} {fd : FuncData} (F : Fun K "_law_draw" "_law_draw" s_Ldraw f fd) (T : TxtB mg) : FnOk P w K mg base CX0 1 f fd ["_law_state", "_law_size"] (spT mg K ([] : List (Addr × Str)) thV (fun s (m : Int × Unit) => [rSt s, rInt m.1]) F_Ldraw (Fz rInt)) := by
  delta F_Ldraw Mi.draw
  exact (ok_Ldraw F T).imp fun _ _ _ _ h => sp_draw h
theorem sc_BadCountD_initD : FnScope ["self", "count"] ["self", "count"] (defScope s_BadCountD_initD) := ⟨rfl, rfl, rfl, by decide +kernel, rfl, by decide +kernel, by decide +kernel⟩
theorem ok_BadCountD_initD {f : Addr} {fd : FuncData} (F : Fun K "__init__" "BadCount.__init__" s_BadCountD_initD f fd) (T : TxtB mg) (x_BadCount : XCls K mg "BadCount" "count") : FnOk P w K mg base CX0 1 f fd ["self", "count"] (spXI x_BadCount.C "count") := by
  refine F.ok sc_BadCountD_initD (fun vs H Q E h => ?_) (fun cdv A outer s H vs Q E hr h => ?_)
  · obtain ⟨a, v, rfl, _⟩ := h
    rfl
  · obtain ⟨a, v, rfl, ha, q⟩ := h
    refine ⟨_, (pss_one (ps_ost (pv 0) (pv 1))), ?_⟩
    exact ⟨_, rfl, _, rfl, a, x_BadCount.C, rfl, x_BadCount.T, x_BadCount.no, .inl ⟨ha, fun dx h1 h2 => q dx h1 h2⟩⟩
theorem sc_BadNameD_initD : FnScope ["self", "name"] ["self", "name"] (defScope s_BadNameD_initD) := ⟨rfl, rfl, rfl, by decide +kernel, rfl, by decide +kernel, by decide +kernel⟩
theorem ok_BadNameD_initD {f : Addr} {fd : FuncData} (F : Fun K "__init__" "BadName.__init__" s_BadNameD_initD f fd) (T : TxtB mg) (x_BadName : XCls K mg "BadName" "name") : FnOk P w K mg base CX0 1 f fd ["self", "name"] (spXI x_BadName.C "name") := by
  refine F.ok sc_BadNameD_initD (fun vs H Q E h => ?_) (fun cdv A outer s H vs Q E hr h => ?_)
  · obtain ⟨a, v, rfl, _⟩ := h
    rfl
  · obtain ⟨a, v, rfl, ha, q⟩ := h
    refine ⟨_, (pss_one (ps_ost (pv 0) (pv 1))), ?_⟩
    exact ⟨_, rfl, _, rfl, a, x_BadName.C, rfl, x_BadName.T, x_BadName.no, .inl ⟨ha, fun dx h1 h2 => q dx h1 h2⟩⟩
theorem sc_BadWishD_initD : FnScope ["self", "value"] ["self", "value"] (defScope s_BadWishD_initD) := ⟨rfl, rfl, rfl, by decide +kernel, rfl, by decide +kernel, by decide +kernel⟩
theorem ok_BadWishD_initD {f : Addr} {fd : FuncData} (F : Fun K "__init__" "BadWish.__init__" s_BadWishD_initD f fd) (T : TxtB mg) (x_BadWish : XCls K mg "BadWish" "value") : FnOk P w K mg base CX0 1 f fd ["self", "value"] (spXI x_BadWish.C "value") := by
  refine F.ok sc_BadWishD_initD (fun vs H Q E h => ?_) (fun cdv A outer s H vs Q E hr h => ?_)
  · obtain ⟨a, v, rfl, _⟩ := h
    rfl
  · obtain ⟨a, v, rfl, ha, q⟩ := h
    refine ⟨_, (pss_one (ps_ost (pv 0) (pv 1))), ?_⟩
    exact ⟨_, rfl, _, rfl, a, x_BadWish.C, rfl, x_BadWish.T, x_BadWish.no, .inl ⟨ha, fun dx h1 h2 => q dx h1 h2⟩⟩
theorem sc_UnknownNameD_initD : FnScope ["self", "name"] ["self", "name"] (defScope s_UnknownNameD_initD) := ⟨rfl, rfl, rfl, by decide +kernel, rfl, by decide +kernel, by decide +kernel⟩
theorem ok_UnknownNameD_initD {f : Addr} {fd : FuncData} (F : Fun K "__init__" "UnknownName.__init__" s_UnknownNameD_initD f fd) (T : TxtB mg) (x_UnknownName : XCls K mg "UnknownName" "name") : FnOk P w K mg base CX0 1 f fd ["self", "name"] (spXI x_UnknownName.C "name") := by
  refine F.ok sc_UnknownNameD_initD (fun vs H Q E h => ?_) (fun cdv A outer s H vs Q E hr h => ?_)
  · obtain ⟨a, v, rfl, _⟩ := h
    rfl
  · obtain ⟨a, v, rfl, ha, q⟩ := h
    refine ⟨_, (pss_one (ps_ost (pv 0) (pv 1))), ?_⟩
    exact ⟨_, rfl, _, rfl, a, x_UnknownName.C, rfl, x_UnknownName.T, x_UnknownName.no, .inl ⟨ha, fun dx h1 h2 => q dx h1 h2⟩⟩
abbrev N_valid_name : List Str := ["text", "sign"]
theorem sc_valid_name : FnScope ["text", "sign"] ["text"] (defScope s_valid_name) := ⟨rfl, rfl, rfl, by decide +kernel, rfl, by decide +kernel, by decide +kernel⟩
@[irreducible] def F_valid_name (q : Str × Unit) : M Bool := M.ret ((M.seq (M.bind (M.bind (M.bind (M.when ((q.1).length ≤ sizeLine) (((q.1).length : Int))) fun x_1 => (M.ite (decide (((1 : Int)) ≤ (x_1))) (M.pure (decide ((x_1) ≤ ((6 : Int))))) (M.pure false))) fun x_2 => (M.pure ((!(x_2))))) fun x_4 => (M.ite (x_4) (M.rt (false)) (M.nx (())))) fun s_3 => (M.bind (M.bind (M.bind (Mi.sgn (q.1) ((0 : Int))) fun x_9 => (Mi.inS (x_9) (("abcdefghijklmnopqrstuvwxyz" : Str)))) fun x_10 => (M.ite (x_10) (M.bind (Mi.comp ((VL.signs (q.1))) fun b_5 => (M.bind (M.bind (Mi.inS (b_5) (("abcdefghijklmnopqrstuvwxyz" : Str))) fun x_6 => (M.ite (x_6) (M.pure true) (Mi.inS (b_5) (("0123456789" : Str))))) fun x_7 => (M.pure ((some (x_7)))))) fun x_8 => (M.pure (((x_8).all id)))) (M.pure false))) fun x_11 => (M.rt (x_11)))) : M (Fl Bool Unit))
theorem ok_valid_name {f : Addr} {fd : FuncData} (F : Fun K "valid_name" "valid_name" s_valid_name f fd) (T : TxtB mg) : FnOk P w K mg base CX0 1 f fd ["text"] (spG mg K ([] : List (Addr × Str)) (fun q : Str × Unit => [rStr q.1]) F_valid_name (Fz rBl)) := by
  refine F.ok sc_valid_name spG_len (fun cdv A outer s H vs Q E hr h => ?_)
  refine ⟨_, (pss_cons (ps_if (pt_not (pt_chain op_le op_le pe_int (pe_callB call_len_str (by rfl) T.z_len PySem.boot_len (pa_cons (pv 0) pa_nil)) (pe_glob (v := .int 6) (by rfl) T.c_LONGEST_NAME.choose_spec ⟨_, rfl⟩))) (pss_one (ps_ret pe_bl)) pss_nil)
      (pss_one (ps_ret (pe_and (pe_cmpR op_in_sign (pe_ix ix_str (pv 0) pe_int (fun _ _ => rfl)) (pe_glob (v := .str "abcdefghijklmnopqrstuvwxyz") (by rfl) T.c_LETTERS.choose_spec ⟨_, rfl⟩) (by rfl)) (pe_one (pe_callB (cr_all rfl) (by rfl) T.z_all (by decide +kernel) (pa_cons (pe_lc (own := [("sign", 1)]) (g := gName 1) (tt := tYes) rfl sc_valid_name.nd (pi_str (pv 0)) (blkOk_by (own := [("sign", 1)]) (N := N_valid_name) (sc := defScope s_valid_name) (by decide +kernel)) (fun _ _ _ _ _ => (pg_name (i := 1) sc_valid_name.nd rfl (.inl rfl))) (fun _ _ _ _ _ => pts_nil) (fun _ _ _ _ _ => (pe_or (pe_cmpR op_in_sign (pv 1) (pe_glob (v := .str "abcdefghijklmnopqrstuvwxyz") (by rfl) T.c_LETTERS.choose_spec ⟨_, rfl⟩) (by rfl)) (pe_one (pe_cmpR op_in_sign (pv 1) (pe_glob (v := .str "0123456789") (by rfl) T.c_DIGITS.choose_spec ⟨_, rfl⟩) (by rfl)))))) pa_nil))))))), ?_⟩
  refine fn_G (δ := Unit) (ψ := fun _ _ => []) h ?_ (fun Θ B G0 q => 
      (sv_seq (sv_if (vt_not (vt_test (ve_chain (ve_c rInt 1 fun _ => rfl) (ve_cb (va_cons (ve_v rStr (q.1)) va_nil) vn_lenS) (ve_c rInt 6 fun _ => rfl) v2_le v2_le))) PxLe.nil (sv_ret (ve_c rBl false fun _ => rfl) PxLe.nil) (sv_conv (χ := (fun s_3 : Unit => [.fr (rStr (q.1)), .un])) (fun _ => ()) sv_nil (fun _ => (Le.same (Le.un Le.nil))))) fun s_3 =>
      (sv_ret (ve_and (ve_op2 (ve_op2 (ve_v rStr (q.1)) (ve_c rInt 0 fun _ => rfl) v2_ixS) (ve_c rStr ("abcdefghijklmnopqrstuvwxyz" : Str) fun _ => rfl) v2_inSign) (ve_cb (va_cons (ve_frL (ve_lc (vs := [1]) (js := [1]) (vi_str (ve_v rStr (q.1))) (hv1 rfl) (vg_name (i := 1)) (fun _ h => h) (fun b_5 => vt_yes) (fun b_5 => (ve_or (ve_op2 (ve_v rStr (b_5)) (ve_c rStr ("abcdefghijklmnopqrstuvwxyz" : Str) fun _ => rfl) v2_inSign) (ve_op2 (ve_v rStr (b_5)) (ve_c rStr ("0123456789" : Str) fun _ => rfl) v2_inSign))))) va_nil) vn_all)) PxLe.nil)))
  intro q; delta F_valid_name Mi.compX Mi.neDG Mi.datDI Mi.cat Mi.fits Mi.neOt Mi.unO Mi.unT Mi.unD Mi.eqT0 Mi.sortSC Mi.maxD Mi.sortOut Mi.minS Mi.gput Mi.gset Mi.heldG Mi.endG Mi.eqG Mi.inOwn Mi.held2 Mi.end2 Mi.datSs Mi.neXL Mi.eqXL Mi.datP2 Mi.eqX Mi.inX Mi.datT Mi.popL Mi.pget Mi.pcomp Mi.whileL Mi.index Mi.datPI Mi.datAt Mi.datStr Mi.datInt Mi.datL Mi.four Mi.dcomp Mi.get Mi.pr Mi.neL Mi.neQ Mi.datTT Mi.datS Mi.inS Mi.niS Mi.sortSet Mi.insert Mi.dget Mi.comp2 Mi.exch Mi.two Mi.neD Mi.eqD Mi.inD Mi.inDT Mi.idx Mi.sgn Mi.rng Mi.comp Mi.join Mi.popAt Mi.popE Mi.sortI Mi.sortS Mi.sortD Mi.listD Mi.setL Mi.max Mi.min Mi.draw; rfl
theorem sc_is_integer : FnScope ["value"] ["value"] (defScope s_is_integer) := ⟨rfl, rfl, rfl, by decide +kernel, rfl, by decide +kernel, by decide +kernel⟩
@[irreducible] def F_is_integer (q : PyData × Unit) : M Bool := M.ret ((M.rt ((((isD_int (q.1))) && ((!((isD_bool (q.1)))))))) : M (Fl Bool Unit))
theorem ok_is_integer {f : Addr} {fd : FuncData} (F : Fun K "is_integer" "is_integer" s_is_integer f fd) (T : TxtB mg) : FnOk P w K mg base CX0 1 f fd ["value"] (spG mg K ([] : List (Addr × Str)) (fun q : PyData × Unit => [rDat q.1]) F_is_integer (Fz rBl)) := by
  refine F.ok sc_is_integer spG_len (fun cdv A outer s H vs Q E hr h => ?_)
  refine ⟨_, (pss_one (ps_ret (pe_and (pe_callB call_isi (by rfl) T.z_isinstance (by decide +kernel) (pa_cons (pv 0) (pa_cons (pe_bltn (v := .ty "int") (by rfl) T.z_int (by decide +kernel) rfl) pa_nil))) (pe_one (pe_not (pe_callB call_isi (by rfl) T.z_isinstance (by decide +kernel) (pa_cons (pv 0) (pa_cons (pe_bltn (v := .ty "bool") (by rfl) T.z_bool (by decide +kernel) rfl) pa_nil)))))))), ?_⟩
  refine fn_G (δ := Unit) (ψ := fun _ _ => []) h ?_ (fun Θ B G0 q => 
      (sv_ret (ve_andP (ve_isiDint (ve_v rDat (q.1))) (ve_not (ve_isiDbool (ve_v rDat (q.1))))) PxLe.nil))
  intro q; delta F_is_integer Mi.compX Mi.neDG Mi.datDI Mi.cat Mi.fits Mi.neOt Mi.unO Mi.unT Mi.unD Mi.eqT0 Mi.sortSC Mi.maxD Mi.sortOut Mi.minS Mi.gput Mi.gset Mi.heldG Mi.endG Mi.eqG Mi.inOwn Mi.held2 Mi.end2 Mi.datSs Mi.neXL Mi.eqXL Mi.datP2 Mi.eqX Mi.inX Mi.datT Mi.popL Mi.pget Mi.pcomp Mi.whileL Mi.index Mi.datPI Mi.datAt Mi.datStr Mi.datInt Mi.datL Mi.four Mi.dcomp Mi.get Mi.pr Mi.neL Mi.neQ Mi.datTT Mi.datS Mi.inS Mi.niS Mi.sortSet Mi.insert Mi.dget Mi.comp2 Mi.exch Mi.two Mi.neD Mi.eqD Mi.inD Mi.inDT Mi.idx Mi.sgn Mi.rng Mi.comp Mi.join Mi.popAt Mi.popE Mi.sortI Mi.sortS Mi.sortD Mi.listD Mi.setL Mi.max Mi.min Mi.draw; rfl
theorem sc_check_count : FnScope ["count"] ["count"] (defScope s_check_count) := ⟨rfl, rfl, rfl, by decide +kernel, rfl, by decide +kernel, by decide +kernel⟩
@[irreducible] def F_check_count (q : Int × Unit) : M Unit := M.retN ((M.seq (M.bind (M.bind (M.ite (decide (((1 : Int)) ≤ (q.1))) (M.pure (decide ((q.1) ≤ ((6 : Int))))) (M.pure false)) fun x_12 => (M.pure ((!(x_12))))) fun x_14 => (M.ite (x_14) (M.raise ⟨"BadCount", "count", IsD.d rInt (q.1)⟩) (M.nx (())))) fun s_13 => (M.nx ())) : M (Fl Unit Unit)) ()
theorem ok_check_count {f : Addr} {fd : FuncData} (F : Fun K "check_count" "check_count" s_check_count f fd) (T : TxtB mg) (x_BadCount : XCls K mg "BadCount" "count") (c_BadCountD_initD : CalM P w K mg base CX0 1 ["self", "count"] (spXI x_BadCount.C "count")) (i_BadCount : XIni K x_BadCount.C c_BadCountD_initD.f) : FnOk P w K mg base (CX P w) 3 f fd ["count"] (spG mg K ([] : List (Addr × Str)) (fun q : Int × Unit => [rInt q.1]) F_check_count (Fz rNon)) := by
  refine F.okX sc_check_count spG_len (fun cdv A outer s H vs Q E hr h => ?_)
  refine ⟨_, (pss_one (ps_if (pt_not (pt_chain op_le op_le pe_int (pv 0) (pe_glob (v := .int 6) (by rfl) T.c_MOST_OUTCOMES.choose_spec ⟨_, rfl⟩))) (pss_one (ps_raise rfl (takes_of rfl rfl rfl rfl) (pmk_oex x_BadCount.T i_BadCount.iC i_BadCount.tI c_BadCountD_initD.G (hr.mono (by decide)) c_BadCountD_initD.b .nil pass0 (by rfl) x_BadCount.g (pa_cons (pv 0) pa_nil)))) pss_nil)), ?_⟩
  refine fn_GN (δ := Unit) h ?_ (fun Θ B G0 q => 
      (sv_conv (χ := fun _ : Unit => [.un]) (fun _ => ()) (sv_if (vt_not (vt_test (ve_chain (ve_c rInt 1 fun _ => rfl) (ve_v rInt (q.1)) (ve_c rInt 6 fun _ => rfl) v2_le v2_le))) PxLe.nil (sv_raise (R := rInt) x_BadCount (ve_v rInt (q.1)) PxLe.nil) (sv_conv (χ := (fun s_13 : Unit => [.fr (rInt (q.1))])) (fun _ => ()) sv_nil (fun _ => (Le.same Le.nil)))) (fun _ => (Le.un Le.nil))))
  intro q; delta F_check_count Mi.compX Mi.neDG Mi.datDI Mi.cat Mi.fits Mi.neOt Mi.unO Mi.unT Mi.unD Mi.eqT0 Mi.sortSC Mi.maxD Mi.sortOut Mi.minS Mi.gput Mi.gset Mi.heldG Mi.endG Mi.eqG Mi.inOwn Mi.held2 Mi.end2 Mi.datSs Mi.neXL Mi.eqXL Mi.datP2 Mi.eqX Mi.inX Mi.datT Mi.popL Mi.pget Mi.pcomp Mi.whileL Mi.index Mi.datPI Mi.datAt Mi.datStr Mi.datInt Mi.datL Mi.four Mi.dcomp Mi.get Mi.pr Mi.neL Mi.neQ Mi.datTT Mi.datS Mi.inS Mi.niS Mi.sortSet Mi.insert Mi.dget Mi.comp2 Mi.exch Mi.two Mi.neD Mi.eqD Mi.inD Mi.inDT Mi.idx Mi.sgn Mi.rng Mi.comp Mi.join Mi.popAt Mi.popE Mi.sortI Mi.sortS Mi.sortD Mi.listD Mi.setL Mi.max Mi.min Mi.draw; rfl
abbrev d_Wishes : Type := (List Str) × (List (Str × Int))
abbrev fl_Wishes (q : d_Wishes) : List (Str × VP) := [(("_outcomes" : Str), (rTup rStr) q.1), (("_amounts" : Str), (rDct rInt) q.2)]
abbrev rI_Wishes (C : Addr) (q : d_Wishes) : VP := rIns C (fl_Wishes q)
abbrev cI_Wishes (C : Addr) (q : d_Wishes) : CP := cIns C (fl_Wishes q)
abbrev flN_Wishes (p0 : Addr) (q : d_Wishes) : List (Str × VP) := [(("_outcomes" : Str), (rTup rStr) q.1), (("_amounts" : Str), (rDctNe p0 rInt) q.2)]
abbrev cIN_Wishes (p0 : Addr) (C : Addr) (q : d_Wishes) : CP := cIns C (flN_Wishes p0 q)
theorem lfN_Wishes {C : Addr} : ∀ (b : d_Wishes) (o : HO) (G2 : Hp) (p : Addr) (ks : List (Key × V)), G2 p = some (.dK ks) → (cIN_Wishes p C b).P o G2 → (cI_Wishes C b).P o (VL.del G2 p) := by
  rintro b o G2 p ks h1 ⟨dx, fs, e, k1, k2, k3⟩
  refine ⟨dx, fs, e, fun z hz => ?_, fun f hf => k2 f fun q hq => ?_, k3⟩
  · simp only [List.mem_cons, List.not_mem_nil, or_false] at hz
    rcases hz with rfl | rfl
    · obtain ⟨u, c1, q, vs, c2, c3, c4⟩ := k1 (("_outcomes" : Str), (rTup rStr) b.1) (by simp)
      have ne : q ≠ p := fun z => by subst z; rw [h1] at c3; cases c3
      exact ⟨u, c1, q, vs, c2, by rw [VL.del_ne ne]; exact c3, strs_any c4⟩
    · obtain ⟨u, c1, q, ks', c2, ne, c3, c4⟩ := k1 (("_amounts" : Str), (rDctNe p rInt) b.2) (by simp)
      exact ⟨u, c1, q, ks', c2, by rw [VL.del_ne ne]; exact c3, rInt_any c4⟩
  · simp only [List.mem_cons, List.not_mem_nil, or_false] at hq
    rcases hq with rfl | rfl
    · exact hf (("_outcomes" : Str), (rTup rStr) b.1) (by simp)
    · exact hf (("_amounts" : Str), (rDct rInt) b.2) (by simp)
instance {C : Addr} : LF (rI_Wishes C) := lf_ins (by
  intro a z hz
  simp only [fl_Wishes, List.mem_cons, List.not_mem_nil, or_false] at hz
  rcases hz with rfl | rfl
  · exact ⟨fun h k => LF.lf (R := (rTup rStr)) h k⟩
  · exact ⟨fun h k => LF.lf (R := (rDct rInt)) h k⟩
)
abbrev N_WishesD_initD : List Str := ["self", "amounts", "names", "name"]
theorem sc_WishesD_initD : FnScope ["self", "amounts", "names", "name"] ["self", "amounts"] (defScope s_WishesD_initD) := ⟨rfl, rfl, rfl, by decide +kernel, rfl, by decide +kernel, by decide +kernel⟩
@[irreducible] def F_WishesD_initD (q : (List (Str × PyData)) × Unit) : M d_Wishes := ((M.bind (F_check_count ((((q.1).length : Int)), ())) fun u_15 => (M.bind (Mi.sortS ((q.1).map (·.1))) fun names_16 => (M.seqI (ρ := Unit) (M.forL (fun b_17 s_18 => (M.seq (M.bind (M.bind (M.nox (F_valid_name ((b_17), ()))) fun x_19 => (M.pure ((!(x_19))))) fun x_21 => (M.ite (x_21) (M.raise ⟨"BadName", "name", IsD.d rStr (b_17)⟩) (M.nx (())))) fun s_20 => (M.nx (())))) (names_16) ()) fun s_18 => (M.seqI (ρ := Unit) (M.forL (fun b_22 s_23 => (M.seq (M.bind (M.bind (M.bind (Mi.dget (q.1) (b_22)) fun x_24 => (M.nox (F_is_integer ((x_24), ())))) fun x_25 => (M.pure ((!(x_25))))) fun x_29 => (M.ite (x_29) (M.bind (Mi.dget (q.1) (b_22)) fun x_28 => (M.raise ⟨"BadWish", "value", IsD.d rDat (x_28)⟩)) (M.nx (())))) fun s_27 => (M.nx (())))) (names_16) ()) fun s_23 => (M.nox (M.bind (M.pure (names_16)) fun outcomes_30 => (M.bind (Mi.dcomp (names_16) fun b_31 => (M.bind (M.bind (Mi.dget (q.1) (b_31)) fun x_32 => (Mi.datInt (x_32))) fun x_33 => (M.pure (((b_31), (x_33)))))) fun amounts_34 => M.pure (outcomes_30, amounts_34)))))))) : M d_Wishes)
theorem ok_WishesD_initD {f : Addr} {fd : FuncData} (F : Fun K "__init__" "Wishes.__init__" s_WishesD_initD f fd) (T : TxtB mg) (x_BadWish : XCls K mg "BadWish" "value") (c_BadWishD_initD : CalM P w K mg base CX0 1 ["self", "value"] (spXI x_BadWish.C "value")) (i_BadWish : XIni K x_BadWish.C c_BadWishD_initD.f) (x_BadName : XCls K mg "BadName" "name") (c_BadNameD_initD : CalM P w K mg base CX0 1 ["self", "name"] (spXI x_BadName.C "name")) (i_BadName : XIni K x_BadName.C c_BadNameD_initD.f) (c_check_count : Cal P w K mg base "check_count" (CX P w) 3 ["count"] (spG mg K ([] : List (Addr × Str)) (fun q : Int × Unit => [rInt q.1]) F_check_count (Fz rNon))) (c_valid_name : Cal P w K mg base "valid_name" CX0 1 ["text"] (spG mg K ([] : List (Addr × Str)) (fun q : Str × Unit => [rStr q.1]) F_valid_name (Fz rBl))) (c_is_integer : Cal P w K mg base "is_integer" CX0 1 ["value"] (spG mg K ([] : List (Addr × Str)) (fun q : PyData × Unit => [rDat q.1]) F_is_integer (Fz rBl))) : FnOk P w K mg base (CX P w) 4 f fd ["self", "amounts"] (spI mg K ([] : List (Addr × Str)) W_Wishes.C (fun q : (List (Str × PyData)) × Unit => [(rDct rDat) q.1]) F_WishesD_initD (cI_Wishes W_Wishes.C)) := by
  refine F.okX sc_WishesD_initD spI_len (fun cdv A outer s H vs Q E hr h => ?_)
  refine ⟨_, (pss_cons (ps_expr (pe_callS c_check_count.G (hr.mono (by decide)) (by rfl) c_check_count.g c_check_count.kp c_check_count.b (fun σ => passAt (takes_of rfl rfl rfl rfl) σ) (pa_cons (pe_callB call_lenD (by rfl) T.z_len PySem.boot_len (pa_cons (pv 1) pa_nil)) pa_nil)))
      (pss_cons (ps_set (i := 2) sc_WishesD_initD.nd rfl (.inl rfl) (pe_callB (call_sortedD rfl) (by rfl) T.z_sorted (by decide +kernel) (pa_cons (pv 1) pa_nil)))
      (pss_cons (ps_for (passes_of rfl) rfl (pi_list (pv 2)) (pg_name (i := 3) sc_WishesD_initD.nd rfl (.inl rfl)) (pss_one (ps_if (pt_not (pt_val (pe_call c_valid_name.G (hr.mono (by decide)) (by rfl) c_valid_name.g c_valid_name.kp c_valid_name.b .nil pass0 (pa_cons (pv 3) pa_nil)))) (pss_one (ps_raise rfl (takes_of rfl rfl rfl rfl) (pmk_oex x_BadName.T i_BadName.iC i_BadName.tI c_BadNameD_initD.G (hr.mono (by decide)) c_BadNameD_initD.b .nil pass0 (by rfl) x_BadName.g (pa_cons (pv 3) pa_nil)))) pss_nil)))
      (pss_cons (ps_for (passes_of rfl) rfl (pi_list (pv 2)) (pg_name (i := 3) sc_WishesD_initD.nd rfl (.inl rfl)) (pss_one (ps_if (pt_not (pt_val (pe_call c_is_integer.G (hr.mono (by decide)) (by rfl) c_is_integer.g c_is_integer.kp c_is_integer.b .nil pass0 (pa_cons (pe_dget (hu_of hr) (pv 1) (pv 3) (fun _ _ => rfl)) pa_nil)))) (pss_one (ps_raise rfl (takes_of rfl rfl rfl rfl) (pmk_oex x_BadWish.T i_BadWish.iC i_BadWish.tI c_BadWishD_initD.G (hr.mono (by decide)) c_BadWishD_initD.b .nil pass0 (by rfl) x_BadWish.g (pa_cons (pe_dget (hu_of hr) (pv 1) (pv 3) (fun _ _ => rfl)) pa_nil)))) pss_nil)))
      (PSs.nox (pss_cons (ps_fld (pv 0) (pe_callTy call_tuple_of (by rfl) T.z_tuple (by decide +kernel) (pa_cons (pv 2) pa_nil)) (by rfl))
      (pss_one (ps_fld (pv 0) (pe_dc (own := [("name", 3)]) (g := gName 3) (tt := tYes) rfl sc_WishesD_initD.nd (pi_list (pv 2)) (blkOk_by (own := [("name", 3)]) (N := N_WishesD_initD) (sc := defScope s_WishesD_initD) (by decide +kernel)) (fun _ _ _ _ _ => (pg_name (i := 3) sc_WishesD_initD.nd rfl (.inl rfl))) (fun _ _ _ _ _ => pts_nil) (fun _ _ _ _ _ => (pv 3)) (fun _ _ _ _ _ => (pe_dget (hu_of hr) (pv 1) (pv 3) (fun _ _ => rfl)))) (by rfl))))))))), ?_⟩
  refine fn_J (fl := fl_Wishes) h ?_ (fun _ => rfl) (fun Θ B G0 x dx q hBx hGx hGB => 
      (si_seq (sv_expr (ve_callR (va_cons (ve_cb (va_cons (ve_v (rDct rDat) (q.1)) va_nil) vn_lenD) va_nil)) PxLe.nil) fun u_15 =>
      (si_seq (sv_asg (i := 2) (ve_frL (ve_cb (va_cons (ve_v (rDct rDat) (q.1)) va_nil) vn_sortedD)) PxLe.nil) fun names_16 =>
      (si_seq (sv_for (ψ := (fun s_18 : Unit => [.fr (rAt x), .fr ((rDct rDat) (q.1)), .fr ((rLst rStr) (names_16)), .un])) (s0 := ()) (vi_list (ve_v (rLst rStr) (names_16))) PxLe.nil (Le.same (Le.same (Le.same (Le.un Le.nil)))) (fun s_18 => (vg_name (i := 3))) (fun b_17 s_18 => (sv_conv (χ := (fun s_18 : Unit => [.fr (rAt x), .fr ((rDct rDat) (q.1)), .fr ((rLst rStr) (names_16)), .un])) (fun s_20 => ()) (sv_if (vt_not (vt_b (ve_callF (va_cons (ve_v rStr (b_17)) va_nil)))) PxLe.nil (sv_raise (R := rStr) x_BadName (ve_v rStr (b_17)) PxLe.nil) (sv_conv (χ := (fun s_20 : Unit => [.fr (rAt x), .fr ((rDct rDat) (q.1)), .fr ((rLst rStr) (names_16)), .fr (rStr (b_17))])) (fun _ => ()) sv_nil (fun _ => (Le.same (Le.same (Le.same (Le.same Le.nil))))))) (fun s_20 => (Le.same (Le.same (Le.same (Le.un Le.nil)))))))) fun s_18 =>
      (si_seq (sv_for (ψ := (fun s_23 : Unit => [.fr (rAt x), .fr ((rDct rDat) (q.1)), .fr ((rLst rStr) (names_16)), .un])) (s0 := ()) (vi_list (ve_v (rLst rStr) (names_16))) PxLe.nil (Le.same (Le.same (Le.same (Le.un Le.nil)))) (fun s_23 => (vg_name (i := 3))) (fun b_22 s_23 => (sv_conv (χ := (fun s_23 : Unit => [.fr (rAt x), .fr ((rDct rDat) (q.1)), .fr ((rLst rStr) (names_16)), .un])) (fun s_27 => ()) (sv_if (vt_not (vt_b (ve_callF (va_cons (ve_dget (ve_v (rDct rDat) (q.1)) (ve_v rStr (b_22))) va_nil)))) PxLe.nil (sv_raise (R := rDat) x_BadWish (ve_dget (ve_v (rDct rDat) (q.1)) (ve_v rStr (b_22))) PxLe.nil) (sv_conv (χ := (fun s_27 : Unit => [.fr (rAt x), .fr ((rDct rDat) (q.1)), .fr ((rLst rStr) (names_16)), .fr (rStr (b_22))])) (fun _ => ()) sv_nil (fun _ => (Le.same (Le.same (Le.same (Le.same Le.nil))))))) (fun s_27 => (Le.same (Le.same (Le.same (Le.un Le.nil)))))))) fun s_23 =>
      (si_end hBx hGx rfl hGB (sf_seq rfl rfl rfl rfl (ve_cb (va_cons (ve_v (rLst rStr) (names_16)) va_nil) vn_tupL) W_Wishes.cl (W_Wishes.na _ (by decide)) (nm_ne rfl) (Nat.le_of_ble_eq_true rfl) fun outcomes_30 =>
      (sf_conv (fun amounts_34 => (outcomes_30, amounts_34)) (sf_one rfl rfl rfl (ve_frD (ve_dc (vs := [3]) (js := [3]) (vi_list (ve_v (rLst rStr) (names_16))) (hv1 rfl) (vg_name (i := 3)) (fun _ h => h) (fun b_31 => (ve_v rStr (b_31))) (fun b_31 => (ve_datInt (ve_dget (ve_v (rDct rDat) (q.1)) (ve_v rStr (b_31))))))) W_Wishes.cl (W_Wishes.na _ (by decide)) (nm_ne rfl) (Nat.le_of_ble_eq_true rfl))))))))))
  intro q; delta F_WishesD_initD Mi.compX Mi.neDG Mi.datDI Mi.cat Mi.fits Mi.neOt Mi.unO Mi.unT Mi.unD Mi.eqT0 Mi.sortSC Mi.maxD Mi.sortOut Mi.minS Mi.gput Mi.gset Mi.heldG Mi.endG Mi.eqG Mi.inOwn Mi.held2 Mi.end2 Mi.datSs Mi.neXL Mi.eqXL Mi.datP2 Mi.eqX Mi.inX Mi.datT Mi.popL Mi.pget Mi.pcomp Mi.whileL Mi.index Mi.datPI Mi.datAt Mi.datStr Mi.datInt Mi.datL Mi.four Mi.dcomp Mi.get Mi.pr Mi.neL Mi.neQ Mi.datTT Mi.datS Mi.inS Mi.niS Mi.sortSet Mi.insert Mi.dget Mi.comp2 Mi.exch Mi.two Mi.neD Mi.eqD Mi.inD Mi.inDT Mi.idx Mi.sgn Mi.rng Mi.comp Mi.join Mi.popAt Mi.popE Mi.sortI Mi.sortS Mi.sortD Mi.listD Mi.setL Mi.max Mi.min Mi.draw; rfl
abbrev N_WishesD_initD_n : List Str := ["self", "amounts", "names", "name"]
theorem sc_WishesD_initD_n : FnScope ["self", "amounts", "names", "name"] ["self", "amounts"] (defScope s_WishesD_initD_n) := ⟨rfl, rfl, rfl, by decide +kernel, rfl, by decide +kernel, by decide +kernel⟩
@[irreducible] def F_WishesD_initD_n (q : (List (Str × PyData)) × Unit) : M d_Wishes := ((M.bind (F_check_count ((((q.1).length : Int)), ())) fun u_35 => (M.bind (Mi.sortS ((q.1).map (·.1))) fun names_36 => (M.seqI (ρ := Unit) (M.forL (fun b_37 s_38 => (M.seq (M.bind (M.bind (M.nox (F_valid_name ((b_37), ()))) fun x_39 => (M.pure ((!(x_39))))) fun x_41 => (M.ite (x_41) (M.raise ⟨"BadName", "name", IsD.d rStr (b_37)⟩) (M.nx (())))) fun s_40 => (M.nx (())))) (names_36) ()) fun s_38 => (M.seqI (ρ := Unit) (M.forL (fun b_42 s_43 => (M.seq (M.bind (M.bind (M.bind (Mi.dget (q.1) (b_42)) fun x_44 => (M.nox (F_is_integer ((x_44), ())))) fun x_45 => (M.pure ((!(x_45))))) fun x_49 => (M.ite (x_49) (M.bind (Mi.dget (q.1) (b_42)) fun x_48 => (M.raise ⟨"BadWish", "value", IsD.d rDat (x_48)⟩)) (M.nx (())))) fun s_47 => (M.nx (())))) (names_36) ()) fun s_43 => (M.nox (M.bind (M.pure (names_36)) fun outcomes_50 => (M.bind (Mi.dcomp (names_36) fun b_51 => (M.bind (M.bind (Mi.dget (q.1) (b_51)) fun x_52 => (Mi.datInt (x_52))) fun x_53 => (M.pure (((b_51), (x_53)))))) fun amounts_54 => M.pure (outcomes_50, amounts_54)))))))) : M d_Wishes)
theorem ok_WishesD_initD_n {f : Addr} {fd : FuncData} (F : Fun K "__init__" "Wishes.__init__" s_WishesD_initD_n f fd) (T : TxtB mg) (x_BadWish : XCls K mg "BadWish" "value") (c_BadWishD_initD : CalM P w K mg base CX0 1 ["self", "value"] (spXI x_BadWish.C "value")) (i_BadWish : XIni K x_BadWish.C c_BadWishD_initD.f) (x_BadName : XCls K mg "BadName" "name") (c_BadNameD_initD : CalM P w K mg base CX0 1 ["self", "name"] (spXI x_BadName.C "name")) (i_BadName : XIni K x_BadName.C c_BadNameD_initD.f) (c_check_count : Cal P w K mg base "check_count" (CX P w) 3 ["count"] (spG mg K ([] : List (Addr × Str)) (fun q : Int × Unit => [rInt q.1]) F_check_count (Fz rNon))) (c_valid_name : Cal P w K mg base "valid_name" CX0 1 ["text"] (spG mg K ([] : List (Addr × Str)) (fun q : Str × Unit => [rStr q.1]) F_valid_name (Fz rBl))) (c_is_integer : Cal P w K mg base "is_integer" CX0 1 ["value"] (spG mg K ([] : List (Addr × Str)) (fun q : PyData × Unit => [rDat q.1]) F_is_integer (Fz rBl))) : FnOk P w K mg base (CX P w) 4 f fd ["self", "amounts"] (spIN mg K ([] : List (Addr × Str)) W_Wishes.C (fun p0 (q : (List (Str × PyData)) × Unit ) => [(rDctAt p0 rDat) q.1]) F_WishesD_initD_n (fun p0 => cIN_Wishes p0 W_Wishes.C)) := by
  refine F.okX sc_WishesD_initD_n spIN_len (fun cdv A outer s H vs Q E hr h => ?_)
  refine ⟨_, (pss_cons (ps_expr (pe_callS c_check_count.G (hr.mono (by decide)) (by rfl) c_check_count.g c_check_count.kp c_check_count.b (fun σ => passAt (takes_of rfl rfl rfl rfl) σ) (pa_cons (pe_callB call_lenD (by rfl) T.z_len PySem.boot_len (pa_cons (pv 1) pa_nil)) pa_nil)))
      (pss_cons (ps_set (i := 2) sc_WishesD_initD_n.nd rfl (.inl rfl) (pe_callB (call_sortedD rfl) (by rfl) T.z_sorted (by decide +kernel) (pa_cons (pv 1) pa_nil)))
      (pss_cons (ps_for (passes_of rfl) rfl (pi_list (pv 2)) (pg_name (i := 3) sc_WishesD_initD_n.nd rfl (.inl rfl)) (pss_one (ps_if (pt_not (pt_val (pe_call c_valid_name.G (hr.mono (by decide)) (by rfl) c_valid_name.g c_valid_name.kp c_valid_name.b .nil pass0 (pa_cons (pv 3) pa_nil)))) (pss_one (ps_raise rfl (takes_of rfl rfl rfl rfl) (pmk_oex x_BadName.T i_BadName.iC i_BadName.tI c_BadNameD_initD.G (hr.mono (by decide)) c_BadNameD_initD.b .nil pass0 (by rfl) x_BadName.g (pa_cons (pv 3) pa_nil)))) pss_nil)))
      (pss_cons (ps_for (passes_of rfl) rfl (pi_list (pv 2)) (pg_name (i := 3) sc_WishesD_initD_n.nd rfl (.inl rfl)) (pss_one (ps_if (pt_not (pt_val (pe_call c_is_integer.G (hr.mono (by decide)) (by rfl) c_is_integer.g c_is_integer.kp c_is_integer.b .nil pass0 (pa_cons (pe_dget (hu_of hr) (pv 1) (pv 3) (fun _ _ => rfl)) pa_nil)))) (pss_one (ps_raise rfl (takes_of rfl rfl rfl rfl) (pmk_oex x_BadWish.T i_BadWish.iC i_BadWish.tI c_BadWishD_initD.G (hr.mono (by decide)) c_BadWishD_initD.b .nil pass0 (by rfl) x_BadWish.g (pa_cons (pe_dget (hu_of hr) (pv 1) (pv 3) (fun _ _ => rfl)) pa_nil)))) pss_nil)))
      (PSs.nox (pss_cons (ps_fld (pv 0) (pe_callTy call_tuple_of (by rfl) T.z_tuple (by decide +kernel) (pa_cons (pv 2) pa_nil)) (by rfl))
      (pss_one (ps_fld (pv 0) (pe_dc (own := [("name", 3)]) (g := gName 3) (tt := tYes) rfl sc_WishesD_initD_n.nd (pi_list (pv 2)) (blkOk_by (own := [("name", 3)]) (N := N_WishesD_initD_n) (sc := defScope s_WishesD_initD_n) (by decide +kernel)) (fun _ _ _ _ _ => (pg_name (i := 3) sc_WishesD_initD_n.nd rfl (.inl rfl))) (fun _ _ _ _ _ => pts_nil) (fun _ _ _ _ _ => (pv 3)) (fun _ _ _ _ _ => (pe_dget (hu_of hr) (pv 1) (pv 3) (fun _ _ => rfl)))) (by rfl))))))))), ?_⟩
  obtain ⟨p0, h⟩ := h
  refine fn_J (fl := flN_Wishes p0) h ?_ (fun _ => rfl) (fun Θ B G0 x dx q hBx hGx hGB => 
      (si_seq (sv_expr (ve_callR (va_cons (ve_cb (va_cons (ve_at (ve_v (rDctAt p0 rDat) (q.1))) va_nil) vn_lenD) va_nil)) PxLe.nil) fun u_35 =>
      (si_seq (sv_asg (i := 2) (ve_frL (ve_cb (va_cons (ve_at (ve_v (rDctAt p0 rDat) (q.1))) va_nil) vn_sortedD)) PxLe.nil) fun names_36 =>
      (si_seq (sv_for (ψ := (fun s_38 : Unit => [.fr (rAt x), .fr ((rDctAt p0 rDat) (q.1)), .fr ((rLst rStr) (names_36)), .un])) (s0 := ()) (vi_list (ve_v (rLst rStr) (names_36))) PxLe.nil (Le.same (Le.same (Le.same (Le.un Le.nil)))) (fun s_38 => (vg_name (i := 3))) (fun b_37 s_38 => (sv_conv (χ := (fun s_38 : Unit => [.fr (rAt x), .fr ((rDctAt p0 rDat) (q.1)), .fr ((rLst rStr) (names_36)), .un])) (fun s_40 => ()) (sv_if (vt_not (vt_b (ve_callF (va_cons (ve_v rStr (b_37)) va_nil)))) PxLe.nil (sv_raise (R := rStr) x_BadName (ve_v rStr (b_37)) PxLe.nil) (sv_conv (χ := (fun s_40 : Unit => [.fr (rAt x), .fr ((rDctAt p0 rDat) (q.1)), .fr ((rLst rStr) (names_36)), .fr (rStr (b_37))])) (fun _ => ()) sv_nil (fun _ => (Le.same (Le.same (Le.same (Le.same Le.nil))))))) (fun s_40 => (Le.same (Le.same (Le.same (Le.un Le.nil)))))))) fun s_38 =>
      (si_seq (sv_for (ψ := (fun s_43 : Unit => [.fr (rAt x), .fr ((rDctAt p0 rDat) (q.1)), .fr ((rLst rStr) (names_36)), .un])) (s0 := ()) (vi_list (ve_v (rLst rStr) (names_36))) PxLe.nil (Le.same (Le.same (Le.same (Le.un Le.nil)))) (fun s_43 => (vg_name (i := 3))) (fun b_42 s_43 => (sv_conv (χ := (fun s_43 : Unit => [.fr (rAt x), .fr ((rDctAt p0 rDat) (q.1)), .fr ((rLst rStr) (names_36)), .un])) (fun s_47 => ()) (sv_if (vt_not (vt_b (ve_callF (va_cons (ve_dget (ve_at (ve_v (rDctAt p0 rDat) (q.1))) (ve_v rStr (b_42))) va_nil)))) PxLe.nil (sv_raise (R := rDat) x_BadWish (ve_dget (ve_at (ve_v (rDctAt p0 rDat) (q.1))) (ve_v rStr (b_42))) PxLe.nil) (sv_conv (χ := (fun s_47 : Unit => [.fr (rAt x), .fr ((rDctAt p0 rDat) (q.1)), .fr ((rLst rStr) (names_36)), .fr (rStr (b_42))])) (fun _ => ()) sv_nil (fun _ => (Le.same (Le.same (Le.same (Le.same Le.nil))))))) (fun s_47 => (Le.same (Le.same (Le.same (Le.un Le.nil)))))))) fun s_43 =>
      (si_end hBx hGx rfl hGB (sf_seq rfl rfl rfl rfl (ve_cb (va_cons (ve_v (rLst rStr) (names_36)) va_nil) vn_tupL) W_Wishes.cl (W_Wishes.na _ (by decide)) (nm_ne rfl) (Nat.le_of_ble_eq_true rfl) fun outcomes_50 =>
      (sf_conv (fun amounts_54 => (outcomes_50, amounts_54)) (sf_one rfl rfl rfl (ve_frDne (i := 1) (ve_dc (vs := [3]) (js := [3]) (vi_list (ve_v (rLst rStr) (names_36))) (hv1 rfl) (vg_name (i := 3)) (fun _ h => h) (fun b_51 => (ve_v rStr (b_51))) (fun b_51 => (ve_datInt (ve_dget (ve_at (ve_v (rDctAt p0 rDat) (q.1))) (ve_v rStr (b_51))))))) W_Wishes.cl (W_Wishes.na _ (by decide)) (nm_ne rfl) (Nat.le_of_ble_eq_true rfl))))))))))
  intro q; delta F_WishesD_initD_n Mi.compX Mi.neDG Mi.datDI Mi.cat Mi.fits Mi.neOt Mi.unO Mi.unT Mi.unD Mi.eqT0 Mi.sortSC Mi.maxD Mi.sortOut Mi.minS Mi.gput Mi.gset Mi.heldG Mi.endG Mi.eqG Mi.inOwn Mi.held2 Mi.end2 Mi.datSs Mi.neXL Mi.eqXL Mi.datP2 Mi.eqX Mi.inX Mi.datT Mi.popL Mi.pget Mi.pcomp Mi.whileL Mi.index Mi.datPI Mi.datAt Mi.datStr Mi.datInt Mi.datL Mi.four Mi.dcomp Mi.get Mi.pr Mi.neL Mi.neQ Mi.datTT Mi.datS Mi.inS Mi.niS Mi.sortSet Mi.insert Mi.dget Mi.comp2 Mi.exch Mi.two Mi.neD Mi.eqD Mi.inD Mi.inDT Mi.idx Mi.sgn Mi.rng Mi.comp Mi.join Mi.popAt Mi.popE Mi.sortI Mi.sortS Mi.sortD Mi.listD Mi.setL Mi.max Mi.min Mi.draw; rfl
theorem sc_Wishes_outcomes : FnScope ["self"] ["self"] (defScope s_Wishes_outcomes) := ⟨rfl, rfl, rfl, by decide +kernel, rfl, by decide +kernel, by decide +kernel⟩
@[irreducible] def F_Wishes_outcomes (q : d_Wishes × Unit) : M (List Str) := M.ret ((M.rt ((q.1).1)) : M (Fl (List Str) Unit))
theorem ok_Wishes_outcomes {f : Addr} {fd : FuncData} (F : Fun K "outcomes" "Wishes.outcomes" s_Wishes_outcomes f fd) (T : TxtB mg) : FnOk P w K mg base CX0 1 f fd ["self"] (spG mg K ([] : List (Addr × Str)) (fun q : d_Wishes × Unit => [(rI_Wishes W_Wishes.C) q.1]) F_Wishes_outcomes (Fz (rTup rStr))) := by
  refine F.ok sc_Wishes_outcomes spG_len (fun cdv A outer s H vs Q E hr h => ?_)
  refine ⟨_, (pss_one (ps_ret (pe_fldK (K := K) rfl (pv 0) (by rfl)))), ?_⟩
  refine fn_G (δ := Unit) (ψ := fun _ _ => []) h ?_ (fun Θ B G0 q => 
      (sv_ret (ve_fld (R := (rTup rStr)) (fun z : d_Wishes => (z).1) (ve_v (rI_Wishes W_Wishes.C) (q.1)) W_Wishes.cl (W_Wishes.na _ (by decide)) (fun _ => .head _)) PxLe.nil))
  intro q; delta F_Wishes_outcomes Mi.compX Mi.neDG Mi.datDI Mi.cat Mi.fits Mi.neOt Mi.unO Mi.unT Mi.unD Mi.eqT0 Mi.sortSC Mi.maxD Mi.sortOut Mi.minS Mi.gput Mi.gset Mi.heldG Mi.endG Mi.eqG Mi.inOwn Mi.held2 Mi.end2 Mi.datSs Mi.neXL Mi.eqXL Mi.datP2 Mi.eqX Mi.inX Mi.datT Mi.popL Mi.pget Mi.pcomp Mi.whileL Mi.index Mi.datPI Mi.datAt Mi.datStr Mi.datInt Mi.datL Mi.four Mi.dcomp Mi.get Mi.pr Mi.neL Mi.neQ Mi.datTT Mi.datS Mi.inS Mi.niS Mi.sortSet Mi.insert Mi.dget Mi.comp2 Mi.exch Mi.two Mi.neD Mi.eqD Mi.inD Mi.inDT Mi.idx Mi.sgn Mi.rng Mi.comp Mi.join Mi.popAt Mi.popE Mi.sortI Mi.sortS Mi.sortD Mi.listD Mi.setL Mi.max Mi.min Mi.draw; rfl
theorem sc_WishesD_getitemD : FnScope ["self", "at"] ["self", "at"] (defScope s_WishesD_getitemD) := ⟨rfl, rfl, rfl, by decide +kernel, rfl, by decide +kernel, by decide +kernel⟩
@[irreducible] def F_WishesD_getitemD (q : d_Wishes × Str × Unit) : M Int := M.ret ((M.seq (M.ite ((!decide ((q.2.1) ∈ ((q.1).1)))) (M.raise ⟨"UnknownName", "name", IsD.d rStr (q.2.1)⟩) (M.nx (()))) fun s_55 => (M.bind (Mi.dget ((q.1).2) (q.2.1)) fun x_56 => (M.rt (x_56)))) : M (Fl Int Unit))
theorem ok_WishesD_getitemD {f : Addr} {fd : FuncData} (F : Fun K "__getitem__" "Wishes.__getitem__" s_WishesD_getitemD f fd) (T : TxtB mg) (x_UnknownName : XCls K mg "UnknownName" "name") (c_UnknownNameD_initD : CalM P w K mg base CX0 1 ["self", "name"] (spXI x_UnknownName.C "name")) (i_UnknownName : XIni K x_UnknownName.C c_UnknownNameD_initD.f) : FnOk P w K mg base (CX P w) 3 f fd ["self", "at"] (spG mg K ([] : List (Addr × Str)) (fun q : d_Wishes × Str × Unit => [(rI_Wishes W_Wishes.C) q.1, rStr q.2.1]) F_WishesD_getitemD (Fz rInt)) := by
  refine F.okX sc_WishesD_getitemD spG_len (fun cdv A outer s H vs Q E hr h => ?_)
  refine ⟨_, (pss_cons (ps_if (pt_cmpR op_notIn_seq (pv 1) (pe_fldK (K := K) rfl (pv 0) (by rfl)) (by rfl)) (pss_one (ps_raise rfl (takes_of rfl rfl rfl rfl) (pmk_oex x_UnknownName.T i_UnknownName.iC i_UnknownName.tI c_UnknownNameD_initD.G (hr.mono (by decide)) c_UnknownNameD_initD.b .nil pass0 (by rfl) x_UnknownName.g (pa_cons (pv 1) pa_nil)))) pss_nil)
      (PSs.nox (pss_one (ps_ret (pe_dget (hu_of hr) (pe_fldK (K := K) rfl (pv 0) (by rfl)) (pv 1) (fun _ _ => rfl)))))), ?_⟩
  refine fn_G (δ := Unit) (ψ := fun _ _ => []) h ?_ (fun Θ B G0 q => 
      (sv_seq (sv_if (vt_test (ve_op2 (ve_v rStr (q.2.1)) (ve_fld (R := (rTup rStr)) (fun z : d_Wishes => (z).1) (ve_v (rI_Wishes W_Wishes.C) (q.1)) W_Wishes.cl (W_Wishes.na _ (by decide)) (fun _ => .head _)) v2_niT)) PxLe.nil (sv_raise (R := rStr) x_UnknownName (ve_v rStr (q.2.1)) PxLe.nil) (sv_conv (χ := (fun s_55 : Unit => [.fr ((rI_Wishes W_Wishes.C) (q.1)), .fr (rStr (q.2.1))])) (fun _ => ()) sv_nil (fun _ => (Le.same (Le.same Le.nil))))) fun s_55 =>
      (sv_ret (ve_dget (ve_fld (R := (rDct rInt)) (fun z : d_Wishes => (z).2) (ve_v (rI_Wishes W_Wishes.C) (q.1)) W_Wishes.cl (W_Wishes.na _ (by decide)) (fun _ => .tail _ (.head _))) (ve_v rStr (q.2.1))) PxLe.nil)))
  intro q; delta F_WishesD_getitemD Mi.compX Mi.neDG Mi.datDI Mi.cat Mi.fits Mi.neOt Mi.unO Mi.unT Mi.unD Mi.eqT0 Mi.sortSC Mi.maxD Mi.sortOut Mi.minS Mi.gput Mi.gset Mi.heldG Mi.endG Mi.eqG Mi.inOwn Mi.held2 Mi.end2 Mi.datSs Mi.neXL Mi.eqXL Mi.datP2 Mi.eqX Mi.inX Mi.datT Mi.popL Mi.pget Mi.pcomp Mi.whileL Mi.index Mi.datPI Mi.datAt Mi.datStr Mi.datInt Mi.datL Mi.four Mi.dcomp Mi.get Mi.pr Mi.neL Mi.neQ Mi.datTT Mi.datS Mi.inS Mi.niS Mi.sortSet Mi.insert Mi.dget Mi.comp2 Mi.exch Mi.two Mi.neD Mi.eqD Mi.inD Mi.inDT Mi.idx Mi.sgn Mi.rng Mi.comp Mi.join Mi.popAt Mi.popE Mi.sortI Mi.sortS Mi.sortD Mi.listD Mi.setL Mi.max Mi.min Mi.draw; rfl
theorem sc_Wishes_prefers : FnScope ["self", "one", "other"] ["self", "one", "other"] (defScope s_Wishes_prefers) := ⟨rfl, rfl, rfl, by decide +kernel, rfl, by decide +kernel, by decide +kernel⟩
@[irreducible] def F_Wishes_prefers (q : d_Wishes × Str × Str × Unit) : M Bool := M.ret ((M.bind (M.bind (F_WishesD_getitemD ((q.1), ((q.2.1), ()))) fun x_57 => (M.bind (F_WishesD_getitemD ((q.1), ((q.2.2.1), ()))) fun x_58 => (M.pure ((decide ((x_58) < (x_57))))))) fun x_59 => (M.rt (x_59))) : M (Fl Bool Unit))
theorem ok_Wishes_prefers {f : Addr} {fd : FuncData} (F : Fun K "prefers" "Wishes.prefers" s_Wishes_prefers f fd) (T : TxtB mg) (c_WishesD_getitemD : CalM P w K mg base (CX P w) 3 ["self", "at"] (spG mg K ([] : List (Addr × Str)) (fun q : d_Wishes × Str × Unit => [(rI_Wishes W_Wishes.C) q.1, rStr q.2.1]) F_WishesD_getitemD (Fz rInt))) (m_WishesD_getitemD : Meth K W_Wishes.C "__getitem__" c_WishesD_getitemD.f) (i_WishesD_getitemD : IxF K W_Wishes.C c_WishesD_getitemD.f) : FnOk P w K mg base (CX P w) 5 f fd ["self", "one", "other"] (spG mg K ([] : List (Addr × Str)) (fun q : d_Wishes × Str × Str × Unit => [(rI_Wishes W_Wishes.C) q.1, rStr q.2.1, rStr q.2.2.1]) F_Wishes_prefers (Fz rBl)) := by
  refine F.okX sc_Wishes_prefers spG_len (fun cdv A outer s H vs Q E hr h => ?_)
  refine ⟨_, (pss_one (ps_ret (pe_cmpR op_gt (pe_ixOwnS W_Wishes.cl i_WishesD_getitemD.hs i_WishesD_getitemD.hf i_WishesD_getitemD.hfn c_WishesD_getitemD.G (hr.mono (by decide)) c_WishesD_getitemD.b (fun σ => passAt (takes_of rfl rfl rfl rfl) σ) (pv 0) (pv 1)) (pe_ixOwnS W_Wishes.cl i_WishesD_getitemD.hs i_WishesD_getitemD.hf i_WishesD_getitemD.hfn c_WishesD_getitemD.G (hr.mono (by decide)) c_WishesD_getitemD.b (fun σ => passAt (takes_of rfl rfl rfl rfl) σ) (pv 0) (pv 2)) (nomark _)))), ?_⟩
  refine fn_G (δ := Unit) (ψ := fun _ _ => []) h ?_ (fun Θ B G0 q => 
      (sv_ret (ve_op2 (ve_ixOwnR (ve_v (rI_Wishes W_Wishes.C) (q.1)) (ve_v rStr (q.2.1))) (ve_ixOwnR (ve_v (rI_Wishes W_Wishes.C) (q.1)) (ve_v rStr (q.2.2.1))) v2_gt) PxLe.nil))
  intro q; delta F_Wishes_prefers Mi.compX Mi.neDG Mi.datDI Mi.cat Mi.fits Mi.neOt Mi.unO Mi.unT Mi.unD Mi.eqT0 Mi.sortSC Mi.maxD Mi.sortOut Mi.minS Mi.gput Mi.gset Mi.heldG Mi.endG Mi.eqG Mi.inOwn Mi.held2 Mi.end2 Mi.datSs Mi.neXL Mi.eqXL Mi.datP2 Mi.eqX Mi.inX Mi.datT Mi.popL Mi.pget Mi.pcomp Mi.whileL Mi.index Mi.datPI Mi.datAt Mi.datStr Mi.datInt Mi.datL Mi.four Mi.dcomp Mi.get Mi.pr Mi.neL Mi.neQ Mi.datTT Mi.datS Mi.inS Mi.niS Mi.sortSet Mi.insert Mi.dget Mi.comp2 Mi.exch Mi.two Mi.neD Mi.eqD Mi.inD Mi.inDT Mi.idx Mi.sgn Mi.rng Mi.comp Mi.join Mi.popAt Mi.popE Mi.sortI Mi.sortS Mi.sortD Mi.listD Mi.setL Mi.max Mi.min Mi.draw; rfl
theorem sc_Wishes_amounts : FnScope ["self"] ["self"] (defScope s_Wishes_amounts) := ⟨rfl, rfl, rfl, by decide +kernel, rfl, by decide +kernel, by decide +kernel⟩
@[irreducible] def F_Wishes_amounts (q : d_Wishes × Unit) : M (List (Str × Int)) := M.ret ((M.rt ((q.1).2)) : M (Fl (List (Str × Int)) Unit))
theorem ok_Wishes_amounts {f : Addr} {fd : FuncData} (F : Fun K "amounts" "Wishes.amounts" s_Wishes_amounts f fd) (T : TxtB mg) : FnOk P w K mg base CX0 1 f fd ["self"] (spG mg K ([] : List (Addr × Str)) (fun q : d_Wishes × Unit => [(rI_Wishes W_Wishes.C) q.1]) F_Wishes_amounts (Ow (cDct rInt))) := by
  refine F.ok sc_Wishes_amounts spG_len (fun cdv A outer s H vs Q E hr h => ?_)
  refine ⟨_, (pss_one (ps_ret (pe_callTy call_dictD (by rfl) T.z_dict (by decide +kernel) (pa_cons (pe_fldK (K := K) rfl (pv 0) (by rfl)) pa_nil)))), ?_⟩
  refine fn_G (δ := Unit) (ψ := fun _ _ => []) h ?_ (fun Θ B G0 q => 
      (sv_ret (ve_cb (va_cons (ve_fld (R := (rDct rInt)) (fun z : d_Wishes => (z).2) (ve_v (rI_Wishes W_Wishes.C) (q.1)) W_Wishes.cl (W_Wishes.na _ (by decide)) (fun _ => .tail _ (.head _))) va_nil) vn_dictD) PxLe.nil))
  intro q; delta F_Wishes_amounts Mi.compX Mi.neDG Mi.datDI Mi.cat Mi.fits Mi.neOt Mi.unO Mi.unT Mi.unD Mi.eqT0 Mi.sortSC Mi.maxD Mi.sortOut Mi.minS Mi.gput Mi.gset Mi.heldG Mi.endG Mi.eqG Mi.inOwn Mi.held2 Mi.end2 Mi.datSs Mi.neXL Mi.eqXL Mi.datP2 Mi.eqX Mi.inX Mi.datT Mi.popL Mi.pget Mi.pcomp Mi.whileL Mi.index Mi.datPI Mi.datAt Mi.datStr Mi.datInt Mi.datL Mi.four Mi.dcomp Mi.get Mi.pr Mi.neL Mi.neQ Mi.datTT Mi.datS Mi.inS Mi.niS Mi.sortSet Mi.insert Mi.dget Mi.comp2 Mi.exch Mi.two Mi.neD Mi.eqD Mi.inD Mi.inDT Mi.idx Mi.sgn Mi.rng Mi.comp Mi.join Mi.popAt Mi.popE Mi.sortI Mi.sortS Mi.sortD Mi.listD Mi.setL Mi.max Mi.min Mi.draw; rfl
abbrev N_WishesDliked : List Str := ["self", "amount", "name"]
theorem sc_WishesDliked : FnScope ["self", "amount", "name"] ["self", "amount"] (defScope s_WishesDliked) := ⟨rfl, rfl, rfl, by decide +kernel, rfl, by decide +kernel, by decide +kernel⟩
@[irreducible] def F_WishesDliked (q : d_Wishes × Int × Unit) : M (List Str) := M.ret ((M.bind (M.bind (Mi.comp ((q.1).1) fun b_60 => (M.bind (M.bind (Mi.dget ((q.1).2) (b_60)) fun x_61 => (M.pure ((decide ((x_61) = (q.2.1)))))) fun x_62 => (M.ite (x_62) ((M.pure ((some (b_60))))) (M.pure none)))) fun x_63 => (M.pure (x_63))) fun x_64 => (M.rt (x_64))) : M (Fl (List Str) Unit))
theorem ok_WishesDliked {f : Addr} {fd : FuncData} (F : Fun K "_liked" "Wishes._liked" s_WishesDliked f fd) (T : TxtB mg) : FnOk P w K mg base CX0 1 f fd ["self", "amount"] (spG mg K ([] : List (Addr × Str)) (fun q : d_Wishes × Int × Unit => [(rI_Wishes W_Wishes.C) q.1, rInt q.2.1]) F_WishesDliked (Fz (rTup rStr))) := by
  refine F.ok sc_WishesDliked spG_len (fun cdv A outer s H vs Q E hr h => ?_)
  refine ⟨_, (pss_one (ps_ret (pe_callTy call_tuple_of (by rfl) T.z_tuple (by decide +kernel) (pa_cons (pe_lc (own := [("name", 2)]) (g := gName 2) rfl sc_WishesDliked.nd (pi_tup (pe_fldK (K := K) rfl (pv 0) (by rfl))) (blkOk_by (own := [("name", 2)]) (N := N_WishesDliked) (sc := defScope s_WishesDliked) (by decide +kernel)) (fun _ _ _ _ _ => (pg_name (i := 2) sc_WishesDliked.nd rfl (.inl rfl))) (fun _ _ _ _ _ => (pts_one (pt_cmpR op_eq (pe_dget (hu_of hr) (pe_fldK (K := K) rfl (pv 0) (by rfl)) (pv 2) (fun _ _ => rfl)) (pv 1) (nomark _)))) (fun _ _ _ _ _ => (pv 2))) pa_nil)))), ?_⟩
  refine fn_G (δ := Unit) (ψ := fun _ _ => []) h ?_ (fun Θ B G0 q => 
      (sv_ret (ve_cb (va_cons (ve_frL (ve_lc (vs := [2]) (js := [2]) (vi_tup (ve_fld (R := (rTup rStr)) (fun z : d_Wishes => (z).1) (ve_v (rI_Wishes W_Wishes.C) (q.1)) W_Wishes.cl (W_Wishes.na _ (by decide)) (fun _ => .head _))) (hv1 rfl) (vg_name (i := 2)) (fun _ h => h) (fun b_60 => (vt_test (ve_op2 (ve_dget (ve_fld (R := (rDct rInt)) (fun z : d_Wishes => (z).2) (ve_v (rI_Wishes W_Wishes.C) (q.1)) W_Wishes.cl (W_Wishes.na _ (by decide)) (fun _ => .tail _ (.head _))) (ve_v rStr (b_60))) (ve_v rInt (q.2.1)) v2_eqI))) (fun b_60 => (ve_v rStr (b_60))))) va_nil) vn_tupL) PxLe.nil))
  intro q; delta F_WishesDliked Mi.compX Mi.neDG Mi.datDI Mi.cat Mi.fits Mi.neOt Mi.unO Mi.unT Mi.unD Mi.eqT0 Mi.sortSC Mi.maxD Mi.sortOut Mi.minS Mi.gput Mi.gset Mi.heldG Mi.endG Mi.eqG Mi.inOwn Mi.held2 Mi.end2 Mi.datSs Mi.neXL Mi.eqXL Mi.datP2 Mi.eqX Mi.inX Mi.datT Mi.popL Mi.pget Mi.pcomp Mi.whileL Mi.index Mi.datPI Mi.datAt Mi.datStr Mi.datInt Mi.datL Mi.four Mi.dcomp Mi.get Mi.pr Mi.neL Mi.neQ Mi.datTT Mi.datS Mi.inS Mi.niS Mi.sortSet Mi.insert Mi.dget Mi.comp2 Mi.exch Mi.two Mi.neD Mi.eqD Mi.inD Mi.inDT Mi.idx Mi.sgn Mi.rng Mi.comp Mi.join Mi.popAt Mi.popE Mi.sortI Mi.sortS Mi.sortD Mi.listD Mi.setL Mi.max Mi.min Mi.draw; rfl
abbrev N_Wishes_ranks : List Str := ["self", "levels", "name", "amount"]
theorem sc_Wishes_ranks : FnScope ["self", "levels", "name", "amount"] ["self"] (defScope s_Wishes_ranks) := ⟨rfl, rfl, rfl, by decide +kernel, rfl, by decide +kernel, by decide +kernel⟩
@[irreducible] def F_Wishes_ranks (q : d_Wishes × Unit) : M (List (List Str)) := M.ret ((M.bind (Mi.sortSC ((q.1).1) (fun b_ => getD ((q.1).2) b_)) fun levels_65 => (M.bind (Mi.comp ((levels_65).reverse) fun b_66 => (M.bind (M.nox (F_WishesDliked ((q.1), ((b_66), ())))) fun x_67 => (M.pure ((some (x_67)))))) fun x_68 => (M.rt (x_68)))) : M (Fl (List (List Str)) Unit))
theorem ok_Wishes_ranks {f : Addr} {fd : FuncData} (F : Fun K "ranks" "Wishes.ranks" s_Wishes_ranks f fd) (T : TxtB mg) (c_WishesDliked : CalM P w K mg base CX0 1 ["self", "amount"] (spG mg K ([] : List (Addr × Str)) (fun q : d_Wishes × Int × Unit => [(rI_Wishes W_Wishes.C) q.1, rInt q.2.1]) F_WishesDliked (Fz (rTup rStr)))) (m_WishesDliked : Meth K W_Wishes.C "_liked" c_WishesDliked.f) : FnOk P w K mg base CX0 3 f fd ["self"] (spG mg K ([] : List (Addr × Str)) (fun q : d_Wishes × Unit => [(rI_Wishes W_Wishes.C) q.1]) F_Wishes_ranks (Ow (cLst (rTup rStr)))) := by
  refine F.ok sc_Wishes_ranks spG_len (fun cdv A outer s H vs Q E hr h => ?_)
  refine ⟨_, (pss_cons (ps_set (i := 1) sc_Wishes_ranks.nd rfl (.inl rfl) (pe_callB (cr_sortedSet rfl) (by rfl) T.z_sorted (by decide +kernel) (pa_cons (pe_scI (own := [("name", 2)]) (g := gName 2) rfl sc_Wishes_ranks.nd (pi_tup (pe_fldK (K := K) rfl (pv 0) (by rfl))) (blkOk_by (own := [("name", 2)]) (N := N_Wishes_ranks) (sc := defScope s_Wishes_ranks) (by decide +kernel)) (fun _ _ _ _ _ => (pg_name (i := 2) sc_Wishes_ranks.nd rfl (.inl rfl))) (fun _ _ _ _ _ => (pe_dget (hu_of hr) (pe_fldK (K := K) rfl (pv 0) (by rfl)) (pv 2) (fun _ _ => rfl)))) pa_nil)))
      (pss_one (ps_ret (pe_lc (own := [("amount", 3)]) (g := gName 3) (tt := tYes) rfl sc_Wishes_ranks.nd (pi_list (pe_revL (pv 1))) (blkOk_by (own := [("amount", 3)]) (N := N_Wishes_ranks) (sc := defScope s_Wishes_ranks) (by decide +kernel)) (fun _ _ _ _ _ => (pg_name (i := 3) sc_Wishes_ranks.nd rfl (.inl rfl))) (fun _ _ _ _ _ => pts_nil) (fun _ _ _ _ _ => (pe_meth (pv 0) W_Wishes.cl m_WishesDliked c_WishesDliked.G (hr.mono (by decide)) c_WishesDliked.b .nil pass0 (pa_cons (pv 3) pa_nil))))))), ?_⟩
  refine fn_G (δ := Unit) (ψ := fun _ _ => []) h ?_ (fun Θ B G0 q => 
      (sv_seq (sv_asg (i := 1) (ve_frL (ve_sortSC (j := 2) (ve_fld (R := (rTup rStr)) (fun z : d_Wishes => (z).1) (ve_v (rI_Wishes W_Wishes.C) (q.1)) W_Wishes.cl (W_Wishes.na _ (by decide)) (fun _ => .head _)) (hv1 rfl) (fun b_ => vq_dget (i := 0) (j := 2) (b := b_) rfl W_Wishes.cl (W_Wishes.na _ (by decide)) (.tail _ (.head _)) rfl))) PxLe.nil) fun levels_65 =>
      (sv_ret (ve_lc (vs := [3]) (js := [3]) (vi_list (ve_frL (ve_revL (ve_v (rLst rInt) (levels_65))))) (hv1 rfl) (vg_name (i := 3)) (fun _ h => h) (fun b_66 => vt_yes) (fun b_66 => (ve_meth (ve_v (rI_Wishes W_Wishes.C) (q.1)) (va_cons (ve_v rInt (b_66)) va_nil) (hn := fun _ => nm_ne rfl)))) PxLe.nil)))
  intro q; delta F_Wishes_ranks Mi.compX Mi.neDG Mi.datDI Mi.cat Mi.fits Mi.neOt Mi.unO Mi.unT Mi.unD Mi.eqT0 Mi.sortSC Mi.maxD Mi.sortOut Mi.minS Mi.gput Mi.gset Mi.heldG Mi.endG Mi.eqG Mi.inOwn Mi.held2 Mi.end2 Mi.datSs Mi.neXL Mi.eqXL Mi.datP2 Mi.eqX Mi.inX Mi.datT Mi.popL Mi.pget Mi.pcomp Mi.whileL Mi.index Mi.datPI Mi.datAt Mi.datStr Mi.datInt Mi.datL Mi.four Mi.dcomp Mi.get Mi.pr Mi.neL Mi.neQ Mi.datTT Mi.datS Mi.inS Mi.niS Mi.sortSet Mi.insert Mi.dget Mi.comp2 Mi.exch Mi.two Mi.neD Mi.eqD Mi.inD Mi.inDT Mi.idx Mi.sgn Mi.rng Mi.comp Mi.join Mi.popAt Mi.popE Mi.sortI Mi.sortS Mi.sortD Mi.listD Mi.setL Mi.max Mi.min Mi.draw; rfl
abbrev N_Wishes_best : List Str := ["self", "names", "most", "name"]
theorem sc_Wishes_best : FnScope ["self", "names", "most", "name"] ["self", "names"] (defScope s_Wishes_best) := ⟨rfl, rfl, rfl, by decide +kernel, rfl, by decide +kernel, by decide +kernel⟩
@[irreducible] def F_Wishes_best (q : d_Wishes × (List Str) × Unit) : M (List Str) := M.ret ((M.seq (M.ite ((decide ((((q.2.1).length : Int)) = ((0 : Int))))) (M.raise ⟨"BadCount", "count", IsD.d rInt ((0 : Int))⟩) (M.nx (()))) fun s_69 => (M.bind (M.bind (Mi.compX (q.2.1) fun b_70 => (M.bind (F_WishesD_getitemD ((q.1), ((b_70), ()))) fun x_71 => (M.pure ((some (x_71)))))) fun x_72 => (Mi.max (x_72))) fun most_73 => (M.bind (M.bind (M.bind (M.nox (F_WishesDliked ((q.1), ((most_73), ())))) fun x_75 => (Mi.comp (x_75) fun b_74 => (M.ite ((decide ((b_74) ∈ (q.2.1)))) ((M.pure ((some (b_74))))) (M.pure none)))) fun x_76 => (M.pure (x_76))) fun x_77 => (M.rt (x_77))))) : M (Fl (List Str) Unit))
theorem ok_Wishes_best {f : Addr} {fd : FuncData} (F : Fun K "best" "Wishes.best" s_Wishes_best f fd) (T : TxtB mg) (x_BadCount : XCls K mg "BadCount" "count") (c_BadCountD_initD : CalM P w K mg base CX0 1 ["self", "count"] (spXI x_BadCount.C "count")) (i_BadCount : XIni K x_BadCount.C c_BadCountD_initD.f) (c_WishesD_getitemD : CalM P w K mg base (CX P w) 3 ["self", "at"] (spG mg K ([] : List (Addr × Str)) (fun q : d_Wishes × Str × Unit => [(rI_Wishes W_Wishes.C) q.1, rStr q.2.1]) F_WishesD_getitemD (Fz rInt))) (m_WishesD_getitemD : Meth K W_Wishes.C "__getitem__" c_WishesD_getitemD.f) (c_WishesDliked : CalM P w K mg base CX0 1 ["self", "amount"] (spG mg K ([] : List (Addr × Str)) (fun q : d_Wishes × Int × Unit => [(rI_Wishes W_Wishes.C) q.1, rInt q.2.1]) F_WishesDliked (Fz (rTup rStr)))) (m_WishesDliked : Meth K W_Wishes.C "_liked" c_WishesDliked.f) (i_WishesD_getitemD : IxF K W_Wishes.C c_WishesD_getitemD.f) : FnOk P w K mg base (CX P w) 5 f fd ["self", "names"] (spG mg K ([] : List (Addr × Str)) (fun q : d_Wishes × (List Str) × Unit => [(rI_Wishes W_Wishes.C) q.1, (rSq rStr) q.2.1]) F_Wishes_best (Fz (rTup rStr))) := by
  refine F.okX sc_Wishes_best spG_len (fun cdv A outer s H vs Q E hr h => ?_)
  refine ⟨_, (pss_cons (ps_if (pt_cmpR op_eq (pe_callB call_len_seq (by rfl) T.z_len PySem.boot_len (pa_cons (pv 1) pa_nil)) pe_int (nomark _)) (pss_one (ps_raise rfl (takes_of rfl rfl rfl rfl) (pmk_oex x_BadCount.T i_BadCount.iC i_BadCount.tI c_BadCountD_initD.G (hr.mono (by decide)) c_BadCountD_initD.b .nil pass0 (by rfl) x_BadCount.g (pa_cons pe_int pa_nil)))) pss_nil)
      (pss_cons (ps_set (i := 2) sc_Wishes_best.nd rfl (.inl rfl) (pe_callB (cr_max rfl) (by rfl) T.z_max (by decide +kernel) (pa_cons (pe_lcR (own := [("name", 3)]) (g := gName 3) (tt := tYes) rfl rfl rfl sc_Wishes_best.nd (takes_of rfl rfl rfl rfl) (pi_sqF (K := K) rfl (pv 1)) (blkOk_by (own := [("name", 3)]) (N := N_Wishes_best) (sc := defScope s_Wishes_best) (by decide +kernel)) (fun _ _ _ _ _ => (pg_name (i := 3) sc_Wishes_best.nd rfl (.inl rfl))) (fun _ _ _ _ _ => pts_nil) (fun _ _ _ _ _ pn xe W tk => (pe_ixOwnS W_Wishes.cl i_WishesD_getitemD.hs i_WishesD_getitemD.hf i_WishesD_getitemD.hfn c_WishesD_getitemD.G (hr.mono (by decide)) c_WishesD_getitemD.b (fun σ => passAt tk σ) (pv 0) (pv 3)))) pa_nil)))
      (PSs.nox (pss_one (ps_ret (pe_callTy call_tuple_of (by rfl) T.z_tuple (by decide +kernel) (pa_cons (pe_lc (own := [("name", 3)]) (g := gName 3) rfl sc_Wishes_best.nd (pi_tup (pe_meth (pv 0) W_Wishes.cl m_WishesDliked c_WishesDliked.G (hr.mono (by decide)) c_WishesDliked.b .nil pass0 (pa_cons (pv 2) pa_nil))) (blkOk_by (own := [("name", 3)]) (N := N_Wishes_best) (sc := defScope s_Wishes_best) (by decide +kernel)) (fun _ _ _ _ _ => (pg_name (i := 3) sc_Wishes_best.nd rfl (.inl rfl))) (fun _ _ _ _ _ => (pts_one (pt_cmpR (op_inF (K := K) rfl) (pv 3) (pv 1) (by rfl)))) (fun _ _ _ _ _ => (pv 3))) pa_nil))))))), ?_⟩
  refine fn_G (δ := Unit) (ψ := fun _ _ => []) h ?_ (fun Θ B G0 q => 
      (sv_seq (sv_if (vt_test (ve_op2 (ve_cb (va_cons (ve_v (rSq rStr) (q.2.1)) va_nil) vn_lenQ) (ve_c rInt 0 fun _ => rfl) v2_eqI)) PxLe.nil (sv_raise (R := rInt) x_BadCount (ve_c rInt 0 fun _ => rfl) PxLe.nil) (sv_conv (χ := (fun s_69 : Unit => [.fr ((rI_Wishes W_Wishes.C) (q.1)), .fr ((rSq rStr) (q.2.1)), .un, .un])) (fun _ => ()) sv_nil (fun _ => (Le.same (Le.same (Le.un (Le.un Le.nil))))))) fun s_69 =>
      (sv_seq (sv_asg (i := 2) (ve_cb (va_cons (ve_frL (ve_lcR (vs := [3]) (js := [3]) (vi_sq (ve_v (rSq rStr) (q.2.1))) (hv1 rfl) (vg_name (i := 3)) (fun _ h => h) (fun b_70 => vt_yes) (fun _ b_70 => (ve_ixOwnR (ve_v (rI_Wishes W_Wishes.C) (q.1)) (ve_v rStr (b_70)))))) va_nil) vn_max) PxLe.nil) fun most_73 =>
      (sv_ret (ve_cb (va_cons (ve_frL (ve_lc (vs := [3]) (js := [3]) (vi_tup (ve_meth (ve_v (rI_Wishes W_Wishes.C) (q.1)) (va_cons (ve_v rInt (most_73)) va_nil) (hn := fun _ => nm_ne rfl))) (hv1 rfl) (vg_name (i := 3)) (fun _ h => h) (fun b_74 => (vt_test (ve_op2 (ve_v rStr (b_74)) (ve_v (rSq rStr) (q.2.1)) v2_inQ))) (fun b_74 => (ve_v rStr (b_74))))) va_nil) vn_tupL) PxLe.nil))))
  intro q; delta F_Wishes_best Mi.compX Mi.neDG Mi.datDI Mi.cat Mi.fits Mi.neOt Mi.unO Mi.unT Mi.unD Mi.eqT0 Mi.sortSC Mi.maxD Mi.sortOut Mi.minS Mi.gput Mi.gset Mi.heldG Mi.endG Mi.eqG Mi.inOwn Mi.held2 Mi.end2 Mi.datSs Mi.neXL Mi.eqXL Mi.datP2 Mi.eqX Mi.inX Mi.datT Mi.popL Mi.pget Mi.pcomp Mi.whileL Mi.index Mi.datPI Mi.datAt Mi.datStr Mi.datInt Mi.datL Mi.four Mi.dcomp Mi.get Mi.pr Mi.neL Mi.neQ Mi.datTT Mi.datS Mi.inS Mi.niS Mi.sortSet Mi.insert Mi.dget Mi.comp2 Mi.exch Mi.two Mi.neD Mi.eqD Mi.inD Mi.inDT Mi.idx Mi.sgn Mi.rng Mi.comp Mi.join Mi.popAt Mi.popE Mi.sortI Mi.sortS Mi.sortD Mi.listD Mi.setL Mi.max Mi.min Mi.draw; rfl
abbrev N_Lnames : List Str := ["_law_state", "_law_count", "_law_signs", "_law_stem", "_law_letter", "_law_offset", "_law_stride", "_law_plan", "_law_step", "_law_whole", "_law_words", "_law_k", "_law_sign", "_law_back"]
theorem sc_Lnames : FnScope ["_law_state", "_law_count", "_law_signs", "_law_stem", "_law_letter", "_law_offset", "_law_stride", "_law_plan", "_law_step", "_law_whole", "_law_words", "_law_k", "_law_sign", "_law_back"] ["_law_state", "_law_count"] (defScope s_Lnames) := ⟨rfl, rfl, rfl, by decide +kernel, rfl, by decide +kernel, by decide +kernel⟩
@[irreducible] def F_Lnames (q : Int × Unit) : M (List Str) := M.ret ((let l_signs_78 : Str := ("abcdefghijklmnopqrstuvwxyz0123456789" : Str); (M.bind (M.bind (M.bind (M.bind (M.nox (F_Ldraw (((5 : Int)), ()))) fun x_79 => (Mi.rng 0 (x_79))) fun x_83 => (Mi.comp (x_83) fun b_80 => (M.bind (M.bind (M.nox (F_Ldraw (((36 : Int)), ()))) fun x_81 => (Mi.sgn (l_signs_78) (x_81))) fun x_82 => (M.pure ((some (x_82))))))) fun x_84 => (Mi.join (("" : Str)) (x_84))) fun l_stem_85 => (M.bind (M.bind (M.nox (F_Ldraw (((26 : Int)), ()))) fun x_86 => (Mi.sgn (l_signs_78) (x_86))) fun l_letter_87 => (M.bind (M.nox (F_Ldraw (((26 : Int)), ()))) fun l_offset_88 => (M.bind (M.bind (M.nox (F_Ldraw (((6 : Int)), ()))) fun x_89 => (Mi.idx ([((1 : Int)), ((3 : Int)), ((5 : Int)), ((7 : Int)), ((9 : Int)), ((11 : Int))]) (x_89))) fun l_stride_90 => (M.bind (M.nox (F_Ldraw (((7 : Int)), ()))) fun l_plan_91 => (M.seq (M.ite ((((decide ((l_plan_91) = ((6 : Int))))) && ((decide ((q.1) < ((7 : Int))))))) (M.rt ((cutL ([(("rows" : Str)), (("leaf" : Str)), (("x" : Str)), (("x1" : Str)), (("x10" : Str)), (("none" : Str))]) none (some (q.1))))) (M.nx (()))) fun s_92 => (M.seq (M.ite ((((decide ((l_plan_91) = ((4 : Int))))) || ((((decide ((l_plan_91) = ((5 : Int))))) && ((decide (((6 : Int)) < (q.1)))))))) (M.bind (M.bind (M.nox (F_Ldraw (((9 : Int)), ()))) fun x_102 => (M.pure (((1 : Int) + x_102)))) fun l_step_103 => (M.bind (M.bind (Mi.rng 0 (q.1)) fun x_108 => (Mi.comp (x_108) fun b_104 => (M.bind (M.bind (M.bind (M.when (CMulW (l_step_103) ((b_104 + (1 : Int)))) ((l_step_103) * ((b_104 + (1 : Int))))) fun x_105 => (M.strI (x_105))) fun x_106 => (M.when ((l_letter_87).length + (x_106).length ≤ sizeLine) ((l_letter_87) ++ (x_106)))) fun x_107 => (M.pure ((some (x_107))))))) fun x_109 => (M.rt (x_109)))) (M.nx (()))) fun s_101 => (M.seq (M.ite ((decide ((l_plan_91) = ((5 : Int))))) (M.bind (M.bind (M.bind (M.bind (Mi.rng 0 ((5 : Int))) fun x_125 => (Mi.comp (x_125) fun b_122 => (M.bind (M.bind (M.nox (F_Ldraw (((36 : Int)), ()))) fun x_123 => (Mi.sgn (l_signs_78) (x_123))) fun x_124 => (M.pure ((some (x_124))))))) fun x_126 => (Mi.join (("" : Str)) (x_126))) fun x_127 => (M.when ((l_letter_87).length + (x_127).length ≤ sizeLine) ((l_letter_87) ++ (x_127)))) fun l_whole_128 => (M.bind (M.bind (Mi.rng 0 (q.1)) fun x_131 => (Mi.comp (x_131) fun b_129 => (M.bind (M.when ((l_whole_128).length ≤ sizeLine) (cutS (l_whole_128) none (some ((b_129 + (1 : Int)))))) fun x_130 => (M.pure ((some (x_130))))))) fun x_132 => (M.rt (x_132)))) (M.nx (()))) fun s_121 => (let l_words_133 : (List Str) := ([] : List Str); (M.seq (M.bind (Mi.rng 0 (q.1)) fun x_152 => (M.forL (fun b_134 s_135 => (M.bind (M.bind (M.bind (M.bind (M.bind (M.when (CMulW (l_stride_90) (b_134)) ((l_stride_90) * (b_134))) fun x_136 => (M.pure ((l_offset_88 + x_136)))) fun x_137 => (M.pure (x_137))) fun x_138 => (M.when (((26 : Int)) ≠ 0) ((x_138).fmod ((26 : Int))))) fun x_139 => (Mi.sgn (l_signs_78) (x_139))) fun l_sign_140 => (M.bind (M.bind (M.bind (M.ite ((decide (((1 : Int)) < (l_plan_91)))) (M.bind (M.when (((2 : Int)) ≠ 0) ((b_134).fmod ((2 : Int)))) fun x_141 => (M.pure ((decide ((x_141) = ((1 : Int))))))) (M.pure false)) fun x_142 => (M.pure ((if (x_142) then (1 : Int) else 0)))) fun x_143 => (Mi.idx ([(l_stem_85), (("" : Str))]) (x_143))) fun l_back_144 => (M.bind (M.bind (M.bind (M.bind (M.bind (M.when ((l_letter_87).length + (l_back_144).length ≤ sizeLine) ((l_letter_87) ++ (l_back_144))) fun x_146 => (M.when ((x_146).length + (l_sign_140).length ≤ sizeLine) ((x_146) ++ (l_sign_140)))) fun x_147 => (M.bind (M.when ((l_sign_140).length + (l_back_144).length ≤ sizeLine) ((l_sign_140) ++ (l_back_144))) fun x_148 => (M.pure ([(x_147), (x_148)])))) fun x_149 => (M.bind (M.when (((2 : Int)) ≠ 0) ((l_plan_91).fmod ((2 : Int)))) fun x_150 => (Mi.idx (x_149) (x_150)))) fun x_151 => (M.when ((s_135).length < sizeLine) (x_151))) fun l_words_145 => (M.nx (((s_135 ++ [l_words_145])))))))) (x_152) (l_words_133))) fun s_135 => (M.rt (s_135))))))))))))) : M (Fl (List Str) Unit))
theorem ok_Lnames {f : Addr} {fd : FuncData} (F : Fun K "_law_names" "_law_names" s_Lnames f fd) (T : TxtB mg) (c_Ldraw : Cal P w K mg base "_law_draw" CX0 1 ["_law_state", "_law_size"] (spT mg K ([] : List (Addr × Str)) thV (fun s (q : Int × Unit) => [rSt s, rInt q.1]) F_Ldraw (Fz rInt))) : FnOk P w K mg base CX0 2 f fd ["_law_state", "_law_count"] (spT mg K ([] : List (Addr × Str)) thV (fun s (q : Int × Unit) => [rSt s, rInt q.1]) F_Lnames (Ow (cLst rStr))) := by
  refine F.ok sc_Lnames spT_len (fun cdv A outer s H vs Q E hr h => ?_)
  refine ⟨_, (pss_cons (ps_set (i := 2) sc_Lnames.nd rfl (.inr rfl) pe_str)
      (pss_cons (ps_set (i := 3) sc_Lnames.nd rfl (.inl rfl) (pe_join pe_str (pe_lc (own := [("_law_k", 11)]) (g := gName 11) (tt := tYes) rfl sc_Lnames.nd (pi_range1 rfl T.z_range (pa_cons (pe_call c_Ldraw.G (hr.mono (by decide)) (by rfl) c_Ldraw.g c_Ldraw.kp c_Ldraw.b .nil pass0 (pa_cons (pv 0) (pa_cons pe_int pa_nil))) pa_nil)) (blkOk_by (own := [("_law_k", 11)]) (N := N_Lnames) (sc := defScope s_Lnames) (by decide +kernel)) (fun _ _ _ _ _ => (pg_name (i := 11) sc_Lnames.nd rfl (.inl rfl))) (fun _ _ _ _ _ => pts_nil) (fun _ _ _ _ _ => (pe_ix ix_str (pv 2) (pe_call c_Ldraw.G (hr.mono (by decide)) (by rfl) c_Ldraw.g c_Ldraw.kp c_Ldraw.b .nil pass0 (pa_cons (pv 0) (pa_cons pe_int pa_nil))) (fun _ _ => rfl))))))
      (pss_cons (ps_set (i := 4) sc_Lnames.nd rfl (.inr rfl) (pe_ix ix_str (pv 2) (pe_call c_Ldraw.G (hr.mono (by decide)) (by rfl) c_Ldraw.g c_Ldraw.kp c_Ldraw.b .nil pass0 (pa_cons (pv 0) (pa_cons pe_int pa_nil))) (fun _ _ => rfl)))
      (pss_cons (ps_set (i := 5) sc_Lnames.nd rfl (.inl rfl) (pe_call c_Ldraw.G (hr.mono (by decide)) (by rfl) c_Ldraw.g c_Ldraw.kp c_Ldraw.b .nil pass0 (pa_cons (pv 0) (pa_cons pe_int pa_nil))))
      (pss_cons (ps_set (i := 6) sc_Lnames.nd rfl (.inl rfl) (pe_ix ix_list (pe_lst (pa_cons pe_int (pa_cons pe_int (pa_cons pe_int (pa_cons pe_int (pa_cons pe_int (pa_cons pe_int pa_nil))))))) (pe_call c_Ldraw.G (hr.mono (by decide)) (by rfl) c_Ldraw.g c_Ldraw.kp c_Ldraw.b .nil pass0 (pa_cons (pv 0) (pa_cons pe_int pa_nil))) (fun _ _ => rfl)))
      (pss_cons (ps_set (i := 7) sc_Lnames.nd rfl (.inl rfl) (pe_call c_Ldraw.G (hr.mono (by decide)) (by rfl) c_Ldraw.g c_Ldraw.kp c_Ldraw.b .nil pass0 (pa_cons (pv 0) (pa_cons pe_int pa_nil))))
      (pss_cons (ps_if (PW.pt (pw_and (pt_cmpR op_eq (pv 7) pe_int (nomark _)) (pw_and1 (pt_cmpR op_lt (pv 1) pe_int (nomark _))))) (pss_one (ps_ret (pe_slice sl_list (pe_lst (pa_cons pe_str (pa_cons pe_str (pa_cons pe_str (pa_cons pe_str (pa_cons pe_str (pa_cons pe_str pa_nil))))))) po_none (po_some (pv 1))))) pss_nil)
      (pss_cons (ps_if (PW.pt (pw_or (pt_cmpR op_eq (pv 7) pe_int (nomark _)) (pw_or1 (PW.pt (pw_and (pt_cmpR op_eq (pv 7) pe_int (nomark _)) (pw_and1 (pt_cmpR op_gt (pv 1) pe_int (nomark _)))))))) (pss_cons (ps_set (i := 8) sc_Lnames.nd rfl (.inr rfl) (pe_op op_add pe_int (pe_call c_Ldraw.G (hr.mono (by decide)) (by rfl) c_Ldraw.g c_Ldraw.kp c_Ldraw.b .nil pass0 (pa_cons (pv 0) (pa_cons pe_int pa_nil)))))
      (pss_one (ps_ret (pe_lc (own := [("_law_k", 11)]) (g := gName 11) (tt := tYes) rfl sc_Lnames.nd (pi_range1 rfl T.z_range (pa_cons (pv 1) pa_nil)) (blkOk_by (own := [("_law_k", 11)]) (N := N_Lnames) (sc := defScope s_Lnames) (by decide +kernel)) (fun _ _ _ _ _ => (pg_name (i := 11) sc_Lnames.nd rfl (.inl rfl))) (fun _ _ _ _ _ => pts_nil) (fun _ _ _ _ _ => (pe_op op_add_str (pv 4) (pe_callTy call_str_int (by rfl) T.z_str (by decide +kernel) (pa_cons (pe_op op_mulW (pv 8) (pe_op op_add (pv 11) pe_int)) pa_nil)))))))) pss_nil)
      (pss_cons (ps_if (pt_cmpR op_eq (pv 7) pe_int (nomark _)) (pss_cons (ps_set (i := 9) sc_Lnames.nd rfl (.inr rfl) (pe_op op_add_str (pv 4) (pe_join pe_str (pe_lc (own := [("_law_k", 11)]) (g := gName 11) (tt := tYes) rfl sc_Lnames.nd (pi_range1 rfl T.z_range (pa_cons pe_int pa_nil)) (blkOk_by (own := [("_law_k", 11)]) (N := N_Lnames) (sc := defScope s_Lnames) (by decide +kernel)) (fun _ _ _ _ _ => (pg_name (i := 11) sc_Lnames.nd rfl (.inl rfl))) (fun _ _ _ _ _ => pts_nil) (fun _ _ _ _ _ => (pe_ix ix_str (pv 2) (pe_call c_Ldraw.G (hr.mono (by decide)) (by rfl) c_Ldraw.g c_Ldraw.kp c_Ldraw.b .nil pass0 (pa_cons (pv 0) (pa_cons pe_int pa_nil))) (fun _ _ => rfl)))))))
      (pss_one (ps_ret (pe_lc (own := [("_law_k", 11)]) (g := gName 11) (tt := tYes) rfl sc_Lnames.nd (pi_range1 rfl T.z_range (pa_cons (pv 1) pa_nil)) (blkOk_by (own := [("_law_k", 11)]) (N := N_Lnames) (sc := defScope s_Lnames) (by decide +kernel)) (fun _ _ _ _ _ => (pg_name (i := 11) sc_Lnames.nd rfl (.inl rfl))) (fun _ _ _ _ _ => pts_nil) (fun _ _ _ _ _ => (pe_slice sl_str (pv 9) po_none (po_some (pe_op op_add (pv 11) pe_int)))))))) pss_nil)
      (pss_cons (ps_set (i := 10) sc_Lnames.nd rfl (.inl rfl) (pe_lst pa_nil))
      (pss_cons (ps_for PassesOwn.never rfl (pi_range1 rfl T.z_range (pa_cons (pv 1) pa_nil)) (pg_name (i := 11) sc_Lnames.nd rfl (.inl rfl)) (pss_cons (ps_set (i := 12) sc_Lnames.nd rfl (.inl rfl) (pe_ix ix_str (pv 2) (pe_op op_modN (pe_callTy call_int1 (by rfl) T.z_int (by decide +kernel) (pa_cons (pe_op op_add (pv 5) (pe_op op_mulW (pv 6) (pv 11))) pa_nil)) pe_int) (fun _ _ => rfl)))
      (pss_cons (ps_set (i := 13) sc_Lnames.nd rfl (.inl rfl) (pe_ix ix_list (pe_lst (pa_cons (pv 3) (pa_cons pe_str pa_nil))) (pe_callTy call_int1 (by rfl) T.z_int (by decide +kernel) (pa_cons (pe_and (pe_cmpR op_gt (pv 7) pe_int (nomark _)) (pe_one (pe_cmpR op_eq (pe_op op_modN (pv 11) pe_int) pe_int (nomark _)))) pa_nil)) (fun _ _ => rfl)))
      (pss_one (ps_expr (pe_bm PySem.F.plainAttrs_list PySem.F.slot_list_append PySem.F.type_list_append mt_append (pv 10) (pa_cons (pe_ix ix_list (pe_lst (pa_cons (pe_op op_add_str (pe_op op_add_str (pv 4) (pv 13)) (pv 12)) (pa_cons (pe_op op_add_str (pv 12) (pv 13)) pa_nil))) (pe_op op_modN (pe_callTy call_int1 (by rfl) T.z_int (by decide +kernel) (pa_cons (pv 7) pa_nil)) pe_int) (fun _ _ => rfl)) pa_nil)))))))
      (pss_one (ps_ret (pv 10)))))))))))))), ?_⟩
  refine fn_T (δ := Unit) (ψ := fun _ _ _ => []) h ?_ (fun s B G0 q => 
      (sv_seq (sv_asg (i := 2) (ve_c rStr ("abcdefghijklmnopqrstuvwxyz0123456789" : Str) fun _ => rfl) PxLe.nil) fun l_signs_78 =>
      (sv_seq (sv_asg (i := 3) (ve_join (ve_c rStr ("" : Str) fun _ => rfl) (ve_frL (ve_lc (vs := [11]) (js := [11]) (vi_range1 (ve_callFT rfl (va_st s (va_cons (ve_c rInt 5 fun _ => rfl) va_nil)))) (hv1 rfl) (vg_name (i := 11)) (fun _ h => h) (fun b_80 => vt_yes) (fun b_80 => (ve_op2 (ve_v rStr (l_signs_78)) (ve_callFT rfl (va_st s (va_cons (ve_c rInt 36 fun _ => rfl) va_nil))) v2_ixS))))) PxLe.nil) fun l_stem_85 =>
      (sv_seq (sv_asg (i := 4) (ve_op2 (ve_v rStr (l_signs_78)) (ve_callFT rfl (va_st s (va_cons (ve_c rInt 26 fun _ => rfl) va_nil))) v2_ixS) PxLe.nil) fun l_letter_87 =>
      (sv_seq (sv_asg (i := 5) (ve_callFT rfl (va_st s (va_cons (ve_c rInt 26 fun _ => rfl) va_nil))) PxLe.nil) fun l_offset_88 =>
      (sv_seq (sv_asg (i := 6) (ve_op2 (ve_frL (ve_lstL rInt (fun a => [a.1, a.2.1, a.2.2.1, a.2.2.2.1, a.2.2.2.2.1, a.2.2.2.2.2.1]) (va_cons (ve_c rInt 1 fun _ => rfl) (va_cons (ve_c rInt 3 fun _ => rfl) (va_cons (ve_c rInt 5 fun _ => rfl) (va_cons (ve_c rInt 7 fun _ => rfl) (va_cons (ve_c rInt 9 fun _ => rfl) (va_cons (ve_c rInt 11 fun _ => rfl) va_nil)))))))) (ve_callFT rfl (va_st s (va_cons (ve_c rInt 6 fun _ => rfl) va_nil))) v2_ixL) PxLe.nil) fun l_stride_90 =>
      (sv_seq (sv_asg (i := 7) (ve_callFT rfl (va_st s (va_cons (ve_c rInt 7 fun _ => rfl) va_nil))) PxLe.nil) fun l_plan_91 =>
      (sv_seq (sv_if (vt_andP (vt_test (ve_op2 (ve_v rInt (l_plan_91)) (ve_c rInt 6 fun _ => rfl) v2_eqI)) (vt_test (ve_op2 (ve_v rInt (q.1)) (ve_c rInt 7 fun _ => rfl) v2_lt))) PxLe.nil (sv_ret (ve_sl (ve_frL (ve_lstL rStr (fun a => [a.1, a.2.1, a.2.2.1, a.2.2.2.1, a.2.2.2.2.1, a.2.2.2.2.2.1]) (va_cons (ve_c rStr ("rows" : Str) fun _ => rfl) (va_cons (ve_c rStr ("leaf" : Str) fun _ => rfl) (va_cons (ve_c rStr ("x" : Str) fun _ => rfl) (va_cons (ve_c rStr ("x1" : Str) fun _ => rfl) (va_cons (ve_c rStr ("x10" : Str) fun _ => rfl) (va_cons (ve_c rStr ("none" : Str) fun _ => rfl) va_nil)))))))) vo_none (vo_some (ve_v rInt (q.1))) v3_slL) PxLe.nil) (sv_conv (χ := (fun s_92 : Unit => [.fr (rSt s), .fr (rInt (q.1)), .fr (rStr (l_signs_78)), .fr (rStr (l_stem_85)), .fr (rStr (l_letter_87)), .fr (rInt (l_offset_88)), .fr (rInt (l_stride_90)), .fr (rInt (l_plan_91)), .un, .un, .un, .un, .un, .un])) (fun _ => ()) sv_nil (fun _ => (Le.same (Le.same (Le.same (Le.same (Le.same (Le.same (Le.same (Le.same (Le.un (Le.un (Le.un (Le.un (Le.un (Le.un Le.nil))))))))))))))))) fun s_92 =>
      (sv_seq (sv_if (vt_orP (vt_test (ve_op2 (ve_v rInt (l_plan_91)) (ve_c rInt 4 fun _ => rfl) v2_eqI)) (vt_andP (vt_test (ve_op2 (ve_v rInt (l_plan_91)) (ve_c rInt 5 fun _ => rfl) v2_eqI)) (vt_test (ve_op2 (ve_v rInt (q.1)) (ve_c rInt 6 fun _ => rfl) v2_gt)))) PxLe.nil (sv_seq (sv_asg (i := 8) (ve_op2 (ve_c rInt 1 fun _ => rfl) (ve_callFT rfl (va_st s (va_cons (ve_c rInt 9 fun _ => rfl) va_nil))) v2_add) PxLe.nil) fun l_step_103 =>
      (sv_ret (ve_lc (vs := [11]) (js := [11]) (vi_range1 (ve_v rInt (q.1))) (hv1 rfl) (vg_name (i := 11)) (fun _ h => h) (fun b_104 => vt_yes) (fun b_104 => (ve_op2 (ve_v rStr (l_letter_87)) (ve_cb (va_cons (ve_op2 (ve_v rInt (l_step_103)) (ve_op2 (ve_v rInt (b_104)) (ve_c rInt 1 fun _ => rfl) v2_add) v2_mul) va_nil) vn_strI) v2_catS))) PxLe.nil)) (sv_conv (χ := (fun s_101 : Unit => [.fr (rSt s), .fr (rInt (q.1)), .fr (rStr (l_signs_78)), .fr (rStr (l_stem_85)), .fr (rStr (l_letter_87)), .fr (rInt (l_offset_88)), .fr (rInt (l_stride_90)), .fr (rInt (l_plan_91)), .un, .un, .un, .un, .un, .un])) (fun _ => ()) sv_nil (fun _ => (Le.same (Le.same (Le.same (Le.same (Le.same (Le.same (Le.same (Le.same (Le.un (Le.un (Le.un (Le.un (Le.un (Le.un Le.nil))))))))))))))))) fun s_101 =>
      (sv_seq (sv_if (vt_test (ve_op2 (ve_v rInt (l_plan_91)) (ve_c rInt 5 fun _ => rfl) v2_eqI)) PxLe.nil (sv_seq (sv_asg (i := 9) (ve_op2 (ve_v rStr (l_letter_87)) (ve_join (ve_c rStr ("" : Str) fun _ => rfl) (ve_frL (ve_lc (vs := [11]) (js := [11]) (vi_range1 (ve_c rInt 5 fun _ => rfl)) (hv1 rfl) (vg_name (i := 11)) (fun _ h => h) (fun b_122 => vt_yes) (fun b_122 => (ve_op2 (ve_v rStr (l_signs_78)) (ve_callFT rfl (va_st s (va_cons (ve_c rInt 36 fun _ => rfl) va_nil))) v2_ixS))))) v2_catS) PxLe.nil) fun l_whole_128 =>
      (sv_ret (ve_lc (vs := [11]) (js := [11]) (vi_range1 (ve_v rInt (q.1))) (hv1 rfl) (vg_name (i := 11)) (fun _ h => h) (fun b_129 => vt_yes) (fun b_129 => (ve_sl (ve_v rStr (l_whole_128)) vo_none (vo_some (ve_op2 (ve_v rInt (b_129)) (ve_c rInt 1 fun _ => rfl) v2_add)) v3_slS))) PxLe.nil)) (sv_conv (χ := (fun s_121 : Unit => [.fr (rSt s), .fr (rInt (q.1)), .fr (rStr (l_signs_78)), .fr (rStr (l_stem_85)), .fr (rStr (l_letter_87)), .fr (rInt (l_offset_88)), .fr (rInt (l_stride_90)), .fr (rInt (l_plan_91)), .un, .un, .un, .un, .un, .un])) (fun _ => ()) sv_nil (fun _ => (Le.same (Le.same (Le.same (Le.same (Le.same (Le.same (Le.same (Le.same (Le.un (Le.un (Le.un (Le.un (Le.un (Le.un Le.nil))))))))))))))))) fun s_121 =>
      (sv_seq (sv_asg (i := 10) (ve_lstL rStr (fun _ => ([] : List Str)) va_nil) PxLe.nil) fun l_words_133 =>
      (sv_seq (sv_for (ψ := (fun s_135 : (List Str) => [.fr (rSt s), .fr (rInt (q.1)), .fr (rStr (l_signs_78)), .fr (rStr (l_stem_85)), .fr (rStr (l_letter_87)), .fr (rInt (l_offset_88)), .fr (rInt (l_stride_90)), .fr (rInt (l_plan_91)), .un, .un, .ow (cLst rStr (s_135)), .un, .un, .un])) (s0 := (l_words_133)) (vi_range1 (ve_v rInt (q.1))) PxLe.nil (Le.same (Le.same (Le.same (Le.same (Le.same (Le.same (Le.same (Le.same (Le.un (Le.un (Le.same (Le.un (Le.un (Le.un Le.nil)))))))))))))) (fun s_135 => (vg_name (i := 11))) (fun b_134 s_135 => (sv_seq (sv_asg (i := 12) (ve_op2 (ve_v rStr (l_signs_78)) (ve_op2 (ve_cb (va_cons (ve_op2 (ve_v rInt (l_offset_88)) (ve_op2 (ve_v rInt (l_stride_90)) (ve_v rInt (b_134)) v2_mul) v2_add) va_nil) vn_intI) (ve_c rInt 26 fun _ => rfl) v2_mod) v2_ixS) PxLe.nil) fun l_sign_140 =>
      (sv_seq (sv_asg (i := 13) (ve_op2 (ve_frL (ve_lstL rStr (fun a => [a.1, a.2.1]) (va_cons (ve_v rStr (l_stem_85)) (va_cons (ve_c rStr ("" : Str) fun _ => rfl) va_nil)))) (ve_cb (va_cons (ve_and (ve_op2 (ve_v rInt (l_plan_91)) (ve_c rInt 1 fun _ => rfl) v2_gt) (ve_op2 (ve_op2 (ve_v rInt (b_134)) (ve_c rInt 2 fun _ => rfl) v2_mod) (ve_c rInt 1 fun _ => rfl) v2_eqI)) va_nil) vn_intB) v2_ixL) PxLe.nil) fun l_back_144 =>
      (sv_conv (χ := (fun s_135 : (List Str) => [.fr (rSt s), .fr (rInt (q.1)), .fr (rStr (l_signs_78)), .fr (rStr (l_stem_85)), .fr (rStr (l_letter_87)), .fr (rInt (l_offset_88)), .fr (rInt (l_stride_90)), .fr (rInt (l_plan_91)), .un, .un, .ow (cLst rStr (s_135)), .un, .un, .un])) (fun l_words_145 => ((s_135 ++ [l_words_145]))) (sv_append (i := 10) (ve_op2 (ve_frL (ve_lstL rStr (fun a => [a.1, a.2.1]) (va_cons (ve_op2 (ve_op2 (ve_v rStr (l_letter_87)) (ve_v rStr (l_back_144)) v2_catS) (ve_v rStr (l_sign_140)) v2_catS) (va_cons (ve_op2 (ve_v rStr (l_sign_140)) (ve_v rStr (l_back_144)) v2_catS) va_nil)))) (ve_op2 (ve_cb (va_cons (ve_v rInt (l_plan_91)) va_nil) vn_intI) (ve_c rInt 2 fun _ => rfl) v2_mod) v2_ixL) PxLe.nil) (fun l_words_145 => (Le.same (Le.same (Le.same (Le.same (Le.same (Le.same (Le.same (Le.same (Le.un (Le.un (Le.same (Le.un (Le.un (Le.un Le.nil)))))))))))))))))))) fun s_135 =>
      (sv_retO (c := cLst rStr) (b := s_135) (i := 10))))))))))))))
  intro q; delta F_Lnames Mi.compX Mi.neDG Mi.datDI Mi.cat Mi.fits Mi.neOt Mi.unO Mi.unT Mi.unD Mi.eqT0 Mi.sortSC Mi.maxD Mi.sortOut Mi.minS Mi.gput Mi.gset Mi.heldG Mi.endG Mi.eqG Mi.inOwn Mi.held2 Mi.end2 Mi.datSs Mi.neXL Mi.eqXL Mi.datP2 Mi.eqX Mi.inX Mi.datT Mi.popL Mi.pget Mi.pcomp Mi.whileL Mi.index Mi.datPI Mi.datAt Mi.datStr Mi.datInt Mi.datL Mi.four Mi.dcomp Mi.get Mi.pr Mi.neL Mi.neQ Mi.datTT Mi.datS Mi.inS Mi.niS Mi.sortSet Mi.insert Mi.dget Mi.comp2 Mi.exch Mi.two Mi.neD Mi.eqD Mi.inD Mi.inDT Mi.idx Mi.sgn Mi.rng Mi.comp Mi.join Mi.popAt Mi.popE Mi.sortI Mi.sortS Mi.sortD Mi.listD Mi.setL Mi.max Mi.min Mi.draw; rfl
abbrev N_Lgood : List Str := ["_law_word", "_law_letters", "_law_sign"]
theorem sc_Lgood : FnScope ["_law_word", "_law_letters", "_law_sign"] ["_law_word"] (defScope s_Lgood) := ⟨rfl, rfl, rfl, by decide +kernel, rfl, by decide +kernel, by decide +kernel⟩
@[irreducible] def F_Lgood (q : Str × Unit) : M Bool := M.ret ((let l_letters_153 : Str := ("abcdefghijklmnopqrstuvwxyz" : Str); (M.seq (M.bind (M.bind (M.bind (M.when ((q.1).length ≤ sizeLine) (((q.1).length : Int))) fun x_157 => (M.pure ((decide ((x_157) < ((1 : Int))))))) fun x_158 => (M.ite (x_158) (M.pure true) ((M.bind (M.bind (M.when ((q.1).length ≤ sizeLine) (((q.1).length : Int))) fun x_155 => (M.pure ((decide (((6 : Int)) < (x_155)))))) fun x_156 => (M.ite (x_156) (M.pure true) ((M.bind (Mi.sgn (q.1) ((0 : Int))) fun x_154 => (Mi.niS (x_154) (l_letters_153))))))))) fun x_160 => (M.ite (x_160) (M.rt (false)) (M.nx (())))) fun s_159 => (M.bind (M.bind (Mi.comp ((VL.signs (q.1))) fun b_161 => (M.bind (M.bind (M.when ((l_letters_153).length + (("0123456789" : Str)).length ≤ sizeLine) ((l_letters_153) ++ (("0123456789" : Str)))) fun x_162 => (Mi.niS (b_161) (x_162))) fun x_163 => (M.ite (x_163) ((M.pure ((some (b_161))))) (M.pure none)))) fun x_164 => (Mi.eqD (IsD.d (rLst rStr) (x_164)) (IsD.d (rLst rStr) (([] : List Str))))) fun x_165 => (M.rt (x_165))))) : M (Fl Bool Unit))
theorem ok_Lgood {f : Addr} {fd : FuncData} (F : Fun K "_law_good" "_law_good" s_Lgood f fd) (T : TxtB mg) : FnOk P w K mg base CX0 1 f fd ["_law_word"] (spG mg K ([] : List (Addr × Str)) (fun q : Str × Unit => [rStr q.1]) F_Lgood (Fz rBl)) := by
  refine F.ok sc_Lgood spG_len (fun cdv A outer s H vs Q E hr h => ?_)
  refine ⟨_, (pss_cons (ps_set (i := 1) sc_Lgood.nd rfl (.inr rfl) pe_str)
      (pss_cons (ps_if (PW.pt (pw_or (pt_cmpR op_lt (pe_callB call_len_str (by rfl) T.z_len PySem.boot_len (pa_cons (pv 0) pa_nil)) pe_int (nomark _)) (pw_or (pt_cmpR op_gt (pe_callB call_len_str (by rfl) T.z_len PySem.boot_len (pa_cons (pv 0) pa_nil)) pe_int (nomark _)) (pw_or1 (pt_cmpR op_notIn_sign (pe_ix ix_str (pv 0) pe_int (fun _ _ => rfl)) (pv 1) (by rfl)))))) (pss_one (ps_ret pe_bl)) pss_nil)
      (pss_one (ps_ret (pe_cmpR (op_eqDK (K := K) rfl hr.units) (pe_lc (own := [("_law_sign", 2)]) (g := gName 2) rfl sc_Lgood.nd (pi_str (pv 0)) (blkOk_by (own := [("_law_sign", 2)]) (N := N_Lgood) (sc := defScope s_Lgood) (by decide +kernel)) (fun _ _ _ _ _ => (pg_name (i := 2) sc_Lgood.nd rfl (.inl rfl))) (fun _ _ _ _ _ => (pts_one (pt_cmpR op_notIn_sign (pv 2) (pe_op op_add_str (pv 1) pe_str) (by rfl)))) (fun _ _ _ _ _ => (pv 2))) (pe_lst pa_nil) (nomark _)))))), ?_⟩
  refine fn_G (δ := Unit) (ψ := fun _ _ => []) h ?_ (fun Θ B G0 q => 
      (sv_seq (sv_asg (i := 1) (ve_c rStr ("abcdefghijklmnopqrstuvwxyz" : Str) fun _ => rfl) PxLe.nil) fun l_letters_153 =>
      (sv_seq (sv_if (vt_or (vt_test (ve_op2 (ve_cb (va_cons (ve_v rStr (q.1)) va_nil) vn_lenS) (ve_c rInt 1 fun _ => rfl) v2_lt)) (vt_or (vt_test (ve_op2 (ve_cb (va_cons (ve_v rStr (q.1)) va_nil) vn_lenS) (ve_c rInt 6 fun _ => rfl) v2_gt)) (vt_test (ve_op2 (ve_op2 (ve_v rStr (q.1)) (ve_c rInt 0 fun _ => rfl) v2_ixS) (ve_v rStr (l_letters_153)) v2_niSign)))) PxLe.nil (sv_ret (ve_c rBl false fun _ => rfl) PxLe.nil) (sv_conv (χ := (fun s_159 : Unit => [.fr (rStr (q.1)), .fr (rStr (l_letters_153)), .un])) (fun _ => ()) sv_nil (fun _ => (Le.same (Le.same (Le.un Le.nil)))))) fun s_159 =>
      (sv_ret (ve_op2 (ve_frL (ve_lc (vs := [2]) (js := [2]) (vi_str (ve_v rStr (q.1))) (hv1 rfl) (vg_name (i := 2)) (fun _ h => h) (fun b_161 => (vt_test (ve_op2 (ve_v rStr (b_161)) (ve_op2 (ve_v rStr (l_letters_153)) (ve_c rStr ("0123456789" : Str) fun _ => rfl) v2_catS) v2_niSign))) (fun b_161 => (ve_v rStr (b_161))))) (ve_frL (ve_lstL rStr (fun _ => ([] : List Str)) va_nil)) v2_eqD) PxLe.nil))))
  intro q; delta F_Lgood Mi.compX Mi.neDG Mi.datDI Mi.cat Mi.fits Mi.neOt Mi.unO Mi.unT Mi.unD Mi.eqT0 Mi.sortSC Mi.maxD Mi.sortOut Mi.minS Mi.gput Mi.gset Mi.heldG Mi.endG Mi.eqG Mi.inOwn Mi.held2 Mi.end2 Mi.datSs Mi.neXL Mi.eqXL Mi.datP2 Mi.eqX Mi.inX Mi.datT Mi.popL Mi.pget Mi.pcomp Mi.whileL Mi.index Mi.datPI Mi.datAt Mi.datStr Mi.datInt Mi.datL Mi.four Mi.dcomp Mi.get Mi.pr Mi.neL Mi.neQ Mi.datTT Mi.datS Mi.inS Mi.niS Mi.sortSet Mi.insert Mi.dget Mi.comp2 Mi.exch Mi.two Mi.neD Mi.eqD Mi.inD Mi.inDT Mi.idx Mi.sgn Mi.rng Mi.comp Mi.join Mi.popAt Mi.popE Mi.sortI Mi.sortS Mi.sortD Mi.listD Mi.setL Mi.max Mi.min Mi.draw; rfl
theorem sc_Lorder : FnScope ["_law_state", "_law_items", "_law_left", "_law_told_here", "_law_k"] ["_law_state", "_law_items"] (defScope s_Lorder) := ⟨rfl, rfl, rfl, by decide +kernel, rfl, by decide +kernel, by decide +kernel⟩
@[irreducible] def F_Lorder (q : (List Str) × Unit) : M (List Str) := M.ret ((let l_left_166 : (List Str) := q.1; (let l_told_here_167 : (List Str) := ([] : List Str); (M.seq (M.bind (Mi.rng 0 (((l_left_166).length : Int))) fun x_172 => (M.forL (fun b_168 s_169 => (M.bind (M.bind (M.bind (M.nox (F_Ldraw ((((s_169.2).length : Int)), ()))) fun x_171 => (Mi.popAt (s_169.2) (x_171))) fun (l_told_here_170 : Str × (List Str)) => (M.when ((s_169.1).length < sizeLine) l_told_here_170)) fun (l_told_here_170 : Str × (List Str)) => (M.nx ((((s_169.1 ++ [(l_told_here_170).1])), ((l_told_here_170).2)))))) (x_172) ((l_told_here_167), (l_left_166)))) fun s_169 => (M.rt (s_169.1))))) : M (Fl (List Str) Unit))
theorem ok_Lorder {f : Addr} {fd : FuncData} (F : Fun K "_law_order" "_law_order" s_Lorder f fd) (T : TxtB mg) (c_Ldraw : Cal P w K mg base "_law_draw" CX0 1 ["_law_state", "_law_size"] (spT mg K ([] : List (Addr × Str)) thV (fun s (q : Int × Unit) => [rSt s, rInt q.1]) F_Ldraw (Fz rInt))) : FnOk P w K mg base CX0 2 f fd ["_law_state", "_law_items"] (spT mg K ([] : List (Addr × Str)) thV (fun s (q : (List Str) × Unit) => [rSt s, (rLst rStr) q.1]) F_Lorder (Ow (cLst rStr))) := by
  refine F.ok sc_Lorder spT_len (fun cdv A outer s H vs Q E hr h => ?_)
  refine ⟨_, (pss_cons (ps_set (i := 2) sc_Lorder.nd rfl (.inl rfl) (pe_callTy call_list_of (by rfl) T.z_list (by decide +kernel) (pa_cons (pv 1) pa_nil)))
      (pss_cons (ps_set (i := 3) sc_Lorder.nd rfl (.inl rfl) (pe_lst pa_nil))
      (pss_cons (ps_for PassesOwn.never rfl (pi_range1 rfl T.z_range (pa_cons (pe_callB call_len_seq (by rfl) T.z_len PySem.boot_len (pa_cons (pv 2) pa_nil)) pa_nil)) (pg_name (i := 4) sc_Lorder.nd rfl (.inl rfl)) (pss_one (ps_expr (pe_bm PySem.F.plainAttrs_list PySem.F.slot_list_append PySem.F.type_list_append mt_append (pv 3) (pa_cons (pe_bm PySem.F.plainAttrs_list PySem.F.slot_list_pop PySem.F.type_list_pop mt_popAt (pv 2) (pa_cons (pe_call c_Ldraw.G (hr.mono (by decide)) (by rfl) c_Ldraw.g c_Ldraw.kp c_Ldraw.b .nil pass0 (pa_cons (pv 0) (pa_cons (pe_callB call_len_seq (by rfl) T.z_len PySem.boot_len (pa_cons (pv 2) pa_nil)) pa_nil))) pa_nil)) pa_nil)))))
      (pss_one (ps_ret (pv 3)))))), ?_⟩
  refine fn_T (δ := Unit) (ψ := fun _ _ _ => []) h ?_ (fun s B G0 q => 
      (sv_seq (sv_asg (i := 2) (ve_cb (va_cons (ve_v (rLst rStr) (q.1)) va_nil) vn_listL) PxLe.nil) fun l_left_166 =>
      (sv_seq (sv_asg (i := 3) (ve_lstL rStr (fun _ => ([] : List Str)) va_nil) PxLe.nil) fun l_told_here_167 =>
      (sv_seq (sv_for (ψ := (fun s_169 : (List Str) × (List Str) => [.fr (rSt s), .fr ((rLst rStr) (q.1)), .ow (cLst rStr (s_169.2)), .ow (cLst rStr (s_169.1)), .un])) (s0 := ((l_told_here_167), (l_left_166))) (vi_range1 (ve_lend (i := 2) rfl cLst_show flat_int (ve_cb (va_cons (ve_v (rLst rStr) (l_left_166)) va_nil) vn_lenL))) PxLe.nil (Le.same (Le.same (Le.same (Le.same (Le.un Le.nil))))) (fun s_169 => (vg_name (i := 4))) (fun b_168 s_169 => (sv_conv (χ := (fun s_169 : (List Str) × (List Str) => [.fr (rSt s), .fr ((rLst rStr) (q.1)), .ow (cLst rStr (s_169.2)), .ow (cLst rStr (s_169.1)), .un])) (fun l_told_here_170 => (((s_169.1 ++ [(l_told_here_170).1])), ((l_told_here_170).2))) (sv_exprX (vx_appendP (i := 3) (val := fun z : Str × (List Str) => z.1) (vx_popAt (i := 2) (ve_callFT rfl (va_st s (va_cons (ve_lend (i := 2) rfl cLst_show flat_int (ve_cb (va_cons (ve_v (rLst rStr) (s_169.2)) va_nil) vn_lenL)) va_nil))) PxLe.nil) rfl (fun _ => s_169.1) fun _ => rfl)) (fun l_told_here_170 => (Le.same (Le.same (Le.same (Le.same (Le.un Le.nil))))))))) fun s_169 =>
      (sv_retO (c := cLst rStr) (b := s_169.1) (i := 3))))))
  intro q; delta F_Lorder Mi.compX Mi.neDG Mi.datDI Mi.cat Mi.fits Mi.neOt Mi.unO Mi.unT Mi.unD Mi.eqT0 Mi.sortSC Mi.maxD Mi.sortOut Mi.minS Mi.gput Mi.gset Mi.heldG Mi.endG Mi.eqG Mi.inOwn Mi.held2 Mi.end2 Mi.datSs Mi.neXL Mi.eqXL Mi.datP2 Mi.eqX Mi.inX Mi.datT Mi.popL Mi.pget Mi.pcomp Mi.whileL Mi.index Mi.datPI Mi.datAt Mi.datStr Mi.datInt Mi.datL Mi.four Mi.dcomp Mi.get Mi.pr Mi.neL Mi.neQ Mi.datTT Mi.datS Mi.inS Mi.niS Mi.sortSet Mi.insert Mi.dget Mi.comp2 Mi.exch Mi.two Mi.neD Mi.eqD Mi.inD Mi.inDT Mi.idx Mi.sgn Mi.rng Mi.comp Mi.join Mi.popAt Mi.popE Mi.sortI Mi.sortS Mi.sortD Mi.listD Mi.setL Mi.max Mi.min Mi.draw; rfl
theorem sc_Lodd : FnScope ["_law_state"] ["_law_state"] (defScope s_Lodd) := ⟨rfl, rfl, rfl, by decide +kernel, rfl, by decide +kernel, by decide +kernel⟩
@[irreducible] def F_Lodd (q : Unit) : M PyData := M.ret ((M.bind (M.bind (M.nox (F_Ldraw (((7 : Int)), ()))) fun x_173 => (Mi.idx ([((IsD.d rBl true)), ((IsD.d rNon ())), ((IsD.d rStr ("3" : Str))), ((IsD.d (rTup rDat) ([] : List PyData))), ((IsD.d rBl false)), ((IsD.d (rLst rInt) [((1 : Int))])), ((IsD.d rStr ("" : Str)))]) (x_173))) fun x_174 => (M.rt (x_174))) : M (Fl PyData Unit))
theorem ok_Lodd {f : Addr} {fd : FuncData} (F : Fun K "_law_odd" "_law_odd" s_Lodd f fd) (T : TxtB mg) (c_Ldraw : Cal P w K mg base "_law_draw" CX0 1 ["_law_state", "_law_size"] (spT mg K ([] : List (Addr × Str)) thV (fun s (q : Int × Unit) => [rSt s, rInt q.1]) F_Ldraw (Fz rInt))) : FnOk P w K mg base CX0 2 f fd ["_law_state"] (spT mg K ([] : List (Addr × Str)) thV (fun s (q : Unit) => [rSt s]) F_Lodd (Fz rDat)) := by
  refine F.ok sc_Lodd spT_len (fun cdv A outer s H vs Q E hr h => ?_)
  refine ⟨_, (pss_one (ps_ret (pe_ix ix_list (pe_lst (pa_cons pe_bl (pa_cons pe_non (pa_cons pe_str (pa_cons (pe_tup pa_nil) (pa_cons pe_bl (pa_cons (pe_lst (pa_cons pe_int pa_nil)) (pa_cons pe_str pa_nil)))))))) (pe_call c_Ldraw.G (hr.mono (by decide)) (by rfl) c_Ldraw.g c_Ldraw.kp c_Ldraw.b .nil pass0 (pa_cons (pv 0) (pa_cons pe_int pa_nil))) (fun _ _ => rfl)))), ?_⟩
  refine fn_T (δ := Unit) (ψ := fun _ _ _ => []) h ?_ (fun s B G0 q => 
      (sv_ret (ve_op2 (ve_frL (ve_lstL rDat (fun a => [a.1, a.2.1, a.2.2.1, a.2.2.2.1, a.2.2.2.2.1, a.2.2.2.2.2.1, a.2.2.2.2.2.2.1]) (va_cons (ve_dat (ve_c rBl true fun _ => rfl)) (va_cons (ve_dat (ve_c rNon () fun _ => rfl)) (va_cons (ve_dat (ve_c rStr ("3" : Str) fun _ => rfl)) (va_cons (ve_dat (ve_tupL rDat (fun _ => ([] : List PyData)) va_nil)) (va_cons (ve_dat (ve_c rBl false fun _ => rfl)) (va_cons (ve_dat (ve_frL (ve_lstL rInt (fun a => [a.1]) (va_cons (ve_c rInt 1 fun _ => rfl) va_nil)))) (va_cons (ve_dat (ve_c rStr ("" : Str) fun _ => rfl)) va_nil))))))))) (ve_callFT rfl (va_st s (va_cons (ve_c rInt 7 fun _ => rfl) va_nil))) v2_ixL) PxLe.nil))
  intro q; delta F_Lodd Mi.compX Mi.neDG Mi.datDI Mi.cat Mi.fits Mi.neOt Mi.unO Mi.unT Mi.unD Mi.eqT0 Mi.sortSC Mi.maxD Mi.sortOut Mi.minS Mi.gput Mi.gset Mi.heldG Mi.endG Mi.eqG Mi.inOwn Mi.held2 Mi.end2 Mi.datSs Mi.neXL Mi.eqXL Mi.datP2 Mi.eqX Mi.inX Mi.datT Mi.popL Mi.pget Mi.pcomp Mi.whileL Mi.index Mi.datPI Mi.datAt Mi.datStr Mi.datInt Mi.datL Mi.four Mi.dcomp Mi.get Mi.pr Mi.neL Mi.neQ Mi.datTT Mi.datS Mi.inS Mi.niS Mi.sortSet Mi.insert Mi.dget Mi.comp2 Mi.exch Mi.two Mi.neD Mi.eqD Mi.inD Mi.inDT Mi.idx Mi.sgn Mi.rng Mi.comp Mi.join Mi.popAt Mi.popE Mi.sortI Mi.sortS Mi.sortD Mi.listD Mi.setL Mi.max Mi.min Mi.draw; rfl
theorem sc_Lmade : FnScope ["_law_given", "_law_wishes", "e"] ["_law_given"] (defScope s_Lmade) := ⟨rfl, rfl, rfl, by decide +kernel, rfl, by decide +kernel, by decide +kernel⟩
@[irreducible] def F_Lmade (q : (List (Str × PyData)) × Unit) : M (List PyData) := M.ret ((M.try_ (M.bind (F_WishesD_initD ((q.1), ())) fun l_wishes_175 => (M.bind (M.bind (M.bind (M.nox (F_Wishes_outcomes ((l_wishes_175), ()))) fun x_176 => (M.pure ((IsD.d (rTup rStr) x_176)))) fun x_178 => (M.bind (M.bind (M.nox (F_Wishes_amounts ((l_wishes_175), ()))) fun x_177 => (M.pure ((IsD.d (rDct rInt) x_177)))) fun x_179 => (M.pure ([((IsD.d rStr ("wishes" : Str))), (x_178), (x_179)])))) fun x_180 => (M.rt (x_180)))) ([(("BadCount" : Str), ("count" : Str), fun d_183 => (M.rt ([((IsD.d rStr ("count" : Str))), (d_183)]))), (("BadName" : Str), ("name" : Str), fun d_186 => (M.rt ([((IsD.d rStr ("name" : Str))), (d_186)]))), (("BadWish" : Str), ("value" : Str), fun d_189 => (M.rt ([((IsD.d rStr ("wish" : Str))), (d_189), ((IsD.d rBl (isD_bool (d_189))))])))] : List (Str × Str × (PyData → M (Fl (List PyData) Empty))))) : M (Fl (List PyData) Unit))
theorem ok_Lmade {f : Addr} {fd : FuncData} (F : Fun K "_law_made" "_law_made" s_Lmade f fd) (T : TxtB mg) (x_BadWish : XCls K mg "BadWish" "value") (x_BadName : XCls K mg "BadName" "name") (x_BadCount : XCls K mg "BadCount" "count") (c_WishesD_initD : CalM P w K mg base (CX P w) 4 ["self", "amounts"] (spI mg K ([] : List (Addr × Str)) W_Wishes.C (fun q : (List (Str × PyData)) × Unit => [(rDct rDat) q.1]) F_WishesD_initD (cI_Wishes W_Wishes.C))) (m_Wishes : Mk K W_Wishes.C c_WishesD_initD.f) (c_Wishes_outcomes : CalM P w K mg base CX0 1 ["self"] (spG mg K ([] : List (Addr × Str)) (fun q : d_Wishes × Unit => [(rI_Wishes W_Wishes.C) q.1]) F_Wishes_outcomes (Fz (rTup rStr)))) {pp_Wishes_outcomes : Addr} (p_Wishes_outcomes : PropOf K W_Wishes.C "outcomes" pp_Wishes_outcomes c_Wishes_outcomes.f) (c_Wishes_amounts : CalM P w K mg base CX0 1 ["self"] (spG mg K ([] : List (Addr × Str)) (fun q : d_Wishes × Unit => [(rI_Wishes W_Wishes.C) q.1]) F_Wishes_amounts (Ow (cDct rInt)))) (m_Wishes_amounts : Meth K W_Wishes.C "amounts" c_Wishes_amounts.f) (hE1 : ∀ p ∈ [(("BadCount" : Str), x_BadCount.C), (("BadName" : Str), x_BadName.C), (("BadWish" : Str), x_BadWish.C)], ∀ q ∈ [(("BadCount" : Str), x_BadCount.C), (("BadName" : Str), x_BadName.C), (("BadWish" : Str), x_BadWish.C)], PySem.W.exmOne K (.ref p.2) (.ref q.2) = some (decide (p.1 = q.1))) : FnOk P w K mg base CX0 6 f fd ["_law_given"] (spG mg K ([] : List (Addr × Str)) (fun q : (List (Str × PyData)) × Unit => [(rDct rDat) q.1]) F_Lmade (Fz (rLst rDat))) := by
  refine F.ok sc_Lmade spG_len (fun cdv A outer s H vs Q E hr h => ?_)
  refine ⟨_, (pss_one (ps_tryM rfl rfl sc_Lmade.nd takes0 (fun W pn xe tk po => (pss_cons (ps_set (i := 1) sc_Lmade.nd rfl (.inl rfl) (pe_makeS m_Wishes c_WishesD_initD.G (hr.mono (by decide)) rfl W_Wishes.g c_WishesD_initD.b (fun σ => passAt tk σ) (pa_cons (pv 0) pa_nil)))
      (PSs.nox (pss_one (ps_ret (pe_lst (pa_cons pe_str (pa_cons (pe_prop (pv 1) W_Wishes.cl p_Wishes_outcomes c_Wishes_outcomes.G (hr.mono (by decide)) c_Wishes_outcomes.b .nil pass0 (by rfl)) (pa_cons (pe_meth0 (pv 1) W_Wishes.cl m_Wishes_amounts c_Wishes_amounts.G (hr.mono (by decide)) c_Wishes_amounts.b .nil pass0 ) pa_nil)))))))))
        (HdsAs.cons (i := 2) rfl rfl ⟨rfl, by decide, .inl x_BadCount.g⟩ (fun a oe cls d pn hz hf => (pss_one (ps_ret (pe_lst (pa_cons pe_str (pa_cons (pe_xf x_BadCount.xf x_BadCount.no hz hf (pv 2)) pa_nil))))))
        (HdsAs.cons (i := 2) rfl rfl ⟨rfl, by decide, .inl x_BadName.g⟩ (fun a oe cls d pn hz hf => (pss_one (ps_ret (pe_lst (pa_cons pe_str (pa_cons (pe_xf x_BadName.xf x_BadName.no hz hf (pv 2)) pa_nil))))))
        (HdsAs.cons (i := 2) rfl rfl ⟨rfl, by decide, .inl x_BadWish.g⟩ (fun a oe cls d pn hz hf => (pss_one (ps_ret (pe_lst (pa_cons pe_str (pa_cons (pe_xf x_BadWish.xf x_BadWish.no hz hf (pv 2)) (pa_cons (pe_callB (call_isiF (K := K) rfl) (by rfl) T.z_isinstance (by decide +kernel) (pa_cons (pe_xf x_BadWish.xf x_BadWish.no hz hf (pv 2)) (pa_cons (pe_bltn (v := .ty "bool") (by rfl) T.z_bool (by decide +kernel) rfl) pa_nil))) pa_nil)))))))
        HdsAs.nil))))), ?_⟩
  refine fn_G (δ := Unit) (ψ := fun _ _ => []) h ?_ (fun Θ B G0 q => 
      (sv_tryM (px := [.fr ((rDct rDat) (q.1)), .un, .un]) (tbl := [("BadCount", x_BadCount.C), ("BadName", x_BadName.C), ("BadWish", x_BadWish.C)]) (HL.cons (ψ := fun _ _ _ _ => []) x_BadCount rfl (.head _) rfl (fun a_181 dd_182 d_183 =>
        (sv_ret (ve_frL (ve_lstL rDat (fun a => [a.1, a.2.1]) (va_cons (ve_dat (ve_c rStr ("count" : Str) fun _ => rfl)) (va_cons (ve_xf (i := 2)) va_nil)))) PxLe.nil))
        (HL.cons (ψ := fun _ _ _ _ => []) x_BadName rfl (.tail _ (.head _)) rfl (fun a_184 dd_185 d_186 =>
        (sv_ret (ve_frL (ve_lstL rDat (fun a => [a.1, a.2.1]) (va_cons (ve_dat (ve_c rStr ("name" : Str) fun _ => rfl)) (va_cons (ve_xf (i := 2)) va_nil)))) PxLe.nil))
        (HL.cons (ψ := fun _ _ _ _ => []) x_BadWish rfl (.tail _ (.tail _ (.head _))) rfl (fun a_187 dd_188 d_189 =>
        (sv_ret (ve_frL (ve_lstL rDat (fun a => [a.1, a.2.1, a.2.2.1]) (va_cons (ve_dat (ve_c rStr ("wish" : Str) fun _ => rfl)) (va_cons (ve_xf (i := 2)) (va_cons (ve_dat (ve_isiDbool (ve_xf (i := 2)))) va_nil))))) PxLe.nil))
        HL.nil))) hE1 rfl (fun h => nomatch h) rfl (fun D => (sv_seq (sv_asg (i := 1) (ve_frI (ve_makeR (va_cons (ve_v (rDct rDat) (q.1)) va_nil))) (.inr (PxL.same (PxL.un (PxL.un PxL.nil))))) fun l_wishes_175 =>
      (sv_ret (ve_frL (ve_lstL rDat (fun a => [a.1, a.2.1, a.2.2.1]) (va_cons (ve_dat (ve_c rStr ("wishes" : Str) fun _ => rfl)) (va_cons (ve_dat (ve_prop (ve_v (rI_Wishes W_Wishes.C) (l_wishes_175)))) (va_cons (ve_dat (ve_frD (ve_meth (ve_v (rI_Wishes W_Wishes.C) (l_wishes_175)) va_nil (hn := fun _ => nm_ne rfl)))) va_nil))))) (.inr (PxL.same (PxL.un (PxL.un PxL.nil)))))))))
  intro q; delta F_Lmade Mi.compX Mi.neDG Mi.datDI Mi.cat Mi.fits Mi.neOt Mi.unO Mi.unT Mi.unD Mi.eqT0 Mi.sortSC Mi.maxD Mi.sortOut Mi.minS Mi.gput Mi.gset Mi.heldG Mi.endG Mi.eqG Mi.inOwn Mi.held2 Mi.end2 Mi.datSs Mi.neXL Mi.eqXL Mi.datP2 Mi.eqX Mi.inX Mi.datT Mi.popL Mi.pget Mi.pcomp Mi.whileL Mi.index Mi.datPI Mi.datAt Mi.datStr Mi.datInt Mi.datL Mi.four Mi.dcomp Mi.get Mi.pr Mi.neL Mi.neQ Mi.datTT Mi.datS Mi.inS Mi.niS Mi.sortSet Mi.insert Mi.dget Mi.comp2 Mi.exch Mi.two Mi.neD Mi.eqD Mi.inD Mi.inDT Mi.idx Mi.sgn Mi.rng Mi.comp Mi.join Mi.popAt Mi.popE Mi.sortI Mi.sortS Mi.sortD Mi.listD Mi.setL Mi.max Mi.min Mi.draw; rfl
theorem sc_Ldue : FnScope ["_law_given", "_law_labels", "_law_label"] ["_law_given"] (defScope s_Ldue) := ⟨rfl, rfl, rfl, by decide +kernel, rfl, by decide +kernel, by decide +kernel⟩
@[irreducible] def F_Ldue (q : (List (Str × PyData)) × Unit) : M (List PyData) := M.ret ((M.bind (Mi.sortS ((q.1).map (·.1))) fun l_labels_190 => (M.seq (M.ite ((((decide ((((l_labels_190).length : Int)) < ((1 : Int))))) || ((decide (((6 : Int)) < (((l_labels_190).length : Int))))))) (M.rt ([((IsD.d rStr ("count" : Str))), ((IsD.d rInt ((l_labels_190).length : Int)))])) (M.nx (()))) fun s_191 => (M.seq (M.forL (fun b_192 s_193 => (M.seq (M.bind (M.bind (M.nox (F_Lgood ((b_192), ()))) fun x_194 => (M.pure ((!(x_194))))) fun x_196 => (M.ite (x_196) (M.rt ([((IsD.d rStr ("name" : Str))), ((IsD.d rStr b_192))])) (M.nx (())))) fun s_195 => (M.nx (())))) (l_labels_190) ()) fun s_193 => (M.seq (M.forL (fun b_197 s_198 => (M.seq (M.bind (M.bind (M.bind (M.bind (Mi.dget (q.1) (b_197)) fun x_200 => (M.pure ((isD_int (x_200))))) fun x_201 => (M.pure ((!(x_201))))) fun x_202 => (M.ite (x_202) (M.pure true) ((M.bind (Mi.dget (q.1) (b_197)) fun x_199 => (M.pure ((isD_bool (x_199)))))))) fun x_214 => (M.ite (x_214) (M.bind (M.bind (Mi.dget (q.1) (b_197)) fun x_211 => (M.bind (M.bind (M.bind (Mi.dget (q.1) (b_197)) fun x_209 => (M.pure ((isD_bool (x_209))))) fun x_210 => (M.pure ((IsD.d rBl x_210)))) fun x_212 => (M.pure ([((IsD.d rStr ("wish" : Str))), (x_211), (x_212)])))) fun x_213 => (M.rt (x_213))) (M.nx (())))) fun s_208 => (M.nx (())))) (l_labels_190) ()) fun s_198 => (M.rt ([((IsD.d rStr ("wishes" : Str))), ((IsD.d (rTup rStr) l_labels_190)), ((IsD.d (rDct rDat) q.1))])))))) : M (Fl (List PyData) Unit))
theorem ok_Ldue {f : Addr} {fd : FuncData} (F : Fun K "_law_due" "_law_due" s_Ldue f fd) (T : TxtB mg) (c_Lgood : Cal P w K mg base "_law_good" CX0 1 ["_law_word"] (spG mg K ([] : List (Addr × Str)) (fun q : Str × Unit => [rStr q.1]) F_Lgood (Fz rBl))) : FnOk P w K mg base CX0 2 f fd ["_law_given"] (spG mg K ([] : List (Addr × Str)) (fun q : (List (Str × PyData)) × Unit => [(rDct rDat) q.1]) F_Ldue (Fz (rLst rDat))) := by
  refine F.ok sc_Ldue spG_len (fun cdv A outer s H vs Q E hr h => ?_)
  refine ⟨_, (pss_cons (ps_set (i := 1) sc_Ldue.nd rfl (.inl rfl) (pe_callB (call_sortedD rfl) (by rfl) T.z_sorted (by decide +kernel) (pa_cons (pv 0) pa_nil)))
      (pss_cons (ps_if (PW.pt (pw_or (pt_cmpR op_lt (pe_callB call_len_seq (by rfl) T.z_len PySem.boot_len (pa_cons (pv 1) pa_nil)) pe_int (nomark _)) (pw_or1 (pt_cmpR op_gt (pe_callB call_len_seq (by rfl) T.z_len PySem.boot_len (pa_cons (pv 1) pa_nil)) pe_int (nomark _))))) (pss_one (ps_ret (pe_lst (pa_cons pe_str (pa_cons (pe_callB call_len_seq (by rfl) T.z_len PySem.boot_len (pa_cons (pv 1) pa_nil)) pa_nil))))) pss_nil)
      (pss_cons (ps_for PassesOwn.never rfl (pi_list (pv 1)) (pg_name (i := 2) sc_Ldue.nd rfl (.inl rfl)) (pss_one (ps_if (pt_not (pt_val (pe_call c_Lgood.G (hr.mono (by decide)) (by rfl) c_Lgood.g c_Lgood.kp c_Lgood.b .nil pass0 (pa_cons (pv 2) pa_nil)))) (pss_one (ps_ret (pe_lst (pa_cons pe_str (pa_cons (pv 2) pa_nil))))) pss_nil)))
      (pss_cons (ps_for PassesOwn.never rfl (pi_list (pv 1)) (pg_name (i := 2) sc_Ldue.nd rfl (.inl rfl)) (pss_one (ps_if (PW.pt (pw_or (pt_not (pt_val (pe_callB call_isi (by rfl) T.z_isinstance (by decide +kernel) (pa_cons (pe_dget (hu_of hr) (pv 0) (pv 2) (fun _ _ => rfl)) (pa_cons (pe_bltn (v := .ty "int") (by rfl) T.z_int (by decide +kernel) rfl) pa_nil))))) (pw_or1 (pt_val (pe_callB call_isi (by rfl) T.z_isinstance (by decide +kernel) (pa_cons (pe_dget (hu_of hr) (pv 0) (pv 2) (fun _ _ => rfl)) (pa_cons (pe_bltn (v := .ty "bool") (by rfl) T.z_bool (by decide +kernel) rfl) pa_nil))))))) (pss_one (ps_ret (pe_lst (pa_cons pe_str (pa_cons (pe_dget (hu_of hr) (pv 0) (pv 2) (fun _ _ => rfl)) (pa_cons (pe_callB call_isi (by rfl) T.z_isinstance (by decide +kernel) (pa_cons (pe_dget (hu_of hr) (pv 0) (pv 2) (fun _ _ => rfl)) (pa_cons (pe_bltn (v := .ty "bool") (by rfl) T.z_bool (by decide +kernel) rfl) pa_nil))) pa_nil)))))) pss_nil)))
      (pss_one (ps_ret (pe_lst (pa_cons pe_str (pa_cons (pe_callTy call_tuple_of (by rfl) T.z_tuple (by decide +kernel) (pa_cons (pv 1) pa_nil)) (pa_cons (pv 0) pa_nil)))))))))), ?_⟩
  refine fn_G (δ := Unit) (ψ := fun _ _ => []) h ?_ (fun Θ B G0 q => 
      (sv_seq (sv_asg (i := 1) (ve_frL (ve_cb (va_cons (ve_v (rDct rDat) (q.1)) va_nil) vn_sortedD)) PxLe.nil) fun l_labels_190 =>
      (sv_seq (sv_if (vt_orP (vt_test (ve_op2 (ve_cb (va_cons (ve_v (rLst rStr) (l_labels_190)) va_nil) vn_lenL) (ve_c rInt 1 fun _ => rfl) v2_lt)) (vt_test (ve_op2 (ve_cb (va_cons (ve_v (rLst rStr) (l_labels_190)) va_nil) vn_lenL) (ve_c rInt 6 fun _ => rfl) v2_gt))) PxLe.nil (sv_ret (ve_frL (ve_lstL rDat (fun a => [a.1, a.2.1]) (va_cons (ve_dat (ve_c rStr ("count" : Str) fun _ => rfl)) (va_cons (ve_dat (ve_cb (va_cons (ve_v (rLst rStr) (l_labels_190)) va_nil) vn_lenL)) va_nil)))) PxLe.nil) (sv_conv (χ := (fun s_191 : Unit => [.fr ((rDct rDat) (q.1)), .fr ((rLst rStr) (l_labels_190)), .un])) (fun _ => ()) sv_nil (fun _ => (Le.same (Le.same (Le.un Le.nil)))))) fun s_191 =>
      (sv_seq (sv_for (ψ := (fun s_193 : Unit => [.fr ((rDct rDat) (q.1)), .fr ((rLst rStr) (l_labels_190)), .un])) (s0 := ()) (vi_list (ve_v (rLst rStr) (l_labels_190))) PxLe.nil (Le.same (Le.same (Le.un Le.nil))) (fun s_193 => (vg_name (i := 2))) (fun b_192 s_193 => (sv_conv (χ := (fun s_193 : Unit => [.fr ((rDct rDat) (q.1)), .fr ((rLst rStr) (l_labels_190)), .un])) (fun s_195 => ()) (sv_if (vt_not (vt_b (ve_callF (va_cons (ve_v rStr (b_192)) va_nil)))) PxLe.nil (sv_ret (ve_frL (ve_lstL rDat (fun a => [a.1, a.2.1]) (va_cons (ve_dat (ve_c rStr ("name" : Str) fun _ => rfl)) (va_cons (ve_dat (ve_v rStr (b_192))) va_nil)))) PxLe.nil) (sv_conv (χ := (fun s_195 : Unit => [.fr ((rDct rDat) (q.1)), .fr ((rLst rStr) (l_labels_190)), .fr (rStr (b_192))])) (fun _ => ()) sv_nil (fun _ => (Le.same (Le.same (Le.same Le.nil)))))) (fun s_195 => (Le.same (Le.same (Le.un Le.nil))))))) fun s_193 =>
      (sv_seq (sv_for (ψ := (fun s_198 : Unit => [.fr ((rDct rDat) (q.1)), .fr ((rLst rStr) (l_labels_190)), .un])) (s0 := ()) (vi_list (ve_v (rLst rStr) (l_labels_190))) PxLe.nil (Le.same (Le.same (Le.un Le.nil))) (fun s_198 => (vg_name (i := 2))) (fun b_197 s_198 => (sv_conv (χ := (fun s_198 : Unit => [.fr ((rDct rDat) (q.1)), .fr ((rLst rStr) (l_labels_190)), .un])) (fun s_208 => ()) (sv_if (vt_or (vt_not (vt_b (ve_isiDint (ve_dget (ve_v (rDct rDat) (q.1)) (ve_v rStr (b_197)))))) (vt_b (ve_isiDbool (ve_dget (ve_v (rDct rDat) (q.1)) (ve_v rStr (b_197)))))) PxLe.nil (sv_ret (ve_frL (ve_lstL rDat (fun a => [a.1, a.2.1, a.2.2.1]) (va_cons (ve_dat (ve_c rStr ("wish" : Str) fun _ => rfl)) (va_cons (ve_dget (ve_v (rDct rDat) (q.1)) (ve_v rStr (b_197))) (va_cons (ve_dat (ve_isiDbool (ve_dget (ve_v (rDct rDat) (q.1)) (ve_v rStr (b_197))))) va_nil))))) PxLe.nil) (sv_conv (χ := (fun s_208 : Unit => [.fr ((rDct rDat) (q.1)), .fr ((rLst rStr) (l_labels_190)), .fr (rStr (b_197))])) (fun _ => ()) sv_nil (fun _ => (Le.same (Le.same (Le.same Le.nil)))))) (fun s_208 => (Le.same (Le.same (Le.un Le.nil))))))) fun s_198 =>
      (sv_ret (ve_frL (ve_lstL rDat (fun a => [a.1, a.2.1, a.2.2.1]) (va_cons (ve_dat (ve_c rStr ("wishes" : Str) fun _ => rfl)) (va_cons (ve_dat (ve_cb (va_cons (ve_v (rLst rStr) (l_labels_190)) va_nil) vn_tupL)) (va_cons (ve_dat (ve_v (rDct rDat) (q.1))) va_nil))))) PxLe.nil))))))
  intro q; delta F_Ldue Mi.compX Mi.neDG Mi.datDI Mi.cat Mi.fits Mi.neOt Mi.unO Mi.unT Mi.unD Mi.eqT0 Mi.sortSC Mi.maxD Mi.sortOut Mi.minS Mi.gput Mi.gset Mi.heldG Mi.endG Mi.eqG Mi.inOwn Mi.held2 Mi.end2 Mi.datSs Mi.neXL Mi.eqXL Mi.datP2 Mi.eqX Mi.inX Mi.datT Mi.popL Mi.pget Mi.pcomp Mi.whileL Mi.index Mi.datPI Mi.datAt Mi.datStr Mi.datInt Mi.datL Mi.four Mi.dcomp Mi.get Mi.pr Mi.neL Mi.neQ Mi.datTT Mi.datS Mi.inS Mi.niS Mi.sortSet Mi.insert Mi.dget Mi.comp2 Mi.exch Mi.two Mi.neD Mi.eqD Mi.inD Mi.inDT Mi.idx Mi.sgn Mi.rng Mi.comp Mi.join Mi.popAt Mi.popE Mi.sortI Mi.sortS Mi.sortD Mi.listD Mi.setL Mi.max Mi.min Mi.draw; rfl
theorem sc_Ltold : FnScope ["_law_wishes", "_law_plan", "_law_left", "_law_right_here", "e"] ["_law_wishes", "_law_plan", "_law_left", "_law_right_here"] (defScope s_Ltold) := ⟨rfl, rfl, rfl, by decide +kernel, rfl, by decide +kernel, by decide +kernel⟩
@[irreducible] def F_Ltold (q : d_Wishes × Int × PyData × Str × Unit) : M (List PyData) := M.ret ((M.try_ (M.seq (M.ite ((decide ((q.2.1) = ((0 : Int))))) (M.bind (M.bind (M.bind (M.bind (Mi.datStr (q.2.2.1)) fun x_220 => (F_WishesD_getitemD ((q.1), ((x_220), ())))) fun x_221 => (M.pure ((IsD.d rInt x_221)))) fun x_222 => (M.pure ([((IsD.d rStr ("amount" : Str))), (x_222)]))) fun x_223 => (M.rt (x_223))) (M.nx (()))) fun s_219 => (M.seq (M.ite ((decide ((q.2.1) = ((1 : Int))))) (M.bind (M.bind (M.bind (M.bind (Mi.datStr (q.2.2.1)) fun x_229 => (F_Wishes_prefers ((q.1), ((x_229), ((q.2.2.2.1), ()))))) fun x_230 => (M.pure ((IsD.d rBl x_230)))) fun x_231 => (M.pure ([((IsD.d rStr ("prefers" : Str))), (x_231)]))) fun x_232 => (M.rt (x_232))) (M.nx (()))) fun s_228 => (M.bind (M.bind (M.bind (M.bind (M.datSq (q.2.2.1)) fun x_233 => (F_Wishes_best ((q.1), ((x_233), ())))) fun x_234 => (M.pure ((IsD.d (rTup rStr) x_234)))) fun x_235 => (M.pure ([((IsD.d rStr ("best" : Str))), (x_235)]))) fun x_236 => (M.rt (x_236))))) ([(("UnknownName" : Str), ("name" : Str), fun d_239 => (M.rt ([((IsD.d rStr ("unknown" : Str))), (d_239)]))), (("BadCount" : Str), ("count" : Str), fun d_242 => (M.rt ([((IsD.d rStr ("count" : Str))), (d_242)])))] : List (Str × Str × (PyData → M (Fl (List PyData) Empty))))) : M (Fl (List PyData) Unit))
theorem ok_Ltold {f : Addr} {fd : FuncData} (F : Fun K "_law_told" "_law_told" s_Ltold f fd) (T : TxtB mg) (x_UnknownName : XCls K mg "UnknownName" "name") (x_BadCount : XCls K mg "BadCount" "count") (c_WishesD_getitemD : CalM P w K mg base (CX P w) 3 ["self", "at"] (spG mg K ([] : List (Addr × Str)) (fun q : d_Wishes × Str × Unit => [(rI_Wishes W_Wishes.C) q.1, rStr q.2.1]) F_WishesD_getitemD (Fz rInt))) (m_WishesD_getitemD : Meth K W_Wishes.C "__getitem__" c_WishesD_getitemD.f) (c_Wishes_prefers : CalM P w K mg base (CX P w) 5 ["self", "one", "other"] (spG mg K ([] : List (Addr × Str)) (fun q : d_Wishes × Str × Str × Unit => [(rI_Wishes W_Wishes.C) q.1, rStr q.2.1, rStr q.2.2.1]) F_Wishes_prefers (Fz rBl))) (m_Wishes_prefers : Meth K W_Wishes.C "prefers" c_Wishes_prefers.f) (c_Wishes_best : CalM P w K mg base (CX P w) 5 ["self", "names"] (spG mg K ([] : List (Addr × Str)) (fun q : d_Wishes × (List Str) × Unit => [(rI_Wishes W_Wishes.C) q.1, (rSq rStr) q.2.1]) F_Wishes_best (Fz (rTup rStr)))) (m_Wishes_best : Meth K W_Wishes.C "best" c_Wishes_best.f) (i_WishesD_getitemD : IxF K W_Wishes.C c_WishesD_getitemD.f) (hE1 : ∀ p ∈ [(("UnknownName" : Str), x_UnknownName.C), (("BadCount" : Str), x_BadCount.C)], ∀ q ∈ [(("UnknownName" : Str), x_UnknownName.C), (("BadCount" : Str), x_BadCount.C)], PySem.W.exmOne K (.ref p.2) (.ref q.2) = some (decide (p.1 = q.1))) : FnOk P w K mg base CX0 7 f fd ["_law_wishes", "_law_plan", "_law_left", "_law_right_here"] (spG mg K ([] : List (Addr × Str)) (fun q : d_Wishes × Int × PyData × Str × Unit => [(rI_Wishes W_Wishes.C) q.1, rInt q.2.1, rDat q.2.2.1, rStr q.2.2.2.1]) F_Ltold (Fz (rLst rDat))) := by
  refine F.ok sc_Ltold spG_len (fun cdv A outer s H vs Q E hr h => ?_)
  refine ⟨_, (pss_one (ps_tryM rfl rfl sc_Ltold.nd takes0 (fun W pn xe tk po => (pss_cons (ps_if (pt_cmpR op_eq (pv 1) pe_int (nomark _)) (pss_one (ps_ret (pe_lst (pa_cons pe_str (pa_cons (pe_ixOwnS W_Wishes.cl i_WishesD_getitemD.hs i_WishesD_getitemD.hf i_WishesD_getitemD.hfn c_WishesD_getitemD.G (hr.mono (by decide)) c_WishesD_getitemD.b (fun σ => passAt tk σ) (pv 0) (pv 2)) pa_nil))))) pss_nil)
      (pss_cons (ps_if (pt_cmpR op_eq (pv 1) pe_int (nomark _)) (pss_one (ps_ret (pe_lst (pa_cons pe_str (pa_cons (pe_methT (pv 0) W_Wishes.cl m_Wishes_prefers c_Wishes_prefers.G (hr.mono (by decide)) c_Wishes_prefers.b (fun σ => passAt tk σ) (pa_cons (pv 2) (pa_cons (pv 3) pa_nil))) pa_nil))))) pss_nil)
      (pss_one (ps_ret (pe_lst (pa_cons pe_str (pa_cons (pe_methT (pv 0) W_Wishes.cl m_Wishes_best c_Wishes_best.G (hr.mono (by decide)) c_Wishes_best.b (fun σ => passAt tk σ) (pa_cons (pv 2) pa_nil)) pa_nil))))))))
        (HdsAs.cons (i := 4) rfl rfl ⟨rfl, by decide, .inl x_UnknownName.g⟩ (fun a oe cls d pn hz hf => (pss_one (ps_ret (pe_lst (pa_cons pe_str (pa_cons (pe_xf x_UnknownName.xf x_UnknownName.no hz hf (pv 4)) pa_nil))))))
        (HdsAs.cons (i := 4) rfl rfl ⟨rfl, by decide, .inl x_BadCount.g⟩ (fun a oe cls d pn hz hf => (pss_one (ps_ret (pe_lst (pa_cons pe_str (pa_cons (pe_xf x_BadCount.xf x_BadCount.no hz hf (pv 4)) pa_nil))))))
        HdsAs.nil)))), ?_⟩
  refine fn_G (δ := Unit) (ψ := fun _ _ => []) h ?_ (fun Θ B G0 q => 
      (sv_tryM (px := [.fr ((rI_Wishes W_Wishes.C) (q.1)), .fr (rInt (q.2.1)), .fr (rDat (q.2.2.1)), .fr (rStr (q.2.2.2.1)), .un]) (tbl := [("UnknownName", x_UnknownName.C), ("BadCount", x_BadCount.C)]) (HL.cons (ψ := fun _ _ _ _ => []) x_UnknownName rfl (.head _) rfl (fun a_237 dd_238 d_239 =>
        (sv_ret (ve_frL (ve_lstL rDat (fun a => [a.1, a.2.1]) (va_cons (ve_dat (ve_c rStr ("unknown" : Str) fun _ => rfl)) (va_cons (ve_xf (i := 4)) va_nil)))) PxLe.nil))
        (HL.cons (ψ := fun _ _ _ _ => []) x_BadCount rfl (.tail _ (.head _)) rfl (fun a_240 dd_241 d_242 =>
        (sv_ret (ve_frL (ve_lstL rDat (fun a => [a.1, a.2.1]) (va_cons (ve_dat (ve_c rStr ("count" : Str) fun _ => rfl)) (va_cons (ve_xf (i := 4)) va_nil)))) PxLe.nil))
        HL.nil)) hE1 rfl (fun h => nomatch h) rfl (fun D => (sv_seq (sv_if (vt_test (ve_op2 (ve_v rInt (q.2.1)) (ve_c rInt 0 fun _ => rfl) v2_eqI)) (.inr (PxL.same (PxL.same (PxL.same (PxL.same (PxL.un PxL.nil)))))) (sv_ret (ve_frL (ve_lstL rDat (fun a => [a.1, a.2.1]) (va_cons (ve_dat (ve_c rStr ("amount" : Str) fun _ => rfl)) (va_cons (ve_dat (ve_ixOwnR (ve_v (rI_Wishes W_Wishes.C) (q.1)) (ve_datStr (ve_v rDat (q.2.2.1))))) va_nil)))) (.inr (PxL.same (PxL.same (PxL.same (PxL.same (PxL.un PxL.nil))))))) (sv_conv (χ := (fun s_219 : Unit => [.fr ((rI_Wishes W_Wishes.C) (q.1)), .fr (rInt (q.2.1)), .fr (rDat (q.2.2.1)), .fr (rStr (q.2.2.2.1)), .un])) (fun _ => ()) sv_nil (fun _ => (Le.same (Le.same (Le.same (Le.same (Le.un Le.nil)))))))) fun s_219 =>
      (sv_seq (sv_if (vt_test (ve_op2 (ve_v rInt (q.2.1)) (ve_c rInt 1 fun _ => rfl) v2_eqI)) (.inr (PxL.same (PxL.same (PxL.same (PxL.same (PxL.un PxL.nil)))))) (sv_ret (ve_frL (ve_lstL rDat (fun a => [a.1, a.2.1]) (va_cons (ve_dat (ve_c rStr ("prefers" : Str) fun _ => rfl)) (va_cons (ve_dat (ve_methR (ve_v (rI_Wishes W_Wishes.C) (q.1)) (va_cons (ve_datStr (ve_v rDat (q.2.2.1))) (va_cons (ve_v rStr (q.2.2.2.1)) va_nil)) (hn := fun _ => nm_ne rfl))) va_nil)))) (.inr (PxL.same (PxL.same (PxL.same (PxL.same (PxL.un PxL.nil))))))) (sv_conv (χ := (fun s_228 : Unit => [.fr ((rI_Wishes W_Wishes.C) (q.1)), .fr (rInt (q.2.1)), .fr (rDat (q.2.2.1)), .fr (rStr (q.2.2.2.1)), .un])) (fun _ => ()) sv_nil (fun _ => (Le.same (Le.same (Le.same (Le.same (Le.un Le.nil)))))))) fun s_228 =>
      (sv_ret (ve_frL (ve_lstL rDat (fun a => [a.1, a.2.1]) (va_cons (ve_dat (ve_c rStr ("best" : Str) fun _ => rfl)) (va_cons (ve_dat (ve_methR (ve_v (rI_Wishes W_Wishes.C) (q.1)) (va_cons (ve_datSq (ve_v rDat (q.2.2.1))) va_nil) (hn := fun _ => nm_ne rfl))) va_nil)))) (.inr (PxL.same (PxL.same (PxL.same (PxL.same (PxL.un PxL.nil))))))))))))
  intro q; delta F_Ltold Mi.compX Mi.neDG Mi.datDI Mi.cat Mi.fits Mi.neOt Mi.unO Mi.unT Mi.unD Mi.eqT0 Mi.sortSC Mi.maxD Mi.sortOut Mi.minS Mi.gput Mi.gset Mi.heldG Mi.endG Mi.eqG Mi.inOwn Mi.held2 Mi.end2 Mi.datSs Mi.neXL Mi.eqXL Mi.datP2 Mi.eqX Mi.inX Mi.datT Mi.popL Mi.pget Mi.pcomp Mi.whileL Mi.index Mi.datPI Mi.datAt Mi.datStr Mi.datInt Mi.datL Mi.four Mi.dcomp Mi.get Mi.pr Mi.neL Mi.neQ Mi.datTT Mi.datS Mi.inS Mi.niS Mi.sortSet Mi.insert Mi.dget Mi.comp2 Mi.exch Mi.two Mi.neD Mi.eqD Mi.inD Mi.inDT Mi.idx Mi.sgn Mi.rng Mi.comp Mi.join Mi.popAt Mi.popE Mi.sortI Mi.sortS Mi.sortD Mi.listD Mi.setL Mi.max Mi.min Mi.draw; rfl
abbrev N_Ltold_due : List Str := ["_law_given", "_law_plan", "_law_left", "_law_right_here", "_law_asked", "_law_label", "_law_most"]
theorem sc_Ltold_due : FnScope ["_law_given", "_law_plan", "_law_left", "_law_right_here", "_law_asked", "_law_label", "_law_most"] ["_law_given", "_law_plan", "_law_left", "_law_right_here"] (defScope s_Ltold_due) := ⟨rfl, rfl, rfl, by decide +kernel, rfl, by decide +kernel, by decide +kernel⟩
@[irreducible] def F_Ltold_due (q : (List (Str × Int)) × Int × PyData × Str × Unit) : M (List PyData) := M.ret ((M.seq (M.bind (M.ite ((decide ((q.2.1) = ((2 : Int))))) ((M.bind (M.bind (M.datSq (q.2.2.1)) fun x_243 => (M.pure (((x_243).length : Int)))) fun x_244 => (M.pure ((decide ((x_244) = ((0 : Int)))))))) (M.pure false)) fun x_246 => (M.ite (x_246) (M.rt ([((IsD.d rStr ("count" : Str))), ((IsD.d rInt (0 : Int)))])) (M.nx (())))) fun s_245 => (M.bind (Mi.idx ([((IsD.d (rLst rDat) [(q.2.2.1)])), ((IsD.d (rLst rDat) [(q.2.2.1), ((IsD.d rStr q.2.2.2.1))])), (q.2.2.1)]) (q.2.1)) fun l_asked_247 => (M.seq (M.bind (M.datSq (l_asked_247)) fun x_251 => (M.forL (fun b_248 s_249 => (M.seq (M.ite ((!(getD (q.1) (b_248)).isSome)) (M.rt ([((IsD.d rStr ("unknown" : Str))), ((IsD.d rStr b_248))])) (M.nx (()))) fun s_250 => (M.nx (())))) (x_251) ())) fun s_249 => (M.seq (M.ite ((decide ((q.2.1) = ((0 : Int))))) (M.bind (M.bind (M.bind (M.bind (Mi.datStr (q.2.2.1)) fun x_257 => (Mi.dget (q.1) (x_257))) fun x_258 => (M.pure ((IsD.d rInt x_258)))) fun x_259 => (M.pure ([((IsD.d rStr ("amount" : Str))), (x_259)]))) fun x_260 => (M.rt (x_260))) (M.nx (()))) fun s_256 => (M.seq (M.ite ((decide ((q.2.1) = ((1 : Int))))) (M.bind (M.bind (M.bind (M.bind (M.bind (Mi.datStr (q.2.2.1)) fun x_268 => (Mi.dget (q.1) (x_268))) fun x_269 => (M.bind (Mi.dget (q.1) (q.2.2.2.1)) fun x_270 => (M.pure ((decide ((x_270) < (x_269))))))) fun x_271 => (M.pure ((IsD.d rBl x_271)))) fun x_272 => (M.pure ([((IsD.d rStr ("prefers" : Str))), (x_272)]))) fun x_273 => (M.rt (x_273))) (M.nx (()))) fun s_267 => (M.bind (M.bind (M.bind (M.datSq (q.2.2.1)) fun x_276 => (Mi.comp (x_276) fun b_274 => (M.bind (Mi.dget (q.1) (b_274)) fun x_275 => (M.pure ((some (x_275))))))) fun x_277 => (Mi.max (x_277))) fun l_most_278 => (M.bind (M.bind (M.bind (M.bind (M.bind (Mi.sortS ((q.1).map (·.1))) fun x_284 => (Mi.comp (x_284) fun b_279 => (M.bind (M.bind (M.bind (M.datSq (q.2.2.1)) fun x_281 => (M.pure ((decide ((b_279) ∈ (x_281)))))) fun x_282 => (M.ite (x_282) ((M.bind (Mi.dget (q.1) (b_279)) fun x_280 => (M.pure ((decide ((x_280) = (l_most_278))))))) (M.pure false))) fun x_283 => (M.ite (x_283) ((M.pure ((some (b_279))))) (M.pure none))))) fun x_285 => (M.pure (x_285))) fun x_286 => (M.pure ((IsD.d (rTup rStr) x_286)))) fun x_287 => (M.pure ([((IsD.d rStr ("best" : Str))), (x_287)]))) fun x_288 => (M.rt (x_288))))))))) : M (Fl (List PyData) Unit))
theorem ok_Ltold_due {f : Addr} {fd : FuncData} (F : Fun K "_law_told_due" "_law_told_due" s_Ltold_due f fd) (T : TxtB mg) : FnOk P w K mg base CX0 1 f fd ["_law_given", "_law_plan", "_law_left", "_law_right_here"] (spG mg K ([] : List (Addr × Str)) (fun q : (List (Str × Int)) × Int × PyData × Str × Unit => [(rDct rInt) q.1, rInt q.2.1, rDat q.2.2.1, rStr q.2.2.2.1]) F_Ltold_due (Fz (rLst rDat))) := by
  refine F.ok sc_Ltold_due spG_len (fun cdv A outer s H vs Q E hr h => ?_)
  refine ⟨_, (pss_cons (ps_if (PW.pt (pw_and (pt_cmpR op_eq (pv 1) pe_int (nomark _)) (pw_and1 (pt_cmpR op_eq (pe_callB call_len_seq (by rfl) T.z_len PySem.boot_len (pa_cons (pv 2) pa_nil)) pe_int (nomark _))))) (pss_one (ps_ret (pe_lst (pa_cons pe_str (pa_cons pe_int pa_nil))))) pss_nil)
      (pss_cons (ps_set (i := 4) sc_Ltold_due.nd rfl (.inl rfl) (pe_ix ix_list (pe_lst (pa_cons (pe_lst (pa_cons (pv 2) pa_nil)) (pa_cons (pe_lst (pa_cons (pv 2) (pa_cons (pv 3) pa_nil))) (pa_cons (pv 2) pa_nil)))) (pv 1) (fun _ _ => rfl)))
      (pss_cons (ps_for PassesOwn.never rfl (pi_sqF (K := K) rfl (pv 4)) (pg_name (i := 5) sc_Ltold_due.nd rfl (.inl rfl)) (pss_one (ps_if (pt_cmp (pc_dnotin (hu_of hr) (pv 5) (pv 0))) (pss_one (ps_ret (pe_lst (pa_cons pe_str (pa_cons (pv 5) pa_nil))))) pss_nil)))
      (pss_cons (ps_if (pt_cmpR op_eq (pv 1) pe_int (nomark _)) (pss_one (ps_ret (pe_lst (pa_cons pe_str (pa_cons (pe_dget (hu_of hr) (pv 0) (pv 2) (fun _ _ => rfl)) pa_nil))))) pss_nil)
      (pss_cons (ps_if (pt_cmpR op_eq (pv 1) pe_int (nomark _)) (pss_one (ps_ret (pe_lst (pa_cons pe_str (pa_cons (pe_cmpR op_gt (pe_dget (hu_of hr) (pv 0) (pv 2) (fun _ _ => rfl)) (pe_dget (hu_of hr) (pv 0) (pv 3) (fun _ _ => rfl)) (nomark _)) pa_nil))))) pss_nil)
      (pss_cons (ps_set (i := 6) sc_Ltold_due.nd rfl (.inr rfl) (pe_callB (cr_max rfl) (by rfl) T.z_max (by decide +kernel) (pa_cons (pe_lc (own := [("_law_label", 5)]) (g := gName 5) (tt := tYes) rfl sc_Ltold_due.nd (pi_sqF (K := K) rfl (pv 2)) (blkOk_by (own := [("_law_label", 5)]) (N := N_Ltold_due) (sc := defScope s_Ltold_due) (by decide +kernel)) (fun _ _ _ _ _ => (pg_name (i := 5) sc_Ltold_due.nd rfl (.inl rfl))) (fun _ _ _ _ _ => pts_nil) (fun _ _ _ _ _ => (pe_dget (hu_of hr) (pv 0) (pv 5) (fun _ _ => rfl)))) pa_nil)))
      (pss_one (ps_ret (pe_lst (pa_cons pe_str (pa_cons (pe_callTy call_tuple_of (by rfl) T.z_tuple (by decide +kernel) (pa_cons (pe_lc (own := [("_law_label", 5)]) (g := gName 5) rfl sc_Ltold_due.nd (pi_list (pe_callB (call_sortedD rfl) (by rfl) T.z_sorted (by decide +kernel) (pa_cons (pv 0) pa_nil))) (blkOk_by (own := [("_law_label", 5)]) (N := N_Ltold_due) (sc := defScope s_Ltold_due) (by decide +kernel)) (fun _ _ _ _ _ => (pg_name (i := 5) sc_Ltold_due.nd rfl (.inl rfl))) (fun _ _ _ _ _ => (pts_one (PW.pt (pw_and (pt_cmpR (op_inF (K := K) rfl) (pv 5) (pv 2) (by rfl)) (pw_and1 (pt_cmpR op_eq (pe_dget (hu_of hr) (pv 0) (pv 5) (fun _ _ => rfl)) (pv 6) (nomark _))))))) (fun _ _ _ _ _ => (pv 5))) pa_nil)) pa_nil))))))))))), ?_⟩
  refine fn_G (δ := Unit) (ψ := fun _ _ => []) h ?_ (fun Θ B G0 q => 
      (sv_seq (sv_if (vt_and (vt_test (ve_op2 (ve_v rInt (q.2.1)) (ve_c rInt 2 fun _ => rfl) v2_eqI)) (vt_test (ve_op2 (ve_cb (va_cons (ve_datSq (ve_v rDat (q.2.2.1))) va_nil) vn_lenQ) (ve_c rInt 0 fun _ => rfl) v2_eqI))) PxLe.nil (sv_ret (ve_frL (ve_lstL rDat (fun a => [a.1, a.2.1]) (va_cons (ve_dat (ve_c rStr ("count" : Str) fun _ => rfl)) (va_cons (ve_dat (ve_c rInt 0 fun _ => rfl)) va_nil)))) PxLe.nil) (sv_conv (χ := (fun s_245 : Unit => [.fr ((rDct rInt) (q.1)), .fr (rInt (q.2.1)), .fr (rDat (q.2.2.1)), .fr (rStr (q.2.2.2.1)), .un, .un, .un])) (fun _ => ()) sv_nil (fun _ => (Le.same (Le.same (Le.same (Le.same (Le.un (Le.un (Le.un Le.nil)))))))))) fun s_245 =>
      (sv_seq (sv_asg (i := 4) (ve_op2 (ve_frL (ve_lstL rDat (fun a => [a.1, a.2.1, a.2.2.1]) (va_cons (ve_dat (ve_frL (ve_lstL rDat (fun a => [a.1]) (va_cons (ve_v rDat (q.2.2.1)) va_nil)))) (va_cons (ve_dat (ve_frL (ve_lstL rDat (fun a => [a.1, a.2.1]) (va_cons (ve_v rDat (q.2.2.1)) (va_cons (ve_dat (ve_v rStr (q.2.2.2.1))) va_nil))))) (va_cons (ve_v rDat (q.2.2.1)) va_nil))))) (ve_v rInt (q.2.1)) v2_ixL) PxLe.nil) fun l_asked_247 =>
      (sv_seq (sv_for (ψ := (fun s_249 : Unit => [.fr ((rDct rInt) (q.1)), .fr (rInt (q.2.1)), .fr (rDat (q.2.2.1)), .fr (rStr (q.2.2.2.1)), .fr (rDat (l_asked_247)), .un, .un])) (s0 := ()) (vi_sq (ve_datSq (ve_v rDat (l_asked_247)))) PxLe.nil (Le.same (Le.same (Le.same (Le.same (Le.same (Le.un (Le.un Le.nil))))))) (fun s_249 => (vg_name (i := 5))) (fun b_248 s_249 => (sv_conv (χ := (fun s_249 : Unit => [.fr ((rDct rInt) (q.1)), .fr (rInt (q.2.1)), .fr (rDat (q.2.2.1)), .fr (rStr (q.2.2.2.1)), .fr (rDat (l_asked_247)), .un, .un])) (fun s_250 => ()) (sv_if (vt_test (ve_niDct (ve_v rStr (b_248)) (ve_v (rDct rInt) (q.1)))) PxLe.nil (sv_ret (ve_frL (ve_lstL rDat (fun a => [a.1, a.2.1]) (va_cons (ve_dat (ve_c rStr ("unknown" : Str) fun _ => rfl)) (va_cons (ve_dat (ve_v rStr (b_248))) va_nil)))) PxLe.nil) (sv_conv (χ := (fun s_250 : Unit => [.fr ((rDct rInt) (q.1)), .fr (rInt (q.2.1)), .fr (rDat (q.2.2.1)), .fr (rStr (q.2.2.2.1)), .fr (rDat (l_asked_247)), .fr (rStr (b_248)), .un])) (fun _ => ()) sv_nil (fun _ => (Le.same (Le.same (Le.same (Le.same (Le.same (Le.same (Le.un Le.nil)))))))))) (fun s_250 => (Le.same (Le.same (Le.same (Le.same (Le.same (Le.un (Le.un Le.nil))))))))))) fun s_249 =>
      (sv_seq (sv_if (vt_test (ve_op2 (ve_v rInt (q.2.1)) (ve_c rInt 0 fun _ => rfl) v2_eqI)) PxLe.nil (sv_ret (ve_frL (ve_lstL rDat (fun a => [a.1, a.2.1]) (va_cons (ve_dat (ve_c rStr ("amount" : Str) fun _ => rfl)) (va_cons (ve_dat (ve_dget (ve_v (rDct rInt) (q.1)) (ve_datStr (ve_v rDat (q.2.2.1))))) va_nil)))) PxLe.nil) (sv_conv (χ := (fun s_256 : Unit => [.fr ((rDct rInt) (q.1)), .fr (rInt (q.2.1)), .fr (rDat (q.2.2.1)), .fr (rStr (q.2.2.2.1)), .fr (rDat (l_asked_247)), .un, .un])) (fun _ => ()) sv_nil (fun _ => (Le.same (Le.same (Le.same (Le.same (Le.same (Le.un (Le.un Le.nil)))))))))) fun s_256 =>
      (sv_seq (sv_if (vt_test (ve_op2 (ve_v rInt (q.2.1)) (ve_c rInt 1 fun _ => rfl) v2_eqI)) PxLe.nil (sv_ret (ve_frL (ve_lstL rDat (fun a => [a.1, a.2.1]) (va_cons (ve_dat (ve_c rStr ("prefers" : Str) fun _ => rfl)) (va_cons (ve_dat (ve_op2 (ve_dget (ve_v (rDct rInt) (q.1)) (ve_datStr (ve_v rDat (q.2.2.1)))) (ve_dget (ve_v (rDct rInt) (q.1)) (ve_v rStr (q.2.2.2.1))) v2_gt)) va_nil)))) PxLe.nil) (sv_conv (χ := (fun s_267 : Unit => [.fr ((rDct rInt) (q.1)), .fr (rInt (q.2.1)), .fr (rDat (q.2.2.1)), .fr (rStr (q.2.2.2.1)), .fr (rDat (l_asked_247)), .un, .un])) (fun _ => ()) sv_nil (fun _ => (Le.same (Le.same (Le.same (Le.same (Le.same (Le.un (Le.un Le.nil)))))))))) fun s_267 =>
      (sv_seq (sv_asg (i := 6) (ve_cb (va_cons (ve_frL (ve_lc (vs := [5]) (js := [5]) (vi_sq (ve_datSq (ve_v rDat (q.2.2.1)))) (hv1 rfl) (vg_name (i := 5)) (fun _ h => h) (fun b_274 => vt_yes) (fun b_274 => (ve_dget (ve_v (rDct rInt) (q.1)) (ve_v rStr (b_274)))))) va_nil) vn_max) PxLe.nil) fun l_most_278 =>
      (sv_ret (ve_frL (ve_lstL rDat (fun a => [a.1, a.2.1]) (va_cons (ve_dat (ve_c rStr ("best" : Str) fun _ => rfl)) (va_cons (ve_dat (ve_cb (va_cons (ve_frL (ve_lc (vs := [5]) (js := [5]) (vi_list (ve_frL (ve_cb (va_cons (ve_v (rDct rInt) (q.1)) va_nil) vn_sortedD))) (hv1 rfl) (vg_name (i := 5)) (fun _ h => h) (fun b_279 => (vt_and (vt_test (ve_op2 (ve_v rStr (b_279)) (ve_datSq (ve_v rDat (q.2.2.1))) v2_inQ)) (vt_test (ve_op2 (ve_dget (ve_v (rDct rInt) (q.1)) (ve_v rStr (b_279))) (ve_v rInt (l_most_278)) v2_eqI)))) (fun b_279 => (ve_v rStr (b_279))))) va_nil) vn_tupL)) va_nil)))) PxLe.nil))))))))
  intro q; delta F_Ltold_due Mi.compX Mi.neDG Mi.datDI Mi.cat Mi.fits Mi.neOt Mi.unO Mi.unT Mi.unD Mi.eqT0 Mi.sortSC Mi.maxD Mi.sortOut Mi.minS Mi.gput Mi.gset Mi.heldG Mi.endG Mi.eqG Mi.inOwn Mi.held2 Mi.end2 Mi.datSs Mi.neXL Mi.eqXL Mi.datP2 Mi.eqX Mi.inX Mi.datT Mi.popL Mi.pget Mi.pcomp Mi.whileL Mi.index Mi.datPI Mi.datAt Mi.datStr Mi.datInt Mi.datL Mi.four Mi.dcomp Mi.get Mi.pr Mi.neL Mi.neQ Mi.datTT Mi.datS Mi.inS Mi.niS Mi.sortSet Mi.insert Mi.dget Mi.comp2 Mi.exch Mi.two Mi.neD Mi.eqD Mi.inD Mi.inDT Mi.idx Mi.sgn Mi.rng Mi.comp Mi.join Mi.popAt Mi.popE Mi.sortI Mi.sortS Mi.sortD Mi.listD Mi.setL Mi.max Mi.min Mi.draw; rfl
abbrev N_Lranks : List Str := ["_law_given", "_law_found", "_law_amount", "_law_label"]
theorem sc_Lranks : FnScope ["_law_given", "_law_found", "_law_amount", "_law_label"] ["_law_given"] (defScope s_Lranks) := ⟨rfl, rfl, rfl, by decide +kernel, rfl, by decide +kernel, by decide +kernel⟩
@[irreducible] def F_Lranks (q : (List (Str × Int)) × Unit) : M (List (List Str)) := M.ret ((let l_found_289 : (List (List Str)) := ([] : List (List Str)); (M.seq (M.bind (M.bind (M.bind (M.nox (Mi.comp ((keysI (q.1))) fun b_290 => (M.bind (Mi.dget (q.1) (b_290)) fun x_291 => (M.pure ((some (x_291))))))) fun x_292 => (M.sortSetI (x_292))) fun x_293 => (M.pure ((x_293).reverse))) fun x_303 => (M.forL (fun b_294 s_295 => (M.bind (M.bind (M.bind (M.bind (Mi.sortS ((q.1).map (·.1))) fun x_300 => (Mi.comp (x_300) fun b_297 => (M.bind (M.bind (Mi.dget (q.1) (b_297)) fun x_298 => (M.pure ((decide ((x_298) = (b_294)))))) fun x_299 => (M.ite (x_299) ((M.pure ((some (b_297))))) (M.pure none))))) fun x_301 => (M.pure (x_301))) fun x_302 => (M.when ((s_295).length < sizeLine) (x_302))) fun l_found_296 => (M.nx (((s_295 ++ [l_found_296])))))) (x_303) (l_found_289))) fun s_295 => (M.rt (s_295)))) : M (Fl (List (List Str)) Unit))
theorem ok_Lranks {f : Addr} {fd : FuncData} (F : Fun K "_law_ranks" "_law_ranks" s_Lranks f fd) (T : TxtB mg) : FnOk P w K mg base CX0 1 f fd ["_law_given"] (spG mg K ([] : List (Addr × Str)) (fun q : (List (Str × Int)) × Unit => [(rDct rInt) q.1]) F_Lranks (Fz (rLst (rTup rStr)))) := by
  refine F.ok sc_Lranks spG_len (fun cdv A outer s H vs Q E hr h => ?_)
  refine ⟨_, (pss_cons (ps_set (i := 1) sc_Lranks.nd rfl (.inl rfl) (pe_lst pa_nil))
      (pss_cons (ps_for PassesOwn.never rfl (pi_list (pe_revL (pe_callB (cr_sortedSet rfl) (by rfl) T.z_sorted (by decide +kernel) (pa_cons (pe_callTy (cr_setOfI rfl) (by rfl) T.z_set (by decide +kernel) (pa_cons (pe_lock (pe_lc (own := [("_law_label", 3)]) (g := gName 3) (tt := tYes) rfl sc_Lranks.nd (pi_keys (pv 0)) (blkOk_by (own := [("_law_label", 3)]) (N := N_Lranks) (sc := defScope s_Lranks) (by decide +kernel)) (fun _ _ _ _ _ => (pg_name (i := 3) sc_Lranks.nd rfl (.inl rfl))) (fun _ _ _ _ _ => pts_nil) (fun _ _ _ _ _ => (pe_dget (hu_of hr) (pv 0) (pv 3) (fun _ _ => rfl))))) pa_nil)) pa_nil)))) (pg_name (i := 2) sc_Lranks.nd rfl (.inr rfl)) (pss_one (ps_expr (pe_bm PySem.F.plainAttrs_list PySem.F.slot_list_append PySem.F.type_list_append mt_append (pv 1) (pa_cons (pe_callTy call_tuple_of (by rfl) T.z_tuple (by decide +kernel) (pa_cons (pe_lc (own := [("_law_label", 3)]) (g := gName 3) rfl sc_Lranks.nd (pi_list (pe_callB (call_sortedD rfl) (by rfl) T.z_sorted (by decide +kernel) (pa_cons (pv 0) pa_nil))) (blkOk_by (own := [("_law_label", 3)]) (N := N_Lranks) (sc := defScope s_Lranks) (by decide +kernel)) (fun _ _ _ _ _ => (pg_name (i := 3) sc_Lranks.nd rfl (.inl rfl))) (fun _ _ _ _ _ => (pts_one (pt_cmpR op_eq (pe_dget (hu_of hr) (pv 0) (pv 3) (fun _ _ => rfl)) (pv 2) (nomark _)))) (fun _ _ _ _ _ => (pv 3))) pa_nil)) pa_nil)))))
      (pss_one (ps_ret (pv 1))))), ?_⟩
  refine fn_G (δ := Unit) (ψ := fun _ _ => []) h ?_ (fun Θ B G0 q => 
      (sv_seq (sv_asg (i := 1) (ve_lstL (rTup rStr) (fun _ => ([] : List (List Str))) va_nil) PxLe.nil) fun l_found_289 =>
      (sv_seq (sv_for (ψ := (fun s_295 : (List (List Str)) => [.fr ((rDct rInt) (q.1)), .ow (cLst (rTup rStr) (s_295)), .un, .un])) (s0 := (l_found_289)) (vi_list (ve_frL (ve_revL (ve_frL (ve_sortSetI (ve_frL (ve_lockF (i := 0) (.here (.cons (.cons (.cons .nil)))) (fun d_lk B G0 => (ve_lc (vs := [3]) (js := [3]) (vi_keysLk (i := 0) rfl) (hv1 rfl) (vg_name (i := 3)) (fun _ h => h) (fun b_290 => vt_yes) (fun b_290 => (ve_dgetLk (i := 0) rfl (ve_v rStr (b_290))))))))))))) PxLe.nil (Le.same (Le.same (Le.un (Le.un Le.nil)))) (fun s_295 => (vg_name (i := 2))) (fun b_294 s_295 => (sv_conv (χ := (fun s_295 : (List (List Str)) => [.fr ((rDct rInt) (q.1)), .ow (cLst (rTup rStr) (s_295)), .un, .un])) (fun l_found_296 => ((s_295 ++ [l_found_296]))) (sv_append (i := 1) (ve_cb (va_cons (ve_frL (ve_lc (vs := [3]) (js := [3]) (vi_list (ve_frL (ve_cb (va_cons (ve_v (rDct rInt) (q.1)) va_nil) vn_sortedD))) (hv1 rfl) (vg_name (i := 3)) (fun _ h => h) (fun b_297 => (vt_test (ve_op2 (ve_dget (ve_v (rDct rInt) (q.1)) (ve_v rStr (b_297))) (ve_v rInt (b_294)) v2_eqI))) (fun b_297 => (ve_v rStr (b_297))))) va_nil) vn_tupL) PxLe.nil) (fun l_found_296 => (Le.same (Le.same (Le.un (Le.un Le.nil)))))))) fun s_295 =>
      (sv_showL 1 rfl (sv_ret (ve_v (rLst (rTup rStr)) (s_295)) PxLe.nil)))))
  intro q; delta F_Lranks Mi.compX Mi.neDG Mi.datDI Mi.cat Mi.fits Mi.neOt Mi.unO Mi.unT Mi.unD Mi.eqT0 Mi.sortSC Mi.maxD Mi.sortOut Mi.minS Mi.gput Mi.gset Mi.heldG Mi.endG Mi.eqG Mi.inOwn Mi.held2 Mi.end2 Mi.datSs Mi.neXL Mi.eqXL Mi.datP2 Mi.eqX Mi.inX Mi.datT Mi.popL Mi.pget Mi.pcomp Mi.whileL Mi.index Mi.datPI Mi.datAt Mi.datStr Mi.datInt Mi.datL Mi.four Mi.dcomp Mi.get Mi.pr Mi.neL Mi.neQ Mi.datTT Mi.datS Mi.inS Mi.niS Mi.sortSet Mi.insert Mi.dget Mi.comp2 Mi.exch Mi.two Mi.neD Mi.eqD Mi.inD Mi.inDT Mi.idx Mi.sgn Mi.rng Mi.comp Mi.join Mi.popAt Mi.popE Mi.sortI Mi.sortS Mi.sortD Mi.listD Mi.setL Mi.max Mi.min Mi.draw; rfl
abbrev N_Lright : List Str := ["_law_state", "_law_wishes", "_law_given", "_law_menu", "_law_turn", "_law_left", "_law_right_here", "_law_labels", "_law_some", "_law_plan", "_law_first", "_law_ranks_here", "_law_k", "_law_label"]
theorem sc_Lright : FnScope ["_law_state", "_law_wishes", "_law_given", "_law_menu", "_law_turn", "_law_left", "_law_right_here", "_law_labels", "_law_some", "_law_plan", "_law_first", "_law_ranks_here", "_law_k", "_law_label"] ["_law_state", "_law_wishes", "_law_given"] (defScope s_Lright) := ⟨rfl, rfl, rfl, by decide +kernel, rfl, by decide +kernel, by decide +kernel⟩
@[irreducible] def F_Lright (q : d_Wishes × (List (Str × Int)) × Unit) : M Bool := M.ret ((M.bind (M.bind (Mi.sortS ((q.2.1).map (·.1))) fun x_307 => (M.bind (M.bind (M.bind (M.bind (Mi.sortS ((q.2.1).map (·.1))) fun x_304 => (Mi.idx (x_304) ((0 : Int)))) fun x_305 => (M.when ((x_305).length + (("1" : Str)).length ≤ sizeLine) ((x_305) ++ (("1" : Str))))) fun x_306 => (M.pure ([(("zz9" : Str)), (("" : Str)), (x_306)]))) fun x_308 => (M.when ((x_307).length + (x_308).length ≤ sizeLine) ((x_307) ++ (x_308))))) fun l_menu_309 => (M.seq (M.bind (Mi.rng 0 ((4 : Int))) fun x_336 => (M.forL (fun b_310 s_311 => (M.bind (M.bind (M.nox (F_Ldraw ((((l_menu_309).length : Int)), ()))) fun x_312 => (Mi.idx (l_menu_309) (x_312))) fun l_left_313 => (M.bind (M.bind (M.nox (F_Ldraw ((((l_menu_309).length : Int)), ()))) fun x_314 => (Mi.idx (l_menu_309) (x_314))) fun l_right_here_315 => (M.bind (M.bind (M.bind (M.nox (F_Ldraw (((5 : Int)), ()))) fun x_316 => (Mi.rng 0 (x_316))) fun x_320 => (Mi.comp (x_320) fun b_317 => (M.bind (M.bind (M.nox (F_Ldraw ((((l_menu_309).length : Int)), ()))) fun x_318 => (Mi.idx (l_menu_309) (x_318))) fun x_319 => (M.pure ((some (x_319))))))) fun l_labels_321 => (M.bind (M.bind (M.bind (M.bind (Mi.sortS ((q.2.1).map (·.1))) fun x_322 => (M.bind (Mi.sortS ((q.2.1).map (·.1))) fun x_323 => (M.when ((x_322).length + (x_323).length ≤ sizeLine) ((x_322) ++ (x_323))))) fun x_327 => (Mi.comp (x_327) fun b_324 => (M.bind (M.bind (M.nox (F_Ldraw (((2 : Int)), ()))) fun x_325 => (M.pure ((decide ((x_325) = ((1 : Int))))))) fun x_326 => (M.ite (x_326) ((M.pure ((some (b_324))))) (M.pure none))))) fun x_328 => (M.nox (F_Lorder ((x_328), ())))) fun l_some_329 => (M.seq (M.forL (fun b_330 s_331 => (M.seq (M.bind (M.bind (M.nox (F_Ltold ((q.1), (((b_330).1), (((b_330).2), ((l_right_here_315), ())))))) fun x_332 => (M.bind (M.nox (F_Ltold_due ((q.2.1), (((b_330).1), (((b_330).2), ((l_right_here_315), ())))))) fun x_333 => (Mi.neXL ((x_332).map (IsD.d rDat)) ((x_333).map (IsD.d rDat))))) fun x_335 => (M.ite (x_335) (M.rt (false)) (M.nx (())))) fun s_334 => (M.nx (())))) ([((((0 : Int)), ((IsD.d rStr l_left_313)))), ((((1 : Int)), ((IsD.d rStr l_left_313)))), ((((2 : Int)), ((IsD.d (rLst rStr) l_labels_321)))), ((((2 : Int)), ((IsD.d (rLst rStr) l_some_329)))), ((((2 : Int)), ((IsD.d (rTup rStr) l_labels_321)))), ((((2 : Int)), ((IsD.d (rTup rStr) l_some_329))))]) ()) fun s_331 => (M.nx (())))))))) (x_336) ())) fun s_311 => (M.bind (M.nox (F_Wishes_ranks ((q.1), ()))) fun l_ranks_here_337 => (M.seq (M.bind (M.nox (M.bind (M.nox (F_Lranks ((q.2.1), ()))) fun x_338 => (Mi.neD (IsD.d (rLst (rTup rStr)) (l_ranks_here_337)) (IsD.d (rLst (rTup rStr)) (x_338))))) fun x_340 => (M.ite (x_340) (M.rt (false)) (M.nx (())))) fun s_339 => (M.bind (M.bind (M.nox (F_Wishes_ranks ((q.1), ()))) fun x_342 => (M.bind (M.nox (F_Lranks ((q.2.1), ()))) fun x_343 => (Mi.eqD (IsD.d (rLst (rTup rStr)) (x_342)) (IsD.d (rLst (rTup rStr)) (x_343))))) fun x_344 => (M.rt (x_344))))))) : M (Fl Bool Unit))
theorem ok_Lright {f : Addr} {fd : FuncData} (F : Fun K "_law_right" "_law_right" s_Lright f fd) (T : TxtB mg) (c_Ldraw : Cal P w K mg base "_law_draw" CX0 1 ["_law_state", "_law_size"] (spT mg K ([] : List (Addr × Str)) thV (fun s (q : Int × Unit) => [rSt s, rInt q.1]) F_Ldraw (Fz rInt))) (c_Lorder : Cal P w K mg base "_law_order" CX0 2 ["_law_state", "_law_items"] (spT mg K ([] : List (Addr × Str)) thV (fun s (q : (List Str) × Unit) => [rSt s, (rLst rStr) q.1]) F_Lorder (Ow (cLst rStr)))) (c_Ltold : Cal P w K mg base "_law_told" CX0 7 ["_law_wishes", "_law_plan", "_law_left", "_law_right_here"] (spG mg K ([] : List (Addr × Str)) (fun q : d_Wishes × Int × PyData × Str × Unit => [(rI_Wishes W_Wishes.C) q.1, rInt q.2.1, rDat q.2.2.1, rStr q.2.2.2.1]) F_Ltold (Fz (rLst rDat)))) (c_Ltold_due : Cal P w K mg base "_law_told_due" CX0 1 ["_law_given", "_law_plan", "_law_left", "_law_right_here"] (spG mg K ([] : List (Addr × Str)) (fun q : (List (Str × Int)) × Int × PyData × Str × Unit => [(rDct rInt) q.1, rInt q.2.1, rDat q.2.2.1, rStr q.2.2.2.1]) F_Ltold_due (Fz (rLst rDat)))) (c_Wishes_ranks : CalM P w K mg base CX0 3 ["self"] (spG mg K ([] : List (Addr × Str)) (fun q : d_Wishes × Unit => [(rI_Wishes W_Wishes.C) q.1]) F_Wishes_ranks (Ow (cLst (rTup rStr))))) (m_Wishes_ranks : Meth K W_Wishes.C "ranks" c_Wishes_ranks.f) (c_Lranks : Cal P w K mg base "_law_ranks" CX0 1 ["_law_given"] (spG mg K ([] : List (Addr × Str)) (fun q : (List (Str × Int)) × Unit => [(rDct rInt) q.1]) F_Lranks (Fz (rLst (rTup rStr))))) : FnOk P w K mg base CX0 8 f fd ["_law_state", "_law_wishes", "_law_given"] (spT mg K ([] : List (Addr × Str)) thV (fun s (q : d_Wishes × (List (Str × Int)) × Unit) => [rSt s, (rI_Wishes W_Wishes.C) q.1, (rDct rInt) q.2.1]) F_Lright (Fz rBl)) := by
  refine F.ok sc_Lright spT_len (fun cdv A outer s H vs Q E hr h => ?_)
  refine ⟨_, (pss_cons (ps_set (i := 3) sc_Lright.nd rfl (.inr rfl) (pe_op op_cat (pe_callB (call_sortedD rfl) (by rfl) T.z_sorted (by decide +kernel) (pa_cons (pv 2) pa_nil)) (pe_lst (pa_cons pe_str (pa_cons pe_str (pa_cons (pe_op op_add_str (pe_ix ix_list (pe_callB (call_sortedD rfl) (by rfl) T.z_sorted (by decide +kernel) (pa_cons (pv 2) pa_nil)) pe_int (fun _ _ => rfl)) pe_str) pa_nil))))))
      (pss_cons (ps_for PassesOwn.never rfl (pi_range1 rfl T.z_range (pa_cons pe_int pa_nil)) (pg_name (i := 4) sc_Lright.nd rfl (.inl rfl)) (pss_cons (ps_set (i := 5) sc_Lright.nd rfl (.inl rfl) (pe_ix ix_list (pv 3) (pe_call c_Ldraw.G (hr.mono (by decide)) (by rfl) c_Ldraw.g c_Ldraw.kp c_Ldraw.b .nil pass0 (pa_cons (pv 0) (pa_cons (pe_callB call_len_seq (by rfl) T.z_len PySem.boot_len (pa_cons (pv 3) pa_nil)) pa_nil))) (fun _ _ => rfl)))
      (pss_cons (ps_set (i := 6) sc_Lright.nd rfl (.inl rfl) (pe_ix ix_list (pv 3) (pe_call c_Ldraw.G (hr.mono (by decide)) (by rfl) c_Ldraw.g c_Ldraw.kp c_Ldraw.b .nil pass0 (pa_cons (pv 0) (pa_cons (pe_callB call_len_seq (by rfl) T.z_len PySem.boot_len (pa_cons (pv 3) pa_nil)) pa_nil))) (fun _ _ => rfl)))
      (pss_cons (ps_setLc (i := 7) (own := [("_law_k", 12)]) (g := gName 12) (tt := tYes) rfl sc_Lright.nd rfl rfl (sw_true rfl rfl rfl (by decide +kernel)) (pi_range1 rfl T.z_range (pa_cons (pe_call c_Ldraw.G (hr.mono (by decide)) (by rfl) c_Ldraw.g c_Ldraw.kp c_Ldraw.b .nil pass0 (pa_cons (pv 0) (pa_cons pe_int pa_nil))) pa_nil)) (blkOk_by (own := [("_law_k", 12)]) (N := N_Lright) (sc := defScope s_Lright) (by decide +kernel)) (fun _ _ _ _ _ => (pg_name (i := 12) sc_Lright.nd rfl (.inl rfl))) (fun _ _ _ _ _ => pts_nil) (fun _ _ _ _ _ => (pe_ix (ix_listF (K := K) rfl) (pv 3) (pe_call c_Ldraw.G (hr.mono (by decide)) (by rfl) c_Ldraw.g c_Ldraw.kp c_Ldraw.b .nil pass0 (pa_cons (pv 0) (pa_cons (pe_callB (show CallR _ _ (rLenSq K) from call_len_seq) (by rfl) T.z_len PySem.boot_len (pa_cons (pv 3) pa_nil)) pa_nil))) (fun _ _ => rfl))))
      (pss_cons (ps_set (i := 8) sc_Lright.nd rfl (.inl rfl) (pe_call c_Lorder.G (hr.mono (by decide)) (by rfl) c_Lorder.g c_Lorder.kp c_Lorder.b .nil pass0 (pa_cons (pv 0) (pa_cons (pe_lc (own := [("_law_label", 13)]) (g := gName 13) rfl sc_Lright.nd (pi_list (pe_op op_cat (pe_callB (call_sortedD rfl) (by rfl) T.z_sorted (by decide +kernel) (pa_cons (pv 2) pa_nil)) (pe_callB (call_sortedD rfl) (by rfl) T.z_sorted (by decide +kernel) (pa_cons (pv 2) pa_nil)))) (blkOk_by (own := [("_law_label", 13)]) (N := N_Lright) (sc := defScope s_Lright) (by decide +kernel)) (fun _ _ _ _ _ => (pg_name (i := 13) sc_Lright.nd rfl (.inl rfl))) (fun _ _ _ _ _ => (pts_one (pt_cmpR op_eq (pe_call c_Ldraw.G (hr.mono (by decide)) (by rfl) c_Ldraw.g c_Ldraw.kp c_Ldraw.b .nil pass0 (pa_cons (pv 0) (pa_cons pe_int pa_nil))) pe_int (nomark _)))) (fun _ _ _ _ _ => (pv 13))) pa_nil))))
      (pss_one (ps_for PassesOwn.never rfl (pi_list (pe_lst (pa_cons (pe_tup (pa_cons pe_int (pa_cons (pv 5) pa_nil))) (pa_cons (pe_tup (pa_cons pe_int (pa_cons (pv 5) pa_nil))) (pa_cons (pe_tup (pa_cons pe_int (pa_cons (pv 7) pa_nil))) (pa_cons (pe_tup (pa_cons pe_int (pa_cons (pv 8) pa_nil))) (pa_cons (pe_tup (pa_cons pe_int (pa_cons (pe_callTy call_tuple_of (by rfl) T.z_tuple (by decide +kernel) (pa_cons (pv 7) pa_nil)) pa_nil))) (pa_cons (pe_tup (pa_cons pe_int (pa_cons (pe_callTy call_tuple_of (by rfl) T.z_tuple (by decide +kernel) (pa_cons (pv 8) pa_nil)) pa_nil))) pa_nil)))))))) (pg_tup (by rfl) (pgs_cons (pg_name (i := 9) sc_Lright.nd rfl (.inl rfl)) (pgs_cons (pg_name (i := 10) sc_Lright.nd rfl (.inl rfl)) pgs_nil))) (pss_one (ps_if (pt_cmpR (op_neXL (hu100 hr)) (pe_call c_Ltold.G (hr.mono (by decide)) (by rfl) c_Ltold.g c_Ltold.kp c_Ltold.b .nil pass0 (pa_cons (pv 1) (pa_cons (pv 9) (pa_cons (pv 10) (pa_cons (pv 6) pa_nil))))) (pe_call c_Ltold_due.G (hr.mono (by decide)) (by rfl) c_Ltold_due.g c_Ltold_due.kp c_Ltold_due.b .nil pass0 (pa_cons (pv 2) (pa_cons (pv 9) (pa_cons (pv 10) (pa_cons (pv 6) pa_nil))))) (nomark _)) (pss_one (ps_ret pe_bl)) pss_nil)))))))))
      (pss_cons (ps_set (i := 11) sc_Lright.nd rfl (.inl rfl) (pe_meth0 (pv 1) W_Wishes.cl m_Wishes_ranks c_Wishes_ranks.G (hr.mono (by decide)) c_Wishes_ranks.b .nil pass0 ))
      (pss_cons (ps_if (PW.pt (pw_or (pt_not (pt_val (pe_callB call_isi (by rfl) T.z_isinstance (by decide +kernel) (pa_cons (pv 11) (pa_cons (pe_bltn (v := .ty "list") (by rfl) T.z_list (by decide +kernel) rfl) pa_nil))))) (pw_or1 (pt_cmpR (op_neDK (K := K) rfl hr.units) (pv 11) (pe_call c_Lranks.G (hr.mono (by decide)) (by rfl) c_Lranks.g c_Lranks.kp c_Lranks.b .nil pass0 (pa_cons (pv 2) pa_nil)) (nomark _))))) (pss_one (ps_ret pe_bl)) pss_nil)
      (pss_cons (ps_expr (pe_bm0 PySem.F.plainAttrs_list PySem.F.slot_list_clear PySem.F.type_list_clear mt_clear (pv 11) ))
      (pss_one (ps_ret (pe_cmpR (op_eqDK (K := K) rfl hr.units) (pe_meth0 (pv 1) W_Wishes.cl m_Wishes_ranks c_Wishes_ranks.G (hr.mono (by decide)) c_Wishes_ranks.b .nil pass0 ) (pe_call c_Lranks.G (hr.mono (by decide)) (by rfl) c_Lranks.g c_Lranks.kp c_Lranks.b .nil pass0 (pa_cons (pv 2) pa_nil)) (nomark _))))))))), ?_⟩
  refine fn_T (δ := Unit) (ψ := fun _ _ _ => []) h ?_ (fun s B G0 q => 
      (sv_seq (sv_asg (i := 3) (ve_frL (ve_op2 (ve_frL (ve_cb (va_cons (ve_v (rDct rInt) (q.2.1)) va_nil) vn_sortedD)) (ve_frL (ve_lstL rStr (fun a => [a.1, a.2.1, a.2.2.1]) (va_cons (ve_c rStr ("zz9" : Str) fun _ => rfl) (va_cons (ve_c rStr ("" : Str) fun _ => rfl) (va_cons (ve_op2 (ve_op2 (ve_frL (ve_cb (va_cons (ve_v (rDct rInt) (q.2.1)) va_nil) vn_sortedD)) (ve_c rInt 0 fun _ => rfl) v2_ixL) (ve_c rStr ("1" : Str) fun _ => rfl) v2_catS) va_nil))))) v2_catL)) PxLe.nil) fun l_menu_309 =>
      (sv_seq (sv_for (ψ := (fun s_311 : Unit => [.fr (rSt s), .fr ((rI_Wishes W_Wishes.C) (q.1)), .fr ((rDct rInt) (q.2.1)), .fr ((rLst rStr) (l_menu_309)), .un, .un, .un, .un, .un, .un, .un, .un, .un, .un])) (s0 := ()) (vi_range1 (ve_c rInt 4 fun _ => rfl)) PxLe.nil (Le.same (Le.same (Le.same (Le.same (Le.un (Le.un (Le.un (Le.un (Le.un (Le.un (Le.un (Le.un (Le.un (Le.un Le.nil)))))))))))))) (fun s_311 => (vg_name (i := 4))) (fun b_310 s_311 => (sv_seq (sv_asg (i := 5) (ve_op2 (ve_v (rLst rStr) (l_menu_309)) (ve_callFT rfl (va_st s (va_cons (ve_cb (va_cons (ve_v (rLst rStr) (l_menu_309)) va_nil) vn_lenL) va_nil))) v2_ixL) PxLe.nil) fun l_left_313 =>
      (sv_seq (sv_asg (i := 6) (ve_op2 (ve_v (rLst rStr) (l_menu_309)) (ve_callFT rfl (va_st s (va_cons (ve_cb (va_cons (ve_v (rLst rStr) (l_menu_309)) va_nil) vn_lenL) va_nil))) v2_ixL) PxLe.nil) fun l_right_here_315 =>
      (sv_seq (sv_asg (i := 7) (ve_frL (ve_lc (vs := [12]) (js := [12]) (vi_range1 (ve_callFT rfl (va_st s (va_cons (ve_c rInt 5 fun _ => rfl) va_nil)))) (hv1 rfl) (vg_name (i := 12)) (fun _ h => h) (fun b_317 => vt_yes) (fun b_317 => (ve_op2 (ve_v (rLst rStr) (l_menu_309)) (ve_callFT rfl (va_st s (va_cons (ve_cb (va_cons (ve_v (rLst rStr) (l_menu_309)) va_nil) vn_lenL) va_nil))) v2_ixL)))) PxLe.nil) fun l_labels_321 =>
      (sv_seq (sv_asg (i := 8) (ve_frL (ve_callFT rfl (va_st s (va_cons (ve_frL (ve_lc (vs := [13]) (js := [13]) (vi_list (ve_frL (ve_op2 (ve_frL (ve_cb (va_cons (ve_v (rDct rInt) (q.2.1)) va_nil) vn_sortedD)) (ve_frL (ve_cb (va_cons (ve_v (rDct rInt) (q.2.1)) va_nil) vn_sortedD)) v2_catL))) (hv1 rfl) (vg_name (i := 13)) (fun _ h => h) (fun b_324 => (vt_test (ve_op2 (ve_callFT rfl (va_st s (va_cons (ve_c rInt 2 fun _ => rfl) va_nil))) (ve_c rInt 1 fun _ => rfl) v2_eqI))) (fun b_324 => (ve_v rStr (b_324))))) va_nil)))) PxLe.nil) fun l_some_329 =>
      (sv_conv (χ := (fun s_311 : Unit => [.fr (rSt s), .fr ((rI_Wishes W_Wishes.C) (q.1)), .fr ((rDct rInt) (q.2.1)), .fr ((rLst rStr) (l_menu_309)), .un, .un, .un, .un, .un, .un, .un, .un, .un, .un])) (fun s_331 => ()) (sv_for (ψ := (fun s_331 : Unit => [.fr (rSt s), .fr ((rI_Wishes W_Wishes.C) (q.1)), .fr ((rDct rInt) (q.2.1)), .fr ((rLst rStr) (l_menu_309)), .fr (rInt (b_310)), .fr (rStr (l_left_313)), .fr (rStr (l_right_here_315)), .fr ((rLst rStr) (l_labels_321)), .fr ((rLst rStr) (l_some_329)), .un, .un, .un, .un, .un])) (s0 := ()) (vi_list (ve_frL (ve_lstL (rPr rInt rDat) (fun a => [a.1, a.2.1, a.2.2.1, a.2.2.2.1, a.2.2.2.2.1, a.2.2.2.2.2.1]) (va_cons (ve_tup2 (va_cons (ve_c rInt 0 fun _ => rfl) (va_cons (ve_dat (ve_v rStr (l_left_313))) va_nil))) (va_cons (ve_tup2 (va_cons (ve_c rInt 1 fun _ => rfl) (va_cons (ve_dat (ve_v rStr (l_left_313))) va_nil))) (va_cons (ve_tup2 (va_cons (ve_c rInt 2 fun _ => rfl) (va_cons (ve_dat (ve_v (rLst rStr) (l_labels_321))) va_nil))) (va_cons (ve_tup2 (va_cons (ve_c rInt 2 fun _ => rfl) (va_cons (ve_dat (ve_v (rLst rStr) (l_some_329))) va_nil))) (va_cons (ve_tup2 (va_cons (ve_c rInt 2 fun _ => rfl) (va_cons (ve_dat (ve_cb (va_cons (ve_v (rLst rStr) (l_labels_321)) va_nil) vn_tupL)) va_nil))) (va_cons (ve_tup2 (va_cons (ve_c rInt 2 fun _ => rfl) (va_cons (ve_dat (ve_cb (va_cons (ve_v (rLst rStr) (l_some_329)) va_nil) vn_tupL)) va_nil))) va_nil))))))))) PxLe.nil (Le.same (Le.same (Le.same (Le.same (Le.same (Le.same (Le.same (Le.same (Le.same (Le.un (Le.un (Le.un (Le.un (Le.un Le.nil)))))))))))))) (fun s_331 => (vg_pair (i := 9) (j := 10))) (fun b_330 s_331 => (sv_conv (χ := (fun s_331 : Unit => [.fr (rSt s), .fr ((rI_Wishes W_Wishes.C) (q.1)), .fr ((rDct rInt) (q.2.1)), .fr ((rLst rStr) (l_menu_309)), .fr (rInt (b_310)), .fr (rStr (l_left_313)), .fr (rStr (l_right_here_315)), .fr ((rLst rStr) (l_labels_321)), .fr ((rLst rStr) (l_some_329)), .un, .un, .un, .un, .un])) (fun s_334 => ()) (sv_if (vt_test (ve_op2 (ve_callF (va_cons (ve_v (rI_Wishes W_Wishes.C) (q.1)) (va_cons (ve_v rInt ((b_330).1)) (va_cons (ve_v rDat ((b_330).2)) (va_cons (ve_v rStr (l_right_here_315)) va_nil))))) (ve_callF (va_cons (ve_v (rDct rInt) (q.2.1)) (va_cons (ve_v rInt ((b_330).1)) (va_cons (ve_v rDat ((b_330).2)) (va_cons (ve_v rStr (l_right_here_315)) va_nil))))) v2_neXL)) PxLe.nil (sv_ret (ve_c rBl false fun _ => rfl) PxLe.nil) (sv_conv (χ := (fun s_334 : Unit => [.fr (rSt s), .fr ((rI_Wishes W_Wishes.C) (q.1)), .fr ((rDct rInt) (q.2.1)), .fr ((rLst rStr) (l_menu_309)), .fr (rInt (b_310)), .fr (rStr (l_left_313)), .fr (rStr (l_right_here_315)), .fr ((rLst rStr) (l_labels_321)), .fr ((rLst rStr) (l_some_329)), .fr (rInt ((b_330).1)), .fr (rDat ((b_330).2)), .un, .un, .un])) (fun _ => ()) sv_nil (fun _ => (Le.same (Le.same (Le.same (Le.same (Le.same (Le.same (Le.same (Le.same (Le.same (Le.same (Le.same (Le.un (Le.un (Le.un Le.nil))))))))))))))))) (fun s_334 => (Le.same (Le.same (Le.same (Le.same (Le.same (Le.same (Le.same (Le.same (Le.same (Le.un (Le.un (Le.un (Le.un (Le.un Le.nil)))))))))))))))))) (fun s_331 => (Le.same (Le.same (Le.same (Le.same (Le.un (Le.un (Le.un (Le.un (Le.un (Le.un (Le.un (Le.un (Le.un (Le.un Le.nil)))))))))))))))))))))) fun s_311 =>
      (sv_seq (sv_asg (i := 11) (ve_meth (ve_v (rI_Wishes W_Wishes.C) (q.1)) va_nil (hn := fun _ => nm_ne rfl)) PxLe.nil) fun l_ranks_here_337 =>
      (sv_seq (sv_if (vt_lend (i := 11) rfl cLst_show (vt_or (vt_not (vt_b (ve_isi_list_list (ve_v (rLst (rTup rStr)) (l_ranks_here_337))))) (vt_test (ve_op2 (ve_v (rLst (rTup rStr)) (l_ranks_here_337)) (ve_callF (va_cons (ve_v (rDct rInt) (q.2.1)) va_nil)) v2_neD)))) PxLe.nil (sv_ret (ve_c rBl false fun _ => rfl) PxLe.nil) (sv_conv (χ := (fun s_339 : Unit => [.fr (rSt s), .fr ((rI_Wishes W_Wishes.C) (q.1)), .fr ((rDct rInt) (q.2.1)), .fr ((rLst rStr) (l_menu_309)), .un, .un, .un, .un, .un, .un, .un, .ow (cLst (rTup rStr) (l_ranks_here_337)), .un, .un])) (fun _ => ()) sv_nil (fun _ => (Le.same (Le.same (Le.same (Le.same (Le.un (Le.un (Le.un (Le.un (Le.un (Le.un (Le.un (Le.same (Le.un (Le.un Le.nil))))))))))))))))) fun s_339 =>
      (sv_seq (sv_exprX (vx_clear (i := 11) PxLe.nil)) fun l_ranks_here_341 =>
      (sv_ret (ve_op2 (ve_frL (ve_meth (ve_v (rI_Wishes W_Wishes.C) (q.1)) va_nil (hn := fun _ => nm_ne rfl))) (ve_callF (va_cons (ve_v (rDct rInt) (q.2.1)) va_nil)) v2_eqD) PxLe.nil)))))))
  intro q; delta F_Lright Mi.compX Mi.neDG Mi.datDI Mi.cat Mi.fits Mi.neOt Mi.unO Mi.unT Mi.unD Mi.eqT0 Mi.sortSC Mi.maxD Mi.sortOut Mi.minS Mi.gput Mi.gset Mi.heldG Mi.endG Mi.eqG Mi.inOwn Mi.held2 Mi.end2 Mi.datSs Mi.neXL Mi.eqXL Mi.datP2 Mi.eqX Mi.inX Mi.datT Mi.popL Mi.pget Mi.pcomp Mi.whileL Mi.index Mi.datPI Mi.datAt Mi.datStr Mi.datInt Mi.datL Mi.four Mi.dcomp Mi.get Mi.pr Mi.neL Mi.neQ Mi.datTT Mi.datS Mi.inS Mi.niS Mi.sortSet Mi.insert Mi.dget Mi.comp2 Mi.exch Mi.two Mi.neD Mi.eqD Mi.inD Mi.inDT Mi.idx Mi.sgn Mi.rng Mi.comp Mi.join Mi.popAt Mi.popE Mi.sortI Mi.sortS Mi.sortD Mi.listD Mi.setL Mi.max Mi.min Mi.draw; rfl
abbrev N_law : List Str := ["_law_script", "_law_state", "_law_labels", "_law_turn", "_law_scale", "_law_given", "_law_passed", "_law_due_here", "_law_wishes", "_law_told_here", "_law_first", "_law_label"]
theorem sc_law : FnScope ["_law_script", "_law_state", "_law_labels", "_law_turn", "_law_scale", "_law_given", "_law_passed", "_law_due_here", "_law_wishes", "_law_told_here", "_law_first", "_law_label"] ["_law_script"] (defScope s_law) := ⟨rfl, rfl, rfl, by decide +kernel, rfl, by decide +kernel, by decide +kernel⟩
@[irreducible] def F_law : M Bool := M.ret ((M.bind (M.bind (M.bind (M.bind (M.nox (F_Ldraw (((9 : Int)), ()))) fun x_345 => (Mi.idx ([((1 : Int)), ((2 : Int)), ((3 : Int)), ((4 : Int)), ((5 : Int)), ((6 : Int)), ((6 : Int)), ((7 : Int)), ((0 : Int))]) (x_345))) fun x_346 => (M.nox (F_Lnames ((x_346), ())))) fun x_347 => (M.nox (F_Lorder ((x_347), ())))) fun l_labels_348 => (M.seq (M.bind (M.bind (M.bind (M.nox (F_Ldraw (((6 : Int)), ()))) fun x_349 => (Mi.idx ([((0 : Int)), ((0 : Int)), ((0 : Int)), ((0 : Int)), ((1 : Int)), ((2 : Int))]) (x_349))) fun x_350 => (Mi.rng 0 (x_350))) fun x_358 => (M.forL (fun b_351 s_352 => (M.bind (M.nox (Mi.neD (IsD.d (rLst rStr) (s_352)) (IsD.d (rLst rStr) (([] : List Str))))) fun x_357 => (M.ite (x_357) (M.bind (M.bind (M.bind (M.nox (F_Ldraw (((6 : Int)), ()))) fun x_353 => (Mi.idx ([(("" : Str)), (("X" : Str)), (("1a" : Str)), (("abcdefg" : Str)), (("aB" : Str)), (("a b" : Str))]) (x_353))) fun x_355 => (M.bind (M.nox (F_Ldraw ((((s_352).length : Int)), ()))) fun x_356 => (Mi.setL (s_352) (x_356) (x_355)))) fun l_labels_354 => (M.nx ((l_labels_354)))) (M.nx ((s_352)))))) (x_358) (l_labels_348))) fun s_352 => (M.bind (M.bind (M.bind (M.when (CPow ((10 : Int)) ((20 : Int))) (((10 : Int)) ^ ((20 : Int)).toNat)) fun x_359 => (M.pure ([((3 : Int)), ((10 : Int)), (x_359)]))) fun x_360 => (M.bind (M.nox (F_Ldraw (((3 : Int)), ()))) fun x_361 => (Mi.idx (x_360) (x_361)))) fun l_scale_362 => (M.bind (M.bind (Mi.comp (s_352) fun b_371 => (M.bind (M.bind (M.bind (M.bind (M.nox (F_Ldraw ((l_scale_362), ()))) fun x_373 => (M.bind (M.bind (M.nox (F_Ldraw (((2 : Int)), ()))) fun x_372 => (Mi.idx ([((1 : Int)), ((-((1 : Int))))]) (x_372))) fun x_374 => (M.when (CMulW (x_373) (x_374)) ((x_373) * (x_374))))) fun x_375 => (M.pure ((IsD.d rInt x_375)))) fun x_376 => (M.pure (((b_371), (x_376))))) fun x_377 => (M.pure ((some (x_377)))))) fun x_378 => (M.pure ((dOf [] (x_378))))) fun l_given_379 => (M.seq (M.bind (M.bind (M.bind (M.nox (F_Ldraw (((4 : Int)), ()))) fun x_380 => (Mi.idx ([((0 : Int)), ((0 : Int)), ((1 : Int)), ((2 : Int))]) (x_380))) fun x_381 => (Mi.rng 0 (x_381))) fun x_389 => (M.forL (fun b_382 s_383 => (M.bind (Mi.neD (IsD.d (rLst rStr) (s_352)) (IsD.d (rLst rStr) (([] : List Str)))) fun x_388 => (M.ite (x_388) (M.bind (M.bind (M.nox (F_Lodd ())) fun x_386 => (M.bind (M.bind (M.nox (F_Ldraw ((((s_352).length : Int)), ()))) fun x_384 => (Mi.idx (s_352) (x_384))) fun x_387 => (M.when ((s_383).length < sizeLine) (putD (s_383) (x_387) (x_386))))) fun l_given_385 => (M.nx ((l_given_385)))) (M.nx ((s_383)))))) (x_389) (l_given_379))) fun s_383 => (let l_passed_390 : (List (Str × PyData)) := s_383; (M.bind (M.nox (F_Ldue ((s_383), ()))) fun l_due_here_391 => (M.seq (M.bind (M.nox (M.bind (M.bind (M.nox (F_Lmade ((l_passed_390), ()))) fun x_392 => (Mi.neXL ((x_392).map (IsD.d rDat)) ((l_due_here_391).map (IsD.d rDat)))) fun x_393 => (M.ite (x_393) (M.pure true) ((Mi.neDG (IsD.d (rDct rDat) (l_passed_390)) (IsD.d (rDct rDat) (s_383))))))) fun x_395 => (M.ite (x_395) (M.rt (false)) (M.nx (())))) fun s_394 => (M.seq (M.bind (M.bind (Mi.idx (l_due_here_391) ((0 : Int))) fun x_396 => (Mi.neD (IsD.d rDat (x_396)) (IsD.d rStr (("wishes" : Str))))) fun x_398 => (M.ite (x_398) (M.rt (true)) (M.nx (())))) fun s_397 => (M.bind (M.nox (M.nox (F_WishesD_initD_n ((l_passed_390), ())))) fun l_wishes_399 => (M.bind (M.nox (F_Wishes_amounts ((l_wishes_399), ()))) fun l_told_here_401 => (M.bind (M.when ((l_told_here_401).length < sizeLine) (putD (l_told_here_401) (("zz9" : Str)) ((1 : Int)))) fun l_told_here_402 => (M.seq (M.bind (M.bind (M.bind (M.nox (F_Wishes_amounts ((l_wishes_399), ()))) fun x_405 => (Mi.neDG (IsD.d (rDct rInt) (x_405)) (IsD.d (rDct rDat) (s_383)))) fun x_406 => (M.ite (x_406) (M.pure true) ((M.bind (M.bind (Mi.datDI (s_383)) fun x_403 => (M.nox (F_Lright ((l_wishes_399), ((x_403), ()))))) fun x_404 => (M.pure ((!(x_404)))))))) fun x_408 => (M.ite (x_408) (M.rt (false)) (M.nx (())))) fun s_407 => (M.bind (M.bind (Mi.sortS ((s_383).map (·.1))) fun x_409 => (Mi.idx (x_409) ((0 : Int)))) fun l_first_410 => (M.bind (M.bind (M.bind (M.nox (F_Wishes_prefers ((l_wishes_399), ((l_first_410), ((l_first_410), ()))))) fun x_412 => (M.pure ((decide ((x_412) = (false)))))) fun x_413 => (M.ite (x_413) (M.bind (M.nox (F_Wishes_best ((l_wishes_399), (([(l_first_410)]), ())))) fun x_411 => (Mi.eqD (IsD.d (rTup rStr) (x_411)) (IsD.d (rTup rStr) ([(l_first_410)])))) (M.pure false))) fun x_414 => (M.rt (x_414))))))))))))))))) : M (Fl Bool Unit))
theorem ok_law {f : Addr} {fd : FuncData} (F : Fun K "law" "law" s_law f fd) (T : TxtB mg) (c_Lstart : Cal P w K mg base "_law_start" CX0 1 ["_law_script"] (spStart K)) (c_Ldraw : Cal P w K mg base "_law_draw" CX0 1 ["_law_state", "_law_size"] (spT mg K ([] : List (Addr × Str)) thV (fun s (q : Int × Unit) => [rSt s, rInt q.1]) F_Ldraw (Fz rInt))) (c_Lnames : Cal P w K mg base "_law_names" CX0 2 ["_law_state", "_law_count"] (spT mg K ([] : List (Addr × Str)) thV (fun s (q : Int × Unit) => [rSt s, rInt q.1]) F_Lnames (Ow (cLst rStr)))) (c_Lorder : Cal P w K mg base "_law_order" CX0 2 ["_law_state", "_law_items"] (spT mg K ([] : List (Addr × Str)) thV (fun s (q : (List Str) × Unit) => [rSt s, (rLst rStr) q.1]) F_Lorder (Ow (cLst rStr)))) (c_Lodd : Cal P w K mg base "_law_odd" CX0 2 ["_law_state"] (spT mg K ([] : List (Addr × Str)) thV (fun s (q : Unit) => [rSt s]) F_Lodd (Fz rDat))) (c_Ldue : Cal P w K mg base "_law_due" CX0 2 ["_law_given"] (spG mg K ([] : List (Addr × Str)) (fun q : (List (Str × PyData)) × Unit => [(rDct rDat) q.1]) F_Ldue (Fz (rLst rDat)))) (c_Lmade : Cal P w K mg base "_law_made" CX0 6 ["_law_given"] (spG mg K ([] : List (Addr × Str)) (fun q : (List (Str × PyData)) × Unit => [(rDct rDat) q.1]) F_Lmade (Fz (rLst rDat)))) (c_WishesD_initD_n : CalM P w K mg base (CX P w) 4 ["self", "amounts"] (spIN mg K ([] : List (Addr × Str)) W_Wishes.C (fun p0 (q : (List (Str × PyData)) × Unit ) => [(rDctAt p0 rDat) q.1]) F_WishesD_initD_n (fun p0 => cIN_Wishes p0 W_Wishes.C))) (m_Wishes_n : Mk K W_Wishes.C c_WishesD_initD_n.f) (c_Wishes_amounts : CalM P w K mg base CX0 1 ["self"] (spG mg K ([] : List (Addr × Str)) (fun q : d_Wishes × Unit => [(rI_Wishes W_Wishes.C) q.1]) F_Wishes_amounts (Ow (cDct rInt)))) (m_Wishes_amounts : Meth K W_Wishes.C "amounts" c_Wishes_amounts.f) (c_Lright : Cal P w K mg base "_law_right" CX0 8 ["_law_state", "_law_wishes", "_law_given"] (spT mg K ([] : List (Addr × Str)) thV (fun s (q : d_Wishes × (List (Str × Int)) × Unit) => [rSt s, (rI_Wishes W_Wishes.C) q.1, (rDct rInt) q.2.1]) F_Lright (Fz rBl))) (c_Wishes_best : CalM P w K mg base (CX P w) 5 ["self", "names"] (spG mg K ([] : List (Addr × Str)) (fun q : d_Wishes × (List Str) × Unit => [(rI_Wishes W_Wishes.C) q.1, (rSq rStr) q.2.1]) F_Wishes_best (Fz (rTup rStr)))) (m_Wishes_best : Meth K W_Wishes.C "best" c_Wishes_best.f) (c_Wishes_prefers : CalM P w K mg base (CX P w) 5 ["self", "one", "other"] (spG mg K ([] : List (Addr × Str)) (fun q : d_Wishes × Str × Str × Unit => [(rI_Wishes W_Wishes.C) q.1, rStr q.2.1, rStr q.2.2.1]) F_Wishes_prefers (Fz rBl))) (m_Wishes_prefers : Meth K W_Wishes.C "prefers" c_Wishes_prefers.f) (kc_WishesD_initD_n_1_amounts : KBinds K c_WishesD_initD_n.fd ["self", "amounts"] ["amounts"] (gP 1 1 [0, 1]) (gP 1 1 [0, 1])) (kc_Wishes_best_1_names : KBinds K c_Wishes_best.fd ["self", "names"] ["names"] (gP 1 1 [0, 1]) (gP 1 1 [0, 1])) (kc_Wishes_prefers_1_other_one : KBinds K c_Wishes_prefers.fd ["self", "one", "other"] ["other", "one"] (gP 1 2 [0, 2, 1]) (gP 1 2 [0, 2, 1])) (hlaw : ∀ Ψ, F_law (fun b _ => b = true) Ψ 0) : FnOk P w K mg base CX0 9 f fd ["_law_script"] (spLawT K ([] : List (Addr × Str))) := by
  refine F.ok sc_law spLawT_len (fun cdv A outer s H vs Q E hr h => ?_)
  refine ⟨_, (pss_cons (ps_set (i := 1) sc_law.nd rfl (.inr rfl) (pe_call c_Lstart.G (hr.mono (by decide)) (by rfl) c_Lstart.g c_Lstart.kp c_Lstart.b .nil pass0 (pa_cons (pv 0) pa_nil)))
      (pss_cons (ps_set (i := 2) sc_law.nd rfl (.inl rfl) (pe_call c_Lorder.G (hr.mono (by decide)) (by rfl) c_Lorder.g c_Lorder.kp c_Lorder.b .nil pass0 (pa_cons (pv 1) (pa_cons (pe_call c_Lnames.G (hr.mono (by decide)) (by rfl) c_Lnames.g c_Lnames.kp c_Lnames.b .nil pass0 (pa_cons (pv 1) (pa_cons (pe_ix ix_list (pe_lst (pa_cons pe_int (pa_cons pe_int (pa_cons pe_int (pa_cons pe_int (pa_cons pe_int (pa_cons pe_int (pa_cons pe_int (pa_cons pe_int (pa_cons pe_int pa_nil)))))))))) (pe_call c_Ldraw.G (hr.mono (by decide)) (by rfl) c_Ldraw.g c_Ldraw.kp c_Ldraw.b .nil pass0 (pa_cons (pv 1) (pa_cons pe_int pa_nil))) (fun _ _ => rfl)) pa_nil))) pa_nil))))
      (pss_cons (ps_for PassesOwn.never rfl (pi_range1 rfl T.z_range (pa_cons (pe_ix ix_list (pe_lst (pa_cons pe_int (pa_cons pe_int (pa_cons pe_int (pa_cons pe_int (pa_cons pe_int (pa_cons pe_int pa_nil))))))) (pe_call c_Ldraw.G (hr.mono (by decide)) (by rfl) c_Ldraw.g c_Ldraw.kp c_Ldraw.b .nil pass0 (pa_cons (pv 1) (pa_cons pe_int pa_nil))) (fun _ _ => rfl)) pa_nil)) (pg_name (i := 3) sc_law.nd rfl (.inl rfl)) (pss_one (ps_if (pt_cmpR (op_neDK (K := K) rfl hr.units) (pv 2) (pe_lst pa_nil) (nomark _)) (pss_one (ps_asg (pe_ix ix_list (pe_lst (pa_cons pe_str (pa_cons pe_str (pa_cons pe_str (pa_cons pe_str (pa_cons pe_str (pa_cons pe_str pa_nil))))))) (pe_call c_Ldraw.G (hr.mono (by decide)) (by rfl) c_Ldraw.g c_Ldraw.kp c_Ldraw.b .nil pass0 (pa_cons (pv 1) (pa_cons pe_int pa_nil))) (fun _ _ => rfl)) (pg_sub (pv 2) (pe_call c_Ldraw.G (hr.mono (by decide)) (by rfl) c_Ldraw.g c_Ldraw.kp c_Ldraw.b .nil pass0 (pa_cons (pv 1) (pa_cons (pe_callB call_len_seq (by rfl) T.z_len PySem.boot_len (pa_cons (pv 2) pa_nil)) pa_nil))) set_list))) pss_nil)))
      (pss_cons (ps_set (i := 4) sc_law.nd rfl (.inr rfl) (pe_ix ix_list (pe_lst (pa_cons pe_int (pa_cons pe_int (pa_cons (pe_op op_pow pe_int pe_int) pa_nil)))) (pe_call c_Ldraw.G (hr.mono (by decide)) (by rfl) c_Ldraw.g c_Ldraw.kp c_Ldraw.b .nil pass0 (pa_cons (pv 1) (pa_cons pe_int pa_nil))) (fun _ _ => rfl)))
      (pss_cons (ps_set (i := 5) sc_law.nd rfl (.inl rfl) (pe_callTy (call_dictP rfl) (by rfl) T.z_dict (by decide +kernel) (pa_cons (pe_lc (own := [("_law_label", 11)]) (g := gName 11) (tt := tYes) rfl sc_law.nd (pi_list (pv 2)) (blkOk_by (own := [("_law_label", 11)]) (N := N_law) (sc := defScope s_law) (by decide +kernel)) (fun _ _ _ _ _ => (pg_name (i := 11) sc_law.nd rfl (.inl rfl))) (fun _ _ _ _ _ => pts_nil) (fun _ _ _ _ _ => (pe_tup (pa_cons (pv 11) (pa_cons (pe_op op_mulW (pe_call c_Ldraw.G (hr.mono (by decide)) (by rfl) c_Ldraw.g c_Ldraw.kp c_Ldraw.b .nil pass0 (pa_cons (pv 1) (pa_cons (pv 4) pa_nil))) (pe_ix (ix_listF (K := K) rfl) (pe_lst (pa_cons pe_int (pa_cons (pe_un un_neg pe_int) pa_nil))) (pe_call c_Ldraw.G (hr.mono (by decide)) (by rfl) c_Ldraw.g c_Ldraw.kp c_Ldraw.b .nil pass0 (pa_cons (pv 1) (pa_cons pe_int pa_nil))) (fun _ _ => rfl))) pa_nil))))) pa_nil)))
      (pss_cons (ps_for PassesOwn.never rfl (pi_range1 rfl T.z_range (pa_cons (pe_ix ix_list (pe_lst (pa_cons pe_int (pa_cons pe_int (pa_cons pe_int (pa_cons pe_int pa_nil))))) (pe_call c_Ldraw.G (hr.mono (by decide)) (by rfl) c_Ldraw.g c_Ldraw.kp c_Ldraw.b .nil pass0 (pa_cons (pv 1) (pa_cons pe_int pa_nil))) (fun _ _ => rfl)) pa_nil)) (pg_name (i := 3) sc_law.nd rfl (.inl rfl)) (pss_one (ps_if (pt_cmpR (op_neDK (K := K) rfl hr.units) (pv 2) (pe_lst pa_nil) (nomark _)) (pss_one (ps_dput (hu_of hr) (pv 5) (pe_ix ix_list (pv 2) (pe_call c_Ldraw.G (hr.mono (by decide)) (by rfl) c_Ldraw.g c_Ldraw.kp c_Ldraw.b .nil pass0 (pa_cons (pv 1) (pa_cons (pe_callB call_len_seq (by rfl) T.z_len PySem.boot_len (pa_cons (pv 2) pa_nil)) pa_nil))) (fun _ _ => rfl)) (pe_call c_Lodd.G (hr.mono (by decide)) (by rfl) c_Lodd.g c_Lodd.kp c_Lodd.b .nil pass0 (pa_cons (pv 1) pa_nil)) rfl)) pss_nil)))
      (pss_cons (ps_set (i := 6) sc_law.nd rfl (.inl rfl) (pe_callTy call_dictD (by rfl) T.z_dict (by decide +kernel) (pa_cons (pv 5) pa_nil)))
      (pss_cons (ps_set (i := 7) sc_law.nd rfl (.inl rfl) (pe_call c_Ldue.G (hr.mono (by decide)) (by rfl) c_Ldue.g c_Ldue.kp c_Ldue.b .nil pass0 (pa_cons (pv 5) pa_nil)))
      (pss_cons (ps_if (PW.pt (pw_or (pt_cmpR (op_neXL (hu100 hr)) (pe_call c_Lmade.G (hr.mono (by decide)) (by rfl) c_Lmade.g c_Lmade.kp c_Lmade.b .nil pass0 (pa_cons (pv 6) pa_nil)) (pv 7) (nomark _)) (pw_or1 (pt_cmpR (op_neDG (hu100 hr)) (pv 6) (pv 5) (nomark _))))) (pss_one (ps_ret pe_bl)) pss_nil)
      (pss_cons (ps_if (pt_cmpR (op_neDK (K := K) rfl hr.units) (pe_ix ix_list (pv 7) pe_int (fun _ _ => rfl)) pe_str (nomark _)) (pss_one (ps_ret pe_bl)) pss_nil)
      (pss_cons (ps_set (i := 8) sc_law.nd rfl (.inl rfl) (pe_makeK0 m_Wishes_n c_WishesD_initD_n.G (hr.mono (by decide)) rfl W_Wishes.g (kbn_of kc_WishesD_initD_n_1_amounts (by decide) rfl rfl) passF (pk_cons (pv 6) pk_nil)))
      (pss_cons (ps_expr (pe_bm0 PySem.F.plainAttrs_dict PySem.F.slot_dict_clear PySem.F.type_dict_clear mtd_clear (pv 6) ))
      (pss_cons (ps_set (i := 9) sc_law.nd rfl (.inl rfl) (pe_meth0 (pv 8) W_Wishes.cl m_Wishes_amounts c_Wishes_amounts.G (hr.mono (by decide)) c_Wishes_amounts.b .nil pass0 ))
      (pss_cons (ps_dput (hu_of hr) (pv 9) pe_str pe_int rfl)
      (pss_cons (ps_if (PW.pt (pw_or (pt_cmpR (op_neDG (hu100 hr)) (pe_meth0 (pv 8) W_Wishes.cl m_Wishes_amounts c_Wishes_amounts.G (hr.mono (by decide)) c_Wishes_amounts.b .nil pass0 ) (pv 5) (nomark _)) (pw_or1 (pt_not (pt_val (pe_call c_Lright.G (hr.mono (by decide)) (by rfl) c_Lright.g c_Lright.kp c_Lright.b .nil pass0 (pa_cons (pv 1) (pa_cons (pv 8) (pa_cons (pv 5) pa_nil))))))))) (pss_one (ps_ret pe_bl)) pss_nil)
      (pss_cons (ps_set (i := 10) sc_law.nd rfl (.inl rfl) (pe_ix ix_list (pe_callB (call_sortedD rfl) (by rfl) T.z_sorted (by decide +kernel) (pa_cons (pv 5) pa_nil)) pe_int (fun _ _ => rfl)))
      (pss_one (ps_ret (pe_and (pe_cmpR op_isBl (pe_methK0 (pv 8) W_Wishes.cl m_Wishes_prefers c_Wishes_prefers.G (hr.mono (by decide)) kc_Wishes_prefers_1_other_one passF (pk_cons (pv 10) (pk_cons (pv 10) pk_nil))) pe_bl (nomark _)) (pe_one (pe_cmpR (op_eqDK (K := K) rfl hr.units) (pe_methK0 (pv 8) W_Wishes.cl m_Wishes_best c_Wishes_best.G (hr.mono (by decide)) kc_Wishes_best_1_names passF (pk_cons (pe_lst (pa_cons (pv 10) pa_nil)) pk_nil)) (pe_tup (pa_cons (pv 10) pa_nil)) (nomark _)))))))))))))))))))))), ?_⟩
  refine law_T (δ := Unit) (ψ := fun _ => []) h (fun s B G0 =>
      (sv_seq (sv_asg (i := 2) (ve_callFT rfl (va_st s (va_cons (ve_frL (ve_callFT rfl (va_st s (va_cons (ve_op2 (ve_frL (ve_lstL rInt (fun a => [a.1, a.2.1, a.2.2.1, a.2.2.2.1, a.2.2.2.2.1, a.2.2.2.2.2.1, a.2.2.2.2.2.2.1, a.2.2.2.2.2.2.2.1, a.2.2.2.2.2.2.2.2.1]) (va_cons (ve_c rInt 1 fun _ => rfl) (va_cons (ve_c rInt 2 fun _ => rfl) (va_cons (ve_c rInt 3 fun _ => rfl) (va_cons (ve_c rInt 4 fun _ => rfl) (va_cons (ve_c rInt 5 fun _ => rfl) (va_cons (ve_c rInt 6 fun _ => rfl) (va_cons (ve_c rInt 6 fun _ => rfl) (va_cons (ve_c rInt 7 fun _ => rfl) (va_cons (ve_c rInt 0 fun _ => rfl) va_nil))))))))))) (ve_callFT rfl (va_st s (va_cons (ve_c rInt 9 fun _ => rfl) va_nil))) v2_ixL) va_nil)))) va_nil))) PxLe.nil) fun l_labels_348 =>
      (sv_seq (sv_for (ψ := (fun s_352 : (List Str) => [.un, .fr (rSt s), .ow (cLst rStr (s_352)), .un, .un, .un, .un, .un, .un, .un, .un, .un])) (s0 := (l_labels_348)) (vi_range1 (ve_op2 (ve_frL (ve_lstL rInt (fun a => [a.1, a.2.1, a.2.2.1, a.2.2.2.1, a.2.2.2.2.1, a.2.2.2.2.2.1]) (va_cons (ve_c rInt 0 fun _ => rfl) (va_cons (ve_c rInt 0 fun _ => rfl) (va_cons (ve_c rInt 0 fun _ => rfl) (va_cons (ve_c rInt 0 fun _ => rfl) (va_cons (ve_c rInt 1 fun _ => rfl) (va_cons (ve_c rInt 2 fun _ => rfl) va_nil)))))))) (ve_callFT rfl (va_st s (va_cons (ve_c rInt 6 fun _ => rfl) va_nil))) v2_ixL)) PxLe.nil (Le.un (Le.same (Le.same (Le.un (Le.un (Le.un (Le.un (Le.un (Le.un (Le.un (Le.un (Le.un Le.nil)))))))))))) (fun s_352 => (vg_name (i := 3))) (fun b_351 s_352 => (sv_if (vt_lend (i := 2) rfl cLst_show (vt_test (ve_op2 (ve_v (rLst rStr) (s_352)) (ve_frL (ve_lstL rStr (fun _ => ([] : List Str)) va_nil)) v2_neD))) PxLe.nil (sv_conv (χ := (fun s_352 : (List Str) => [.un, .fr (rSt s), .ow (cLst rStr (s_352)), .un, .un, .un, .un, .un, .un, .un, .un, .un])) (fun l_labels_354 => (l_labels_354)) (sv_setL (i := 2) (ve_op2 (ve_frL (ve_lstL rStr (fun a => [a.1, a.2.1, a.2.2.1, a.2.2.2.1, a.2.2.2.2.1, a.2.2.2.2.2.1]) (va_cons (ve_c rStr ("" : Str) fun _ => rfl) (va_cons (ve_c rStr ("X" : Str) fun _ => rfl) (va_cons (ve_c rStr ("1a" : Str) fun _ => rfl) (va_cons (ve_c rStr ("abcdefg" : Str) fun _ => rfl) (va_cons (ve_c rStr ("aB" : Str) fun _ => rfl) (va_cons (ve_c rStr ("a b" : Str) fun _ => rfl) va_nil)))))))) (ve_callFT rfl (va_st s (va_cons (ve_c rInt 6 fun _ => rfl) va_nil))) v2_ixL) (ve_callFT rfl (va_st s (va_cons (ve_lend (i := 2) rfl cLst_show flat_int (ve_cb (va_cons (ve_v (rLst rStr) (s_352)) va_nil) vn_lenL)) va_nil))) PxLe.nil) (fun l_labels_354 => (Le.un (Le.same (Le.same (Le.un (Le.un (Le.un (Le.un (Le.un (Le.un (Le.un (Le.un (Le.un Le.nil)))))))))))))) (sv_conv (χ := (fun s_352 : (List Str) => [.un, .fr (rSt s), .ow (cLst rStr (s_352)), .un, .un, .un, .un, .un, .un, .un, .un, .un])) (fun () => (s_352)) sv_nil (fun () => (Le.un (Le.same (Le.same (Le.un (Le.un (Le.un (Le.un (Le.un (Le.un (Le.un (Le.un (Le.un Le.nil))))))))))))))))) fun s_352 =>
      (sv_seq (sv_asg (i := 4) (ve_op2 (ve_frL (ve_lstL rInt (fun a => [a.1, a.2.1, a.2.2.1]) (va_cons (ve_c rInt 3 fun _ => rfl) (va_cons (ve_c rInt 10 fun _ => rfl) (va_cons (ve_op2 (ve_c rInt 10 fun _ => rfl) (ve_c rInt 20 fun _ => rfl) v2_pow) va_nil))))) (ve_callFT rfl (va_st s (va_cons (ve_c rInt 3 fun _ => rfl) va_nil))) v2_ixL) PxLe.nil) fun l_scale_362 =>
      (sv_showL 2 rfl (sv_seq (sv_asg (i := 5) (ve_cb (va_cons (ve_frL (ve_lc (vs := [11]) (js := [11]) (vi_list (ve_v (rLst rStr) (s_352))) (hv1 rfl) (vg_name (i := 11)) (fun _ h => h) (fun b_371 => vt_yes) (fun b_371 => (ve_tup2 (va_cons (ve_v rStr (b_371)) (va_cons (ve_dat (ve_op2 (ve_callFT rfl (va_st s (va_cons (ve_v rInt (l_scale_362)) va_nil))) (ve_op2 (ve_frL (ve_lstL rInt (fun a => [a.1, a.2.1]) (va_cons (ve_c rInt 1 fun _ => rfl) (va_cons (ve_un (ve_c rInt 1 fun _ => rfl) v1_neg) va_nil)))) (ve_callFT rfl (va_st s (va_cons (ve_c rInt 2 fun _ => rfl) va_nil))) v2_ixL) v2_mul)) va_nil)))))) va_nil) (vn_dictPr (K := K) rfl)) PxLe.nil) fun l_given_379 =>
      (sv_seq (sv_for (ψ := (fun s_383 : (List (Str × PyData)) => [.un, .fr (rSt s), .fr ((rLst rStr) (s_352)), .un, .fr (rInt (l_scale_362)), .ow (cDct rDat (s_383)), .un, .un, .un, .un, .un, .un])) (s0 := (l_given_379)) (vi_range1 (ve_op2 (ve_frL (ve_lstL rInt (fun a => [a.1, a.2.1, a.2.2.1, a.2.2.2.1]) (va_cons (ve_c rInt 0 fun _ => rfl) (va_cons (ve_c rInt 0 fun _ => rfl) (va_cons (ve_c rInt 1 fun _ => rfl) (va_cons (ve_c rInt 2 fun _ => rfl) va_nil)))))) (ve_callFT rfl (va_st s (va_cons (ve_c rInt 4 fun _ => rfl) va_nil))) v2_ixL)) PxLe.nil (Le.un (Le.same (Le.same (Le.un (Le.same (Le.same (Le.un (Le.un (Le.un (Le.un (Le.un (Le.un Le.nil)))))))))))) (fun s_383 => (vg_name (i := 3))) (fun b_382 s_383 => (sv_if (vt_test (ve_op2 (ve_v (rLst rStr) (s_352)) (ve_frL (ve_lstL rStr (fun _ => ([] : List Str)) va_nil)) v2_neD)) PxLe.nil (sv_conv (χ := (fun s_383 : (List (Str × PyData)) => [.un, .fr (rSt s), .fr ((rLst rStr) (s_352)), .un, .fr (rInt (l_scale_362)), .ow (cDct rDat (s_383)), .un, .un, .un, .un, .un, .un])) (fun l_given_385 => (l_given_385)) (sv_dput (i := 5) (ve_callFT rfl (va_st s va_nil)) (ve_op2 (ve_v (rLst rStr) (s_352)) (ve_callFT rfl (va_st s (va_cons (ve_cb (va_cons (ve_v (rLst rStr) (s_352)) va_nil) vn_lenL) va_nil))) v2_ixL) PxLe.nil) (fun l_given_385 => (Le.un (Le.same (Le.same (Le.un (Le.same (Le.same (Le.un (Le.un (Le.un (Le.un (Le.un (Le.un Le.nil)))))))))))))) (sv_conv (χ := (fun s_383 : (List (Str × PyData)) => [.un, .fr (rSt s), .fr ((rLst rStr) (s_352)), .un, .fr (rInt (l_scale_362)), .ow (cDct rDat (s_383)), .un, .un, .un, .un, .un, .un])) (fun () => (s_383)) sv_nil (fun () => (Le.un (Le.same (Le.same (Le.un (Le.same (Le.same (Le.un (Le.un (Le.un (Le.un (Le.un (Le.un Le.nil))))))))))))))))) fun s_383 =>
      (sv_showD 5 rfl (sv_seq (sv_asg (i := 6) (ve_cb (va_cons (ve_v (rDct rDat) (s_383)) va_nil) vn_dictD) PxLe.nil) fun l_passed_390 =>
      (sv_seq (sv_asg (i := 7) (ve_callF (va_cons (ve_v (rDct rDat) (s_383)) va_nil)) PxLe.nil) fun l_due_here_391 =>
      (sv_seq (sv_if (vt_lend (i := 6) rfl cDct_show (vt_or (vt_test (ve_op2 (ve_callF (va_cons (ve_v (rDct rDat) (l_passed_390)) va_nil)) (ve_v (rLst rDat) (l_due_here_391)) v2_neXL)) (vt_test (ve_op2 (ve_v (rDct rDat) (l_passed_390)) (ve_v (rDct rDat) (s_383)) v2_neDG)))) PxLe.nil (sv_ret (ve_c rBl false fun _ => rfl) PxLe.nil) (sv_conv (χ := (fun s_394 : Unit => [.un, .fr (rSt s), .fr ((rLst rStr) (s_352)), .un, .fr (rInt (l_scale_362)), .fr ((rDct rDat) (s_383)), .ow (cDct rDat (l_passed_390)), .fr ((rLst rDat) (l_due_here_391)), .un, .un, .un, .un])) (fun _ => ()) sv_nil (fun _ => (Le.un (Le.same (Le.same (Le.un (Le.same (Le.same (Le.same (Le.same (Le.un (Le.un (Le.un (Le.un Le.nil))))))))))))))) fun s_394 =>
      (sv_seq (sv_if (vt_test (ve_op2 (ve_op2 (ve_v (rLst rDat) (l_due_here_391)) (ve_c rInt 0 fun _ => rfl) v2_ixL) (ve_c rStr ("wishes" : Str) fun _ => rfl) v2_neD)) PxLe.nil (sv_ret (ve_c rBl true fun _ => rfl) PxLe.nil) (sv_conv (χ := (fun s_397 : Unit => [.un, .fr (rSt s), .fr ((rLst rStr) (s_352)), .un, .fr (rInt (l_scale_362)), .fr ((rDct rDat) (s_383)), .ow (cDct rDat (l_passed_390)), .fr ((rLst rDat) (l_due_here_391)), .un, .un, .un, .un])) (fun _ => ()) sv_nil (fun _ => (Le.un (Le.same (Le.same (Le.un (Le.same (Le.same (Le.same (Le.same (Le.un (Le.un (Le.un (Le.un Le.nil))))))))))))))) fun s_397 =>
      (sv_seq (sv_asg (i := 8) (ve_frI (ve_makeKN (i := 6) (gV := gP 1 1 [0, 1]) (fun (b : ((List (Str × PyData))) × Unit) => (b.1, ())) rfl lfN_Wishes (fun p0 => va_cons (ve_v (rDctAt p0 rDat) (l_passed_390)) va_nil) (fun _ _ => rfl) (fun p0 x b zs G r => match zs, r with | _, (.cons q0 .nil) => ⟨_, rfl, (.cons q0 .nil)⟩))) PxLe.nil) fun l_wishes_399 =>
      (sv_seq (sv_exprX (vx_clearD (i := 6) PxLe.nil)) fun l_passed_400 =>
      (sv_seq (sv_asg (i := 9) (ve_meth (ve_v (rI_Wishes W_Wishes.C) (l_wishes_399)) va_nil (hn := fun _ => nm_ne rfl)) PxLe.nil) fun l_told_here_401 =>
      (sv_seq (sv_dput (i := 9) (ve_c rInt 1 fun _ => rfl) (ve_c rStr ("zz9" : Str) fun _ => rfl) PxLe.nil) fun l_told_here_402 =>
      (sv_seq (sv_if (vt_or (vt_test (ve_op2 (ve_frD (ve_meth (ve_v (rI_Wishes W_Wishes.C) (l_wishes_399)) va_nil (hn := fun _ => nm_ne rfl))) (ve_v (rDct rDat) (s_383)) v2_neDG)) (vt_not (vt_b (ve_callFT rfl (va_st s (va_cons (ve_v (rI_Wishes W_Wishes.C) (l_wishes_399)) (va_cons (ve_dctI (ve_v (rDct rDat) (s_383))) va_nil))))))) PxLe.nil (sv_ret (ve_c rBl false fun _ => rfl) PxLe.nil) (sv_conv (χ := (fun s_407 : Unit => [.un, .fr (rSt s), .fr ((rLst rStr) (s_352)), .un, .fr (rInt (l_scale_362)), .fr ((rDct rDat) (s_383)), .ow (cDct rDat (([] : (List (Str × PyData))))), .fr ((rLst rDat) (l_due_here_391)), .fr ((rI_Wishes W_Wishes.C) (l_wishes_399)), .ow (cDct rInt (l_told_here_402)), .un, .un])) (fun _ => ()) sv_nil (fun _ => (Le.un (Le.same (Le.same (Le.un (Le.same (Le.same (Le.same (Le.same (Le.same (Le.same (Le.un (Le.un Le.nil))))))))))))))) fun s_407 =>
      (sv_seq (sv_asg (i := 10) (ve_op2 (ve_frL (ve_cb (va_cons (ve_v (rDct rDat) (s_383)) va_nil) vn_sortedD)) (ve_c rInt 0 fun _ => rfl) v2_ixL) PxLe.nil) fun l_first_410 =>
      (sv_ret (ve_and (ve_op2 (ve_methK (gV := gP 1 2 [0, 2, 1]) (fun (a : d_Wishes) (b : (Str) × (Str) × Unit) => (a, (b.2.1, (b.1, ())))) (ve_v (rI_Wishes W_Wishes.C) (l_wishes_399)) (va_cons (ve_v rStr (l_first_410)) (va_cons (ve_v rStr (l_first_410)) va_nil)) (fun a b v zs G r1 r2 => match zs, r2 with | _, (.cons q0 (.cons q1 .nil)) => .cons r1 (.cons q1 (.cons q0 .nil))) (fun _ => nm_ne rfl)) (ve_c rBl false fun _ => rfl) v2_isBl) (ve_op2 (ve_methK (gV := gP 1 1 [0, 1]) (fun (a : d_Wishes) (b : (List Str) × Unit) => (a, b)) (ve_v (rI_Wishes W_Wishes.C) (l_wishes_399)) (va_cons (ve_sqL (ve_frL (ve_lstL rStr (fun a => [a.1]) (va_cons (ve_v rStr (l_first_410)) va_nil)))) va_nil) (fun a b v zs G r1 r2 => match zs, r2 with | _, .cons q0 .nil => .cons r1 (.cons q0 .nil)) (fun _ => nm_ne rfl)) (ve_tupL rStr (fun a => [a.1]) (va_cons (ve_v rStr (l_first_410)) va_nil)) v2_eqD)) PxLe.nil))))))))))))))))))) ?_
  delta F_law Mi.compX Mi.neDG Mi.datDI Mi.cat Mi.fits Mi.neOt Mi.unO Mi.unT Mi.unD Mi.eqT0 Mi.sortSC Mi.maxD Mi.sortOut Mi.minS Mi.gput Mi.gset Mi.heldG Mi.endG Mi.eqG Mi.inOwn Mi.held2 Mi.end2 Mi.datSs Mi.neXL Mi.eqXL Mi.datP2 Mi.eqX Mi.inX Mi.datT Mi.popL Mi.pget Mi.pcomp Mi.whileL Mi.index Mi.datPI Mi.datAt Mi.datStr Mi.datInt Mi.datL Mi.four Mi.dcomp Mi.get Mi.pr Mi.neL Mi.neQ Mi.datTT Mi.datS Mi.inS Mi.niS Mi.sortSet Mi.insert Mi.dget Mi.comp2 Mi.exch Mi.two Mi.neD Mi.eqD Mi.inD Mi.inDT Mi.idx Mi.sgn Mi.rng Mi.comp Mi.join Mi.popAt Mi.popE Mi.sortI Mi.sortS Mi.sortD Mi.listD Mi.setL Mi.max Mi.min Mi.draw at hlaw; exact hlaw
end
end K03
namespace VL
open PySem PySem.Spec PyProof.Rows L2
/-! ### each line once -/
/-! ### a row for a row and a row -/
section
variable {ws0 ws1 : List Str} {h0 w0 h1 w1 : Nat} {g0 g1 : List (List Str)} {a : Str}
/-- some row with all its items there -/
def hasRow (g : List (List Str)) (p : Str → Prop) : Prop := ∃ r ∈ g, ∀ x ∈ r, p x
def hasCol (g : List (List Str)) (w : Nat) (p : Str → Prop) : Prop := ∃ j < w, ∀ r ∈ g, ∀ x, r[j]? = some x → p x
end
end VL
namespace VL
open PySem PySem.Spec PyProof.Rows L2
/-! ### all sets -/
def sets0 (names : List Str) : List (List Str) := names.foldl (fun s b => s ++ s.map (· ++ [b])) [[]]
theorem foldl_sets (names : List Str) : ∀ s : List (List Str), (names.foldl (fun s b => s ++ s.map (· ++ [b])) s).length = s.length * 2 ^ names.length := by
  induction names with
  | nil => intro s; simp
  | cons b names ih =>
    intro s
    rw [List.foldl_cons, ih, List.length_append, List.length_map, List.length_cons, Nat.pow_succ]
    rw [← Nat.mul_two, Nat.mul_assoc, Nat.mul_comm 2]
theorem sets0_len (names : List Str) : (sets0 names).length = 2 ^ names.length := by
  unfold sets0
  rw [foldl_sets]
  simp
theorem sets_sub : ∀ (names pre : List Str) (s : List (List Str)), (∀ c ∈ s, c.Sublist pre) → ∀ c ∈ names.foldl (fun s b => s ++ s.map (· ++ [b])) s, c.Sublist (pre ++ names)
  | [], pre, s, h, c, hc => by simpa using h c hc
  | b :: names, pre, s, h, c, hc => by
    have := sets_sub names (pre ++ [b]) (s ++ s.map (· ++ [b])) (fun d hd => by
      rcases List.mem_append.mp hd with hd | hd
      · exact (h d hd).trans (List.sublist_append_left _ _)
      · obtain ⟨e, he, rfl⟩ := List.mem_map.mp hd
        exact (h e he).append (List.Sublist.refl _)) c hc
    simpa using this
theorem sets0_sub {names : List Str} {c : List Str} (h : c ∈ sets0 names) : c.Sublist names := by
  have := sets_sub names [] [[]] (fun c hc => by rw [show c = [] by simpa using hc]; exact List.Sublist.refl _) c h
  simpa using this
theorem sortLK_mem {xs : List (List Str)} {c : List Str} : c ∈ sortLK xs ↔ c ∈ xs := (List.mergeSort_perm _ _).mem_iff
theorem Srt.sub {o c : List Str} (ho : Srt o) (h : c.Sublist o) : Srt c := ⟨ho.nd.sublist h, sorted_of ((sorted_pw ho.so).sublist h)⟩
end VL
namespace VL
open PySem PySem.Spec PyProof.Rows L2
/-! ### there are sorted names -/
theorem leS_total (a b : Str) : LeS a b ∨ LeS b a := by rw [leS_iff, leS_iff]; exact List.le_total _ _
/-! ### each line once: one more -/
theorem take_snoc {α : Type} {xs : List α} {i : Nat} {x : α} (h : xs[i]? = some x) : xs.take (i + 1) = xs.take i ++ [x] := by
  rw [List.take_succ, h]; rfl
/-! ### comprehensions over two -/
end VL
namespace VL
open PySem PySem.Spec PyProof.Rows L2
section
variable {Ψ : Exc → Nat → Prop} {n : Nat}
def cI (g : List (List Str)) (i j : Int) : Str := (VL.cell g i.toNat j.toNat).getD default
def rb (g : List (List Str)) (r s c d : Int) : Bool := (!decide (cI g r c = cI g r d) && !decide (cI g s c = cI g s d)) && (!decide (cI g r c = cI g s c) && !decide (cI g r d = cI g s d))
end
/-! ### rough, by the lines -/
/-! ### firm, by the lines -/
def Firm (g : List (List Str)) (w : Nat) : Prop := ∀ p : Str → Prop, hasRow g p ∨ hasCol g w fun x => ¬ p x
/-! ### the gap -/
def frc (ls : List (List Str)) (c : List Str) : Bool := ls.any fun l => l.all fun x => decide (x ∈ c)
def oth (o c : List Str) : List Str := o.filter fun x => !decide (x ∈ c)
/-! ### the kind -/
end VL
namespace VL
open PySem PySem.Spec PyProof.Rows L2
/-! ### two tables side by side -/
/-! ### a firm table has a stable cell -/
end VL
namespace VL
open PySem PySem.Spec PyProof.Rows L2
/-! ### least and greatest numbers, worths -/
def mx : List Int → Int
  | [] => 0
  | [x] => x
  | x :: y :: r => if mx (y :: r) ≤ x then x else mx (y :: r)
theorem nx_i {ρ α : Type} {a : α} {Φ : Fl ρ α → Nat → Prop} {Ψ : Exc → Nat → Prop} {n : Nat} (k : Φ (.nx a) n) : M.nx a Φ Ψ n := k
section
variable {ws : List Str} {h w : Nat} {g : List (List Str)} {u : Str → Int}
theorem Grid.ne (G : Grid ws h w g) (h1 : 1 ≤ h) : g ≠ [] := by intro e; subst e; have h2 := G.len; rw [List.length_nil] at h2; omega
end
end VL
namespace VL
open PySem PySem.Spec PyProof.Rows L2
end VL
namespace VL
open PySem PySem.Spec PyProof.Rows L2
/-! ### all the ways to choose -/
def InR : List Int → List Nat → Prop
  | [], [] => True
  | k :: t, s :: r => (0 ≤ k ∧ k < (s : Int)) ∧ InR t r
  | _, _ => False
theorem InR.at_ : ∀ {w : List Int} {ss : List Nat} {i s : Nat}, InR w ss → ss[i]? = some s → ∃ k, w[i]? = some k ∧ 0 ≤ k ∧ k < (s : Int)
  | [], [], _, _, _, h => by simp at h
  | k :: w, s :: ss, 0, t, h, e => by
    have e : s = t := Option.some.inj e
    subst e; exact ⟨k, rfl, h.1.1, h.1.2⟩
  | k :: w, s :: ss, i + 1, t, h, e => InR.at_ (w := w) (ss := ss) (i := i) h.2 e
  | [], _ :: _, _, _, h, _ => h.elim
  | _ :: _, [], _, _, h, _ => h.elim
theorem InR.len : ∀ {w : List Int} {ss : List Nat}, InR w ss → w.length = ss.length
  | [], [], _ => rfl
  | _ :: w, _ :: ss, h => by rw [List.length_cons, List.length_cons, InR.len h.2]
  | [], _ :: _, h => h.elim
  | _ :: _, [], h => h.elim
/-! ### parts side by side -/
/-- tables of the parts, their widths, their outcomes -/
inductive PT : List (List (List Str)) → List Nat → List (List Str) → Prop
  | nil : PT [] [] []
  | cons {g gs w ws u us h} (G : Grid u h w g) (F : Firm g w) (h1 : 1 ≤ h) (h2 : h ≤ 2 ^ u.length) (w1 : 1 ≤ w) (w2 : w ≤ 2 ^ u.length) (u1 : 1 ≤ u.length) (r : PT gs ws us) : PT (g :: gs) (w :: ws) (u :: us)
theorem PT.at_ {gs : List (List (List Str))} {ws : List Nat} {us : List (List Str)} (p : PT gs ws us) : ∀ {i : Nat} {g : List (List Str)}, gs[i]? = some g → ∃ w u h, ws[i]? = some w ∧ us[i]? = some u ∧ Grid u h w g ∧ Firm g w ∧ 1 ≤ h ∧ h ≤ 2 ^ u.length ∧ 1 ≤ w ∧ w ≤ 2 ^ u.length ∧ 1 ≤ u.length := by
  induction p with
  | nil => intro i g h; simp at h
  | cons G F h1 h2 w1 w2 u1 r ih =>
    intro i g h
    cases i with
    | zero => cases h; exact ⟨_, _, _, rfl, rfl, G, F, h1, h2, w1, w2, u1⟩
    | succ i => exact ih (i := i) h
theorem PT.len {gs : List (List (List Str))} {ws : List Nat} {us : List (List Str)} (p : PT gs ws us) : gs.length = ws.length ∧ gs.length = us.length := by
  induction p with
  | nil => exact ⟨rfl, rfl⟩
  | cons _ _ _ _ _ _ _ _ ih => exact ⟨by simp [ih.1], by simp [ih.2]⟩
/-! ### trees as data -/
def otherS (s : Str) : Str := if s = ("rows" : Str) then "columns" else "rows"
inductive TD : Nat → Str → List Str → PyData → Prop
  | leaf {m : Nat} {s x : Str} : TD (m + 1) s [x] (.str x)
  | join {m : Nat} {s : Str} {us : List Str} {gs : List (List Str)} {ts : List PyData} (hs : s = ("rows" : Str) ∨ s = "columns") (h2 : 2 ≤ gs.length) (hl : gs.length = ts.length) (ne : ∀ g ∈ gs, 1 ≤ g.length) (p : gs.flatten.Perm us) (h : ∀ (i : Nat) g t, gs[i]? = some g → ts[i]? = some t → TD m (otherS s) g t) : TD (m + 1) s us (.tuple [.str s, .list ts])
theorem Grid.sub {ws us : List Str} {h w : Nat} {g : List (List Str)} (G : Grid us h w g) (s : ∀ x ∈ us, x ∈ ws) : Grid ws h w g := ⟨G.len, G.row, fun r hr x hx => s x (G.mem r hr x hx)⟩
/-! ### the columns when the rows grow -/
end VL
namespace VL
open PySem PySem.Spec PyProof.Rows L2
end VL
namespace VL
open PySem PySem.Spec PyProof.Rows L2
theorem PT.snoc {gs : List (List (List Str))} {ws : List Nat} {us : List (List Str)} (p : PT gs ws us) {g : List (List Str)} {h w : Nat} {u : List Str} (G : Grid u h w g) (F : Firm g w) (h1 : 1 ≤ h) (h2 : h ≤ 2 ^ u.length) (w1 : 1 ≤ w) (w2 : w ≤ 2 ^ u.length) (u1 : 1 ≤ u.length) : PT (gs ++ [g]) (ws ++ [w]) (us ++ [u]) := by
  induction p with
  | nil => exact .cons G F h1 h2 w1 w2 u1 .nil
  | cons a b c d e f i _ ih => exact .cons a b c d e f i ih
end VL
namespace VL
open PySem PySem.Spec PyProof.Rows L2
/-! ### floors and ceilings by forced sets -/
end VL
namespace VL
open PySem PySem.Spec PyProof.Rows L2
/-! ### the order of sets: by length, then as rows of texts -/
/-! ### least ones -/
def SubS (a c : List Str) : Prop := ∀ x ∈ a, x ∈ c
theorem SubS.refl (a : List Str) : SubS a a := fun _ h => h
theorem SubS.trans {a b c : List Str} (h : SubS a b) (k : SubS b c) : SubS a c := fun x hx => k x (h x hx)
def lstF (acc : List (List Str)) (c : List Str) : List (List Str) := if (acc.any fun a => a.all fun x => decide (x ∈ c)) = true then acc else acc ++ [c]
theorem any_sub {acc : List (List Str)} {c : List Str} : (acc.any fun a => a.all fun x => decide (x ∈ c)) = true ↔ ∃ a ∈ acc, SubS a c := by
  simp [List.any_eq_true, List.all_eq_true, SubS]
theorem frc_sub {fam : List (List Str)} {c : List Str} : frc fam c = true ↔ ∃ a ∈ fam, SubS a c := any_sub
theorem lst_keep : ∀ {xs acc : List (List Str)} {c : List Str}, c ∈ acc → c ∈ xs.foldl lstF acc
  | [], _, _, h => h
  | x :: xs, acc, c, h => by
    rw [List.foldl_cons]
    refine lst_keep ?_
    unfold lstF
    split
    · exact h
    · exact List.mem_append_left _ h
theorem lst_sub : ∀ {xs acc : List (List Str)}, (xs.foldl lstF acc).Sublist (acc ++ xs)
  | [], acc => by simp
  | x :: xs, acc => by
    rw [List.foldl_cons]
    refine (lst_sub (xs := xs) (acc := lstF acc x)).trans ?_
    unfold lstF
    split
    · exact List.Sublist.append_left (List.sublist_cons_self _ _) _
    · rw [List.append_assoc]; exact List.Sublist.refl _
theorem lst_cover : ∀ {xs acc : List (List Str)} {c : List Str}, c ∈ acc ∨ c ∈ xs → ∃ a ∈ xs.foldl lstF acc, SubS a c
  | [], acc, c, h => ⟨c, h.resolve_right (fun z => nomatch z), SubS.refl c⟩
  | x :: xs, acc, c, h => by
    rw [List.foldl_cons]
    rcases h with h | h
    · exact ⟨c, lst_keep (by unfold lstF; split; exact h; exact List.mem_append_left _ h), SubS.refl c⟩
    · rcases List.mem_cons.mp h with rfl | h
      · unfold lstF
        split
        · rename_i y
          obtain ⟨a, ha, k⟩ := any_sub.mp y
          exact ⟨a, lst_keep ha, k⟩
        · exact ⟨c, lst_keep (List.mem_append_right _ (List.mem_singleton.mpr rfl)), SubS.refl c⟩
      · exact lst_cover (.inr h)
/-! ### sets of sorted names -/
section
variable {o : List Str}
def LST (o : List Str) (f : List Str → Bool) : List (List Str) := ((sortLK (sets0 o)).filter f).foldl lstF []
theorem LST_sets {f : List Str → Bool} {c : List Str} (h : c ∈ LST o f) : c ∈ sets0 o ∧ f c = true := by
  have := (lst_sub (xs := (sortLK (sets0 o)).filter f) (acc := [])).mem h
  have := List.mem_filter.mp (by simpa using this)
  exact ⟨sortLK_mem.mp this.1, this.2⟩
theorem LST_congr {f g : List Str → Bool} (h : ∀ c ∈ sets0 o, f c = g c) : LST o f = LST o g := by
  unfold LST
  rw [List.filter_congr fun c hc => h c (sortLK_mem.mp hc)]
theorem LST_below {f : List Str → Bool} {c : List Str} (hc : c ∈ sets0 o) (h : f c = true) : ∃ a ∈ LST o f, SubS a c :=
  lst_cover (.inr (List.mem_filter.mpr ⟨sortLK_mem.mpr hc, h⟩))
/-- growing -/
def Mono (o : List Str) (f : List Str → Bool) : Prop := ∀ c ∈ sets0 o, ∀ d ∈ sets0 o, SubS c d → f c = true → f d = true
theorem LST_frc {f : List Str → Bool} (m : Mono o f) {c : List Str} (hc : c ∈ sets0 o) : frc (LST o f) c = f c := by
  rw [Bool.eq_iff_iff, frc_sub]
  constructor
  · rintro ⟨a, ha, k⟩
    exact m a (LST_sets ha).1 c hc k (LST_sets ha).2
  · exact fun h => LST_below hc h
theorem frc_mono {fam : List (List Str)} : Mono o (frc fam) := fun c _ d _ k h => by
  obtain ⟨a, ha, h⟩ := frc_sub.mp h
  exact frc_sub.mpr ⟨a, ha, h.trans k⟩
theorem LST_again {f : List Str → Bool} (m : Mono o f) : LST o (frc (LST o f)) = LST o f := LST_congr fun _ hc => LST_frc m hc
/-! ### the other side's sets -/
def leastF (o : List Str) (fam : List (List Str)) : List (List Str) := LST o (frc fam)
theorem least_least {fam : List (List Str)} : leastF o (leastF o fam) = leastF o fam := LST_again frc_mono
end
end VL
namespace VL
open PySem PySem.Spec PyProof.Rows L2
/-! ### powers: a power's table -/
structure Pow (o : List Str) (S : List (List Str)) : Prop where
  ne : S ≠ []
  mem : ∀ c ∈ S, c ∈ sets0 o ∧ c ≠ []
  self : leastF o S = S
theorem Pow.sub {o : List Str} {S : List (List Str)} (P : Pow o S) : ∀ l ∈ S, SubS l o := fun l hl x hx => (sets0_sub (P.mem l hl).1).subset hx
theorem SubS.nil {c a : List Str} (h : SubS a c) (ha : a ≠ []) : c ≠ [] := by
  cases a with
  | nil => exact absurd rfl ha
  | cons x a =>
    intro e
    subst e
    exact nomatch h x List.mem_cons_self
theorem Pow.of {o : List Str} {fam : List (List Str)} (ne : fam ≠ []) (mem : ∀ c ∈ fam, c ∈ sets0 o ∧ c ≠ []) : Pow o (leastF o fam) where
  ne := by
    cases fam with
    | nil => exact absurd rfl ne
    | cons c fam =>
      obtain ⟨a, ha, _⟩ := LST_below (f := frc (c :: fam)) (mem c List.mem_cons_self).1 (frc_sub.mpr ⟨c, List.mem_cons_self, SubS.refl c⟩)
      exact List.ne_nil_of_mem ha
  mem := fun c hc => by
    obtain ⟨h1, h2⟩ := LST_sets hc
    obtain ⟨a, ha, k⟩ := frc_sub.mp h2
    exact ⟨h1, k.nil (mem a ha).2⟩
  self := least_least
theorem Pow.len {o : List Str} {f : List Str → Bool} (l6 : o.length ≤ 6) : (LST o f).length ≤ 64 := by
  have h1 := (lst_sub (xs := (sortLK (sets0 o)).filter f) (acc := [])).length_le
  have h2 := List.length_filter_le f (sortLK (sets0 o))
  have h3 : (sortLK (sets0 o)).length = (sets0 o).length := (List.mergeSort_perm _ _).length_eq
  have h4 := sets0_len o
  have h5 : 2 ^ o.length ≤ 2 ^ 6 := Nat.pow_le_pow_right (by decide) l6
  unfold LST
  simp only [List.nil_append] at h1
  omega
/-! ### a table's two powers; firm tables -/
end VL
/-! of sets of at most six names, none within another, there are at most twenty -/
namespace VL
open PySem PySem.Spec PyProof.Rows L2
end VL
namespace K03
open PySem PySem.Spec PyProof.Rows L2 VL
/-! ### drawn names -/
theorem cut_to (xs : List Str) (c : Nat) : cutL xs none (some (c : Int)) = xs.take c := by
  unfold cutL
  rw [HT.sIx_none, HT.sIx_nat, List.drop_zero, Nat.sub_zero]
  by_cases h : c ≤ xs.length
  · rw [Nat.min_eq_left h]
  · rw [Nat.min_eq_right (by omega), List.take_of_length_le (Nat.le_refl _), List.take_of_length_le (by omega)]
/-! ### eight drawn names: good, but perhaps not all different -/
theorem num_digs8 : ∀ n, n < 100 → (Str.ofString (toString ((n : Nat) : Int))).cps.toList.all okc = true ∧ (Str.ofString (toString ((n : Nat) : Int))).cps.toList.length < 6 := by
  have all8 : (List.range 100).all (fun n => (Str.ofString (toString ((n : Nat) : Int))).cps.toList.all okc && decide ((Str.ofString (toString ((n : Nat) : Int))).cps.toList.length < 6)) = true := by decide +kernel
  intro n hn
  obtain ⟨h1, h2⟩ := Bool.and_eq_true_iff.mp (List.all_eq_true.mp all8 n (List.mem_range.mpr hn))
  exact ⟨h1, of_decide_eq_true h2⟩
theorem numW_good8 {l n : Nat} (hl : l ∈ lets) (hn : n < 100) : good (numW l n) = true := by
  obtain ⟨h1, h2⟩ := num_digs8 n hn
  exact good_of (numW_list l n) hl h2 fun x hx => List.all_eq_true.mp h1 x hx
theorem F_names8_ok (c : Nat) (hc : c ≤ 8) {Φ : List Str → Nat → Prop} {Ψ : Exc → Nat → Prop} {n : Nat} (hn : n ≤ 900000) (k : ∀ ws n', ws.length = c → (∀ w ∈ ws, good w = true) → n' ≤ n + 20 → Φ ws n') : F_Lnames ((c : Int), ()) Φ Ψ n := by
  delta F_Lnames
  refine draw_ok (by omega) (by decide) (by decide) fun d (d0 : 0 ≤ d) (d1 : d < 5) => ?_
  obtain ⟨d, rfl⟩ := Int.eq_ofNat_of_zero_le d0
  refine rng0 (by omega) ?_
  refine comp_rule (fun i acc n' => n' = n + 1 + i ∧ ∃ cs : List Nat, cs.length = i ∧ acc = cs.map (fun c => (⟨#[c]⟩ : Str)) ∧ ∀ x ∈ cs, x ∈ C36.cps.toList) (by simp; omega) ⟨rfl, [], rfl, rfl, (fun _ h => nomatch h)⟩ (fun i x acc n' hx hI Φ' k' => ?_) (fun acc n' hI => ?_)
  · obtain ⟨rfl, cs, hl, rfl, hcs⟩ := hI
    have hi := (range_at hx).2
    refine draw_ok (by omega) (by decide) (by decide) fun e (e0 : 0 ≤ e) (e1 : e < 36) => ?_
    refine sgn_ok (z := C36) (i := e) (by rw [c36_len]; decide) e0 (by rw [c36_len]; omega) fun ch hm _ => ?_
    refine k' (some ⟨#[ch]⟩) _ ⟨by omega, cs ++ [ch], by simp [hl], by simp, fun x hx => ?_⟩
    rcases List.mem_append.mp hx with hx | hx
    · exact hcs x hx
    · rw [show x = ch by simpa using hx]; exact hm
  obtain ⟨rfl, cs, hcl, rfl, hcm⟩ := hI
  rw [List.length_map, List.length_range] at hcl
  refine join_i (by rw [ones_len, List.length_map, show (Str.ofString "").length = 0 by decide +kernel]; omega) ?_
  have hjl := join_signs cs
  have hj : ∃ st : Str, st = Txt.join (Str.ofString "") (cs.map (fun c => (⟨#[c]⟩ : Str))) ∧ st.cps.toList.length ≤ 4 ∧ ∀ x ∈ st.cps.toList, okc x = true := ⟨_, rfl, by rw [hjl]; omega, fun x hx => c36_ok x (hcm x (by rw [hjl] at hx; exact hx))⟩
  obtain ⟨st, hst, hs4, hso⟩ := hj
  have hsl : st.length ≤ 4 := by rw [← L2.len_list]; exact hs4
  rw [← hst]
  clear hst hjl hcm
  refine draw_ok (by simp; omega) (by decide) (by decide) fun l26 (l0 : 0 ≤ l26) (l1 : l26 < 26) => ?_
  obtain ⟨l, rfl⟩ := Int.eq_ofNat_of_zero_le l0
  have hl26 : l < 26 := by omega
  refine sgn_i (by decide +kernel) (c36_at hl26) ?_
  have hlm := let_mem hl26
  refine draw_ok (by simp; omega) (by decide) (by decide) fun o26 (o0 : 0 ≤ o26) (o1 : o26 < 26) => ?_
  obtain ⟨o, rfl⟩ := Int.eq_ofNat_of_zero_le o0
  refine draw_ok (by simp; omega) (by decide) (by decide) fun d6 (s0 : 0 ≤ d6) (s1 : d6 < 6) => ?_
  obtain ⟨sr, hsr, hat⟩ : ∃ s : Nat, (s = 1 ∨ s = 3 ∨ s = 5 ∨ s = 7 ∨ s = 9 ∨ s = 11) ∧ L2.atI [(1 : Int), 3, 5, 7, 9, 11] d6 = some (s : Int) := by
    have : d6 = 0 ∨ d6 = 1 ∨ d6 = 2 ∨ d6 = 3 ∨ d6 = 4 ∨ d6 = 5 := by omega
    rcases this with rfl | rfl | rfl | rfl | rfl | rfl
    · exact ⟨1, by simp, atI_nat (j := 0) rfl⟩
    · exact ⟨3, by simp, atI_nat (j := 1) rfl⟩
    · exact ⟨5, by simp, atI_nat (j := 2) rfl⟩
    · exact ⟨7, by simp, atI_nat (j := 3) rfl⟩
    · exact ⟨9, by simp, atI_nat (j := 4) rfl⟩
    · exact ⟨11, by simp, atI_nat (j := 5) rfl⟩
  refine idx_i hat ?_
  refine draw_ok (by simp; omega) (by decide) (by decide) fun pl (p0 : 0 ≤ pl) (p1 : pl < 7) => ?_
  obtain ⟨pn, rfl⟩ := Int.eq_ofNat_of_zero_le p0
  obtain ⟨N, hN, hNn⟩ : ∃ N, N = n + 1 + (List.map (fun i : Nat => (i : Int)) (List.range d)).length + 1 + 1 + 1 + 1 ∧ N ≤ n + 9 := ⟨_, rfl, by simp; omega⟩
  rw [← hN]
  -- plan 6
  refine ite_ (fun h => ?_) (fun h6 => ?_)
  · simp at h
    show Φ _ N
    rw [cut_to]
    exact k _ _ (by rw [List.length_take]; show min c 6 = c; omega) (fixed_ok c).2 (by omega)
  -- plan 4
  refine ite_ (fun h => ?_) (fun h4 => ?_)
  · refine draw_ok (by omega) (by decide) (by decide) fun d9 (z0 : 0 ≤ d9) (z1 : d9 < 9) => ?_
    obtain ⟨d, rfl⟩ := Int.eq_ofNat_of_zero_le z0
    refine rng0 (m := c) (by omega) ?_
    refine comp_map (fun i : Int => numW (let_ l) ((1 + d) * (i.toNat + 1))) (fun x hx Φ' n' q => ?_) (by simp; omega) ?_
    · obtain ⟨i, hi, rfl⟩ := List.mem_map.mp hx
      have hi := List.mem_range.mp hi
      have hb : (1 + d) * (i + 1) < 100 := Nat.lt_of_le_of_lt (Nat.mul_le_mul (show 1 + d ≤ 9 by omega) (show i + 1 ≤ 8 by omega)) (by decide)
      have e : ((1 : Int) + (d : Int)) * ((i : Int) + 1) = (((1 + d) * (i + 1) : Nat) : Int) := by push_cast; rfl
      refine ⟨wmul (by omega) (by omega) (by omega) (by omega), ?_⟩
      rw [e]
      refine ⟨?_, size1000 ?_, q⟩
      · rw [Int.natAbs_natCast]
        exact Nat.lt_of_le_of_lt (Nat.log2_le_self _) (by omega)
      · have h2 := (num_digs8 _ hb).2
        rw [L2.len_list] at h2
        show 1 + _ ≤ 1000
        exact Nat.le_trans (Nat.add_le_add_left (Nat.le_of_lt h2) 1) (by decide)
    · show Φ _ _
      rw [List.map_map, show ((fun i : Int => numW (let_ l) ((1 + d) * (i.toNat + 1))) ∘ fun i : Nat => (i : Int)) = fun i : Nat => numW (let_ l) ((1 + d) * (i + 1)) from rfl]
      have hb : ∀ k, k < c → (1 + d) * (k + 1) < 100 := fun k hk => Nat.lt_of_le_of_lt (Nat.mul_le_mul (show 1 + d ≤ 9 by omega) (show k + 1 ≤ 8 by omega)) (by decide)
      refine k _ _ (by rw [List.length_map, List.length_range]) (fun w hw => ?_) (by omega)
      · obtain ⟨k, hk, rfl⟩ := List.mem_map.mp hw
        exact numW_good8 hlm (hb k (List.mem_range.mp hk))
  -- plan 5
  refine ite_ (fun h => ?_) (fun h5 => ?_)
  · simp at h h4
    have hc6 : c ≤ 6 := by omega
    refine rng0 (m := 5) (by omega) ?_
    refine comp_rule (fun i acc n' => n' = N + i ∧ ∃ cs : List Nat, cs.length = i ∧ acc = cs.map (fun c => (⟨#[c]⟩ : Str)) ∧ ∀ x ∈ cs, x ∈ C36.cps.toList) (by simp) ⟨rfl, [], rfl, rfl, (fun _ h => nomatch h)⟩ (fun i x acc n' hx hI Φ' k' => ?_) (fun acc n' hI => ?_)
    · obtain ⟨rfl, cs, hl, rfl, hcs⟩ := hI
      have hi := (range_at hx).2
      refine draw_ok (by omega) (by decide) (by decide) fun e (e0 : 0 ≤ e) (e1 : e < 36) => ?_
      refine sgn_ok (z := C36) (i := e) (by rw [c36_len]; decide) e0 (by rw [c36_len]; omega) fun ch hm _ => ?_
      refine k' (some ⟨#[ch]⟩) _ ⟨by omega, cs ++ [ch], by simp [hl], by simp, fun x hx => ?_⟩
      rcases List.mem_append.mp hx with hx | hx
      · exact hcs x hx
      · rw [show x = ch by simpa using hx]; exact hm
    obtain ⟨rfl, cs, hcl, rfl, hcm⟩ := hI
    have hcl : cs.length = 5 := hcl
    refine join_i (by rw [ones_len, List.length_map, show (Str.ofString "").length = 0 by decide +kernel]; omega) ?_
    have hjl := join_signs cs
    have hwl : ((⟨#[let_ l]⟩ : Str) ++ Txt.join (Str.ofString "") (cs.map (fun c => (⟨#[c]⟩ : Str)))).cps.toList = let_ l :: cs := by
      rw [one_cat]
      exact congrArg _ hjl
    have hjn : (Txt.join (Str.ofString "") (cs.map (fun c => (⟨#[c]⟩ : Str)))).length = 5 := by
      rw [← L2.len_list]
      exact (congrArg List.length hjl).trans hcl
    refine ⟨size1000 (by rw [hjn]; show 1 + 5 ≤ 1000; decide), ?_⟩
    obtain ⟨wh, hwh⟩ : ∃ wh : Str, wh = (⟨#[let_ l]⟩ : Str) ++ Txt.join (Str.ofString "") (cs.map (fun c => (⟨#[c]⟩ : Str))) := ⟨_, rfl⟩
    rw [← hwh] at hwl ⊢
    have hwn : wh.length = 6 := by rw [← L2.len_list, hwl, List.length_cons, hcl]
    refine rng0 (m := c) (by omega) ?_
    refine comp_map (fun i : Int => preW wh i.toNat) (fun x hx Φ' n' q => ?_) (by simp; omega) ?_
    · obtain ⟨i, hi, rfl⟩ := List.mem_map.mp hx
      refine ⟨size1000 (by rw [hwn]; decide), ?_⟩
      rw [show ((i : Nat) : Int) + 1 = ((i + 1 : Nat) : Int) by omega, show cutS wh none (some ((i + 1 : Nat) : Int)) = preW wh i from str_ext (by rw [cutS_to, preW_list])]
      exact q
    · show Φ _ _
      rw [List.map_map, show ((fun i : Int => preW wh i.toNat) ∘ fun i : Nat => (i : Int)) = fun i : Nat => preW wh i from rfl]
      refine k _ _ (by rw [List.length_map, List.length_range]) (fun w hw => ?_) (by show N + 5 ≤ _; omega)
      · obtain ⟨k, hk, rfl⟩ := List.mem_map.mp hw
        exact preW_good hwl hlm (by omega) fun x hx => c36_ok x (hcm x hx)
  -- the common plan
  refine rng0 (m := c) (by omega) ?_
  refine for_rule (fun i s n' => s = (List.range i).map (comW (let_ l) st.cps.toList pn o sr) ∧ n' = N) ⟨rfl, rfl⟩ (fun i x s n' hx hI Φ' k1 k2 => ?_) (fun s n' hI => ?_)
  · obtain ⟨rfl, rfl⟩ := hI
    obtain ⟨rfl, hi⟩ := range_at hx
    have hmul : sr * i ≤ 11 * 8 := Nat.mul_le_mul (by omega) (by omega)
    refine ⟨wmul (by omega) (by omega) (by omega) (by omega), (by decide : (26 : Int) ≠ 0), ?_⟩
    rw [show ((o : Int) + (sr : Int) * ((i : Int))).fmod 26 = (((o + sr * i) % 26 : Nat) : Int) from by
        rw [show (o : Int) + (sr : Int) * (i : Int) = ((o + sr * i : Nat) : Int) by push_cast; rfl]
        exact fmod_nn _ 26]
    refine sgn_i (by decide +kernel) (c36_mod _) ?_
    -- the middle
    obtain ⟨b, hb⟩ : ∃ b : Str, b = (if 1 < pn ∧ i % 2 = 1 then Str.ofString "" else st) := ⟨_, rfl⟩
    have hbl : b.length ≤ 4 := by
      rw [hb]
      split
      · decide +kernel
      · exact hsl
    have rest : ∀ Q : Str → Nat → Prop, Q b n' → (M.bind (M.bind (M.ite (decide ((1 : Int) < (pn : Int))) (M.bind (M.when ((2 : Int) ≠ 0) ((i : Int).fmod 2)) fun x => M.pure (decide (x = 1))) (M.pure false)) fun x => M.pure (if x then (1 : Int) else 0)) fun x => Mi.idx [st, Str.ofString ""] x) Q Ψ n' := by
      intro Q hQ
      refine ite_ (fun h => ⟨by decide, ?_⟩) (fun h => ?_)
      · have h := of_decide_eq_true h
        have e := fmod_nn i 2
        by_cases hi2 : i % 2 = 1
        · have e : (i : Int).fmod 2 = 1 := e.trans (by rw [hi2]; rfl)
          rw [e]
          rw [if_pos ⟨by omega, hi2⟩] at hb
          exact idx_i (atI_nat (j := 1) rfl) (by rw [← hb]; exact hQ)
        · have e : (i : Int).fmod 2 = 0 := e.trans (by rw [show i % 2 = 0 by omega]; rfl)
          rw [e]
          rw [if_neg (fun h => hi2 h.2)] at hb
          exact idx_i (atI_nat (j := 0) rfl) (by rw [← hb]; exact hQ)
      · have h := of_decide_eq_false h
        rw [if_neg (fun z => h (by omega))] at hb
        exact idx_i (atI_nat (j := 0) rfl) (by rw [← hb]; exact hQ)
    refine rest _ ?_
    refine ⟨size1000 (by show 1 + b.length ≤ 1000; omega), size1000 ?_, size1000 (by show 1 + b.length ≤ 1000; omega), (by decide : (2 : Int) ≠ 0), ?_⟩
    · rw [← L2.len_list, one_cat, List.length_cons, L2.len_list]
      show b.length + 1 + 1 ≤ 1000
      omega
    rw [show (pn : Int).fmod 2 = ((pn % 2 : Nat) : Int) from fmod_nn pn 2]
    refine idx_i (x := comW (let_ l) st.cps.toList pn o sr i) ?_ ⟨small1000 (by rw [List.length_map, List.length_range]; omega), ?_⟩
    · rcases Nat.mod_two_eq_zero_or_one pn with h | h
      · rw [h, com_even b hb h]
        exact atI_nat (j := 0) rfl
      · rw [h, com_odd b hb h]
        exact atI_nat (j := 1) rfl
    · refine k1 _ _ ⟨?_, rfl⟩
      rw [List.range_succ, List.map_append]
      rfl
  · obtain ⟨rfl, rfl⟩ := hI
    rw [List.length_map, List.length_range]
    refine k _ _ (by rw [List.length_map, List.length_range]) (fun w hw => ?_) (by omega)
    · obtain ⟨k, hk, rfl⟩ := List.mem_map.mp hw
      exact comW_good hlm hs4 hso
section
variable {Ψ : Exc → Nat → Prop} {n : Nat}
theorem F_order_ok {xs : List (Str)} {Φ : List (Str) → Nat → Prop} (hl : xs.length ≤ 100) (hn : n ≤ 900000) (k : ∀ ys n', ys.Perm xs → n' ≤ n + xs.length → Φ ys n') : F_Lorder (xs, ()) Φ Ψ n := by
  delta F_Lorder
  refine rng0 (m := xs.length) (by omega) ?_
  refine for_rule (fun i s n' => n' = n + i ∧ s.2.length + i = xs.length ∧ s.1.length = i ∧ (s.1 ++ s.2).Perm xs) ⟨rfl, rfl, rfl, List.Perm.refl _⟩ (fun i x s n' hx hI Φ' k1 _ => ?_) (fun s n' hI => ?_)
  · obtain ⟨rfl, h1, h2, h3⟩ := hI
    obtain ⟨rfl, hi⟩ := range_at hx
    refine draw_ok (by omega) (by show (0 : Int) < (s.2.length : Int); omega) (by show (s.2.length : Int) < 2 ^ 100; omega) fun d d0 d1 => ?_
    refine popAt_ok d0 d1 (by omega) fun m hm _ => ⟨small1000 (by omega), ?_⟩
    refine k1 _ _ ⟨by omega, ?_, ?_, ?_⟩
    · show (s.2.eraseIdx m).length + (i + 1) = xs.length
      rw [List.length_eraseIdx, if_pos hm]; omega
    · show (s.1 ++ [s.2[m]]).length = i + 1
      rw [List.length_append, h2]; rfl
    · show ((s.1 ++ [s.2[m]]) ++ s.2.eraseIdx m).Perm xs
      rw [List.append_assoc]
      exact (List.Perm.append_left s.1 (erase_perm hm)).trans h3
  · obtain ⟨rfl, h1, h2, h3⟩ := hI
    have : s.2 = [] := List.eq_nil_of_length_eq_zero (by rw [List.length_map, List.length_range] at h1; omega)
    rw [this, List.append_nil] at h3
    exact k s.1 _ h3 (by rw [List.length_map, List.length_range]; omega)
end
/-! ### names of any kind -/
section
variable {Ψ : Exc → Nat → Prop} {n : Nat}
def okS (x : Str) : Bool := x.cps.toList.all okc
theorem okS_one (d : Nat) : okS ⟨#[d]⟩ = okc d := by show (okc d && true) = okc d; rw [Bool.and_true]
theorem signs_all (z : Str) : ((VL.signs z).map okS).all id = z.cps.toList.all okc := by
  unfold VL.signs
  rw [List.map_map, List.all_map]
  congr 1
  funext d
  exact okS_one d
theorem good_nil {z : Str} (e : z.cps.toList = []) : good z = false := by show goodL z.cps.toList = false; rw [e]; rfl
theorem good_cons {z : Str} {c : Nat} {r : List Nat} (e : z.cps.toList = c :: r) : good z = (decide (r.length < 6) && decide (c ∈ lets) && (c :: r).all okc) := by show goodL z.cps.toList = _; rw [e]; rfl
theorem F_valid_is {z : Str} {Φ : Bool → Nat → Prop} (hl : z.length ≤ 1000) (k : Φ (good z) n) : F_valid_name (z, ()) Φ Ψ n := by
  have el : z.cps.toList.length = z.length := by simp [Str.length]
  delta F_valid_name
  refine ⟨size1000 hl, ?_⟩
  cases ec : z.cps.toList with
  | nil =>
    rw [good_nil ec] at k
    have lz : z.length = 0 := by rw [← el, ec]; rfl
    refine ite_ (fun h => absurd (of_decide_eq_true h) (by show ¬ (1 : Int) ≤ (z.length : Int); omega)) (fun _ => ?_)
    exact k
  | cons c r =>
    have lz : r.length + 1 = z.length := by rw [← el, ec]; rfl
    rw [good_cons ec] at k
    refine ite_ (fun _ => ?_) (fun h => absurd (of_decide_eq_false h) (by show ¬ ¬ (1 : Int) ≤ (z.length : Int); omega))
    by_cases h6 : r.length < 6
    · refine ite_ (fun h => absurd h (by show ¬ (!decide ((z.length : Int) ≤ 6)) = true; simp; omega)) (fun _ => ?_)
      rw [decide_eq_true h6, Bool.true_and] at k
      refine sgn_i (c := c) (size1000 hl) (by rw [ec]; exact atI_nat (j := 0) rfl) ?_
      refine inS_i ?_
      refine ite_ (fun h2 => ?_) (fun h2 => ?_)
      · have h2 : decide (c ∈ lets) = true := h2
        rw [h2, Bool.true_and] at k
        refine comp_map okS (fun x hx Φ' n' q => ?_) (by unfold VL.signs; rw [List.length_map, el]; exact hl) ?_
        · unfold VL.signs at hx
          obtain ⟨d, hd, rfl⟩ := List.mem_map.mp hx
          rw [okS_one] at q
          unfold okc at q
          refine inS_i ?_
          refine ite_ (fun h => ?_) (fun h => ?_)
          · have h : decide (d ∈ lets) = true := h
            rw [h, Bool.true_or] at q
            exact q
          · have h : decide (d ∈ lets) = false := h
            rw [h, Bool.false_or] at q
            exact inS_i q
        · show Φ (((VL.signs z).map okS).all id) n
          rw [signs_all, ec]
          exact k
      · have h2 : decide (c ∈ lets) = false := h2
        rw [h2, Bool.false_and] at k
        exact k
    · refine ite_ (fun _ => ?_) (fun h => absurd h (by show ¬ (!decide ((z.length : Int) ≤ 6)) = false; simp; omega))
      rw [decide_eq_false h6, Bool.false_and, Bool.false_and] at k
      exact k
theorem F_Lgood_is {z : Str} {Φ : Bool → Nat → Prop} (hl : z.length ≤ 1000) (ha : Asc z) (k : Φ (good z) n) : F_Lgood (z, ()) Φ Ψ n := by
  have el : z.cps.toList.length = z.length := by simp [Str.length]
  delta F_Lgood
  refine ⟨size1000 hl, ?_⟩
  cases ec : z.cps.toList with
  | nil =>
    rw [good_nil ec] at k
    have lz : z.length = 0 := by rw [← el, ec]; rfl
    refine ite_ (fun _ => ?_) (fun h => absurd (of_decide_eq_false h) (by show ¬ ¬ (z.length : Int) < (1 : Int); omega))
    exact ite_ (fun _ => k) (fun h => nomatch h)
  | cons c r =>
    have lz : r.length + 1 = z.length := by rw [← el, ec]; rfl
    rw [good_cons ec] at k
    refine ite_ (fun h => absurd (of_decide_eq_true h) (by show ¬ (z.length : Int) < (1 : Int); omega)) (fun _ => ?_)
    refine ⟨size1000 hl, ?_⟩
    by_cases h6 : r.length < 6
    · rw [decide_eq_true h6, Bool.true_and] at k
      refine ite_ (fun h => absurd (of_decide_eq_true h) (by show ¬ (6 : Int) < (z.length : Int); omega)) (fun _ => ?_)
      refine sgn_i (c := c) (size1000 hl) (by rw [ec]; exact atI_nat (j := 0) rfl) ?_
      refine niS_i ?_
      refine ite_ (fun h2 => ?_) (fun h2 => ?_)
      · have h2 : decide (c ∈ lets) = false := by
          have h2 : (!decide (c ∈ lets)) = true := h2
          simpa using h2
        rw [h2, Bool.false_and] at k
        exact k
      · have h2 : decide (c ∈ lets) = true := by
          have h2 : (!decide (c ∈ lets)) = false := h2
          simpa using h2
        rw [h2, Bool.true_and] at k
        refine comp_filter (fun x => !okS x) (fun x hx Φ' n' q => ?_) (by unfold VL.signs; rw [List.length_map, el]; exact hl) ?_
        · unfold VL.signs at hx
          obtain ⟨d, hd, rfl⟩ := List.mem_map.mp hx
          rw [okS_one, okc_cat] at q
          refine ⟨by decide +kernel, niS_i ?_⟩
          refine ite_ (fun h => ?_) (fun h => ?_)
          · have h : (!decide (d ∈ (Str.ofString "abcdefghijklmnopqrstuvwxyz" ++ Str.ofString "0123456789").cps.toList)) = true := h
            rw [h, if_pos rfl] at q
            exact q
          · have h : (!decide (d ∈ (Str.ofString "abcdefghijklmnopqrstuvwxyz" ++ Str.ofString "0123456789").cps.toList)) = false := h
            rw [h, if_neg Bool.false_ne_true] at q
            exact q
        · have ok1 : okN ((VL.signs z).filter fun x => !okS x) := fun w hw => by
            have hw := (List.mem_filter.mp hw).1
            unfold VL.signs at hw
            obtain ⟨d, hd, rfl⟩ := List.mem_map.mp hw
            exact strOk_one (ha d hd)
          refine eq_dec (R := rLst rStr) ok1 (fun _ h => nomatch h) ?_
          have e : decide (((VL.signs z).filter fun x => !okS x) = []) = (c :: r).all okc := by
            rw [← ec, ← signs_all, Bool.eq_iff_iff, decide_eq_true_iff, List.filter_eq_nil_iff, List.all_map, List.all_eq_true]
            simp
          rw [e]
          exact k
    · rw [decide_eq_false h6, Bool.false_and, Bool.false_and] at k
      refine ite_ (fun _ => ?_) (fun h => absurd (of_decide_eq_false h) (by show ¬ ¬ (6 : Int) < (z.length : Int); omega))
      exact k
end
/-! ### what is raised first -/
def outE (o : Option Exc) (A : Prop) (Ψ : Exc → Nat → Prop) (n : Nat) : Prop := match o with
  | none => A
  | some e => Ψ e n
theorem out_none {A : Prop} {Ψ : Exc → Nat → Prop} {n : Nat} (h : A) : outE none A Ψ n := h
theorem out_some {A : Prop} {x : Exc} {Ψ : Exc → Nat → Prop} {n : Nat} (h : Ψ x n) : outE (some x) A Ψ n := h
theorem asc_ok {w : Str} (h : Asc w) : PyData.strOk w = true := by
  unfold PyData.strOk
  rw [Array.all_eq_true]
  intro i hi
  have := h w.cps[i] (by rw [Array.mem_toList_iff]; exact Array.getElem_mem hi)
  exact decide_eq_true (by omega)
theorem found_none {ρ : Type} {Φ : Fl ρ Unit → Nat → Prop} {n : Nat} (h : Φ (.nx ()) n) : found Φ n none := h
theorem fs_omap {α β γ : Type} (p : α → Option β) (g : β → γ) : ∀ xs : List α, (xs.findSome? fun x => (p x).map g) = (xs.findSome? p).map g
  | [] => rfl
  | x :: xs => by
    rw [List.findSome?_cons, List.findSome?_cons]
    cases p x with
    | none => exact fs_omap p g xs
    | some y => rfl
theorem sortS_ex (xs : List Str) : ∃ ys : List Str, ys.Perm xs ∧ sortedS ys = true := by
  let le : Str → Str → Bool := fun a b => !ltCps b.cps.toList a.cps.toList
  have hle : ∀ a b, le a b = true ↔ LeS a b := fun a b => by
    show (!ltCps b.cps.toList a.cps.toList) = true ↔ _
    unfold LeS
    simp
  have p := List.mergeSort_perm xs le
  refine ⟨xs.mergeSort le, p, sorted_of ?_⟩
  have := List.pairwise_mergeSort (le := le) (fun a b c h1 h2 => (hle a c).mpr (leS_trans ((hle a b).mp h1) ((hle b c).mp h2))) (fun a b => by
    rcases leS_total a b with h | h
    · rw [(hle a b).mpr h]; rfl
    · rw [(hle b a).mpr h, Bool.or_true]) xs
  exact this.imp fun h => (hle _ _).mp h
theorem okGs_of {ds : List PyData} (h : ∀ d ∈ ds, okG d = true) : okGs ds = true := by
  induction ds with
  | nil => rfl
  | cons d ds ih =>
    simp only [okGs, Bool.and_eq_true]
    exact ⟨h d List.mem_cons_self, ih fun e he => h e (List.mem_cons_of_mem _ he)⟩
theorem depAll_of {k : Nat} {ds : List PyData} (h : ∀ d ∈ ds, PyData.depth d ≤ k) : PyData.depthAll ds ≤ k := by
  induction ds with
  | nil => simp [PyData.depthAll]
  | cons d ds ih =>
    have a := h d List.mem_cons_self
    have b := ih fun e he => h e (List.mem_cons_of_mem _ he)
    simp only [PyData.depthAll]
    omega
def Ok2 (d : PyData) : Prop := okG d = true ∧ PyData.depth d ≤ 50
theorem ok2_str (z : Str) : Ok2 (.str z) := ⟨by simp [okG], by simp [PyData.depth]⟩
theorem ok2_int (i : Int) : Ok2 (.int i) := ⟨by simp [okG], by simp [PyData.depth]⟩
theorem ok2_strs (xs : List Str) : Ok2 (.tuple (xs.map .str)) := by
  refine ⟨?_, ?_⟩
  · simp only [okG]
    refine okGs_of fun d hd => ?_
    obtain ⟨z, _, rfl⟩ := List.mem_map.mp hd
    exact (ok2_str z).1
  · simp only [PyData.depth]
    have : PyData.depthAll (xs.map PyData.str) ≤ 0 := depAll_of fun d hd => by
      obtain ⟨z, _, rfl⟩ := List.mem_map.mp hd
      simp [PyData.depth]
    omega
section
variable {Ψ : Exc → Nat → Prop} {n : Nat}
theorem for_raise {β ρ : Type} {f : β → Unit → M (Fl ρ Unit)} {Φ : Fl ρ Unit → Nat → Prop} (p : β → Option Exc) : ∀ {xs : List β}, (∀ x ∈ xs, ∀ (Φ' : Fl ρ Unit → Nat → Prop) n', outE (p x) (Φ' (.nx ()) n') Ψ n' → f x () Φ' Ψ n') → outE (xs.findSome? p) (Φ (.nx ()) n) Ψ n → M.forL f xs () Φ Ψ n
  | [], _, k => k
  | x :: xs, hf, k => by
    refine hf x List.mem_cons_self _ n ?_
    rw [List.findSome?_cons] at k
    cases e : p x with
    | some r => rw [e] at k; exact k
    | none =>
      rw [e] at k
      exact for_raise p (fun y hy => hf y (List.mem_cons_of_mem _ hy)) k
end
theorem asc_of {z : Str} (h : z.cps.toList.all (fun c => decide (c < 128)) = true) : Asc z := fun c hc => of_decide_eq_true (List.all_eq_true.mp h c hc)
theorem ixN_nat {d : Int} {l : Nat} (h0 : 0 ≤ d) (h1 : d < l) : ∃ m, m < l ∧ ixN l d = some m := by
  obtain ⟨m, rfl⟩ := Int.eq_ofNat_of_zero_le h0
  refine ⟨m, by omega, ?_⟩
  unfold ixN
  simp
  omega
end K03
namespace K03
open PySem PySem.Spec PyProof.Rows L2 VL
/-! ### Table(..) of any rows of words -/
def ctE (c : Int) : Option Exc := if 1 ≤ c ∧ c ≤ 6 then none else some ⟨"BadCount", "count", .int c⟩
section
variable {Ψ : Exc → Nat → Prop} {n : Nat}
theorem F_check_count_is {c : Int} {Φ : Unit → Nat → Prop} (k : outE (ctE c) (Φ () n) Ψ n) : F_check_count (c, ()) Φ Ψ n := by
  delta F_check_count
  unfold ctE at k
  refine seq_i (bind_i (bind_i (ite_ (fun h1 => ?_) (fun h1 => ?_))))
  · refine pure_i (pure_i (ite_ (fun h => ?_) (fun h => ?_)))
    · rw [if_neg (by intro z; rw [decide_eq_true z.2] at h; cases h)] at k
      exact raise_i k
    · rw [if_pos ⟨of_decide_eq_true h1, by simpa using h⟩] at k
      exact k
  · refine pure_i (pure_i ?_)
    rw [if_neg (fun z => of_decide_eq_false h1 z.1)] at k
    exact k
end
/-! ### wishes -/
theorem putD_new {α : Type} {d : List (Str × α)} {k : Str} {a : α} (h : ¬ k ∈ d.map (·.1)) : putD d k a = d ++ [(k, a)] := by
  unfold putD
  rw [if_neg]
  intro z
  obtain ⟨q, hq, e⟩ := List.any_eq_true.mp z
  exact h (List.mem_map.mpr ⟨q, hq, of_decide_eq_true e⟩)
theorem getD_map_of {u : Str → Int} {o : List Str} {x : Str} (h : x ∈ o) : getD (o.map fun x => (x, u x)) x = some (u x) := by
  induction o with
  | nil => cases h
  | cons y o ih =>
    rw [List.map_cons, getD_cons]
    by_cases e : y = x
    · rw [if_pos e, e]
    · rw [if_neg e]
      exact ih ((List.mem_cons.mp h).resolve_left fun z => e z.symm)
/-- amounts by the names o -/
structure Amt (d : List (Str × Int)) (o : List Str) (u : Str → Int) : Prop where
  keys : (d.map (·.1)).Perm o
  get : ∀ x ∈ o, getD d x = some (u x)
def wishOf (o : List Str) (u : Str → Int) : d_Wishes := (o, o.map fun x => (x, u x))
section
variable {Ψ : Exc → Nat → Prop} {n : Nat}
theorem dcomp_map {α : Type} {xs : List Str} {f : Str → M (Str × α)} {Φ : List (Str × α) → Nat → Prop} (g : Str → α) (hl : xs.length ≤ 1000) (nd : xs.Nodup) (hf : ∀ x ∈ xs, ∀ (Φ' : Str × α → Nat → Prop) n', Φ' (x, g x) n' → f x Φ' (fun _ _ => False) n') (k : Φ (xs.map fun x => (x, g x)) n) : Mi.dcomp xs f Φ Ψ n := by
  delta Mi.dcomp
  refine ⟨hl, ?_⟩
  have go : ∀ (ys pre : List Str), xs = pre ++ ys → M.dcompA f (pre.map fun x => (x, g x)) ys Φ (fun _ _ => False) n := by
    intro ys
    induction ys with
    | nil =>
      intro pre e
      rw [List.append_nil] at e
      subst e
      exact k
    | cons y ys ih =>
      intro pre e
      have hy : y ∈ xs := by rw [e]; simp
      refine hf y hy _ n ?_
      show M.dcompA f (putD (pre.map fun x => (x, g x)) y (g y)) ys Φ (fun _ _ => False) n
      have new : ¬ y ∈ (pre.map fun x => (x, g x)).map (·.1) := by
        rw [List.map_map]
        intro z
        obtain ⟨x, hx, ex⟩ := List.mem_map.mp z
        have ex : x = y := ex
        subst ex
        rw [e] at nd
        exact (List.nodup_append.mp nd).2.2 x hx x List.mem_cons_self rfl
      rw [putD_new new]
      have := ih (pre ++ [y]) (by rw [e, List.append_assoc]; rfl)
      rwa [List.map_append] at this
  exact go xs [] rfl
theorem dget_is {α : Type} {d : List (Str × α)} {k : Str} {a : α} {Φ : α → Nat → Prop} (h : getD d k = some a) (q : Φ a n) : Mi.dget d k Φ Ψ n := dget_i h q
end
/-! ### cells that nobody leaves -/
section
variable {Ψ : Exc → Nat → Prop} {n : Nat}
theorem try_i {ρ α : Type} {m : M (Fl ρ α)} {hs : List (Str × Str × (PyData → M (Fl ρ Empty)))} {Φ : Fl ρ α → Nat → Prop} (k : m Φ (fun x n => M.up (M.hnd x hs) Φ Ψ n) n) : M.try_ m hs Φ Ψ n := k
end
/-! ### levels and ranks -/
theorem lt_uniq {a b : List Int} (ha : a.Pairwise (· < ·)) (hb : b.Pairwise (· < ·)) (h : ∀ k, k ∈ a ↔ k ∈ b) : a = b := by
  have na : a.Nodup := ha.imp fun h => Int.ne_of_lt h
  have nb : b.Nodup := hb.imp fun h => Int.ne_of_lt h
  exact ((List.perm_ext_iff_of_nodup na nb).mpr h).eq_of_pairwise (le := (· ≤ ·)) (fun a b _ _ h1 h2 => Int.le_antisymm h1 h2) (ha.imp Int.le_of_lt) (hb.imp Int.le_of_lt)
structure LvP (o : List Str) (u : Str → Int) (ns : List Int) : Prop where
  pw : ns.Pairwise (· < ·)
  mem : ∀ k, k ∈ ns ↔ ∃ x ∈ o, u x = k
noncomputable def lv (o : List Str) (u : Str → Int) : List Int := Classical.epsilon (LvP o u)
theorem LvP.lv {o : List Str} {u : Str → Int} {ns : List Int} (h : LvP o u ns) : lv o u = ns := by
  have h2 : LvP o u (_root_.K03.lv o u) := Classical.epsilon_spec ⟨ns, h⟩
  exact lt_uniq h2.pw h.pw fun k => (h2.mem k).trans (h.mem k).symm
theorem LvP.len {o : List Str} {u : Str → Int} {ns : List Int} (h : LvP o u ns) : ns.length ≤ o.length := by
  have := nodup_sub (h.pw.imp fun h => Int.ne_of_lt h : ns.Nodup) (ys := o.map u) fun k hk => by
    obtain ⟨x, hx, e⟩ := (h.mem k).mp hk
    exact List.mem_map.mpr ⟨x, hx, e⟩
  rwa [List.length_map] at this
def rkOf (o : List Str) (u : Str → Int) (ns : List Int) : List (List Str) := ns.reverse.map fun a => o.filter fun x => decide (u x = a)
noncomputable def rk (o : List Str) (u : Str → Int) : List (List Str) := rkOf o u (lv o u)
theorem rk_okN {o : List Str} {u : Str → Int} {ns : List Int} (O : okN o) : ∀ l ∈ rkOf o u ns, okN l := fun l hl => by
  obtain ⟨a, _, rfl⟩ := List.mem_map.mp hl
  exact fun x hx => O x (List.mem_filter.mp hx).1
/-! dicts filled in loops -/
structure FD (d : List (Str × Int)) (f : Str → Int) : Prop where
  nd : (d.map (·.1)).Nodup
  val : ∀ x ∈ d.map (·.1), getD d x = some (f x)
theorem FD.nil {f : Str → Int} : FD [] f := ⟨List.nodup_nil, fun _ h => nomatch h⟩
theorem putD_keys {d : List (Str × Int)} {k : Str} {a : Int} : (putD d k a).map (·.1) = if k ∈ d.map (·.1) then d.map (·.1) else d.map (·.1) ++ [k] := by
  by_cases h : k ∈ d.map (·.1)
  · rw [if_pos h]
    unfold putD
    have : (d.any fun q => decide (q.1 = k)) = true := by
      obtain ⟨q, hq, e⟩ := List.mem_map.mp h
      exact List.any_eq_true.mpr ⟨q, hq, decide_eq_true e⟩
    rw [if_pos this, List.map_map]
    refine List.map_congr_left fun q _ => ?_
    show (if q.1 = k then (q.1, a) else q).1 = q.1
    split <;> rfl
  · rw [if_neg h, putD_new h, List.map_append]; rfl
theorem FD.put {d : List (Str × Int)} {f : Str → Int} (h : FD d f) (k : Str) : FD (putD d k (f k)) f := by
  refine ⟨?_, fun x hx => ?_⟩
  · rw [putD_keys]
    split
    · exact h.nd
    · rename_i hk
      exact List.nodup_append.mpr ⟨h.nd, by simp, fun a ha b hb => by rw [List.mem_singleton.mp hb]; exact fun e => hk (e ▸ ha)⟩
  · rw [getD_put]
    split
    · rename_i e; rw [e]
    · rename_i e
      refine h.val x ?_
      rw [putD_keys] at hx
      split at hx
      · exact hx
      · exact (List.mem_append.mp hx).resolve_right fun z => e (List.mem_singleton.mp z)
theorem FD.len {d : List (Str × Int)} {f : Str → Int} {o : List Str} (h : FD d f) (hm : ∀ x ∈ d.map (·.1), x ∈ o) : d.length ≤ o.length := by
  have := nodup_sub h.nd hm
  rwa [List.length_map] at this
section
variable {Ψ : Exc → Nat → Prop} {n : Nat}
theorem F_liked_ok {o : List Str} {u : Str → Int} {a : Int} {Φ : List Str → Nat → Prop} (hl : o.length ≤ 1000) (k : Φ (o.filter fun x => decide (u x = a)) n) : F_WishesDliked (wishOf o u, (a, ())) Φ Ψ n := by
  delta F_WishesDliked
  refine ret_i (bind_i (bind_i (comp_filter (fun x => decide (u x = a)) (fun x hx Φ' n' q => ?_) hl (pure_i k))))
  refine bind_i (bind_i (dget_is (getD_map_of hx) (pure_i ?_)))
  refine ite_ (fun e => ?_) (fun e => ?_)
  · rw [if_pos e] at q; exact q
  · rw [if_neg (by rw [e]; simp)] at q; exact q
theorem F_wranks_ok {o : List Str} {u : Str → Int} {Φ : List (List Str) → Nat → Prop} (l6 : o.length ≤ 6) (k : LvP o u (lv o u) → Φ (rk o u) n) : F_Wishes_ranks (wishOf o u, ()) Φ Ψ n := by
  delta F_Wishes_ranks
  refine ret_i (bind_i (sortSC_i (by show o.length < 64; omega) (fun x hx => ?_) fun ns pw me => ?_))
  · show (getD (o.map fun x => (x, u x)) x).isSome = true
    rw [getD_map_of (show x ∈ o from hx)]; rfl
  have L : LvP o u ns := ⟨pw, fun k => (me k).trans ⟨fun ⟨x, hx, e⟩ => ⟨x, hx, by
    have e : getD (o.map fun x => (x, u x)) x = some k := e
    rw [getD_map_of (show x ∈ o from hx)] at e; exact Option.some.inj e⟩, fun ⟨x, hx, e⟩ => ⟨x, hx, by
    show getD (o.map fun x => (x, u x)) x = some k
    rw [getD_map_of (show x ∈ o from hx), e]⟩⟩⟩
  have el := L.lv
  have k := k (by rw [el]; exact L)
  unfold rk at k
  rw [el] at k
  have ll := L.len
  exact bind_i (comp_map (fun a => o.filter fun x => decide (u x = a)) (fun a _ Φ' n' q => bind_i (nox_i (F_liked_ok (by omega) q))) (by rw [List.length_reverse]; omega) k)
end
section
variable {Ψ : Exc → Nat → Prop} {n : Nat}
theorem F_Lranks_ok {d : List (Str × Int)} {o : List Str} {u : Str → Int} {Φ : List (List Str) → Nat → Prop} (A : Amt d o u) (so : Srt o) (l6 : o.length ≤ 6) (k : LvP o u (lv o u) → Φ (rk o u) n) : F_Lranks (d, ()) Φ Ψ n := by
  have kl : (keysI d).length = o.length := A.keys.length_eq
  have km : ∀ x, x ∈ keysI d ↔ x ∈ o := fun x => A.keys.mem_iff
  delta F_Lranks
  refine ret_i ?_
  refine seq_i (bind_i (bind_i (bind_i (nox_i (comp_map u (fun x hx Φ' n' q => bind_i (dget_is (A.get x ((km x).mp hx)) q)) (by show (keysI d).length ≤ 1000; omega) ?_)))))
  refine ⟨by rw [List.length_map]; show (keysI d).length < 64; omega, fun ns pw me => ?_⟩
  have L : LvP o u ns := ⟨pw, fun k => (me k).trans (List.mem_map.trans ⟨fun ⟨x, hx, e⟩ => ⟨x, (km x).mp hx, e⟩, fun ⟨x, hx, e⟩ => ⟨x, (km x).mpr hx, e⟩⟩)⟩
  have el := L.lv
  have k := k (by rw [el]; exact L)
  unfold rk at k
  rw [el] at k
  have ll := L.len
  refine pure_i ?_
  refine for_rule (fun i s m => m = n ∧ s = (ns.reverse.take i).map fun a => o.filter fun x => decide (u x = a)) ⟨rfl, by simp⟩ (fun i a s m ha hI Φ' k1 _ => ?_) (fun s m hI => ?_)
  · obtain ⟨rfl, hs⟩ := hI
    refine bind_i (bind_i (bind_i (sortS_i (by show (keysI d).length < 64; omega) fun ys p hs2 => ?_)))
    have e : ys = o := Srt.uniq ⟨(p.trans A.keys).nodup_iff.mpr so.nd, hs2⟩ so fun x => (p.trans A.keys).mem_iff
    subst e
    refine comp_filter (fun x => decide (u x = a)) (fun x hx Φ2 n' q => ?_) (by omega) (pure_i ?_)
    · refine bind_i (bind_i (dget_is (A.get x hx) (pure_i ?_)))
      refine ite_ (fun e => ?_) (fun e => ?_)
      · rw [if_pos e] at q; exact q
      · rw [if_neg (by rw [e]; simp)] at q; exact q
    have li : i < ns.reverse.length := (List.getElem?_eq_some_iff.mp ha).1
    rw [List.length_reverse] at li
    refine ⟨small1000 (by rw [hs, List.length_map, List.length_take, List.length_reverse]; omega), k1 _ _ ⟨rfl, ?_⟩⟩
    rw [hs, take_snoc ha, List.map_append]; rfl
  · obtain ⟨rfl, hs⟩ := hI
    rw [List.take_length] at hs
    rw [hs]; exact k
end
end K03
namespace K03
open PySem PySem.Spec PyProof.Rows L2 VL
/-! ### a given dict, and what is due -/
def vOf (g : List (Str × PyData)) (x : Str) : PyData := (getD g x).getD .none
theorem getD_key {α : Type} {g : List (Str × α)} {x : Str} (h : x ∈ g.map (·.1)) : ∃ a, getD g x = some a ∧ (x, a) ∈ g := by
  induction g with
  | nil => cases h
  | cons q g ih =>
    rw [getD_cons]
    by_cases e : q.1 = x
    · rw [if_pos e]
      exact ⟨q.2, rfl, by rw [← e]; exact List.mem_cons_self⟩
    · rw [if_neg e]
      obtain ⟨a, h1, h2⟩ := ih ((List.mem_cons.mp h).resolve_left fun z => e z.symm)
      exact ⟨a, h1, List.mem_cons_of_mem _ h2⟩
structure GD (g : List (Str × PyData)) : Prop where
  nd : (g.map (·.1)).Nodup
  len : g.length ≤ 7
  key : ∀ x ∈ g.map (·.1), x.length ≤ 1000 ∧ Asc x
  ok : ∀ p ∈ g, Ok2 p.2
theorem GD.get {g : List (Str × PyData)} (G : GD g) {x : Str} (h : x ∈ g.map (·.1)) : getD g x = some (vOf g x) ∧ (x, vOf g x) ∈ g ∧ Ok2 (vOf g x) := by
  obtain ⟨a, h1, h2⟩ := getD_key h
  have e : vOf g x = a := by unfold vOf; rw [h1]; rfl
  rw [e]
  exact ⟨h1, h2, G.ok _ h2⟩
structure Ky (g : List (Str × PyData)) (o : List Str) : Prop where
  perm : (g.map (·.1)).Perm o
  so : Srt o
theorem GD.ky {g : List (Str × PyData)} (G : GD g) : ∃ o, Ky g o := by
  obtain ⟨o, p, s⟩ := sortS_ex (g.map (·.1))
  exact ⟨o, p.symm, p.nodup_iff.mpr G.nd, s⟩
theorem Ky.len {g : List (Str × PyData)} {o : List Str} (K : Ky g o) : o.length = g.length := by rw [← K.perm.length_eq, List.length_map]
theorem Ky.in_ {g : List (Str × PyData)} {o : List Str} (K : Ky g o) {x : Str} (h : x ∈ o) : x ∈ g.map (·.1) := K.perm.mem_iff.mpr h
def isI (d : PyData) : Bool := isD_int d && !isD_bool d
def intOf : PyData → Int
  | .int i => i
  | _ => 0
theorem isI_int {d : PyData} (h : isI d = true) : d = .int (intOf d) := by
  cases d <;> first | rfl | (exfalso; revert h; simp [isI, isD_int, isD_bool])
def nmO (o : List Str) : Option Exc := o.findSome? fun x => if good x = true then none else some ⟨"BadName", "name", .str x⟩
def vlO (f : Str → PyData) (o : List Str) : Option Exc := o.findSome? fun x => if isI (f x) = true then none else some ⟨"BadWish", "value", f x⟩
def wsE (o : List Str) (f : Str → PyData) : Option Exc := (ctE (o.length : Int)).or ((nmO o).or (vlO f o))
theorem outE_or {o p : Option Exc} {A : Prop} {Ψ : Exc → Nat → Prop} {n : Nat} : outE (o.or p) A Ψ n = outE o (outE p A Ψ n) Ψ n := by cases o <;> rfl
theorem ctE_some {c : Int} {e : Exc} (h : ctE c = some e) : e = ⟨"BadCount", "count", .int c⟩ := by
  unfold ctE at h
  split at h
  · cases h
  · exact (Option.some.inj h).symm
theorem ctE_none {c : Int} (h : ctE c = none) : 1 ≤ c ∧ c ≤ 6 := by
  unfold ctE at h
  split at h
  · assumption
  · cases h
theorem nmO_some {o : List Str} {e : Exc} (h : nmO o = some e) : ∃ x ∈ o, e = ⟨"BadName", "name", .str x⟩ := by
  obtain ⟨x, hx, hp⟩ := List.exists_of_findSome?_eq_some h
  refine ⟨x, hx, ?_⟩
  split at hp
  · cases hp
  · exact (Option.some.inj hp).symm
theorem vlO_some {o : List Str} {f : Str → PyData} {e : Exc} (h : vlO f o = some e) : ∃ x ∈ o, e = ⟨"BadWish", "value", f x⟩ := by
  obtain ⟨x, hx, hp⟩ := List.exists_of_findSome?_eq_some h
  refine ⟨x, hx, ?_⟩
  split at hp
  · cases hp
  · exact (Option.some.inj hp).symm
theorem wsE_some {o : List Str} {f : Str → PyData} {e : Exc} (h : wsE o f = some e) : e = ⟨"BadCount", "count", .int (o.length : Int)⟩ ∨ (∃ x ∈ o, e = ⟨"BadName", "name", .str x⟩) ∨ ∃ x ∈ o, e = ⟨"BadWish", "value", f x⟩ := by
  unfold wsE at h
  cases e1 : ctE (o.length : Int) with
  | some x =>
    rw [e1] at h
    have h : x = e := Option.some.inj h
    subst h
    exact .inl (ctE_some e1)
  | none =>
    rw [e1] at h
    have h : (nmO o).or (vlO f o) = some e := h
    cases e2 : nmO o with
    | some x =>
      rw [e2] at h
      have h : x = e := Option.some.inj h
      subst h
      exact .inr (.inl (nmO_some e2))
    | none =>
      rw [e2] at h
      exact .inr (.inr (vlO_some h))
structure WsOk (o : List Str) (f : Str → PyData) : Prop where
  l1 : 1 ≤ o.length
  l6 : o.length ≤ 6
  gd : ∀ x ∈ o, good x = true
  vl : ∀ x ∈ o, f x = .int (intOf (f x))
theorem wsE_none {o : List Str} {f : Str → PyData} (h : wsE o f = none) : WsOk o f := by
  unfold wsE at h
  cases e1 : ctE (o.length : Int) with
  | some x => rw [e1] at h; cases h
  | none =>
    rw [e1] at h
    have h : (nmO o).or (vlO f o) = none := h
    cases e2 : nmO o with
    | some x => rw [e2] at h; cases h
    | none =>
      rw [e2] at h
      have c := ctE_none e1
      refine ⟨by omega, by omega, fun x hx => ?_, fun x hx => isI_int ?_⟩
      · have := List.findSome?_eq_none_iff.mp (show nmO o = none from e2) x hx
        by_cases z : good x = true
        · exact z
        · rw [if_neg z] at this; cases this
      · have := List.findSome?_eq_none_iff.mp (show vlO f o = none from h) x hx
        by_cases z : isI (f x) = true
        · exact z
        · rw [if_neg z] at this; cases this
section
variable {Ψ : Exc → Nat → Prop} {n : Nat}
theorem F_isint_is {d : PyData} {Φ : Bool → Nat → Prop} (k : Φ (isI d) n) : F_is_integer (d, ()) Φ Ψ n := by delta F_is_integer; exact k
theorem Ky.sort {g : List (Str × PyData)} {o : List Str} {Φ : List Str → Nat → Prop} (K : Ky g o) (G : GD g) (k : Φ o n) : Mi.sortS (g.map (·.1)) Φ Ψ n := by
  refine sortS_i (by rw [List.length_map]; have := G.len; omega) fun ns p hs => ?_
  have e : ns = o := Srt.uniq ⟨p.nodup_iff.mpr G.nd, hs⟩ K.so fun x => (p.trans K.perm).mem_iff
  rw [e]; exact k
theorem F_Wishes_is {g : List (Str × PyData)} {o : List Str} {Φ : d_Wishes → Nat → Prop} (G : GD g) (K : Ky g o) (k : outE (wsE o (vOf g)) (Φ (wishOf o fun x => intOf (vOf g x)) n) Ψ n) : F_WishesD_initD (g, ()) Φ Ψ n := by
  unfold wsE at k
  rw [outE_or, outE_or] at k
  have ld := K.len
  have l7 := G.len
  delta F_WishesD_initD
  refine bind_i (F_check_count_is ?_)
  show outE (ctE (g.length : Int)) _ Ψ n
  rw [← ld]
  cases e1 : ctE (o.length : Int) with
  | some x => rw [e1] at k; exact k
  | none =>
  rw [e1] at k
  refine out_none (bind_i (K.sort G ?_))
  refine for_raise (fun x => if good x = true then none else some ⟨"BadName", "name", .str x⟩) (fun x hx Φ' n' q => ?_) ?_
  · refine seq_i (bind_i (bind_i (nox_i (F_valid_is (G.key x (K.in_ hx)).1 (pure_i ?_)))))
    refine ite_ (fun h => ?_) (fun h => ?_)
    · rw [if_neg (by intro z; rw [z] at h; cases h)] at q
      exact raise_i q
    · rw [if_pos (by simpa using h)] at q
      exact q
  · show outE (nmO o) _ Ψ n
    cases e2 : nmO o with
    | some x => rw [e2] at k; exact k
    | none =>
    rw [e2] at k
    refine out_none ?_
    refine for_raise (fun x => if isI (vOf g x) = true then none else some ⟨"BadWish", "value", vOf g x⟩) (fun x hx Φ' n' q => ?_) ?_
    · have gx := (G.get (K.in_ hx)).1
      refine seq_i (bind_i (bind_i (bind_i (dget_is gx (nox_i (F_isint_is (pure_i ?_)))))))
      refine ite_ (fun h => ?_) (fun h => ?_)
      · rw [if_neg (by intro z; rw [z] at h; cases h)] at q
        exact bind_i (dget_is gx (raise_i q))
      · rw [if_pos (by simpa using h)] at q
        exact q
    · show outE (vlO (vOf g) o) _ Ψ n
      cases e3 : vlO (vOf g) o with
      | some x => rw [e3] at k; exact k
      | none =>
      rw [e3] at k
      have W : WsOk o (vOf g) := wsE_none (by unfold wsE; rw [e1, e2, e3]; rfl)
      refine out_none (nox_i (bind_i (pure_i (bind_i ?_))))
      refine dcomp_map (fun x => intOf (vOf g x)) (by show o.length ≤ 1000; omega) K.so.nd (fun x hx Φ' n' q => ?_) (pure_i k)
      refine bind_i (bind_i (dget_is (G.get (K.in_ hx)).1 ?_))
      rw [W.vl x hx]
      exact datInt_i (pure_i q)
/-! what is told of it -/
def xL (e : Exc) : List PyData := if e.nm = "BadCount" then [.str "count", e.d] else if e.nm = "BadName" then [.str "name", e.d] else [.str "wish", e.d, .bool (isD_bool e.d)]
def okA (o : List Str) (u : Str → Int) : List PyData := [.str "wishes", .tuple (o.map .str), .dict (prsD ((o.map fun x => (x, u x)).map fun p => (p.1, .int p.2)))]
def okL (o : List Str) (g : List (Str × PyData)) : List PyData := [.str "wishes", .tuple (o.map .str), .dict (prsD g)]
theorem F_wout_is {w : d_Wishes} {Φ : List Str → Nat → Prop} (k : Φ w.1 n) : F_Wishes_outcomes (w, ()) Φ Ψ n := by delta F_Wishes_outcomes; exact k
theorem F_wamt_is {w : d_Wishes} {Φ : List (Str × Int) → Nat → Prop} (k : Φ w.2 n) : F_Wishes_amounts (w, ()) Φ Ψ n := by delta F_Wishes_amounts; exact k
theorem F_Lmade_ok {g : List (Str × PyData)} {o : List Str} {Φ : List PyData → Nat → Prop} (G : GD g) (K : Ky g o) (k0 : wsE o (vOf g) = none → Φ (okA o fun x => intOf (vOf g x)) n) (k1 : ∀ e, wsE o (vOf g) = some e → Φ (xL e) n) : F_Lmade (g, ()) Φ Ψ n := by
  delta F_Lmade
  refine ret_i (try_i (bind_i (F_Wishes_is G K ?_)))
  cases e : wsE o (vOf g) with
  | none =>
    refine out_none (bind_i (bind_i (bind_i (nox_i (F_wout_is (pure_i (bind_i (bind_i (nox_i (F_wamt_is (pure_i (pure_i ?_))))))))))))
    have k := k0 e
    unfold okA prsD at k
    rw [List.map_map] at k
    exact k
  | some x =>
    have k := k1 x e
    refine out_some ?_
    rcases wsE_some e with rfl | ⟨y, _, rfl⟩ | ⟨y, _, rfl⟩
    · exact ⟨fun _ => ⟨rfl, k⟩, fun z => absurd rfl z⟩
    · exact ⟨fun z => absurd z (show ¬ ("BadName" : Str) = "BadCount" by decide +kernel), fun _ => ⟨fun _ => ⟨rfl, k⟩, fun z => absurd rfl z⟩⟩
    · exact ⟨fun z => absurd z (show ¬ ("BadWish" : Str) = "BadCount" by decide +kernel), fun _ => ⟨fun z => absurd z (show ¬ ("BadWish" : Str) = "BadName" by decide +kernel), fun _ => ⟨fun _ => ⟨rfl, k⟩, fun z => absurd rfl z⟩⟩⟩
theorem F_Ldue_ok {g : List (Str × PyData)} {o : List Str} {Φ : List PyData → Nat → Prop} (G : GD g) (K : Ky g o) (k0 : wsE o (vOf g) = none → Φ (okL o g) n) (k1 : ∀ e, wsE o (vOf g) = some e → Φ (xL e) n) : F_Ldue (g, ()) Φ Ψ n := by
  have ld := K.len
  have l7 := G.len
  delta F_Ldue
  refine ret_i (bind_i (K.sort G ?_))
  have main : ∀ {Φ : List PyData → Nat → Prop}, (wsE o (vOf g) = none → Φ (okL o g) n) → (∀ e, wsE o (vOf g) = some e → Φ (xL e) n) → (ctE (o.length : Int) = none → (∀ e, (nmO o).or (vlO (vOf g) o) = some e → Φ (xL e) n) ∧ ((nmO o).or (vlO (vOf g) o) = none → Φ (okL o g) n)) ∧ (∀ e, ctE (o.length : Int) = some e → Φ (xL e) n) := fun {Φ} k0 k1 => by
    refine ⟨fun h => ⟨fun e z => k1 e ?_, fun z => k0 ?_⟩, fun e h => k1 e ?_⟩
    · unfold wsE; rw [h]; exact z
    · unfold wsE; rw [h]; exact z
    · unfold wsE; rw [h]; rfl
  obtain ⟨kA, kB⟩ := main k0 k1
  refine seq_i (ite_ (fun z => ?_) (fun z => nx_i ?_))
  · have e : ctE (o.length : Int) = some ⟨"BadCount", "count", .int (o.length : Int)⟩ := if_neg (by simp at z; omega)
    exact kB _ e
  have e : ctE (o.length : Int) = none := if_pos (by simp at z; omega)
  obtain ⟨kC, kD⟩ := kA e
  refine seq_i (for_first (fun x => if good x = true then none else some [.str "name", .str x]) (fun x hx Φ' n' q => ?_) ?_)
  · refine seq_i (bind_i (bind_i (nox_i (F_Lgood_is (G.key x (K.in_ hx)).1 (G.key x (K.in_ hx)).2 (pure_i ?_)))))
    refine ite_ (fun h => ?_) (fun h => ?_)
    · rw [if_neg (by intro z; rw [z] at h; cases h)] at q
      exact q
    · rw [if_pos (by simpa using h)] at q
      exact q
  have r1 : (o.findSome? fun x => if good x = true then none else some [PyData.str "name", PyData.str x]) = (nmO o).map xL := by
    unfold nmO
    rw [← fs_omap]
    congr 1
    funext x
    by_cases z : good x = true
    · rw [if_pos z, if_pos z]; rfl
    · rw [if_neg z, if_neg z]
      show _ = some (xL _)
      unfold xL
      rw [if_neg (show ¬ ("BadName" : Str) = "BadCount" by decide +kernel), if_pos rfl]
  rw [r1]
  cases e2 : nmO o with
  | some x => exact kC x (by rw [e2]; rfl)
  | none =>
  rw [e2] at kC kD
  show M.seq _ _ _ Ψ n
  refine seq_i (for_first (fun x => if isI (vOf g x) = true then none else some [.str "wish", vOf g x, .bool (isD_bool (vOf g x))]) (fun x hx Φ' n' q => ?_) ?_)
  · have gx := (G.get (K.in_ hx)).1
    refine seq_i (bind_i (bind_i (bind_i (bind_i (dget_is gx (pure_i (pure_i ?_)))))))
    have tail : isI (vOf g x) = false → M.bind (M.bind (Mi.dget g x) fun x_211 => M.bind (M.bind (M.bind (Mi.dget g x) fun x_209 => M.pure (isD_bool x_209)) fun x_210 => M.pure (IsD.d rBl x_210)) fun x_212 => M.pure [IsD.d rStr ("wish" : Str), x_211, x_212]) (fun x_213 => (M.rt x_213 : M (Fl (List PyData) Unit))) (fun fl n => match fl with | .nx a => (M.nx a : M (Fl (List PyData) Unit)) Φ' Ψ n | .rt r => Φ' (.rt r) n) Ψ n' := fun h => by
      rw [if_neg (by rw [h]; simp)] at q
      exact bind_i (bind_i (dget_is gx (bind_i (bind_i (bind_i (dget_is gx (pure_i (pure_i (pure_i q)))))))))
    refine ite_ (fun h => pure_i (ite_ (fun _ => tail ?_) (fun z => nomatch z))) (fun h => ?_)
    · show (isD_int (vOf g x) && !isD_bool (vOf g x)) = false
      rw [show isD_int (vOf g x) = false by simpa using h]; rfl
    · have h : isD_int (vOf g x) = true := by simpa using h
      refine bind_i (dget_is gx (pure_i (ite_ (fun z => tail ?_) (fun z => ?_))))
      · show (isD_int (vOf g x) && !isD_bool (vOf g x)) = false
        rw [h, show isD_bool (vOf g x) = true from z]; rfl
      · have z : isD_bool (vOf g x) = false := z
        have hi : isI (vOf g x) = true := by unfold isI; rw [h, z]; rfl
        rw [if_pos hi] at q
        exact q
  have r2 : (o.findSome? fun x => if isI (vOf g x) = true then none else some [PyData.str "wish", vOf g x, PyData.bool (isD_bool (vOf g x))]) = (vlO (vOf g) o).map xL := by
    unfold vlO
    rw [← fs_omap]
    congr 1
    funext x
    by_cases z : isI (vOf g x) = true
    · rw [if_pos z, if_pos z]; rfl
    · rw [if_neg z, if_neg z]
      show _ = some (xL _)
      unfold xL
      rw [if_neg (show ¬ ("BadWish" : Str) = "BadCount" by decide +kernel), if_neg (show ¬ ("BadWish" : Str) = "BadName" by decide +kernel)]
  rw [r2]
  cases e3 : vlO (vOf g) o with
  | some x => exact kC x e3
  | none => exact kD e3
end
end K03
namespace K03
open PySem PySem.Spec PyProof.Rows L2 VL
/-! ### data of dicts -/
theorem depthKv_le {k : Nat} : ∀ {ds : List (Str × PyData)}, (∀ p ∈ ds, PyData.depth p.2 ≤ k) → PyData.depthKv (prsD ds) ≤ k
  | [], _ => Nat.zero_le _
  | (y, d) :: ds, h => by
    have h1 := h (y, d) List.mem_cons_self
    have h2 := depthKv_le (ds := ds) fun p hp => h p (List.mem_cons_of_mem _ hp)
    show max (max (PyData.depth (.str y)) (PyData.depth d)) (PyData.depthKv (prsD ds)) ≤ k
    have h3 : PyData.depth (.str y) = 0 := by simp [PyData.depth]
    have h1 : PyData.depth d ≤ k := h1
    omega
theorem dokk_of : ∀ {ds : List (Str × PyData)}, (∀ p ∈ ds, dok p.2 = true) → dokk (prsD ds) = true
  | [], _ => rfl
  | (y, d) :: ds, h => by
    have h1 := h (y, d) List.mem_cons_self
    have h2 := dokk_of (ds := ds) fun p hp => h p (List.mem_cons_of_mem _ hp)
    show (dok d && dokk (prsD ds)) = true
    rw [h2, show dok d = true from h1]; rfl
theorem dict_dok {ds : List (Str × PyData)} (nd : (ds.map (·.1)).Nodup) (h : ∀ p ∈ ds, dok p.2 = true) : dok (.dict (prsD ds)) = true := by
  simp only [dok, Bool.and_eq_true]
  exact ⟨decide_eq_true (by rw [keys_prs]; exact nd), dokk_of h⟩
theorem dict_dep {k : Nat} {ds : List (Str × PyData)} (h : ∀ p ∈ ds, PyData.depth p.2 ≤ k) : PyData.depth (.dict (prsD ds)) ≤ k + 1 := by
  have := depthKv_le h
  simp only [PyData.depth]
  omega
theorem dict_eqv {ds es : List (Str × PyData)} (ne : (es.map (·.1)).Nodup) (hl : ds.length = es.length) (h : ∀ p ∈ ds, ∃ y, (p.1, y) ∈ es ∧ eqvD p.2 y = true) : eqvD (.dict (prsD ds)) (.dict (prsD es)) = true := by
  simp only [eqvD, Bool.and_eq_true]
  refine ⟨by rw [beq_iff_eq]; unfold prsD; rw [List.length_map, List.length_map, hl], ?_⟩
  rw [eqvDk_all, List.all_eq_true]
  intro p hp
  obtain ⟨y, h1, h2⟩ := h p hp
  rw [fnd_self ne h1]
  exact h2
theorem GD.dok {g : List (Str × PyData)} (G : GD g) : VL.dok (.dict (prsD g)) = true := dict_dok G.nd fun p hp => (okG_dok _ (G.ok p hp).1).1
theorem GD.dep {g : List (Str × PyData)} (G : GD g) : PyData.depth (.dict (prsD g)) ≤ 51 := dict_dep fun p hp => (G.ok p hp).2
theorem GD.eqv {g : List (Str × PyData)} (G : GD g) : eqvD (.dict (prsD g)) (.dict (prsD g)) = true := dict_eqv G.nd rfl fun p hp => ⟨p.2, hp, (okG_dok _ (G.ok p hp).1).2.1⟩
def amD (o : List Str) (u : Str → Int) : List (Str × PyData) := (o.map fun x => (x, u x)).map fun p => (p.1, .int p.2)
theorem amD_keys (o : List Str) (u : Str → Int) : (amD o u).map (·.1) = o := by
  unfold amD
  rw [List.map_map, List.map_map]
  exact (List.map_congr_left fun _ _ => rfl).trans (List.map_id o)
theorem amD_in {o : List Str} {u : Str → Int} {p : Str × PyData} (h : p ∈ amD o u) : p.1 ∈ o ∧ p.2 = .int (u p.1) := by
  unfold amD at h
  rw [List.map_map] at h
  obtain ⟨x, hx, rfl⟩ := List.mem_map.mp h
  exact ⟨hx, rfl⟩
theorem am_dok {o : List Str} {u : Str → Int} (nd : o.Nodup) : VL.dok (.dict (prsD (amD o u))) = true := dict_dok (by rw [amD_keys]; exact nd) fun p hp => by rw [(amD_in hp).2]; simp [VL.dok]
theorem am_dep {o : List Str} {u : Str → Int} : PyData.depth (.dict (prsD (amD o u))) ≤ 51 := dict_dep fun p hp => by rw [(amD_in hp).2]; simp [PyData.depth]
theorem eqv_int (i : Int) : eqvD (.int i) (.int i) = true := (okG_dok (.int i) (by simp [okG])).2.1
theorem am_eqv {g : List (Str × PyData)} {o : List Str} (G : GD g) (K : Ky g o) (W : WsOk o (vOf g)) : eqvD (.dict (prsD (amD o fun x => intOf (vOf g x)))) (.dict (prsD g)) = true := by
  refine dict_eqv G.nd ?_ fun p hp => ?_
  · unfold amD
    rw [List.length_map, List.length_map, K.len]
  · obtain ⟨h1, h2⟩ := amD_in hp
    refine ⟨_, (G.get (K.in_ h1)).2.1, ?_⟩
    rw [h2, W.vl _ h1]
    exact eqv_int _
theorem strs_dok (o : List Str) : VL.dok (.tuple (o.map .str)) = true ∧ eqvD (.tuple (o.map .str)) (.tuple (o.map .str)) = true := by
  have := okG_dok _ (ok2_strs o).1
  exact ⟨this.1, this.2.1⟩
theorem str_dok (z : Str) : VL.dok (.str z) = true ∧ eqvD (.str z) (.str z) = true := by
  have := okG_dok _ (ok2_str z).1
  exact ⟨this.1, this.2.1⟩
def dueL (o : List Str) (g : List (Str × PyData)) : List PyData := match wsE o (vOf g) with
  | none => okL o g
  | some e => xL e
def madeL (o : List Str) (g : List (Str × PyData)) : List PyData := match wsE o (vOf g) with
  | none => okA o fun x => intOf (vOf g x)
  | some e => xL e
theorem xL_ok {g : List (Str × PyData)} {o : List Str} (G : GD g) (K : Ky g o) {e : Exc} (h : wsE o (vOf g) = some e) : ∀ d ∈ xL e, Ok2 d := by
  have b2 : ∀ b, Ok2 (.bool b) := fun b => ⟨by simp [okG], by simp [PyData.depth]⟩
  rcases wsE_some h with rfl | ⟨y, hy, rfl⟩ | ⟨y, hy, rfl⟩
  · rw [show xL ⟨"BadCount", "count", .int (o.length : Int)⟩ = [.str "count", .int (o.length : Int)] from if_pos rfl]
    intro d hd
    simp only [List.mem_cons, List.not_mem_nil, or_false] at hd
    rcases hd with rfl | rfl
    · exact ok2_str _
    · exact ok2_int _
  · rw [show xL ⟨"BadName", "name", .str y⟩ = [.str "name", .str y] from by unfold xL; rw [if_neg (show ¬ ("BadName" : Str) = "BadCount" by decide +kernel), if_pos rfl]]
    intro d hd
    simp only [List.mem_cons, List.not_mem_nil, or_false] at hd
    rcases hd with rfl | rfl
    · exact ok2_str _
    · exact ok2_str _
  · rw [show xL ⟨"BadWish", "value", vOf g y⟩ = [.str "wish", vOf g y, .bool (isD_bool (vOf g y))] from by unfold xL; rw [if_neg (show ¬ ("BadWish" : Str) = "BadCount" by decide +kernel), if_neg (show ¬ ("BadWish" : Str) = "BadName" by decide +kernel)]]
    intro d hd
    simp only [List.mem_cons, List.not_mem_nil, or_false] at hd
    rcases hd with rfl | rfl | rfl
    · exact ok2_str _
    · exact (G.get (K.in_ hy)).2.2
    · exact b2 _
theorem made_due {g : List (Str × PyData)} {o : List Str} (G : GD g) (K : Ky g o) : doks (madeL o g) = true ∧ doks (dueL o g) = true ∧ PyData.depthAll (madeL o g) ≤ 60 ∧ eqvDs (madeL o g) (dueL o g) = true := by
  unfold madeL dueL
  cases e : wsE o (vOf g) with
  | some x =>
    have h := xL_ok G K e
    have k := okGs_doks _ (okGs_of fun d hd => (h d hd).1)
    exact ⟨k.1, k.1, Nat.le_trans (depAll_of fun d hd => (h d hd).2) (by decide), k.2.1⟩
  | none =>
    have W := wsE_none e
    have a1 := am_dok (u := fun x => intOf (vOf g x)) K.so.nd
    have a2 := am_eqv G K W
    have a3 : PyData.depth (.dict (prsD (amD o fun x => intOf (vOf g x)))) ≤ 51 := am_dep
    refine ⟨?_, ?_, ?_, ?_⟩
    · show doks [.str "wishes", .tuple (o.map .str), .dict (prsD (amD o fun x => intOf (vOf g x)))] = true
      simp only [doks, a1, (strs_dok o).1, (str_dok _).1, Bool.and_self]
    · show doks [.str "wishes", .tuple (o.map .str), .dict (prsD g)] = true
      simp only [doks, G.dok, (strs_dok o).1, (str_dok _).1, Bool.and_self]
    · refine Nat.le_trans (depAll_of (k := 51) fun d hd => ?_) (by decide)
      have hd : d ∈ [PyData.str "wishes", .tuple (o.map .str), .dict (prsD (amD o fun x => intOf (vOf g x)))] := hd
      simp only [List.mem_cons, List.not_mem_nil, or_false] at hd
      rcases hd with rfl | rfl | rfl
      · exact Nat.le_trans (ok2_str _).2 (by decide)
      · exact Nat.le_trans (ok2_strs _).2 (by decide)
      · exact a3
    · show eqvDs [.str "wishes", .tuple (o.map .str), .dict (prsD (amD o fun x => intOf (vOf g x)))] [.str "wishes", .tuple (o.map .str), .dict (prsD g)] = true
      simp only [eqvDs, a2, (strs_dok o).2, (str_dok _).2, Bool.and_self]
/-! ### what is told of wishes -/
theorem getD_out {α : Type} {d : List (Str × α)} {x : Str} (h : ¬ x ∈ d.map (·.1)) : getD d x = none := by
  induction d with
  | nil => rfl
  | cons q d ih =>
    rw [getD_cons, if_neg fun e => h (List.mem_map.mpr ⟨q, List.mem_cons_self, e⟩)]
    exact ih fun z => h (List.mem_cons_of_mem _ z)
structure IsMx (u : Str → Int) (xs : List Str) (m : Int) : Prop where
  mem : m ∈ xs.map u
  le : ∀ y ∈ xs.map u, y ≤ m
theorem IsMx.uniq {u : Str → Int} {xs : List Str} {m k : Int} (a : IsMx u xs m) (b : IsMx u xs k) : m = k := Int.le_antisymm (b.le _ a.mem) (a.le _ b.mem)
theorem mx_ex {u : Str → Int} : ∀ {xs : List Str}, xs ≠ [] → ∃ m, IsMx u xs m
  | [], h => absurd rfl h
  | [x], _ => ⟨u x, by simp, by simp⟩
  | x :: y :: r, _ => by
    obtain ⟨m, h⟩ := mx_ex (u := u) (xs := y :: r) (by simp)
    by_cases e : u x ≤ m
    · exact ⟨m, List.mem_cons_of_mem _ h.mem, fun z hz => (List.mem_cons.mp hz).elim (fun z => z ▸ e) (h.le z)⟩
    · exact ⟨u x, List.mem_cons_self, fun z hz => (List.mem_cons.mp hz).elim (fun z => by rw [z]; exact Int.le_refl _) fun hz => by have := h.le z hz; omega⟩
theorem first_out (o : List Str) : ∀ xs : List Str, (∀ x ∈ xs, x ∈ o) ∨ ∃ l x r, xs = l ++ x :: r ∧ (∀ y ∈ l, y ∈ o) ∧ ¬ x ∈ o
  | [] => .inl fun _ h => nomatch h
  | x :: xs => by
    by_cases hx : x ∈ o
    · rcases first_out o xs with h | ⟨l, y, r, rfl, h1, h2⟩
      · exact .inl fun z hz => (List.mem_cons.mp hz).elim (fun e => e ▸ hx) (h z)
      · exact .inr ⟨x :: l, y, r, rfl, fun z hz => (List.mem_cons.mp hz).elim (fun e => e ▸ hx) (h1 z), h2⟩
    · exact .inr ⟨[], x, xs, rfl, (fun _ h => nomatch h), hx⟩
def unkX (x : Str) : Exc := ⟨"UnknownName", "name", .str x⟩
def unkL (x : Str) : List PyData := [.str "unknown", .str x]
def bestL (o : List Str) (u : Str → Int) (xs : List Str) (m : Int) : List Str := o.filter fun x => decide (x ∈ xs) && decide (u x = m)
section
variable {Ψ : Exc → Nat → Prop} {n : Nat} {o : List Str} {u : Str → Int}
theorem F_wget_is {x : Str} {Φ : Int → Nat → Prop} (k1 : x ∈ o → Φ (u x) n) (k2 : ¬ x ∈ o → Ψ (unkX x) n) : F_WishesD_getitemD (wishOf o u, (x, ())) Φ Ψ n := by
  delta F_WishesD_getitemD
  refine ret_i (seq_i (ite_ (fun h => raise_i (k2 ?_)) (fun h => nx_i (bind_i (dget_is (getD_map_of ?_) (k1 ?_))))))
  · have h : (!decide (x ∈ o)) = true := h
    exact of_decide_eq_false (by simpa using h)
  · have h : (!decide (x ∈ o)) = false := h
    exact of_decide_eq_true (by simpa using h)
  · have h : (!decide (x ∈ o)) = false := h
    exact of_decide_eq_true (by simpa using h)
theorem F_best_is {xs : List Str} {Φ : List Str → Nat → Prop} (hl : xs.length ≤ 100) (ho : o.length ≤ 6) (k0 : xs = [] → Ψ ⟨"BadCount", "count", .int 0⟩ n) (k1 : ∀ l x r, xs = l ++ x :: r → (∀ y ∈ l, y ∈ o) → ¬ x ∈ o → Ψ (unkX x) n) (k2 : xs ≠ [] → (∀ x ∈ xs, x ∈ o) → ∀ m, IsMx u xs m → Φ (bestL o u xs m) n) :
    F_Wishes_best (wishOf o u, (xs, ())) Φ Ψ n := by
  delta F_Wishes_best
  refine ret_i (seq_i (ite_ (fun h => raise_i (k0 ?_)) (fun h => nx_i (bind_i (bind_i ?_)))))
  · have h := of_decide_eq_true h
    have h : (xs.length : Int) = 0 := h
    exact List.eq_nil_of_length_eq_zero (by omega)
  have ne : xs ≠ [] := fun e => by
    have h := of_decide_eq_false h
    subst e
    exact h rfl
  rcases first_out o xs with hin | ⟨l, x, r, e, h1, h2⟩
  · refine compX_map u (fun x hx Φ' q => bind_i (F_wget_is (fun _ => pure_i q) fun z => absurd (hin x hx) z)) (by show xs.length ≤ 1000; omega) ?_
    refine max_i (by rw [List.length_map]; exact List.length_pos_iff.mpr ne) fun m hm hle => ?_
    refine bind_i (bind_i (bind_i (nox_i (F_liked_ok (by omega) ?_))))
    refine comp_filter (fun x => decide (x ∈ xs)) (fun x hx Φ' n' q => ?_) (Nat.le_trans (List.length_filter_le _ _) (by omega)) (pure_i ?_)
    · refine ite_ (fun z => ?_) (fun z => ?_)
      · rw [if_pos z] at q; exact q
      · rw [if_neg (by rw [z]; simp)] at q; exact q
    · have e : (o.filter fun x => decide (u x = m)).filter (fun x => decide (x ∈ xs)) = bestL o u xs m := List.filter_filter
      rw [e]
      exact k2 ne hin m ⟨hm, hle⟩
  · exact compX_raise e (by show xs.length ≤ 1000; omega) u (fun y hy Φ' q => bind_i (F_wget_is (fun _ => pure_i q) fun z => absurd (h1 y hy) z)) (fun Φ' => bind_i (F_wget_is (fun z => absurd z h2) fun _ => k1 l x r e h1 h2))
def t0 (o : List Str) (u : Str → Int) (l : Str) : List PyData := if l ∈ o then [.str "amount", .int (u l)] else unkL l
def t1 (o : List Str) (u : Str → Int) (l r : Str) : List PyData := if l ∈ o then (if r ∈ o then [.str "prefers", .bool (decide (u r < u l))] else unkL r) else unkL l
theorem hnd_unk {x : Str} {Φ : Fl (List PyData) Unit → Nat → Prop} {h2 : PyData → M (Fl (List PyData) Empty)} (k : Φ (.rt (unkL x)) n) :
    M.up (M.hnd (unkX x) [(("UnknownName" : Str), ("name" : Str), fun d => M.rt [IsD.d rStr ("unknown" : Str), d]), (("BadCount" : Str), ("count" : Str), h2)]) Φ Ψ n := ⟨fun _ => ⟨rfl, k⟩, fun z => absurd rfl z⟩
theorem F_told0 {l r : Str} {Φ : List PyData → Nat → Prop} (k : Φ (t0 o u l) n) : F_Ltold (wishOf o u, (0, (.str l, (r, ())))) Φ Ψ n := by
  delta F_Ltold
  refine ret_i (try_i (seq_i (ite_ (fun _ => bind_i (bind_i (bind_i (bind_i (datStr_i (F_wget_is (fun h => ?_) (fun h => ?_))))))) (fun z => nomatch z))))
  · unfold t0 at k; rw [if_pos h] at k
    exact pure_i (pure_i k)
  · unfold t0 at k; rw [if_neg h] at k
    exact hnd_unk k
theorem F_told1 {l r : Str} {Φ : List PyData → Nat → Prop} (k : Φ (t1 o u l r) n) : F_Ltold (wishOf o u, (1, (.str l, (r, ())))) Φ Ψ n := by
  delta F_Ltold
  refine ret_i (try_i (seq_i (ite_ (fun z => nomatch z) (fun _ => nx_i (seq_i (ite_ (fun _ => bind_i (bind_i (bind_i (bind_i (datStr_i ?_))))) (fun z => nomatch z)))))))
  delta F_Wishes_prefers
  unfold t1 at k
  refine ret_i (bind_i (bind_i (F_wget_is (fun h => bind_i (F_wget_is (fun h2 => ?_) (fun h2 => ?_))) (fun h => ?_))))
  · rw [if_pos h, if_pos h2] at k
    exact k
  · rw [if_pos h, if_neg h2] at k
    exact hnd_unk k
  · rw [if_neg h] at k
    exact hnd_unk k
theorem F_told2 {d : PyData} {xs : List Str} {r : Str} {Φ : List PyData → Nat → Prop} (hd : d = .tuple (xs.map .str) ∨ d = .list (xs.map .str)) (hl : xs.length ≤ 100) (ho : o.length ≤ 6) (k0 : xs = [] → Φ [.str "count", .int 0] n) (k1 : ∀ l x r, xs = l ++ x :: r → (∀ y ∈ l, y ∈ o) → ¬ x ∈ o → Φ (unkL x) n)
    (k2 : xs ≠ [] → (∀ x ∈ xs, x ∈ o) → ∀ m, IsMx u xs m → Φ [.str "best", .tuple ((bestL o u xs m).map .str)] n) : F_Ltold (wishOf o u, (2, (d, (r, ())))) Φ Ψ n := by
  delta F_Ltold
  refine ret_i (try_i (seq_i (ite_ (fun z => nomatch z) (fun _ => nx_i (seq_i (ite_ (fun z => nomatch z) (fun _ => nx_i (bind_i (bind_i (bind_i (bind_i ⟨xs, hd, ?_⟩)))))))))))
  refine F_best_is hl ho (fun e => ?_) (fun l x r e h1 h2 => hnd_unk (k1 l x r e h1 h2)) (fun h1 h2 m hm => pure_i (pure_i (k2 h1 h2 m hm)))
  exact ⟨fun z => absurd z (show ¬ ("BadCount" : Str) = "UnknownName" by decide +kernel), fun _ => ⟨fun _ => ⟨rfl, k0 e⟩, fun z => absurd rfl z⟩⟩
end
end K03
namespace K03
open PySem PySem.Spec PyProof.Rows L2 VL
/-! ### what is due of them -/
def pU (o : List Str) (x : Str) : Option (List PyData) := if x ∈ o then none else some (unkL x)
theorem pU_in {o xs : List Str} (h : ∀ x ∈ xs, x ∈ o) : xs.findSome? (pU o) = none := List.findSome?_eq_none_iff.mpr fun x hx => if_pos (h x hx)
theorem pU_out {o xs l r : List Str} {x : Str} (e : xs = l ++ x :: r) (h1 : ∀ y ∈ l, y ∈ o) (h2 : ¬ x ∈ o) : xs.findSome? (pU o) = some (unkL x) := by
  subst e
  rw [List.findSome?_append, pU_in h1, List.findSome?_cons, show pU o x = some (unkL x) from if_neg h2]
  rfl
theorem Amt.some_ {di : List (Str × Int)} {o : List Str} {u : Str → Int} (A : Amt di o u) (x : Str) : (getD di x).isSome = decide (x ∈ o) := by
  by_cases h : x ∈ o
  · rw [A.get x h, decide_eq_true h]; rfl
  · rw [getD_out fun z => h (A.keys.mem_iff.mp z), decide_eq_false h]; rfl
section
variable {Ψ : Exc → Nat → Prop} {n : Nat} {o : List Str} {u : Str → Int} {di : List (Str × Int)}
theorem Amt.sort {Φ : List Str → Nat → Prop} (A : Amt di o u) (so : Srt o) (l6 : o.length ≤ 6) (k : Φ o n) : Mi.sortS (di.map (·.1)) Φ Ψ n := by
  refine sortS_i (by rw [A.keys.length_eq]; omega) fun ns p hs => ?_
  have e : ns = o := Srt.uniq ⟨(p.trans A.keys).nodup_iff.mpr so.nd, hs⟩ so fun x => (p.trans A.keys).mem_iff
  rw [e]; exact k
theorem walk_is {xs : List Str} {Φ : Fl (List PyData) Unit → Nat → Prop} (A : Amt di o u) (k : found Φ n (xs.findSome? (pU o))) :
    M.forL (fun (b : Str) (_ : Unit) => M.seq (M.ite (!(getD di b).isSome) (M.rt [IsD.d rStr ("unknown" : Str), IsD.d rStr b]) (M.nx ())) fun _ => M.nx ()) xs () Φ Ψ n := by
  refine for_first (pU o) (fun x hx Φ' n' q => ?_) k
  rw [A.some_]
  unfold pU at q
  refine seq_i (ite_ (fun h => ?_) (fun h => ?_))
  · rw [if_neg (by simpa using h)] at q
    exact q
  · rw [if_pos (by simpa using h)] at q
    exact q
theorem F_due0 {l r : Str} {Φ : List PyData → Nat → Prop} (A : Amt di o u) (k : Φ (t0 o u l) n) : F_Ltold_due (di, (0, (.str l, (r, ())))) Φ Ψ n := by
  delta F_Ltold_due
  refine ret_i (seq_i (bind_i (ite_ (fun z => nomatch z) (fun _ => pure_i (ite_ (fun z => nomatch z) (fun _ => nx_i (bind_i (idx_i (x := .list [.str l]) (atI_nat (j := 0) rfl) (seq_i (bind_i ⟨[l], .inr rfl, ?_⟩)))))))))) 
  refine walk_is A ?_
  unfold t0 at k
  by_cases h : l ∈ o
  · rw [if_pos h] at k
    rw [pU_in (fun x hx => by rw [List.mem_singleton.mp hx]; exact h)]
    refine found_none (seq_i (ite_ (fun _ => bind_i (bind_i (bind_i (bind_i (datStr_i (dget_is (A.get l h) ?_)))))) (fun z => nomatch z)))
    exact k
  · rw [if_neg h] at k
    rw [show [l].findSome? (pU o) = some (unkL l) from pU_out (l := []) (r := []) rfl (fun _ h => nomatch h) h]
    exact k
theorem F_due1 {l r : Str} {Φ : List PyData → Nat → Prop} (A : Amt di o u) (k : Φ (t1 o u l r) n) : F_Ltold_due (di, (1, (.str l, (r, ())))) Φ Ψ n := by
  delta F_Ltold_due
  refine ret_i (seq_i (bind_i (ite_ (fun z => nomatch z) (fun _ => pure_i (ite_ (fun z => nomatch z) (fun _ => nx_i (bind_i (idx_i (x := .list [.str l, .str r]) (atI_nat (j := 1) rfl) (seq_i (bind_i ⟨[l, r], .inr rfl, ?_⟩)))))))))) 
  refine walk_is A ?_
  unfold t1 at k
  by_cases h : l ∈ o
  · rw [if_pos h] at k
    by_cases h2 : r ∈ o
    · rw [if_pos h2] at k
      rw [pU_in (fun x hx => by
        rcases List.mem_cons.mp hx with rfl | hx
        · exact h
        · rw [List.mem_singleton.mp hx]; exact h2)]
      refine found_none (seq_i (ite_ (fun z => nomatch z) (fun _ => nx_i (seq_i (ite_ (fun _ => ?_) (fun z => nomatch z))))))
      refine bind_i (bind_i (bind_i (bind_i (bind_i (datStr_i (dget_is (A.get l h) (bind_i (dget_is (A.get r h2) ?_))))))))
      exact k
    · rw [if_neg h2] at k
      rw [show [l, r].findSome? (pU o) = some (unkL r) from pU_out (l := [l]) (r := []) rfl (fun x hx => by rw [List.mem_singleton.mp hx]; exact h) h2]
      exact k
  · rw [if_neg h] at k
    rw [show [l, r].findSome? (pU o) = some (unkL l) from pU_out (l := []) (r := [r]) rfl (fun _ h => nomatch h) h]
    exact k
theorem F_due2 {d : PyData} {xs : List Str} {r : Str} {Φ : List PyData → Nat → Prop} (A : Amt di o u) (so : Srt o) (hd : d = .tuple (xs.map .str) ∨ d = .list (xs.map .str)) (hl : xs.length ≤ 100) (l6 : o.length ≤ 6) (k0 : xs = [] → Φ [.str "count", .int 0] n) (k1 : ∀ l x r, xs = l ++ x :: r → (∀ y ∈ l, y ∈ o) → ¬ x ∈ o → Φ (unkL x) n)
    (k2 : xs ≠ [] → (∀ x ∈ xs, x ∈ o) → ∀ m, IsMx u xs m → Φ [.str "best", .tuple ((bestL o u xs m).map .str)] n) : F_Ltold_due (di, (2, (d, (r, ())))) Φ Ψ n := by
  delta F_Ltold_due
  refine ret_i (seq_i (bind_i (ite_ (fun _ => bind_i (bind_i ⟨xs, hd, pure_i (pure_i ?_)⟩)) (fun z => nomatch z))))
  refine ite_ (fun h => k0 ?_) (fun h => nx_i ?_)
  · have h : (xs.length : Int) = 0 := of_decide_eq_true h
    exact List.eq_nil_of_length_eq_zero (by omega)
  have ne : xs ≠ [] := fun e => by
    have h := of_decide_eq_false h
    subst e
    exact h rfl
  refine bind_i (idx_i (x := d) (atI_nat (j := 2) rfl) (seq_i (bind_i ⟨xs, hd, walk_is A ?_⟩)))
  rcases first_out o xs with hin | ⟨l, x, r, e, h1, h2⟩
  · rw [pU_in hin]
    refine found_none (seq_i (ite_ (fun z => nomatch z) (fun _ => nx_i (seq_i (ite_ (fun z => nomatch z) (fun _ => nx_i (bind_i (bind_i (bind_i ⟨xs, hd, ?_⟩))))))))) 
    refine comp_map u (fun x hx Φ' n' q => bind_i (dget_is (A.get x (hin x hx)) (pure_i q))) (by omega) ?_
    refine max_i (by rw [List.length_map]; exact List.length_pos_iff.mpr ne) fun m hm hle => ?_
    refine bind_i (bind_i (bind_i (bind_i (bind_i (A.sort so l6 ?_)))))
    refine comp_filter (fun x => decide (x ∈ xs) && decide (u x = m)) (fun x hx Φ' n' q => ?_) (by omega) (pure_i (pure_i (pure_i (k2 ne hin m ⟨hm, hle⟩))))
    refine bind_i (bind_i (bind_i ⟨xs, hd, pure_i ?_⟩))
    refine ite_ (fun h => bind_i (dget_is (A.get x hx) (pure_i ?_))) (fun h => pure_i ?_)
    · have h : decide (x ∈ xs) = true := h
      rw [h, Bool.true_and] at q
      refine ite_ (fun e => ?_) (fun e => ?_)
      · rw [if_pos e] at q; exact q
      · rw [if_neg (by rw [e]; simp)] at q; exact q
    · have h : decide (x ∈ xs) = false := h
      rw [h, Bool.false_and] at q
      exact q
  · rw [pU_out e h1 h2]
    exact k1 l x r e h1 h2
theorem told_two {p : Int} {d : PyData} {r : Str} (A : Amt di o u) (so : Srt o) (l6 : o.length ≤ 6) (hp : (p = 0 ∧ ∃ l, d = .str l) ∨ (p = 1 ∧ ∃ l, d = .str l) ∨ (p = 2 ∧ ∃ xs : List Str, xs.length ≤ 100 ∧ (d = .tuple (xs.map .str) ∨ d = .list (xs.map .str)))) :
    ∃ L : List PyData, (∀ x ∈ L, Ok2 x) ∧ (∀ (Φ : List PyData → Nat → Prop) (Ψ : Exc → Nat → Prop) n, Φ L n → F_Ltold (wishOf o u, (p, (d, (r, ())))) Φ Ψ n) ∧ (∀ (Φ : List PyData → Nat → Prop) (Ψ : Exc → Nat → Prop) n, Φ L n → F_Ltold_due (di, (p, (d, (r, ())))) Φ Ψ n) := by
  have b2 : ∀ b, Ok2 (.bool b) := fun b => ⟨by simp [okG], by simp [PyData.depth]⟩
  have two : ∀ {a b : PyData}, Ok2 a → Ok2 b → ∀ x ∈ [a, b], Ok2 x := fun ha hb x hx => by
    simp only [List.mem_cons, List.not_mem_nil, or_false] at hx
    rcases hx with rfl | rfl
    · exact ha
    · exact hb
  have unk : ∀ x, ∀ y ∈ unkL x, Ok2 y := fun x => two (ok2_str _) (ok2_str _)
  rcases hp with ⟨rfl, l, rfl⟩ | ⟨rfl, l, rfl⟩ | ⟨rfl, xs, hl, hd⟩
  · refine ⟨t0 o u l, ?_, fun _ _ _ h => F_told0 h, fun _ _ _ h => F_due0 A h⟩
    unfold t0
    split
    · exact two (ok2_str _) (ok2_int _)
    · exact unk l
  · refine ⟨t1 o u l r, ?_, fun _ _ _ h => F_told1 h, fun _ _ _ h => F_due1 A h⟩
    unfold t1
    split
    · split
      · exact two (ok2_str _) (b2 _)
      · exact unk r
    · exact unk l
  · by_cases e0 : xs = []
    · subst e0
      exact ⟨[.str "count", .int 0], two (ok2_str _) (ok2_int _), fun _ _ _ h => F_told2 hd hl l6 (fun _ => h) (fun l x r e => absurd e (by simp)) (fun z => absurd rfl z), fun _ _ _ h => F_due2 A so hd hl l6 (fun _ => h) (fun l x r e => absurd e (by simp)) (fun z => absurd rfl z)⟩
    · rcases first_out o xs with hin | ⟨l, x, r', e, h1, h2⟩
      · obtain ⟨m, hm⟩ := mx_ex (u := u) e0
        refine ⟨[.str "best", .tuple ((bestL o u xs m).map .str)], two (ok2_str _) (ok2_strs _), fun _ _ _ h => F_told2 hd hl l6 (fun z => absurd z e0) (fun l x r e _ h2 => absurd (hin x (by rw [e]; simp)) h2) (fun _ _ m' hm' => by rw [hm'.uniq hm]; exact h), fun _ _ _ h => F_due2 A so hd hl l6 (fun z => absurd z e0) (fun l x r e _ h2 => absurd (hin x (by rw [e]; simp)) h2) (fun _ _ m' hm' => by rw [hm'.uniq hm]; exact h)⟩
      · have one : ∀ l' x' r'', xs = l' ++ x' :: r'' → (∀ y ∈ l', y ∈ o) → ¬ x' ∈ o → unkL x' = unkL x := fun l' x' r'' e' h1' h2' => Option.some.inj ((pU_out e' h1' h2').symm.trans (pU_out e h1 h2))
        refine ⟨unkL x, unk x, fun _ _ _ h => F_told2 hd hl l6 (fun z => absurd z e0) (fun l' x' r'' e' h1' h2' => by rw [one l' x' r'' e' h1' h2']; exact h) (fun _ hin => absurd (hin x (by rw [e]; simp)) h2), fun _ _ _ h => F_due2 A so hd hl l6 (fun z => absurd z e0) (fun l' x' r'' e' h1' h2' => by rw [one l' x' r'' e' h1' h2']; exact h) (fun _ hin => absurd (hin x (by rw [e]; simp)) h2)⟩
end
end K03
namespace K03
open PySem PySem.Spec PyProof.Rows L2 VL
/-! ### the law's looks at the wishes -/
section
variable {Ψ : Exc → Nat → Prop} {n : Nat} {o : List Str} {u : Str → Int} {di : List (Str × Int)}
theorem pick {α : Type} {xs : List α} {Φ : α → Nat → Prop} (hn : n ≤ 900000) (h1 : 1 ≤ xs.length) (h2 : xs.length ≤ 1000) (k : ∀ x ∈ xs, Φ x (n + 1)) : M.bind (M.nox (F_Ldraw ((xs.length : Int), ()))) (fun i => Mi.idx xs i) Φ Ψ n := by
  refine bind_i (nox_i (draw_ok (by omega) (by omega) (by omega) fun d d0 d1 => ?_))
  obtain ⟨j, rfl⟩ := Int.eq_ofNat_of_zero_le d0
  have hj : j < xs.length := by omega
  exact idx_i (x := xs[j]) (atI_nat (List.getElem?_eq_getElem hj)) (k _ (List.getElem_mem hj))
theorem neXL_no {L : List PyData} {Φ : Bool → Nat → Prop} (h : ∀ d ∈ L, Ok2 d) (k : Φ false n) : Mi.neXL (L.map (IsD.d rDat)) (L.map (IsD.d rDat)) Φ Ψ n := by
  rw [show L.map (IsD.d rDat) = L from List.map_id L]
  have e := okGs_doks _ (okGs_of fun d hd => (h d hd).1)
  refine neXL_i e.1 e.1 (Nat.le_trans (depAll_of fun d hd => (h d hd).2) (by decide)) ?_
  rw [e.2.1]; exact k
theorem F_Lright_ok {Φ : Bool → Nat → Prop} (A : Amt di o u) (so : Srt o) (l1 : 1 ≤ o.length) (l6 : o.length ≤ 6) (hk : ∀ x ∈ o, x.length ≤ 1000 - 1 ∧ Asc x) (hn : n ≤ 800000) (k : ∀ n', n' ≤ n + 400 → Φ true n') : F_Lright (wishOf o u, (di, ())) Φ Ψ n := by
  have O : okN o := fun x hx => asc_ok (hk x hx).2
  delta F_Lright
  refine ret_i (bind_i (bind_i (A.sort so l6 (bind_i (bind_i (bind_i (bind_i (A.sort so l6 ?_))))))))
  cases o with
  | nil => exact absurd l1 (by decide)
  | cons x0 o0 =>
  refine idx_i (x := x0) (atI_nat (j := 0) rfl) ⟨size1000 ?_, pure_i ⟨size1000 ?_, ?_⟩⟩
  · have := (hk x0 List.mem_cons_self).1
    show x0.length + 1 ≤ 1000
    omega
  · show (x0 :: o0).length + 3 ≤ 1000
    omega
  generalize hm : (x0 :: o0) ++ [Str.ofString "zz9", Str.ofString "", x0 ++ Str.ofString "1"] = menu
  have lm : menu.length = (x0 :: o0).length + 3 := by rw [← hm, List.length_append]; rfl
  refine seq_i (bind_i (rng0 (m := 4) (by omega) ?_))
  refine for_rule (fun i _ m => m ≤ n + 60 * i) (by omega) (fun i x _ m hx hI Φ' k1 k2 => ?_) (fun _ m hI => ?_)
  · have hi := (range_at hx).2
    refine bind_i (pick (xs := menu) (by omega) (by omega) (by omega) fun a ha => ?_)
    refine bind_i (pick (xs := menu) (by omega) (by omega) (by omega) fun b hb => ?_)
    refine bind_i (bind_i (bind_i (nox_i (draw_ok (by omega) (by decide) (by decide) fun d (d0 : 0 ≤ d) (d1 : d < 5) => ?_))))
    obtain ⟨c, rfl⟩ := Int.eq_ofNat_of_zero_le d0
    refine rng0 (by omega) ?_
    refine comp_rule (fun i acc n' => n' = m + 3 + i ∧ acc.length = i) (by simp; omega) ⟨rfl, rfl⟩ (fun i x acc n' hx hJ Φ2 k3 => ?_) (fun ls n' hJ => ?_)
    · obtain ⟨rfl, hl⟩ := hJ
      have hi2 := (range_at hx).2
      refine bind_i (pick (xs := menu) (by omega) (by omega) (by omega) fun y hy => pure_i (k3 (some y) _ ⟨by omega, by simp [hl]⟩))
    obtain ⟨rfl, hll⟩ := hJ
    rw [List.length_map, List.length_range] at hll ⊢
    refine bind_i (bind_i (bind_i (bind_i (A.sort so l6 (bind_i (A.sort so l6 ⟨size1000 (by omega), ?_⟩))))))
    refine comp_rule (fun i acc n' => n' = m + 3 + c + i ∧ acc.length ≤ i) (by rw [List.length_append]; omega) ⟨rfl, Nat.le_refl _⟩ (fun i x acc n' hx hJ Φ2 k3 => ?_) (fun ss n' hJ => ?_)
    · obtain ⟨rfl, hl⟩ := hJ
      have hi2 := (List.getElem?_eq_some_iff.mp hx).1
      rw [List.length_append] at hi2
      refine bind_i (bind_i (nox_i (draw_ok (by omega) (by decide) (by decide) fun e (e0 : 0 ≤ e) (e1 : e < 2) => pure_i ?_)))
      refine ite_ (fun _ => pure_i (k3 (some x) _ ⟨by omega, by simp; omega⟩)) (fun _ => pure_i (k3 none _ ⟨by omega, by simp; omega⟩))
    obtain ⟨rfl, hsl⟩ := hJ
    rw [List.length_append] at hsl ⊢
    refine nox_i (F_order_ok (by omega) (by omega) fun ys N py hN => ?_)
    have ly := py.length_eq
    refine seq_i ?_
    refine for_rule (fun _ _ m' => m' = N) rfl (fun j q _ m' hq hJ Φ2 k3 k4 => ?_) (fun _ m' hJ => ?_)
    · subst hJ
      have hq := List.mem_of_getElem? hq
      have key : ∃ L : List PyData, (∀ x ∈ L, Ok2 x) ∧ (∀ (Φ : List PyData → Nat → Prop) (Ψ : Exc → Nat → Prop) n, Φ L n → F_Ltold (wishOf (x0 :: o0) u, (q.1, (q.2, (b, ())))) Φ Ψ n) ∧ (∀ (Φ : List PyData → Nat → Prop) (Ψ : Exc → Nat → Prop) n, Φ L n → F_Ltold_due (di, (q.1, (q.2, (b, ())))) Φ Ψ n) := by
        simp only [List.mem_cons, List.not_mem_nil, or_false] at hq
        rcases hq with rfl | rfl | rfl | rfl | rfl | rfl
        · exact told_two A so l6 (.inl ⟨rfl, a, rfl⟩)
        · exact told_two A so l6 (.inr (.inl ⟨rfl, a, rfl⟩))
        · exact told_two A so l6 (.inr (.inr ⟨rfl, ls, by omega, .inr rfl⟩))
        · exact told_two A so l6 (.inr (.inr ⟨rfl, ys, by omega, .inr rfl⟩))
        · exact told_two A so l6 (.inr (.inr ⟨rfl, ls, by omega, .inl rfl⟩))
        · exact told_two A so l6 (.inr (.inr ⟨rfl, ys, by omega, .inl rfl⟩))
      obtain ⟨L, okL, h1, h2⟩ := key
      refine seq_i (bind_i (bind_i (nox_i (h1 _ _ _ (bind_i (nox_i (h2 _ _ _ (neXL_no okL ?_))))))))
      exact ite_ (fun z => nomatch z) (fun _ => nx_i (k3 () _ rfl))
    · subst hJ
      exact k1 () _ (by omega)
  rw [List.length_map, List.length_range] at hI
  refine bind_i (nox_i (F_wranks_ok l6 fun L => ?_))
  refine seq_i (bind_i (nox_i (bind_i (nox_i (F_Lranks_ok A so l6 fun _ => ne_no (R := rLst (rTup rStr)) rfl (rk_okN O) ?_)))))
  refine ite_ (fun z => nomatch z) (fun _ => nx_i (bind_i (bind_i (nox_i (F_wranks_ok l6 fun _ => bind_i (nox_i (F_Lranks_ok A so l6 fun _ => eq_dec (R := rLst (rTup rStr)) (rk_okN O) (rk_okN O) ?_)))))))
  rw [decide_eq_true rfl]
  exact k _ (by omega)
end
end K03
namespace K03
open PySem PySem.Spec PyProof.Rows L2 VL
section
variable {Ψ : Exc → Nat → Prop} {n : Nat}
theorem F_Wishes_n_is {g : List (Str × PyData)} {o : List Str} {Φ : d_Wishes → Nat → Prop} (G : GD g) (K : Ky g o) (k : outE (wsE o (vOf g)) (Φ (wishOf o fun x => intOf (vOf g x)) n) Ψ n) : F_WishesD_initD_n (g, ()) Φ Ψ n := by
  unfold wsE at k
  rw [outE_or, outE_or] at k
  have ld := K.len
  have l7 := G.len
  delta F_WishesD_initD_n
  refine bind_i (F_check_count_is ?_)
  show outE (ctE (g.length : Int)) _ Ψ n
  rw [← ld]
  cases e1 : ctE (o.length : Int) with
  | some x => rw [e1] at k; exact k
  | none =>
  rw [e1] at k
  refine out_none (bind_i (K.sort G ?_))
  refine for_raise (fun x => if good x = true then none else some ⟨"BadName", "name", .str x⟩) (fun x hx Φ' n' q => ?_) ?_
  · refine seq_i (bind_i (bind_i (nox_i (F_valid_is (G.key x (K.in_ hx)).1 (pure_i ?_)))))
    refine ite_ (fun h => ?_) (fun h => ?_)
    · rw [if_neg (by intro z; rw [z] at h; cases h)] at q
      exact raise_i q
    · rw [if_pos (by simpa using h)] at q
      exact q
  · show outE (nmO o) _ Ψ n
    cases e2 : nmO o with
    | some x => rw [e2] at k; exact k
    | none =>
    rw [e2] at k
    refine out_none ?_
    refine for_raise (fun x => if isI (vOf g x) = true then none else some ⟨"BadWish", "value", vOf g x⟩) (fun x hx Φ' n' q => ?_) ?_
    · have gx := (G.get (K.in_ hx)).1
      refine seq_i (bind_i (bind_i (bind_i (dget_is gx (nox_i (F_isint_is (pure_i ?_)))))))
      refine ite_ (fun h => ?_) (fun h => ?_)
      · rw [if_neg (by intro z; rw [z] at h; cases h)] at q
        exact bind_i (dget_is gx (raise_i q))
      · rw [if_pos (by simpa using h)] at q
        exact q
    · show outE (vlO (vOf g) o) _ Ψ n
      cases e3 : vlO (vOf g) o with
      | some x => rw [e3] at k; exact k
      | none =>
      rw [e3] at k
      have W : WsOk o (vOf g) := wsE_none (by unfold wsE; rw [e1, e2, e3]; rfl)
      refine out_none (nox_i (bind_i (pure_i (bind_i ?_))))
      refine dcomp_map (fun x => intOf (vOf g x)) (by show o.length ≤ 1000; omega) K.so.nd (fun x hx Φ' n' q => ?_) (pure_i k)
      refine bind_i (bind_i (dget_is (G.get (K.in_ hx)).1 ?_))
      rw [W.vl x hx]
      exact datInt_i (pure_i q)
end
/-! ### the law -/
theorem cpow20 : CPow 10 20 := ⟨by decide, by decide, by decide⟩
theorem mul1 {i s : Int} (h0 : 0 ≤ i) (h1 : i < 2 ^ 99) (hs : s = 1 ∨ s = -1) : CMulW i s := by
  have a : i.natAbs.log2 ≤ 99 := by
    by_cases z : i.natAbs = 0
    · rw [z]; decide
    · exact Nat.le_of_lt ((Nat.log2_lt z).mpr (by omega))
  have b : s.natAbs.log2 = 0 := by rcases hs with rfl | rfl <;> decide
  show i.natAbs.log2 + s.natAbs.log2 < 1000000
  omega
structure LbOk (ls : List Str) : Prop where
  len : ls.length ≤ 7
  ok : ∀ x ∈ ls, x.length ≤ 999 ∧ Asc x
theorem LbOk.okN {ls : List Str} (h : LbOk ls) : okN ls := fun x hx => asc_ok (h.ok x hx).2
theorem LbOk.set {ls : List Str} (h : LbOk ls) (j : Nat) {w : Str} (hw : w.length ≤ 999 ∧ Asc w) : LbOk (ls.set j w) :=
  ⟨by rw [List.length_set]; exact h.len, fun x hx => (List.mem_or_eq_of_mem_set hx).elim (h.ok x) fun e => e ▸ hw⟩
def badWs : List Str := ["", "X", "1a", "abcdefg", "aB", "a b"]
theorem badWs_ok : ∀ w ∈ badWs, w.length ≤ 999 ∧ Asc w := by
  have h : badWs.all (fun w => decide (w.length ≤ 999) && w.cps.toList.all fun c => decide (c < 128)) = true := by decide +kernel
  intro w hw
  have := List.all_eq_true.mp h w hw
  rw [Bool.and_eq_true] at this
  exact ⟨of_decide_eq_true this.1, asc_of this.2⟩
/-- a dict whose keys are among the labels -/
structure GL (ls : List Str) (g : List (Str × PyData)) : Prop where
  nd : (g.map (·.1)).Nodup
  sub : ∀ x ∈ g.map (·.1), x ∈ ls
  ok : ∀ p ∈ g, Ok2 p.2
theorem GL.gd {ls : List Str} {g : List (Str × PyData)} (h : GL ls g) (L : LbOk ls) : GD g := by
  have := nodup_sub h.nd h.sub
  rw [List.length_map] at this
  exact ⟨h.nd, by have := L.len; omega, fun x hx => by have := L.ok x (h.sub x hx); exact ⟨by omega, this.2⟩, h.ok⟩
theorem putG_keys {d : List (Str × PyData)} {k : Str} {a : PyData} : (putD d k a).map (·.1) = if k ∈ d.map (·.1) then d.map (·.1) else d.map (·.1) ++ [k] := by
  by_cases h : k ∈ d.map (·.1)
  · rw [if_pos h]
    unfold putD
    have : (d.any fun q => decide (q.1 = k)) = true := by
      obtain ⟨q, hq, e⟩ := List.mem_map.mp h
      exact List.any_eq_true.mpr ⟨q, hq, decide_eq_true e⟩
    rw [if_pos this, List.map_map]
    refine List.map_congr_left fun q _ => ?_
    show (if q.1 = k then (q.1, a) else q).1 = q.1
    split <;> rfl
  · rw [if_neg h, putD_new h, List.map_append]; rfl
theorem putG_mem {d : List (Str × PyData)} {k : Str} {a : PyData} {p : Str × PyData} (h : p ∈ putD d k a) : p ∈ d ∨ p.2 = a := by
  unfold putD at h
  split at h
  · obtain ⟨q, hq, rfl⟩ := List.mem_map.mp h
    split
    · exact .inr rfl
    · exact .inl hq
  · exact (List.mem_append.mp h).imp id fun z => by rw [List.mem_singleton.mp z]
theorem GL.put {ls : List Str} {g : List (Str × PyData)} (h : GL ls g) {k : Str} {a : PyData} (hk : k ∈ ls) (ha : Ok2 a) : GL ls (putD g k a) := by
  refine ⟨?_, fun x hx => ?_, fun p hp => (putG_mem hp).elim (h.ok p) fun e => e ▸ ha⟩
  · rw [putG_keys]
    split
    · exact h.nd
    · rename_i hk
      exact List.nodup_append.mpr ⟨h.nd, by simp, fun a ha b hb => by rw [List.mem_singleton.mp hb]; exact fun e => hk (e ▸ ha)⟩
  · rw [putG_keys] at hx
    split at hx
    · exact h.sub x hx
    · exact (List.mem_append.mp hx).elim (h.sub x) fun e => by rw [List.mem_singleton.mp e]; exact hk
theorem GL.dOf {ls : List Str} : ∀ {qs g : List (Str × PyData)}, GL ls g → (∀ q ∈ qs, q.1 ∈ ls ∧ Ok2 q.2) → GL ls (VL.dOf g qs)
  | [], _, h, _ => h
  | q :: qs, g, h, hq => by
    show GL ls (VL.dOf (putD g q.1 q.2) qs)
    exact GL.dOf (h.put (hq q List.mem_cons_self).1 (hq q List.mem_cons_self).2) fun p hp => hq p (List.mem_cons_of_mem _ hp)
theorem odd_ok : ∀ d ∈ [(IsD.d rBl true), (IsD.d rNon ()), (IsD.d rStr ("3" : Str)), (IsD.d (rTup rDat) ([] : List PyData)), (IsD.d rBl false), (IsD.d (rLst rInt) [(1 : Int)]), (IsD.d rStr ("" : Str))], Ok2 d := by
  have b2 : ∀ b, Ok2 (.bool b) := fun b => ⟨by simp [okG], by simp [PyData.depth]⟩
  intro d hd
  simp only [List.mem_cons, List.not_mem_nil, or_false] at hd
  rcases hd with rfl | rfl | rfl | rfl | rfl | rfl | rfl
  · exact b2 true
  · exact ⟨by show okG .none = true; simp [okG], by show PyData.depth .none ≤ 50; simp [PyData.depth]⟩
  · exact ok2_str _
  · exact ⟨by show okG (.tuple []) = true; simp [okG, okGs], by show PyData.depth (.tuple []) ≤ 50; simp [PyData.depth, PyData.depthAll]⟩
  · exact b2 false
  · exact ⟨by show okG (.list [.int 1]) = true; simp [okG, okGs], by show PyData.depth (.list [.int 1]) ≤ 50; simp [PyData.depth, PyData.depthAll]⟩
  · exact ok2_str _
theorem getD_mapI (f : PyData → Int) (g : List (Str × PyData)) (x : Str) : getD (g.map fun p => (p.1, f p.2)) x = (getD g x).map f := by
  induction g with
  | nil => rfl
  | cons q g ih =>
    rw [List.map_cons, getD_cons, getD_cons]
    by_cases e : q.1 = x
    · rw [if_pos e, if_pos e]; rfl
    · rw [if_neg e, if_neg e]; exact ih
def diOf (g : List (Str × PyData)) : List (Str × Int) := g.map fun p => (p.1, intOf p.2)
theorem di_amt {g : List (Str × PyData)} {o : List Str} (G : GD g) (K : Ky g o) : Amt (diOf g) o fun x => intOf (vOf g x) := by
  refine ⟨?_, fun x hx => ?_⟩
  · unfold diOf
    rw [List.map_map]
    exact K.perm
  · unfold diOf
    rw [getD_mapI, (G.get (K.in_ hx)).1]; rfl
theorem di_back {g : List (Str × PyData)} {o : List Str} (G : GD g) (K : Ky g o) (W : WsOk o (vOf g)) : g = (diOf g).map fun p => (p.1, PyData.int p.2) := by
  unfold diOf
  rw [List.map_map]
  have : g.map id = g.map ((fun p : Str × Int => (p.1, PyData.int p.2)) ∘ fun p : Str × PyData => (p.1, intOf p.2)) := List.map_congr_left fun p hp => by
    have hk : p.1 ∈ g.map (·.1) := List.mem_map_of_mem hp
    have h1 := (G.get hk).1
    obtain ⟨a, h2, h3⟩ := getD_key hk
    have e : p.2 = vOf g p.1 := by
      have f1 := fnd_self G.nd (show (p.1, p.2) ∈ g from hp)
      have f2 := fnd_self G.nd (G.get hk).2.1
      exact Option.some.inj (f1.symm.trans f2)
    have e2 := W.vl p.1 (K.perm.mem_iff.mp hk)
    show p = (p.1, PyData.int (intOf p.2))
    rw [e, ← e2, ← e]
  rwa [List.map_id] at this
section
variable {Ψ : Exc → Nat → Prop} {n : Nat}
theorem datDI_of {g : List (Str × PyData)} {e : List (Str × Int)} {Φ : List (Str × Int) → Nat → Prop} (h : g = e.map fun p => (p.1, PyData.int p.2)) (k : Φ e n) : Mi.datDI g Φ Ψ n := by
  rw [h]; exact datDI_i k
theorem F_Lodd_ok {Φ : PyData → Nat → Prop} (hn : n ≤ 900000) (k : ∀ d, Ok2 d → Φ d (n + 1)) : F_Lodd () Φ Ψ n := by
  delta F_Lodd
  exact ret_i (bind_i (pick (xs := [(IsD.d rBl true), (IsD.d rNon ()), (IsD.d rStr ("3" : Str)), (IsD.d (rTup rDat) ([] : List PyData)), (IsD.d rBl false), (IsD.d (rLst rInt) [(1 : Int)]), (IsD.d rStr ("" : Str))]) hn (by decide) (by decide) fun d hd => k d (odd_ok d hd)))
theorem one_filter {o : List Str} (so : Srt o) {x : Str} (hx : x ∈ o) {p : Str → Bool} (hp : ∀ y ∈ o, p y = true ↔ y = x) : o.filter p = [x] :=
  Srt.uniq (so.filter p) ⟨by simp, rfl⟩ fun y => by
    rw [List.mem_filter, List.mem_singleton]
    exact ⟨fun h => (hp y h.1).mp h.2, fun e => by subst e; exact ⟨hx, (hp y hx).mpr rfl⟩⟩
theorem due_some {g : List (Str × PyData)} {o : List Str} {e : Exc} (h : wsE o (vOf g) = some e) : ∃ w r, dueL o g = .str w :: r ∧ w ≠ ("wishes" : Str) ∧ PyData.strOk w = true := by
  unfold dueL
  rw [h]
  show ∃ w r, xL e = .str w :: r ∧ w ≠ ("wishes" : Str) ∧ PyData.strOk w = true
  unfold xL
  split
  · exact ⟨_, _, rfl, by decide +kernel, by decide +kernel⟩
  · split
    · exact ⟨_, _, rfl, by decide +kernel, by decide +kernel⟩
    · exact ⟨_, _, rfl, by decide +kernel, by decide +kernel⟩
end
section
variable {Ψ : Exc → Nat → Prop} {n : Nat}
theorem F_Ldue_is {g : List (Str × PyData)} {o : List Str} {Φ : List PyData → Nat → Prop} (G : GD g) (K : Ky g o) (k : Φ (dueL o g) n) : F_Ldue (g, ()) Φ Ψ n := by
  unfold dueL at k
  exact F_Ldue_ok G K (fun e => by rw [e] at k; exact k) (fun x e => by rw [e] at k; exact k)
theorem F_Lmade_is {g : List (Str × PyData)} {o : List Str} {Φ : List PyData → Nat → Prop} (G : GD g) (K : Ky g o) (k : Φ (madeL o g) n) : F_Lmade (g, ()) Φ Ψ n := by
  unfold madeL at k
  exact F_Lmade_ok G K (fun e => by rw [e] at k; exact k) (fun x e => by rw [e] at k; exact k)
end
theorem law_ok (Ψ : Exc → Nat → Prop) : F_law (fun b _ => b = true) Ψ 0 := by
  delta F_law
  refine ret_i ?_
  -- the labels
  refine bind_i (bind_i (bind_i (pick (xs := [((1 : Int)), ((2 : Int)), ((3 : Int)), ((4 : Int)), ((5 : Int)), ((6 : Int)), ((6 : Int)), ((7 : Int)), ((0 : Int))]) (by omega) (by decide) (by decide) fun c hc => ?_)))
  obtain ⟨c, rfl, c7⟩ : ∃ k : Nat, c = (k : Int) ∧ k ≤ 7 := by
    simp only [List.mem_cons, List.not_mem_nil, or_false] at hc
    rcases hc with rfl | rfl | rfl | rfl | rfl | rfl | rfl | rfl | rfl
    · exact ⟨1, rfl, by decide⟩
    · exact ⟨2, rfl, by decide⟩
    · exact ⟨3, rfl, by decide⟩
    · exact ⟨4, rfl, by decide⟩
    · exact ⟨5, rfl, by decide⟩
    · exact ⟨6, rfl, by decide⟩
    · exact ⟨6, rfl, by decide⟩
    · exact ⟨7, rfl, by decide⟩
    · exact ⟨0, rfl, by decide⟩
  refine nox_i (F_names8_ok c (by omega) (by omega) fun ws n1 lw gw hn1 => ?_)
  refine nox_i (F_order_ok (by omega) (by omega) fun ls n2 pl hn2 => ?_)
  have L0 : LbOk ls := ⟨by rw [pl.length_eq]; omega, fun x hx => by
    have g := gw x (pl.mem_iff.mp hx)
    have := good_len g
    exact ⟨by omega, good_asc g⟩⟩
  have hn2 : n2 ≤ 40 := by omega
  clear hc hn1 pl gw lw
  refine seq_i (bind_i (bind_i (pick (xs := [((0 : Int)), ((0 : Int)), ((0 : Int)), ((0 : Int)), ((1 : Int)), ((2 : Int))]) (by omega) (by decide) (by decide) fun d hd => ?_)))
  obtain ⟨d, rfl, d2⟩ : ∃ k : Nat, d = (k : Int) ∧ k ≤ 2 := by
    simp only [List.mem_cons, List.not_mem_nil, or_false] at hd
    rcases hd with rfl | rfl | rfl | rfl | rfl | rfl
    · exact ⟨0, rfl, by decide⟩
    · exact ⟨0, rfl, by decide⟩
    · exact ⟨0, rfl, by decide⟩
    · exact ⟨0, rfl, by decide⟩
    · exact ⟨1, rfl, by decide⟩
    · exact ⟨2, rfl, by decide⟩
  refine rng0 (by omega) ?_
  refine for_rule (fun i s m => m ≤ 41 + 2 * i ∧ LbOk s) ⟨by omega, L0⟩ (fun i x s m hx hI Φ' k1 k2 => ?_) (fun ls m hI => ?_)
  · have hi := (range_at hx).2
    obtain ⟨hm, L⟩ := hI
    have l7 := L.len
    refine bind_i (nox_i (ne_dec (R := rLst rStr) L.okN (fun _ h => nomatch h) ?_))
    refine ite_ (fun z => ?_) (fun _ => nx_i (k1 _ _ ⟨by omega, L⟩))
    have ne : s ≠ [] := fun e => by rw [decide_eq_true e] at z; cases z
    have l1 : 1 ≤ s.length := List.length_pos_iff.mpr ne
    refine bind_i (bind_i (pick (xs := badWs) (by omega) (by decide) (by decide) fun w hw => ?_))
    refine bind_i (nox_i (draw_ok (by omega) (by show (0 : Int) < (s.length : Int); omega) (by show (s.length : Int) < 2 ^ 100; omega) fun e e0 e1 => ?_))
    obtain ⟨j, _, ej⟩ := ixN_nat e0 e1
    exact setL_i ej (nx_i (k1 _ _ ⟨by omega, L.set j (badWs_ok w hw)⟩))
  rw [List.length_map, List.length_range] at hI
  obtain ⟨hm, L⟩ := hI
  have l7 := L.len
  -- the amounts
  refine bind_i (bind_i (bind_i ⟨cpow20, pure_i (pick (xs := [((3 : Int)), ((10 : Int)), ((10 : Int) ^ (20 : Int).toNat)]) (by omega) (by decide) (by decide) fun sc hsc => ?_)⟩))
  have s0 : 0 < sc ∧ sc < 2 ^ 99 := by
    simp only [List.mem_cons, List.not_mem_nil, or_false] at hsc
    rcases hsc with rfl | rfl | rfl
    · exact ⟨by decide, by decide⟩
    · exact ⟨by decide, by decide⟩
    · exact ⟨by decide, by decide⟩
  refine bind_i (bind_i ?_)
  refine comp_rule (fun i acc n' => n' ≤ m + 1 + 2 * i ∧ ∀ q ∈ acc, q.1 ∈ ls ∧ Ok2 q.2) (by omega) ⟨by omega, (fun _ h => nomatch h)⟩ (fun i x acc n' hx hJ Φ2 k3 => ?_) (fun qs n3 hJ => ?_)
  · have hi2 := (List.getElem?_eq_some_iff.mp hx).1
    obtain ⟨hn', hq⟩ := hJ
    refine bind_i (bind_i (bind_i (bind_i (nox_i (draw_ok (by omega) s0.1 (by omega) fun a a0 a1 => ?_)))))
    refine bind_i (bind_i (pick (xs := [((1 : Int)), (-((1 : Int)))]) (by omega) (by decide) (by decide) fun b hb => ?_))
    refine ⟨mul1 a0 (by omega) ?_, ?_⟩
    · simp only [List.mem_cons, List.not_mem_nil, or_false] at hb
      exact hb
    · refine pure_i (pure_i (pure_i (k3 (some (x, .int (a * b))) _ ⟨by omega, fun q h => ?_⟩)))
      rcases List.mem_append.mp h with h | h
      · exact hq q h
      · rw [show q = (x, .int (a * b)) by simpa using h]
        exact ⟨List.mem_of_getElem? hx, ok2_int _⟩
  obtain ⟨hn3, hq⟩ := hJ
  have D0 : GL ls (VL.dOf [] qs) := GL.dOf ⟨List.nodup_nil, (fun _ h => nomatch h), (fun _ h => nomatch h)⟩ hq
  refine pure_i ?_
  refine seq_i (bind_i (bind_i (pick (xs := [((0 : Int)), ((0 : Int)), ((1 : Int)), ((2 : Int))]) (by omega) (by decide) (by decide) fun f hf => ?_)))
  obtain ⟨f, rfl, f2⟩ : ∃ k : Nat, f = (k : Int) ∧ k ≤ 2 := by
    simp only [List.mem_cons, List.not_mem_nil, or_false] at hf
    rcases hf with rfl | rfl | rfl | rfl
    · exact ⟨0, rfl, by decide⟩
    · exact ⟨0, rfl, by decide⟩
    · exact ⟨1, rfl, by decide⟩
    · exact ⟨2, rfl, by decide⟩
  refine rng0 (by omega) ?_
  refine for_rule (fun i s m' => m' ≤ n3 + 1 + 2 * i ∧ GL ls s) ⟨by omega, D0⟩ (fun i x s m' hx hI Φ' k1 k2 => ?_) (fun g n4 hI => ?_)
  · have hi := (range_at hx).2
    obtain ⟨hm', D⟩ := hI
    refine bind_i (ne_dec (R := rLst rStr) L.okN (fun _ h => nomatch h) ?_)
    refine ite_ (fun z => ?_) (fun _ => nx_i (k1 _ _ ⟨by omega, D⟩))
    have ne : ls ≠ [] := fun e => by rw [decide_eq_true e] at z; cases z
    have l1 : 1 ≤ ls.length := List.length_pos_iff.mpr ne
    refine bind_i (bind_i (nox_i (F_Lodd_ok (by omega) fun d hd => ?_)))
    refine bind_i (pick (xs := ls) (by omega) l1 (by omega) fun w hw => ?_)
    refine ⟨small1000 (by have := (D.gd L).len; omega), nx_i (k1 _ _ ⟨by omega, D.put hw hd⟩)⟩
  rw [List.length_map, List.length_range] at hI
  obtain ⟨hn4, D⟩ := hI
  have G := D.gd L
  obtain ⟨o, K⟩ := G.ky
  have hk999 : ∀ x ∈ o, x.length ≤ 1000 - 1 ∧ Asc x := fun x hx => L.ok x (D.sub x (K.in_ hx))
  have hn4 : n4 ≤ 200 := by omega
  clear hq D0 L0 hn3 hm
  have e1 := made_due G K
  refine bind_i (nox_i (F_Ldue_is G K ?_))
  refine seq_i (bind_i (nox_i (bind_i (bind_i (nox_i (F_Lmade_is G K ?_))))))
  rw [show (madeL o g).map (IsD.d rDat) = madeL o g from List.map_id _, show (dueL o g).map (IsD.d rDat) = dueL o g from List.map_id _]
  refine neXL_i e1.1 e1.2.1 e1.2.2.1 ?_
  rw [e1.2.2.2]
  refine ite_ (fun z => nomatch z) (fun _ => neDG_i G.dok G.dok (Nat.le_trans G.dep (by decide)) ?_)
  rw [show eqvD (IsD.d (rDct rDat) g) (IsD.d (rDct rDat) g) = true from G.eqv]
  refine ite_ (fun z => nomatch z) (fun _ => nx_i ?_)
  cases ew : wsE o (vOf g) with
  | some e =>
    obtain ⟨w, r, e2, e3, e4⟩ := due_some ew
    rw [e2]
    refine seq_i (bind_i (bind_i (idx_i (x := .str w) (atI_nat (j := 0) rfl) ?_)))
    refine ne_dec (R := rStr) (a := w) (b := ("wishes" : Str)) ?_ ?_ ?_
    · exact e4
    · show PyData.strOk ("wishes" : Str) = true
      decide +kernel
    · rw [decide_eq_false e3]
      exact ite_ (fun _ => rfl) (fun z => nomatch z)
  | none =>
  have W := wsE_none ew
  have e2 : dueL o g = okL o g := by unfold dueL; rw [ew]
  rw [e2]
  refine seq_i (bind_i (bind_i (idx_i (x := .str "wishes") (atI_nat (j := 0) rfl) ?_)))
  refine ne_no (R := rStr) (a := ("wishes" : Str)) (b := ("wishes" : Str)) rfl ?_ ?_
  · show PyData.strOk ("wishes" : Str) = true
    decide +kernel
  refine ite_ (fun z => nomatch z) (fun _ => nx_i ?_)
  refine bind_i (nox_i (nox_i (F_Wishes_n_is G K ?_)))
  rw [ew]
  refine out_none (bind_i (nox_i (F_wamt_is (bind_i ⟨small1000 ?_, ?_⟩))))
  · show (o.map fun x => (x, intOf (vOf g x))).length ≤ 1000
    have := W.l6
    rw [List.length_map]; omega
  have A := di_amt G K
  have l1 := W.l1
  have l6 := W.l6
  have ea : IsD.d (rDct rInt) (o.map fun x => (x, intOf (vOf g x))) = .dict (prsD (amD o fun x => intOf (vOf g x))) := by
    unfold amD prsD
    rw [List.map_map]; rfl
  refine seq_i (bind_i (bind_i (bind_i (nox_i (F_wamt_is ?_)))))
  show Mi.neDG (IsD.d (rDct rInt) (o.map fun x => (x, intOf (vOf g x)))) (IsD.d (rDct rDat) g) _ _ _
  rw [ea]
  refine neDG_i (am_dok K.so.nd) G.dok (Nat.le_trans am_dep (by decide)) ?_
  rw [show eqvD (.dict (prsD (amD o fun x => intOf (vOf g x)))) (IsD.d (rDct rDat) g) = true from am_eqv G K W]
  refine ite_ (fun z => nomatch z) (fun _ => bind_i (bind_i (datDI_of (di_back G K W) (nox_i (F_Lright_ok A K.so l1 l6 hk999 (by omega) fun n5 hn5 => ?_)))))
  refine pure_i (ite_ (fun z => nomatch z) (fun _ => nx_i ?_))
  refine bind_i (bind_i (K.sort G ?_))
  obtain ⟨x0, hx0, e0⟩ : ∃ x0, x0 ∈ o ∧ o[0]? = some x0 := ⟨o[0], List.getElem_mem _, List.getElem?_eq_getElem (by omega)⟩
  refine idx_i (x := x0) (atI_nat (j := 0) e0) ?_
  refine bind_i (bind_i (bind_i (nox_i ?_)))
  delta F_Wishes_prefers
  refine ret_i (bind_i (bind_i (F_wget_is (fun _ => bind_i (F_wget_is (fun _ => pure_i ?_) (fun z => absurd hx0 z))) (fun z => absurd hx0 z))))
  show M.ite (decide (decide (intOf (vOf g x0) < intOf (vOf g x0)) = false)) _ _ _ _ _
  rw [decide_eq_false (Int.lt_irrefl _), decide_eq_true rfl]
  refine ite_ (fun _ => bind_i (nox_i (F_best_is (show 1 ≤ 100 by decide) l6 (fun z => nomatch z) (fun l x r e h1 h2 => ?_) (fun _ _ mx hmx => ?_)))) (fun z => nomatch z)
  · have hx : x ∈ [x0] := by rw [e]; simp
    rw [List.mem_singleton.mp hx] at h2
    exact absurd hx0 h2
  · have em : mx = intOf (vOf g x0) := by have := hmx.mem; simpa using this
    have eb : bestL o (fun x => intOf (vOf g x)) [x0] mx = [x0] := one_filter K.so hx0 fun y hy => by
      rw [Bool.and_eq_true, decide_eq_true_iff, decide_eq_true_iff, List.mem_singleton]
      exact ⟨fun z => z.1, fun z => ⟨z, by rw [z, em]⟩⟩
    rw [eb]
    have ok0 : okN [x0] := fun y hy => by rw [List.mem_singleton.mp hy]; exact asc_ok (hk999 x0 hx0).2
    refine eq_dec (R := rTup rStr) ok0 ok0 ?_
    rw [decide_eq_true rfl]
    exact rfl
end K03
set_option pp.deepTerms false
set_option pp.deepTerms.threshold 8
namespace K03
open PySem PySem.Spec PyProof.Rows L2 VL
theorem facts {P : Program} {w : World} {K : PySem.W.Frag} {h0 h : Heap} {mg : Str → Option Value} {f : Addr} (X : K.In h) (G : h.Ns mainGlobals mg) (hfa : mg ("law" : Str) = some (.ref f)) (cc : SaysP fa fn prs tf ex w h0 K) :
    ∃ fd : FuncData, (∀ (s : Shared) (v : Value), BindsTo s fd ⟨[v], []⟩ [("_law_script", v)]) ∧ ∀ base : Heap, K.In base → base.Ns mainGlobals mg → (∀ p ∈ tf.map (He.cT K), LamX.TabB base mg p.1 p.2) → FnOk P w K mg base CX0 9 f fd ["_law_script"] (spLawT K ([] : List (Addr × Str))) := by
  have c := cc.x.t.d
  have MO : exsB [(("BadCount" : Str), ("count" : Str)), (("BadName" : Str), ("name" : Str)), (("BadWish" : Str), ("value" : Str)), (("UnknownName" : Str), ("name" : Str))] K = true ∧ True := ⟨(He.ba cc.x.more).1, trivial⟩
  obtain ⟨fd0, G0⟩ := c.def_ 0 (d := d_Lstart) rfl
  have F0 : Fun K "_law_start" "_law_start" s_Lstart _ fd0 := He5.fun_of G0
  have b0 := F0.binds (ps := ["_law_script"]) fun _ _ _ _ _ _ us hl => match us, hl with | [_], _ => rfl
  obtain ⟨fd1, G1⟩ := c.def_ 1 (d := d_Ldraw) rfl
  have F1 : Fun K "_law_draw" "_law_draw" s_Ldraw _ fd1 := He5.fun_of G1
  have b1 := F1.binds (ps := ["_law_state", "_law_size"]) fun _ _ _ _ _ _ us hl => match us, hl with | [_, _], _ => rfl
  obtain ⟨fd2, G2⟩ := c.def_ 2 (d := d_BadCountD_initD) rfl
  have F2 : Fun K "__init__" "BadCount.__init__" s_BadCountD_initD _ fd2 := He5.fun_of G2
  have b2 := F2.binds (ps := ["self", "count"]) fun _ _ _ _ _ _ us hl => match us, hl with | [_, _], _ => rfl
  obtain ⟨fd3, G3⟩ := c.def_ 3 (d := d_BadNameD_initD) rfl
  have F3 : Fun K "__init__" "BadName.__init__" s_BadNameD_initD _ fd3 := He5.fun_of G3
  have b3 := F3.binds (ps := ["self", "name"]) fun _ _ _ _ _ _ us hl => match us, hl with | [_, _], _ => rfl
  obtain ⟨fd4, G4⟩ := c.def_ 4 (d := d_BadWishD_initD) rfl
  have F4 : Fun K "__init__" "BadWish.__init__" s_BadWishD_initD _ fd4 := He5.fun_of G4
  have b4 := F4.binds (ps := ["self", "value"]) fun _ _ _ _ _ _ us hl => match us, hl with | [_, _], _ => rfl
  obtain ⟨fd5, G5⟩ := c.def_ 5 (d := d_UnknownNameD_initD) rfl
  have F5 : Fun K "__init__" "UnknownName.__init__" s_UnknownNameD_initD _ fd5 := He5.fun_of G5
  have b5 := F5.binds (ps := ["self", "name"]) fun _ _ _ _ _ _ us hl => match us, hl with | [_, _], _ => rfl
  obtain ⟨fd6, G6⟩ := c.def_ 6 (d := d_valid_name) rfl
  have F6 : Fun K "valid_name" "valid_name" s_valid_name _ fd6 := He5.fun_of G6
  have b6 := F6.binds (ps := ["text"]) fun _ _ _ _ _ _ us hl => match us, hl with | [_], _ => rfl
  obtain ⟨fd7, G7⟩ := c.def_ 7 (d := d_is_integer) rfl
  have F7 : Fun K "is_integer" "is_integer" s_is_integer _ fd7 := He5.fun_of G7
  have b7 := F7.binds (ps := ["value"]) fun _ _ _ _ _ _ us hl => match us, hl with | [_], _ => rfl
  obtain ⟨fd8, G8⟩ := c.def_ 8 (d := d_check_count) rfl
  have F8 : Fun K "check_count" "check_count" s_check_count _ fd8 := He5.fun_of G8
  have b8 := F8.binds (ps := ["count"]) fun _ _ _ _ _ _ us hl => match us, hl with | [_], _ => rfl
  obtain ⟨fd9, G9⟩ := c.def_ 9 (d := d_WishesD_initD) rfl
  have F9 : Fun K "__init__" "Wishes.__init__" s_WishesD_initD _ fd9 := He5.fun_of G9
  have b9 := F9.binds (ps := ["self", "amounts"]) fun _ _ _ _ _ _ us hl => match us, hl with | [_, _], _ => rfl
  obtain ⟨fd10, G10⟩ := c.def_ 10 (d := d_WishesD_getitemD) rfl
  have F10 : Fun K "__getitem__" "Wishes.__getitem__" s_WishesD_getitemD _ fd10 := He5.fun_of G10
  have b10 := F10.binds (ps := ["self", "at"]) fun _ _ _ _ _ _ us hl => match us, hl with | [_, _], _ => rfl
  obtain ⟨fd11, G11⟩ := c.def_ 11 (d := d_Wishes_prefers) rfl
  have F11 : Fun K "prefers" "Wishes.prefers" s_Wishes_prefers _ fd11 := He5.fun_of G11
  have b11 := F11.binds (ps := ["self", "one", "other"]) fun _ _ _ _ _ _ us hl => match us, hl with | [_, _, _], _ => rfl
  obtain ⟨fd12, G12⟩ := c.def_ 12 (d := d_Wishes_amounts) rfl
  have F12 : Fun K "amounts" "Wishes.amounts" s_Wishes_amounts _ fd12 := He5.fun_of G12
  have b12 := F12.binds (ps := ["self"]) fun _ _ _ _ _ _ us hl => match us, hl with | [_], _ => rfl
  obtain ⟨fd13, G13⟩ := c.def_ 13 (d := d_WishesDliked) rfl
  have F13 : Fun K "_liked" "Wishes._liked" s_WishesDliked _ fd13 := He5.fun_of G13
  have b13 := F13.binds (ps := ["self", "amount"]) fun _ _ _ _ _ _ us hl => match us, hl with | [_, _], _ => rfl
  obtain ⟨fd14, G14⟩ := c.def_ 14 (d := d_Wishes_ranks) rfl
  have F14 : Fun K "ranks" "Wishes.ranks" s_Wishes_ranks _ fd14 := He5.fun_of G14
  have b14 := F14.binds (ps := ["self"]) fun _ _ _ _ _ _ us hl => match us, hl with | [_], _ => rfl
  obtain ⟨fd15, G15⟩ := c.def_ 15 (d := d_Wishes_best) rfl
  have F15 : Fun K "best" "Wishes.best" s_Wishes_best _ fd15 := He5.fun_of G15
  have b15 := F15.binds (ps := ["self", "names"]) fun _ _ _ _ _ _ us hl => match us, hl with | [_, _], _ => rfl
  obtain ⟨fd16, G16⟩ := c.def_ 16 (d := d_Lnames) rfl
  have F16 : Fun K "_law_names" "_law_names" s_Lnames _ fd16 := He5.fun_of G16
  have b16 := F16.binds (ps := ["_law_state", "_law_count"]) fun _ _ _ _ _ _ us hl => match us, hl with | [_, _], _ => rfl
  obtain ⟨fd17, G17⟩ := c.def_ 17 (d := d_Lgood) rfl
  have F17 : Fun K "_law_good" "_law_good" s_Lgood _ fd17 := He5.fun_of G17
  have b17 := F17.binds (ps := ["_law_word"]) fun _ _ _ _ _ _ us hl => match us, hl with | [_], _ => rfl
  obtain ⟨fd18, G18⟩ := c.def_ 18 (d := d_Lorder) rfl
  have F18 : Fun K "_law_order" "_law_order" s_Lorder _ fd18 := He5.fun_of G18
  have b18 := F18.binds (ps := ["_law_state", "_law_items"]) fun _ _ _ _ _ _ us hl => match us, hl with | [_, _], _ => rfl
  obtain ⟨fd19, G19⟩ := c.def_ 19 (d := d_Lodd) rfl
  have F19 : Fun K "_law_odd" "_law_odd" s_Lodd _ fd19 := He5.fun_of G19
  have b19 := F19.binds (ps := ["_law_state"]) fun _ _ _ _ _ _ us hl => match us, hl with | [_], _ => rfl
  obtain ⟨fd20, G20⟩ := c.def_ 20 (d := d_Lmade) rfl
  have F20 : Fun K "_law_made" "_law_made" s_Lmade _ fd20 := He5.fun_of G20
  have b20 := F20.binds (ps := ["_law_given"]) fun _ _ _ _ _ _ us hl => match us, hl with | [_], _ => rfl
  obtain ⟨fd21, G21⟩ := c.def_ 21 (d := d_Ldue) rfl
  have F21 : Fun K "_law_due" "_law_due" s_Ldue _ fd21 := He5.fun_of G21
  have b21 := F21.binds (ps := ["_law_given"]) fun _ _ _ _ _ _ us hl => match us, hl with | [_], _ => rfl
  obtain ⟨fd22, G22⟩ := c.def_ 22 (d := d_Ltold) rfl
  have F22 : Fun K "_law_told" "_law_told" s_Ltold _ fd22 := He5.fun_of G22
  have b22 := F22.binds (ps := ["_law_wishes", "_law_plan", "_law_left", "_law_right_here"]) fun _ _ _ _ _ _ us hl => match us, hl with | [_, _, _, _], _ => rfl
  obtain ⟨fd23, G23⟩ := c.def_ 23 (d := d_Ltold_due) rfl
  have F23 : Fun K "_law_told_due" "_law_told_due" s_Ltold_due _ fd23 := He5.fun_of G23
  have b23 := F23.binds (ps := ["_law_given", "_law_plan", "_law_left", "_law_right_here"]) fun _ _ _ _ _ _ us hl => match us, hl with | [_, _, _, _], _ => rfl
  obtain ⟨fd24, G24⟩ := c.def_ 24 (d := d_Lranks) rfl
  have F24 : Fun K "_law_ranks" "_law_ranks" s_Lranks _ fd24 := He5.fun_of G24
  have b24 := F24.binds (ps := ["_law_given"]) fun _ _ _ _ _ _ us hl => match us, hl with | [_], _ => rfl
  obtain ⟨fd25, G25⟩ := c.def_ 25 (d := d_Lright) rfl
  have F25 : Fun K "_law_right" "_law_right" s_Lright _ fd25 := He5.fun_of G25
  have b25 := F25.binds (ps := ["_law_state", "_law_wishes", "_law_given"]) fun _ _ _ _ _ _ us hl => match us, hl with | [_, _, _], _ => rfl
  obtain ⟨fd26, G26⟩ := c.def_ 26 (d := d_law) rfl
  have F26 : Fun K "law" "law" s_law _ fd26 := He5.fun_of G26
  have b26 := F26.binds (ps := ["_law_script"]) fun _ _ _ _ _ _ us hl => match us, hl with | [_], _ => rfl
  obtain ⟨PR0, fp0, FP0⟩ := cc.pr 0 (d := r_Wishes_outcomes) rfl rfl
  have FP0 : Fun K "outcomes" "Wishes.outcomes" s_Wishes_outcomes _ fp0 := FP0
  have bp0 := FP0.binds (ps := ["self"]) fun _ _ _ _ _ _ us hl => match us, hl with | [_], _ => rfl
  have e := hfa.symm.trans (He.glo_ok X G (c.fact 15 (f := .glo "law") rfl))
  cases e
  have T : TxtB mg := { z_abs := He.free_ok X G (c.fact 16 (f := .free "abs") rfl), z_all := He.free_ok X G (c.fact 17 (f := .free "all") rfl), z_bool := He.free_ok X G (c.fact 18 (f := .free "bool") rfl), z_dict := He.free_ok X G (c.fact 19 (f := .free "dict") rfl), z_int := He.free_ok X G (c.fact 20 (f := .free "int") rfl), z_isinstance := He.free_ok X G (c.fact 21 (f := .free "isinstance") rfl), z_len := He.free_ok X G (c.fact 22 (f := .free "len") rfl), z_list := He.free_ok X G (c.fact 23 (f := .free "list") rfl), z_max := He.free_ok X G (c.fact 24 (f := .free "max") rfl), z_range := He.free_ok X G (c.fact 25 (f := .free "range") rfl), z_set := He.free_ok X G (c.fact 26 (f := .free "set") rfl), z_sorted := He.free_ok X G (c.fact 27 (f := .free "sorted") rfl), z_str := He.free_ok X G (c.fact 28 (f := .free "str") rfl), z_tuple := He.free_ok X G (c.fact 29 (f := .free "tuple") rfl), c_DIGITS := He.str_ok X G (c.fact 30 (f := .str "DIGITS" "0123456789") rfl), c_LETTERS := He.str_ok X G (c.fact 31 (f := .str "LETTERS" "abcdefghijklmnopqrstuvwxyz") rfl), c_LONGEST_NAME := He.int_ok X G (c.fact 32 (f := .int "LONGEST_NAME" 6) rfl), c_MOST_OUTCOMES := He.int_ok X G (c.fact 33 (f := .int "MOST_OUTCOMES" 6) rfl) }
  have na_Wishes : ∀ f ∈ [("_outcomes" : Str), ("_amounts" : Str)], NoAttr K (He.ga K "Wishes") f := fun f hf => by
    simp only [List.mem_cons, List.not_mem_nil, or_false] at hf
    rcases hf with rfl | rfl
    · exact He.noat_ok (c.fact 36 (f := .noat "Wishes" "_outcomes") rfl)
    · exact He.noat_ok (c.fact 37 (f := .noat "Wishes" "_amounts") rfl)
  let W_Wishes : ClsI K mg "Wishes" ["_outcomes", "_amounts"] := { C := He.ga K "Wishes", g := He.glo_ok X G (c.fact 34 (f := .glo "Wishes") rfl), cl := He.cls_ok (c.fact 35 (f := .cls "Wishes") rfl), na := na_Wishes }
  have XO0 := exsB_ok (xs := [(("BadCount" : Str), ("count" : Str)), (("BadName" : Str), ("name" : Str)), (("BadWish" : Str), ("value" : Str)), (("UnknownName" : Str), ("name" : Str))]) MO.1 (i := 0) rfl
  let x_BadCount : XCls K mg "BadCount" "count" := { C := He.ga K "BadCount", g := He.glo_ok X G (c.fact 49 (f := .glo "BadCount") rfl), T := XO0.1, no := He.noat_ok (c.fact 50 (f := .noat "BadCount" "count") rfl), xf := XO0.2.1, ex := He.exm_ok (c.fact 51 (f := .exm "BadCount" "BadCount" true) rfl) }
  have XO1 := exsB_ok (xs := [(("BadCount" : Str), ("count" : Str)), (("BadName" : Str), ("name" : Str)), (("BadWish" : Str), ("value" : Str)), (("UnknownName" : Str), ("name" : Str))]) MO.1 (i := 1) rfl
  let x_BadName : XCls K mg "BadName" "name" := { C := He.ga K "BadName", g := He.glo_ok X G (c.fact 55 (f := .glo "BadName") rfl), T := XO1.1, no := He.noat_ok (c.fact 56 (f := .noat "BadName" "name") rfl), xf := XO1.2.1, ex := He.exm_ok (c.fact 58 (f := .exm "BadName" "BadName" true) rfl) }
  have XO2 := exsB_ok (xs := [(("BadCount" : Str), ("count" : Str)), (("BadName" : Str), ("name" : Str)), (("BadWish" : Str), ("value" : Str)), (("UnknownName" : Str), ("name" : Str))]) MO.1 (i := 2) rfl
  let x_BadWish : XCls K mg "BadWish" "value" := { C := He.ga K "BadWish", g := He.glo_ok X G (c.fact 61 (f := .glo "BadWish") rfl), T := XO2.1, no := He.noat_ok (c.fact 62 (f := .noat "BadWish" "value") rfl), xf := XO2.2.1, ex := He.exm_ok (c.fact 65 (f := .exm "BadWish" "BadWish" true) rfl) }
  have XO3 := exsB_ok (xs := [(("BadCount" : Str), ("count" : Str)), (("BadName" : Str), ("name" : Str)), (("BadWish" : Str), ("value" : Str)), (("UnknownName" : Str), ("name" : Str))]) MO.1 (i := 3) rfl
  let x_UnknownName : XCls K mg "UnknownName" "name" := { C := He.ga K "UnknownName", g := He.glo_ok X G (c.fact 67 (f := .glo "UnknownName") rfl), T := XO3.1, no := He.noat_ok (c.fact 68 (f := .noat "UnknownName" "name") rfl), xf := XO3.2.1, ex := He.exm_ok (c.fact 72 (f := .exm "UnknownName" "UnknownName" true) rfl) }
  refine ⟨fd26, fun s v => law_binds F26 (fun _ _ _ _ _ _ _ => rfl) s v, fun base XB GB TB => ?_⟩
  let c_Lstart : Cal P w K mg base "_law_start" CX0 1 ["_law_script"] (spStart K) := { f := _, fd := _, g := He.glo_ok X G (c.fact 0 (f := .glo "_law_start") rfl), kp := F0.kp, b := b0, G := ok_Lstart F0 T }
  let c_Ldraw : Cal P w K mg base "_law_draw" CX0 1 ["_law_state", "_law_size"] (spT mg K ([] : List (Addr × Str)) thV (fun s (q : Int × Unit) => [rSt s, rInt q.1]) F_Ldraw (Fz rInt)) := { f := _, fd := _, g := He.glo_ok X G (c.fact 1 (f := .glo "_law_draw") rfl), kp := F1.kp, b := b1, G := okT_Ldraw F1 T }
  let c_BadCountD_initD : CalM P w K mg base CX0 1 ["self", "count"] (spXI x_BadCount.C "count") := { f := _, fd := _, b := b2, G := ok_BadCountD_initD F2 T x_BadCount }
  let c_BadNameD_initD : CalM P w K mg base CX0 1 ["self", "name"] (spXI x_BadName.C "name") := { f := _, fd := _, b := b3, G := ok_BadNameD_initD F3 T x_BadName }
  let c_BadWishD_initD : CalM P w K mg base CX0 1 ["self", "value"] (spXI x_BadWish.C "value") := { f := _, fd := _, b := b4, G := ok_BadWishD_initD F4 T x_BadWish }
  let c_UnknownNameD_initD : CalM P w K mg base CX0 1 ["self", "name"] (spXI x_UnknownName.C "name") := { f := _, fd := _, b := b5, G := ok_UnknownNameD_initD F5 T x_UnknownName }
  let c_valid_name : Cal P w K mg base "valid_name" CX0 1 ["text"] (spG mg K ([] : List (Addr × Str)) (fun q : Str × Unit => [rStr q.1]) F_valid_name (Fz rBl)) := { f := _, fd := _, g := He.glo_ok X G (c.fact 2 (f := .glo "valid_name") rfl), kp := F6.kp, b := b6, G := ok_valid_name F6 T }
  let c_is_integer : Cal P w K mg base "is_integer" CX0 1 ["value"] (spG mg K ([] : List (Addr × Str)) (fun q : PyData × Unit => [rDat q.1]) F_is_integer (Fz rBl)) := { f := _, fd := _, g := He.glo_ok X G (c.fact 3 (f := .glo "is_integer") rfl), kp := F7.kp, b := b7, G := ok_is_integer F7 T }
  let c_check_count : Cal P w K mg base "check_count" (CX P w) 3 ["count"] (spG mg K ([] : List (Addr × Str)) (fun q : Int × Unit => [rInt q.1]) F_check_count (Fz rNon)) := { f := _, fd := _, g := He.glo_ok X G (c.fact 4 (f := .glo "check_count") rfl), kp := F8.kp, b := b8, G := ok_check_count F8 T x_BadCount c_BadCountD_initD ⟨(He.meth_ok (c.fact 38 (f := .meth "BadCount" "__init__") rfl)).at_, XO0.2.2⟩ }
  let c_WishesD_initD : CalM P w K mg base (CX P w) 4 ["self", "amounts"] (spI mg K ([] : List (Addr × Str)) W_Wishes.C (fun q : (List (Str × PyData)) × Unit => [(rDct rDat) q.1]) F_WishesD_initD (cI_Wishes W_Wishes.C)) := { f := _, fd := _, b := b9, G := ok_WishesD_initD (W_Wishes := W_Wishes) F9 T x_BadWish c_BadWishD_initD ⟨(He.meth_ok (c.fact 40 (f := .meth "BadWish" "__init__") rfl)).at_, XO2.2.2⟩ x_BadName c_BadNameD_initD ⟨(He.meth_ok (c.fact 39 (f := .meth "BadName" "__init__") rfl)).at_, XO1.2.2⟩ c_check_count c_valid_name c_is_integer }
  let c_WishesD_initD_n : CalM P w K mg base (CX P w) 4 ["self", "amounts"] (spIN mg K ([] : List (Addr × Str)) W_Wishes.C (fun p0 (q : (List (Str × PyData)) × Unit ) => [(rDctAt p0 rDat) q.1]) F_WishesD_initD_n (fun p0 => cIN_Wishes p0 W_Wishes.C)) := { f := _, fd := _, b := b9, G := ok_WishesD_initD_n (W_Wishes := W_Wishes) F9 T x_BadWish c_BadWishD_initD ⟨(He.meth_ok (c.fact 40 (f := .meth "BadWish" "__init__") rfl)).at_, XO2.2.2⟩ x_BadName c_BadNameD_initD ⟨(He.meth_ok (c.fact 39 (f := .meth "BadName" "__init__") rfl)).at_, XO1.2.2⟩ c_check_count c_valid_name c_is_integer }
  let c_Wishes_outcomes : CalM P w K mg base CX0 1 ["self"] (spG mg K ([] : List (Addr × Str)) (fun q : d_Wishes × Unit => [(rI_Wishes W_Wishes.C) q.1]) F_Wishes_outcomes (Fz (rTup rStr))) := { f := _, fd := _, b := bp0, G := ok_Wishes_outcomes (W_Wishes := W_Wishes) FP0 T }
  let c_WishesD_getitemD : CalM P w K mg base (CX P w) 3 ["self", "at"] (spG mg K ([] : List (Addr × Str)) (fun q : d_Wishes × Str × Unit => [(rI_Wishes W_Wishes.C) q.1, rStr q.2.1]) F_WishesD_getitemD (Fz rInt)) := { f := _, fd := _, b := b10, G := ok_WishesD_getitemD (W_Wishes := W_Wishes) F10 T x_UnknownName c_UnknownNameD_initD ⟨(He.meth_ok (c.fact 41 (f := .meth "UnknownName" "__init__") rfl)).at_, XO3.2.2⟩ }
  let c_Wishes_prefers : CalM P w K mg base (CX P w) 5 ["self", "one", "other"] (spG mg K ([] : List (Addr × Str)) (fun q : d_Wishes × Str × Str × Unit => [(rI_Wishes W_Wishes.C) q.1, rStr q.2.1, rStr q.2.2.1]) F_Wishes_prefers (Fz rBl)) := { f := _, fd := _, b := b11, G := ok_Wishes_prefers (W_Wishes := W_Wishes) F11 T c_WishesD_getitemD (He.meth_ok (c.fact 43 (f := .meth "Wishes" "__getitem__") rfl)) (ixB_ok (He.meth_ok (c.fact 43 (f := .meth "Wishes" "__getitem__") rfl)) (He.ba cc.x.more).2) }
  let c_Wishes_amounts : CalM P w K mg base CX0 1 ["self"] (spG mg K ([] : List (Addr × Str)) (fun q : d_Wishes × Unit => [(rI_Wishes W_Wishes.C) q.1]) F_Wishes_amounts (Ow (cDct rInt))) := { f := _, fd := _, b := b12, G := ok_Wishes_amounts (W_Wishes := W_Wishes) F12 T }
  let c_WishesDliked : CalM P w K mg base CX0 1 ["self", "amount"] (spG mg K ([] : List (Addr × Str)) (fun q : d_Wishes × Int × Unit => [(rI_Wishes W_Wishes.C) q.1, rInt q.2.1]) F_WishesDliked (Fz (rTup rStr))) := { f := _, fd := _, b := b13, G := ok_WishesDliked (W_Wishes := W_Wishes) F13 T }
  let c_Wishes_ranks : CalM P w K mg base CX0 3 ["self"] (spG mg K ([] : List (Addr × Str)) (fun q : d_Wishes × Unit => [(rI_Wishes W_Wishes.C) q.1]) F_Wishes_ranks (Ow (cLst (rTup rStr)))) := { f := _, fd := _, b := b14, G := ok_Wishes_ranks (W_Wishes := W_Wishes) F14 T c_WishesDliked (He.meth_ok (c.fact 46 (f := .meth "Wishes" "_liked") rfl)) }
  let c_Wishes_best : CalM P w K mg base (CX P w) 5 ["self", "names"] (spG mg K ([] : List (Addr × Str)) (fun q : d_Wishes × (List Str) × Unit => [(rI_Wishes W_Wishes.C) q.1, (rSq rStr) q.2.1]) F_Wishes_best (Fz (rTup rStr))) := { f := _, fd := _, b := b15, G := ok_Wishes_best (W_Wishes := W_Wishes) F15 T x_BadCount c_BadCountD_initD ⟨(He.meth_ok (c.fact 38 (f := .meth "BadCount" "__init__") rfl)).at_, XO0.2.2⟩ c_WishesD_getitemD (He.meth_ok (c.fact 43 (f := .meth "Wishes" "__getitem__") rfl)) c_WishesDliked (He.meth_ok (c.fact 46 (f := .meth "Wishes" "_liked") rfl)) (ixB_ok (He.meth_ok (c.fact 43 (f := .meth "Wishes" "__getitem__") rfl)) (He.ba cc.x.more).2) }
  let c_Lnames : Cal P w K mg base "_law_names" CX0 2 ["_law_state", "_law_count"] (spT mg K ([] : List (Addr × Str)) thV (fun s (q : Int × Unit) => [rSt s, rInt q.1]) F_Lnames (Ow (cLst rStr))) := { f := _, fd := _, g := He.glo_ok X G (c.fact 5 (f := .glo "_law_names") rfl), kp := F16.kp, b := b16, G := ok_Lnames F16 T c_Ldraw }
  let c_Lgood : Cal P w K mg base "_law_good" CX0 1 ["_law_word"] (spG mg K ([] : List (Addr × Str)) (fun q : Str × Unit => [rStr q.1]) F_Lgood (Fz rBl)) := { f := _, fd := _, g := He.glo_ok X G (c.fact 6 (f := .glo "_law_good") rfl), kp := F17.kp, b := b17, G := ok_Lgood F17 T }
  let c_Lorder : Cal P w K mg base "_law_order" CX0 2 ["_law_state", "_law_items"] (spT mg K ([] : List (Addr × Str)) thV (fun s (q : (List Str) × Unit) => [rSt s, (rLst rStr) q.1]) F_Lorder (Ow (cLst rStr))) := { f := _, fd := _, g := He.glo_ok X G (c.fact 7 (f := .glo "_law_order") rfl), kp := F18.kp, b := b18, G := ok_Lorder F18 T c_Ldraw }
  let c_Lodd : Cal P w K mg base "_law_odd" CX0 2 ["_law_state"] (spT mg K ([] : List (Addr × Str)) thV (fun s (q : Unit) => [rSt s]) F_Lodd (Fz rDat)) := { f := _, fd := _, g := He.glo_ok X G (c.fact 8 (f := .glo "_law_odd") rfl), kp := F19.kp, b := b19, G := ok_Lodd F19 T c_Ldraw }
  have hE_Lmade_0 : ∀ p ∈ [(("BadCount" : Str), x_BadCount.C), (("BadName" : Str), x_BadName.C), (("BadWish" : Str), x_BadWish.C)], ∀ q ∈ [(("BadCount" : Str), x_BadCount.C), (("BadName" : Str), x_BadName.C), (("BadWish" : Str), x_BadWish.C)], PySem.W.exmOne K (.ref p.2) (.ref q.2) = some (decide (p.1 = q.1)) := by
      intro p hp r hr
      simp only [List.mem_cons, List.not_mem_nil, or_false] at hp hr
      rcases hp with rfl | rfl | rfl <;> rcases hr with rfl | rfl | rfl
      · exact He.exm_ok (c.fact 51 (f := .exm "BadCount" "BadCount" true) rfl)
      · exact He.exm_ok (c.fact 52 (f := .exm "BadCount" "BadName" false) rfl)
      · exact He.exm_ok (c.fact 53 (f := .exm "BadCount" "BadWish" false) rfl)
      · exact He.exm_ok (c.fact 57 (f := .exm "BadName" "BadCount" false) rfl)
      · exact He.exm_ok (c.fact 58 (f := .exm "BadName" "BadName" true) rfl)
      · exact He.exm_ok (c.fact 59 (f := .exm "BadName" "BadWish" false) rfl)
      · exact He.exm_ok (c.fact 63 (f := .exm "BadWish" "BadCount" false) rfl)
      · exact He.exm_ok (c.fact 64 (f := .exm "BadWish" "BadName" false) rfl)
      · exact He.exm_ok (c.fact 65 (f := .exm "BadWish" "BadWish" true) rfl)
  let c_Lmade : Cal P w K mg base "_law_made" CX0 6 ["_law_given"] (spG mg K ([] : List (Addr × Str)) (fun q : (List (Str × PyData)) × Unit => [(rDct rDat) q.1]) F_Lmade (Fz (rLst rDat))) := { f := _, fd := _, g := He.glo_ok X G (c.fact 9 (f := .glo "_law_made") rfl), kp := F20.kp, b := b20, G := ok_Lmade (W_Wishes := W_Wishes) F20 T x_BadWish x_BadName x_BadCount c_WishesD_initD (He.mkr_ok (c.fact 42 (f := .mkr "Wishes") rfl)) c_Wishes_outcomes PR0 c_Wishes_amounts (He.meth_ok (c.fact 45 (f := .meth "Wishes" "amounts") rfl)) hE_Lmade_0 }
  let c_Ldue : Cal P w K mg base "_law_due" CX0 2 ["_law_given"] (spG mg K ([] : List (Addr × Str)) (fun q : (List (Str × PyData)) × Unit => [(rDct rDat) q.1]) F_Ldue (Fz (rLst rDat))) := { f := _, fd := _, g := He.glo_ok X G (c.fact 10 (f := .glo "_law_due") rfl), kp := F21.kp, b := b21, G := ok_Ldue F21 T c_Lgood }
  have hE_Ltold_0 : ∀ p ∈ [(("UnknownName" : Str), x_UnknownName.C), (("BadCount" : Str), x_BadCount.C)], ∀ q ∈ [(("UnknownName" : Str), x_UnknownName.C), (("BadCount" : Str), x_BadCount.C)], PySem.W.exmOne K (.ref p.2) (.ref q.2) = some (decide (p.1 = q.1)) := by
      intro p hp r hr
      simp only [List.mem_cons, List.not_mem_nil, or_false] at hp hr
      rcases hp with rfl | rfl <;> rcases hr with rfl | rfl
      · exact He.exm_ok (c.fact 72 (f := .exm "UnknownName" "UnknownName" true) rfl)
      · exact He.exm_ok (c.fact 69 (f := .exm "UnknownName" "BadCount" false) rfl)
      · exact He.exm_ok (c.fact 54 (f := .exm "BadCount" "UnknownName" false) rfl)
      · exact He.exm_ok (c.fact 51 (f := .exm "BadCount" "BadCount" true) rfl)
  let c_Ltold : Cal P w K mg base "_law_told" CX0 7 ["_law_wishes", "_law_plan", "_law_left", "_law_right_here"] (spG mg K ([] : List (Addr × Str)) (fun q : d_Wishes × Int × PyData × Str × Unit => [(rI_Wishes W_Wishes.C) q.1, rInt q.2.1, rDat q.2.2.1, rStr q.2.2.2.1]) F_Ltold (Fz (rLst rDat))) := { f := _, fd := _, g := He.glo_ok X G (c.fact 11 (f := .glo "_law_told") rfl), kp := F22.kp, b := b22, G := ok_Ltold (W_Wishes := W_Wishes) F22 T x_UnknownName x_BadCount c_WishesD_getitemD (He.meth_ok (c.fact 43 (f := .meth "Wishes" "__getitem__") rfl)) c_Wishes_prefers (He.meth_ok (c.fact 44 (f := .meth "Wishes" "prefers") rfl)) c_Wishes_best (He.meth_ok (c.fact 48 (f := .meth "Wishes" "best") rfl)) (ixB_ok (He.meth_ok (c.fact 43 (f := .meth "Wishes" "__getitem__") rfl)) (He.ba cc.x.more).2) hE_Ltold_0 }
  let c_Ltold_due : Cal P w K mg base "_law_told_due" CX0 1 ["_law_given", "_law_plan", "_law_left", "_law_right_here"] (spG mg K ([] : List (Addr × Str)) (fun q : (List (Str × Int)) × Int × PyData × Str × Unit => [(rDct rInt) q.1, rInt q.2.1, rDat q.2.2.1, rStr q.2.2.2.1]) F_Ltold_due (Fz (rLst rDat))) := { f := _, fd := _, g := He.glo_ok X G (c.fact 12 (f := .glo "_law_told_due") rfl), kp := F23.kp, b := b23, G := ok_Ltold_due F23 T }
  let c_Lranks : Cal P w K mg base "_law_ranks" CX0 1 ["_law_given"] (spG mg K ([] : List (Addr × Str)) (fun q : (List (Str × Int)) × Unit => [(rDct rInt) q.1]) F_Lranks (Fz (rLst (rTup rStr)))) := { f := _, fd := _, g := He.glo_ok X G (c.fact 13 (f := .glo "_law_ranks") rfl), kp := F24.kp, b := b24, G := ok_Lranks F24 T }
  let c_Lright : Cal P w K mg base "_law_right" CX0 8 ["_law_state", "_law_wishes", "_law_given"] (spT mg K ([] : List (Addr × Str)) thV (fun s (q : d_Wishes × (List (Str × Int)) × Unit) => [rSt s, (rI_Wishes W_Wishes.C) q.1, (rDct rInt) q.2.1]) F_Lright (Fz rBl)) := { f := _, fd := _, g := He.glo_ok X G (c.fact 14 (f := .glo "_law_right") rfl), kp := F25.kp, b := b25, G := ok_Lright (W_Wishes := W_Wishes) F25 T c_Ldraw c_Lorder c_Ltold c_Ltold_due c_Wishes_ranks (He.meth_ok (c.fact 47 (f := .meth "Wishes" "ranks") rfl)) c_Lranks }
  exact ok_law (W_Wishes := W_Wishes) F26 T c_Lstart c_Ldraw c_Lnames c_Lorder c_Lodd c_Ldue c_Lmade c_WishesD_initD_n (He.mkr_ok (c.fact 42 (f := .mkr "Wishes") rfl)) c_Wishes_amounts (He.meth_ok (c.fact 45 (f := .meth "Wishes" "amounts") rfl)) c_Lright c_Wishes_best (He.meth_ok (c.fact 48 (f := .meth "Wishes" "best") rfl)) c_Wishes_prefers (He.meth_ok (c.fact 44 (f := .meth "Wishes" "prefers") rfl)) (kb_P 1 1 [0, 1] F9 (by simp) (fun _ _ _ _ _ _ us ws h1 h2 => match us, ws, h1, h2 with | [_], [_], _, _ => rfl)) (kb_P 1 1 [0, 1] F15 (by simp) (fun _ _ _ _ _ _ us ws h1 h2 => match us, ws, h1, h2 with | [_], [_], _, _ => rfl)) (kb_P 1 2 [0, 2, 1] F11 (by simp) (fun _ _ _ _ _ _ us ws h1 h2 => match us, ws, h1, h2 with | [_], [_, _], _, _ => rfl)) law_ok
end K03
open PySem PySem.W PySem.Calls PyProof.Rows in
set_option maxRecDepth 100000 in
set_option maxHeartbeats 0 in
theorem PySem.Challenge.cw_twochoosers_k03_wishes_holds : PySem.Challenge.rw_twochoosers_k03_wishes.Holds := by
  w_on; o_law
  refine HandSHeadRun.head_any (r := OpenLaw.row PySem.Challenge.rw_twochoosers_k03_wishes) (q := view (OpenLaw.row PySem.Challenge.rw_twochoosers_k03_wishes).prog [31]) (H := K03.hk) (ob := K03.ob) (M := 12000) (loose := K03.names) (d := HandSHeadRun.topDef (OpenLaw.row PySem.Challenge.rw_twochoosers_k03_wishes).prog 31) (kwd := []) K03.ob_eq
    (by kernel_rfl) (fun s => by kernel_rfl) K03.run (by kernel_rfl) (by kernel_rfl) (by kernel_rfl) (by rfl) (by first | assumption | decide +kernel) (by decide +kernel) ⟨rfl, rfl, rfl, rfl, rfl, by decide +kernel⟩ ?hw ?hc
  case hw => w_witness2
  case hc =>
    refine LamX.walk_ofTsE (l := PySem.Challenge.rw_twochoosers_k03_wishes) (n := 63) (k := 9) (x := "_law_script") (CX := fun _ => L2.CX0) rfl (by decide) (by kernel_rfl) ⟨rfl, by decide, by decide⟩ ?F (fun _ _ _ _ _ z => z)
    intro w mg fa h Y G hmg0
    obtain ⟨K, KX, cc⟩ := Y
    have hmg : mg ("law" : PySem.Str) = some (.ref fa) := by
      have e : (HandSHeadRun.topDef (OpenLaw.row PySem.Challenge.rw_twochoosers_k03_wishes).prog 31).name = ("law" : PySem.Str) := by kernel_rfl
      rw [← e]
      exact hmg0
    obtain ⟨fd, hb, hF⟩ := K03.facts (P := (PySem.Challenge.rw_twochoosers_k03_wishes).prog) (w := w) KX G hmg cc
    have c := cc.x
    have tab : ∀ (H : L2.Hp), (∀ p ∈ K03.tf.map (He.cT K), H p.2 = some (.tbl #[])) → LamX.Tabs ([] : List (Addr × Str)) H := fun H hH p hp => by
      simp only [List.mem_cons, List.not_mem_nil, or_false] at hp
      
    refine ⟨K, KX, fd, K03.tf.map (He.cT K), VL.spLawT K ([] : List (Addr × Str)), fun p hp => ?_, fun p hp => ?_, fun p hp => ?_, hb, fun H a ns hl _ hT hS => ⟨a, ns, rfl, hS, hl, tab H hT, fun _ => rfl⟩, hF⟩
    · obtain ⟨d, hd, rfl⟩ := List.mem_map.mp hp
      exact c.empty d hd
    · obtain ⟨d, hd, rfl⟩ := List.mem_map.mp hp
      exact c.out d hd
    · obtain ⟨d, hd, rfl⟩ := List.mem_map.mp hp
      exact PySem.W.codeHd_of_K KX (c.hd d hd)
