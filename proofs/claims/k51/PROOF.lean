import PyProof.Rows.All
import Wide.All
import OpenK.AllK
import Wide.FinOn
import HandS.ForSpec
import HandS.Comp
import HandS.Dict
import HandS.Iter
import HandS.Text
import HandS.IsInst
import HandS.Wide
import HandS.ExcInit
import HandS.ExcIs
import PyProof.ExcStrAll.ValueError
import PyProof.ReprRoads
import PyProof.CallFns
import HandS.Walk
import HandS.Defaults
import HandS.Zip
import HandS.DictTup
import HandS.SortInts
import HandS.IterVal
import HandS.SetBool
import HandS.SetKeys
import HandS.ForMost
import HandS.MakeKwOnly
import PySem.Challenge.RW_panelwatch_k51_whole_spans_tick_by_tick
import PyProof.ExcBaseAll.LookupError
import PyProof.ExcBaseAll.ValueError
import KE.KExcInit
import HandS.MakeKw
import HandS.ExcField
import HandS.ExcValue
import HandS.TryMany
import HandS.Head0
import HandS.Head1
import HandS.Head2
import HandS.HeadEnd
import HandS.HeadHook1
import HandS.HeadHook2
import HandS.CallSlots
import HandS.WordsExc
import HandS.Codes
import HandS.DictComp
import HandS.Star
import HandS.Rev
import HandS.List
import HandS.TupLe
import HandS.Call
import HandS.Deep
import PyProof.StrLaws
import HandS.TupAny
import HandS.TupMul
import HandS.Style
import HandS.Conv
import HandS.ListItems
import KE.KDictList
import HandS.Set
import PyProof.Rows.SortShellAny
import KE.KItemsList
import PyProof.ZipIter
import HandS.More
set_option Elab.async false
set_option linter.all false
set_option maxRecDepth 100000
set_option maxHeartbeats 4000000
/-! The layer of defs that are called where no display is under way (nothing is being shown around them). -/
namespace Pw
open PySem PySem.Spec PyProof.Rows L2

/-- a def's promise where nothing is being shown around its call -/
structure FnG (P : Program) (w : World) (K : PySem.W.Frag) (mg : Str → Option Value)
    (base : Heap) (CX : CXT) (k : Nat) (f : Addr) (fd : FuncData) (ps : List Str) (sp : Sp) : Prop where
  len : ∀ vs H Q E, sp vs H Q E →
    vs.length = ps.length
  run : ∀ (A : Around) (out : List Env) (s : Shared) (H : Hp) (ar : Args) (us : List Value)
    (vs : List V) (Q : VK) (E : XK), A.guards = some [] → Room k A →
    Env0 P w K mg base A out s H → BindsTo s fd ar (ps.zip us) → Vals vs us → sp vs H Q E →
    codeAny (model P w) A (.call (.ref f) ar) (CR CX out P w H s Q E) s

section
variable {P : Program} {w : World} {K : PySem.W.Frag} {mg : Str → Option Value} {base : Heap}

theorem FnG.of {CX : CXT} {k : Nat} {f : Addr} {fd : FuncData} {ps : List Str} {sp : Sp}
    (F : FnOk P w K mg base CX k f fd ps sp) : FnG P w K mg base CX k f fd ps sp :=
  ⟨F.len, fun A out s H ar us vs Q E _ hr e0 hb r hs => F.run A out s H ar us vs Q E hr e0 hb r hs⟩

theorem fnG_of {CX : CXT} {k : Nat} {f : Addr} {name qual : Str} {params : Arguments}
    {body : List Stmt} {scope : Scope} {dV kV doc pm cdv ct oc : Value} {an od : Option Addr}
    {osl : Array (Option Value)} {N ps : List Str} {sp : Sp}
    (lk : K.lookup f = some ⟨oc, od, .func (PySem.W.fnOf name qual params body scope dV kV doc pm an cdv ct), osl⟩)
    (hcd : PySem.W.codeIn K cdv qual = true) (S : FnScope N ps scope)
    (len : ∀ vs H Q E, sp vs H Q E → vs.length = ps.length)
    (hb0 : ∀ (A : Around) (out : List Env) (s : Shared) (H : Hp) (vs : List V) (Q : VK) (E : XK),
      A.guards = some [] → Room k (A.deeper (envOfC qual scope s.heap.objs.size f cdv)) → sp vs H Q E →
      ∃ t, PSs (cxOf CX P w K mg base N qual scope f cdv A out s H E) body t ∧
        t { nx := fun _ H' => Q .non H', rt := Q } (start N vs) H) :
    FnG P w K mg base CX (k + 1) f (PySem.W.fnOf name qual params body scope dV kV doc pm an cdv ct) ps sp := by
  refine ⟨len, fun A out s H ar us vs Q E gd hr e0 hbn r hs0 => ?_⟩
  have hlen := len _ _ _ _ hs0
  have old : ∀ b o, base.get? b = some o → s.heap.get? b = some o := fun b o e => (e0.bs b o e).1
  have KX : K.In s.heap := e0.mod.kin.keeps old
  have lim : s.heap.NoLimit := e0.mod.nolimit.keeps old
  have kinds : ∀ y ∈ ps.zip us, scope.names.lookup y.1 = some .local ∨
      (scope.names.lookup y.1 = some .cell ∧
        ((cellsFrom (s.heap.objs.size + 1) scope.names []).lookup y.1).isSome = true) := by
    intro ⟨n, v⟩ hy
    rcases S.par n (List.of_mem_zip hy).1 with z | z
    · exact .inl z
    · exact .inr ⟨z, PySem.W.cellsFrom_some _ _ _ (.inl z)⟩
  refine codeAny_call_function hr.depth (KX _ _ lk) rfl S.co S.gen rfl
    (PySem.W.codeRec_of KX hcd) (hbn _ _ _ _ ?_)
  refine wpAny_newFunctionEnv_cells S.kind kinds fun env he s1 x => ?_
  subst he
  refine ⟨lim.keeps x.toInCall.keep, codeAny_func ?_⟩
  obtain ⟨t, T, q0⟩ := hb0 A out s H vs Q E gd (hr.deeper _) hs0
  have J0 : Inv (cxOf CX P w K mg base N qual scope f cdv A out s H E) [] (start N vs) H s1 :=
    inv_start S hr.hd e0 hlen r x
  refine wpAny_mono (T.run [] s1 (start N vs) H _ J0 q0) (fun fl s' hs => ?_) fun e s' hs => hs
  have fin : ∀ {σ' : L2.St} {H' : Hp} {v : V} {u : Value},
      Inv (cxOf CX P w K mg base N qual scope f cdv A out s H E) [] σ' H' s' →
      RelV v u → Q v H' → CE out P w H s Q u s' :=
    fun {σ' H' v u} J rv q => ⟨v, H', J.os, J.bare, J.base, J.hok, rv, q⟩
  match fl, hs with
  | .ret u, ⟨v, σ', H', J, rv, q⟩ => exact fin J rv q
  | .next, ⟨σ', H', J, q⟩ => exact fin (v := V.non) (u := Value.none) J rfl q
  | .brk, ⟨_, _, _, q⟩ => exact False.elim q
  | .cont, ⟨_, _, _, q⟩ => exact False.elim q

/-- the rule for a def, where nothing is being shown around it -/
theorem okG {x qual : Str} {st : Stmt} {f : Addr} {fd : FuncData} {N ps : List Str} {k : Nat} {sp : Sp}
    (F : Fun K x qual st f fd) (S : FnScope N ps (defScope st))
    (len : ∀ vs H Q E, sp vs H Q E → vs.length = ps.length)
    (hb0 : ∀ (cdv : Value) (A : Around) (out : List Env) (s : Shared) (H : Hp) (vs : List V) (Q : VK) (E : XK),
      A.guards = some [] →
      Room k (A.deeper (envOfC qual (defScope st) s.heap.objs.size f cdv)) → sp vs H Q E →
      ∃ t, PSs (cxOf CX0 P w K mg base N qual (defScope st) f cdv A out s H E).nox (defBody st) t ∧
        t { nx := fun _ H' => Q .non H', rt := Q } (start N vs) H) :
    FnG P w K mg base CX0 (k + 1) f fd ps sp := by
  obtain ⟨oc, od, kV, doc, pm, an, cdv, ct, osl, rfl, lk, hcd⟩ := F.ex
  refine fnG_of lk hcd S len fun A out s H vs Q E gd hr hs0 => ?_
  obtain ⟨t, h, q⟩ := hb0 cdv A out s H vs Q E gd hr hs0
  exact ⟨t, h.nox, q⟩
end

section
variable {X : Cx} {CX : CXT} {k : Nat} {f : Addr} {fd : FuncData} {ps : List Str} {sp : Sp}
  {dvs : List V} {ds : List Value} {E : XK} {x : Str} {p pos : Pos} {e : Expr} {es : List Expr} {t : TA}

theorem run_fnG {pins : List (Addr × Obj)} {σ : L2.St} {H : Hp} {s : Shared} {Q : VK} {us : List Value} {vs : List V}
    (F : FnG X.prog X.w X.K X.mg X.base CX k f fd ps sp) (gd : X.A.guards = some []) (hr : Room k X.A)
    (hb : Binds X.K fd ps ds) (hd : Vals dvs ds) (hx : Passes CX X E)
    (I : Inv X pins σ H s) (r : Vals vs us) (h : sp (vs ++ dvs) H Q E) :
    wpAny (model X.prog X.w) X.A (call (.ref f) us) (EP X pins σ Q) X.xe s := by
  have r2 : Vals (vs ++ dvs) (us ++ ds) := r.append hd
  have hlen : (us ++ ds).length = ps.length := r2.length ▸ F.len _ _ _ _ h
  refine wpAny_call (codeAny_mono (F.run X.A X.stack s H ⟨us, []⟩ (us ++ ds) (vs ++ dvs) Q E gd hr
    I.env0 (hb s us I.kIn hlen) r2 h) fun r s' hq => ?_)
  match r, hq with
  | .error e, hq => exact hx pins σ H s e s' I hq
  | .ok (.ret u), hq => exact I.after hq
  | .ok .next, hq => exact False.elim hq
  | .ok .brk, hq => exact False.elim hq
  | .ok .cont, hq => exact False.elim hq

/-- f(..), f a def whose promise stands where nothing is being shown -/
theorem pe_callG (F : FnG X.prog X.w X.K X.mg X.base CX k f fd ps sp) (gd : X.A.guards = some []) (hr : Room k X.A)
    (hg : Gl X x) (hm : X.mg x = some (.ref f)) (hk : PySem.W.keepIn X.K (.ref f) = true)
    (hb : Binds X.K fd ps ds) (hd : Vals dvs ds) (hx : Passes CX X E) (ha : PA X (e :: es) t)
    (hdb : (x == ("__debug__" : Str)) = false := by decide)
    (he : starEach (e :: es) X.env = (false, eval e X.env) :: starEach es X.env := by rfl)
    (hpl : (backTo pos (starEach es X.env)).any (·.1) = false := by rfl) :
    PE X (.Call (.Name x p) (e :: es) [] pos) (tCall sp dvs E t) :=
  ⟨fun pins s σ H Q I h => wpAny_Call_Name_kw (ld_glob I hg hm (PySem.W.callWith_K (h₀ := X.base)
    I.ok.mod.kin hk (thn (ha.run pos pins s σ H _ I h) fun us s1 ⟨vs, H1, I1, r, q⟩ =>
      ⟨I1.kIn, run_fnG F gd hr hb hd hx I1 r q⟩) he hpl) hdb)⟩
end

/-- the end: the law's promise, at the heap behind the top, nothing being shown -/
theorem law_callG {P : Program} {w : World} {K : PySem.W.Frag} {mg mb : Str → Option Value} {CX : CXT} {k : Nat}
    {fa a : Addr} {fd : FuncData} {x : Str} {sp : Sp} {s₁ : Shared} {vs : List Value} {ns : List Int}
    (KX : K.In s₁.heap) (hns : s₁.heap.Ns mainGlobals mg) (hb : s₁.heap.Ns builtinsNs mb)
    (hbb : ∀ x : Str, x ≠ "__name__" → mb x = bootBuiltins x) (hlim : s₁.heap.NoLimit) (hg : s₁.gens = #[])
    (ha : s₁.heap.get? a = some { cls := .type "list", data := .seq vs.toArray }) (hi : IntsAre vs ns)
    (hl : ns.length ≤ sizeLine) (hr : Room k callerA)
    (F : ∀ base : Heap, K.In base → base.Ns mainGlobals mg → FnG P w K mg base CX k fa fd [x] sp)
    (hbind : ∀ (s : Shared) (u : Value), BindsTo s fd ⟨[u], []⟩ [(x, u)])
    (hsp : ∀ H : Hp, Only H → SqL K H a (ns.map V.int) → sp [.ref a] H (fun v _ => v = .bl true) fun _ _ _ => False)
    (hCX : ∀ H e s', CX [] H s₁ (fun _ _ _ => False) e s' → False) :
    codeAny (model P w) callerA (.call (.ref fa) ⟨[.ref a], []⟩)
      (fun r s' => r = .ok (.ret (.bool true)) ∧ OldK s₁.heap s'.heap ∧ s'.os = s₁.os ∧ AllBare s'.gens) s₁ := by
  have rv := vals_ints hi
  have lenV := hi.length
  have core : ∀ H : Hp, Only H → SqL K H a (ns.map V.int) → HOk P w H s₁.heap → (∀ b, H b ≠ none → b = a) →
      (H a ≠ none → K.lookup a = none) → codeAny (model P w) callerA (.call (.ref fa) ⟨[.ref a], []⟩)
      (fun r s' => r = .ok (.ret (.bool true)) ∧ OldK s₁.heap s'.heap ∧ s'.os = s₁.os ∧ AllBare s'.gens) s₁ := by
    intro H hO hS hok hA hK
    have loose : ∀ {b : Addr} {o : Obj} {es : Array DictEntry} {ep : Nat}, s₁.heap.get? b = some o →
        o.data = .dict es ep → H b = none := by
      intro b o es ep e d
      cases q : H b with
      | none => rfl
      | some u =>
        obtain rfl : b = a := hA b (fun z => nomatch q.symm.trans z)
        cases ha.symm.trans e
        exact nomatch (show Data.seq vs.toArray _ = Data.dict es ep from d)
    have nsK : ∀ {b : Addr} {m : Str → Option Value}, s₁.heap.Ns b m → (hidT s₁.heap H).Ns b m :=
      fun {b m} ⟨o, es, ep, e, d, r⟩ => ⟨o, es, ep, hidT_get e (loose e d), d, r⟩
    have hKb : K.In (hidT s₁.heap H) := by
      intro b o e
      refine hidT_get (KX b o e) ?_
      cases q : H b with
      | none => rfl
      | some u =>
        obtain rfl : b = a := hA b (fun z => nomatch q.symm.trans z)
        exact nomatch (hK (fun z => nomatch q.symm.trans z)).symm.trans e
    have hM : Mod K mg (hidT s₁.heap H) :=
      ⟨hKb, nsK hns, ⟨mb, nsK hb, hbb⟩, hlim.elim fun mc h => ⟨mc, nsK h.1, h.2⟩⟩
    have e0 : Env0 P w K mg (hidT s₁.heap H) callerA [] s₁ H :=
      ⟨rfl, hM, fun b o e => of_hidT e, Nat.le_of_eq (hidT_size _ _), trivial,
        fun b hb => (nomatch (show b ∈ ([] : List Addr) from hb)), hok, .of_eq hg⟩
    refine codeAny_mono ((F _ hKb (nsK hns)).run callerA [] s₁ H ⟨[.ref a], []⟩ [.ref a] [.ref a] _ _ rfl hr e0
      (hbind s₁ (.ref a)) (.cons rfl .nil) (hsp H hO hS)) fun r s' h => ?_
    match r, h with
    | .error e, h => exact (hCX H e s' h).elim
    | .ok .next, h => exact False.elim h
    | .ok .brk, h => exact False.elim h
    | .ok .cont, h => exact False.elim h
    | .ok (.ret u), ⟨v, H', os, bare, un, hok', r', q⟩ =>
      obtain rfl : v = .bl true := q
      obtain rfl : u = Value.bool true := r'
      refine ⟨rfl, OldK.of_keep fun b o e => ?_, os, bare⟩
      cases q : H b with
      | none => exact un.keep b o e q (fun z => (nomatch (show b ∈ ([] : List Addr) from z))) (by simp)
      | some u =>
        rcases hO b with z | ⟨ob, xs, z⟩
        · exact nomatch q.symm.trans z
        · have e1 := (hok b _ z).1
          have e2 := (hok' b _ (un.frzs b ob _ z)).1
          cases e.symm.trans e1
          exact e2
  cases hk : K.lookup a with
  | some o =>
    cases ha.symm.trans (KX a o hk)
    exact core (fun _ => none) (fun _ => .inl rfl)
      (.inr ⟨_, vs.toArray, _, hk, rfl, rfl, rfl, by rw [List.size_toArray, lenV]; exact hl, by simpa using rv⟩)
      (fun b u z => nomatch (show (none : Option HO) = some u from z)) (fun b z => absurd rfl z) fun z => absurd rfl z
  | none =>
    refine core (fun b => if b = a then
        some (.frz { cls := .type "list", data := .seq vs.toArray } (.lst (ns.map V.int))) else none) (fun b => ?_)
      (.inl (.inr ⟨{ cls := .type "list", data := .seq vs.toArray }, if_pos rfl⟩)) (fun b u z => ?_) (fun b z => ?_)
      fun _ => hk
    · by_cases hba : b = a
      · exact .inr ⟨_, _, if_pos hba⟩
      · exact .inl (if_neg hba)
    · by_cases hba : b = a
      · have z' := (if_pos hba).symm.trans z
        cases z'
        subst hba
        exact ⟨ha, by rw [List.length_map]; exact hl, vs, _, rv, ha⟩
      · exact nomatch (if_neg hba).symm.trans z
    · by_cases hba : b = a
      · exact hba
      · exact absurd (if_neg hba) z

theorem walkG {l : PySem.W.OpenLaw} {n k : Nat} {q : Program} {loose : List Str}
    {XP : (Str → Option Value) → Heap → Prop} {YP : World → Heap → Prop} {d : DefRec} {K : Params → PySem.W.Frag}
    {CX : World → CXT} {sp : World → Sp} {x : Str} (hn : l.most = some n) (hn2 : n ≤ sizeLine)
    (hdf : d.params.defaults = []) (hr : Room k callerA) (hY : ∀ (w : World) (h : Heap), YP w h → (K w.params).In h)
    (F : ∀ (w : World) (mg : Str → Option Value) (fa : Addr) (h : Heap), (K w.params).In h → h.Ns mainGlobals mg →
      mg d.name = some (.ref fa) → ∃ fd : FuncData, (∀ (s : Shared) (u : Value), BindsTo s fd ⟨[u], []⟩ [(x, u)]) ∧
        ∀ base : Heap, (K w.params).In base → base.Ns mainGlobals mg →
          FnG l.prog w (K w.params) mg base (CX w) k fa fd [x] (sp w))
    (hsp : ∀ (w : World) (H : Hp) (a : Addr) (ns : List Int), ns.length ≤ n → Only H →
      SqL (K w.params) H a (ns.map V.int) → sp w [.ref a] H (fun v _ => v = .bl true) fun _ _ _ => False)
    (hCX : ∀ (w : World) (H : Hp) (s : Shared) (e : Value) (s' : Shared), CX w [] H s (fun _ _ _ => False) e s' → False) :
    PySem.W.WalkO q loose XP YP l.row.toRowW d [] (fun f vs => PySem.call f vs) := by
  refine Att.attach_call hn hdf fun w s₀ s₁ mg mb fa o pm cd doc a vs ns G Y ho hd hcd hmg hobj hints hlen hg => ?_
  have KX := hY w _ Y
  obtain ⟨fd, hbn, hF⟩ := F w mg fa _ KX G.T.g hmg
  exact law_callG KX G.T.g G.T.b G.T.builtins G.T.nolimit hg hobj hints (Nat.le_trans hlen hn2) hr hF hbn
    (fun H hO hS => hsp w H a ns hlen hO hS) fun H e s' => hCX w H s₁ e s'
end Pw

/-! Exceptions of one's own as values: made by their own __init__, which calls that of the class above it by name; their args are tracked. -/
namespace Pw
open PySem PySem.Spec PyProof.Rows L2

/-- the object of an exception: its class, its dict, where its args lie -/
abbrev exOb (C : Addr) (d : Option Addr) (t : Addr) : Obj :=
  { cls := .ref C, dict := d, data := .fields #[.ref t, .none, .none, .none, .bool false, .none] }
/-- at e: an exception of the class at C; its args are the tuple at t -/
def exq (e C : Addr) (d : Option Addr) (t : Addr) : HO := .ext fun h => h.get? e = some (exOb C d t)
theorem exq_own {e C x t : Addr} {d : Option Addr} : exq e C d t ≠ .own x := fun z => by
  have z' : HO.ext _ = HO.own x := z
  cases z'
theorem exq_tup {e C t : Addr} {d : Option Addr} {xs : List V} : exq e C d t ≠ .tup xs := fun z => by
  have z' : HO.ext _ = HO.tup xs := z
  cases z'
theorem exq_lst {e C t : Addr} {d : Option Addr} {xs : List V} : exq e C d t ≠ .lst xs := fun z => by
  have z' : HO.ext _ = HO.lst xs := z
  cases z'
theorem exq_frz {e C t : Addr} {d : Option Addr} {o : Obj} {u : HO} : exq e C d t ≠ .frz o u := fun z => by
  have z' : HO.ext _ = HO.frz o u := z
  cases z'
theorem exq_tbl {e C t : Addr} {d : Option Addr} {ps : Array Value} : exq e C d t ≠ .tbl ps := fun z => by
  have z' : HO.ext _ = HO.tbl ps := z
  cases z'
theorem exq_ok {P : Program} {w : World} {H : Hp} {h : Heap} {e C t : Addr} {d : Option Addr}
    (he : h.get? e = some (exOb C d t)) : ObjOk P w H h e (exq e C d t) :=
  ⟨he, ⟨_, he⟩, fun _ _ z k => k _ z⟩
theorem exq_at {P : Program} {w : World} {H : Hp} {h : Heap} {e C t : Addr} {d : Option Addr} (hok : HOk P w H h)
    (he : H e = some (exq e C d t)) : h.get? e = some (exOb C d t) := by
  have x : ObjOk P w H h e (.ext fun h => h.get? e = some (exOb C d t)) := hok e _ he
  exact x.1

section
variable {X : Cx} {pins : List (Addr × Obj)} {σ : L2.St} {H : Hp} {s : Shared} {a C t1 : Addr} {f : Str} {y : V}
  {u : Value} {E : Value → Shared → Prop} {A : Around}

/-- self.f = y, the first attribute -/
theorem eq_new {Q : Unit → Shared → Prop} (T : OexC X.K C) (I : Inv X pins σ H s) (e : H a = some (exq a C none t1))
    (hno : PySem.W.findIn X.K (.ref C) f = some none) (ry : RelV y u)
    (h : ∀ dx s', H dx = none → dx ≠ a →
      Inv X pins σ (upd (upd H dx (exd dx [(f, y)])) a (exq a C (some dx) t1)) s' → Q () s') :
    wpAny (model X.prog X.w) A (setAttr (.ref a) f u) Q E s := by
  obtain ⟨nm, q, N, bs, bm, sn, sub, ab, col, dd, k0, k1, k2, k3, k5, hC, hbm⟩ := T.cls
  have hcl : PySem.W.clsIn X.K C = some { name := nm, bases := bs, mro := .ref C :: bm, ns := N, qualname := q, hasDict := true, slotNames := sn, subclasses := sub, abstract := ab, collection := col, hasDel := false } := by
    unfold PySem.W.clsIn
    rw [hC] <;> rfl
  have ho := exq_at I.hok e
  obtain ⟨hp, g, d, t, os⟩ := s
  refine PySem.W.set_plain I.kIn (ox := exOb C none t1) (od := none) ⟨ho, rfl, rfl, trivial⟩ T.sa ?_
  refine PySem.HandSPX.exc_osa I.kIn ho hcl
    (show PySem.HandSPX.refsVE (.ref C :: bm) = true from hbm) rfl hno (fun h' tk' dx k dn dne hx hn => ?_)
  have hnd : H dx = none := I.hok.fresh dn
  have nd : ∀ {b : Addr} {o : Obj}, hp.get? b = some o → b ≠ dx :=
    fun {b o} q => Nat.ne_of_lt (Nat.lt_of_lt_of_le (Heap.lt_size q) dn)
  have na : ∀ {b : Addr}, H b = none → b ≠ a := fun {b} n z => by rw [z, e] at n; cases n
  have Un1 : Un X.fs [] H (upd (upd H dx (exd dx [(f, y)])) a (exq a C (some dx) t1)) hp h' := {
    keep := fun b o q n _ _ => k b o (na n) q
    slot := fun b o q n _ _ => ⟨o.slots, k b o (na n) q⟩
    free := fun b o q n _ => ((upd_ne (na n)).trans (upd_ne (nd q))).trans n
    there := fun b o q _ => by
      by_cases hb : b = a
      · exact ⟨_, hb ▸ hx⟩
      · exact ⟨o, k b o hb q⟩
    tups := fun b xs q => ((upd_ne (at_ne e q exq_tup)).trans (upd_ne (ne_of_none q hnd))).trans q
    frzs := fun b o v q => ((upd_ne (at_ne e q exq_frz)).trans (upd_ne (ne_of_none q hnd))).trans q
    tbls := fun b ps q => ⟨#[], by rw [upd_ne (at_ne e q exq_tbl), upd_ne (ne_of_none q hnd), q]; simp⟩ }
  refine h dx _ hnd dne (I.un (t' := tk') Un1 fun b o q => ?_)
  by_cases hb : b = a
  · subst hb
    cases upd_same.symm.trans q
    exact exq_ok hx
  · rw [upd_ne hb] at q
    by_cases hd : b = dx
    · subst hd
      cases upd_same.symm.trans q
      exact exd_ok hn (relO_put (fs := []) ry fun g => True.intro)
    · rw [upd_ne hd] at q
      refine (I.hok b o q).stay (fun c v hc z => k c v ?_ z)
        (fun c hc => ((upd_ne (at_ne e hc exq_own)).trans (upd_ne (ne_of_none hc hnd))).trans hc)
        (fun c xs hc => ((upd_ne (at_ne e hc exq_tup)).trans (upd_ne (ne_of_none hc hnd))).trans hc)
      rcases hc with hc | hc
      · exact hc ▸ hb
      · exact at_ne e hc exq_own

/-- ValueError.__init__(e, ..): its args are laid anew, at a place of their own -/
theorem init_args {prog : Program} {w : World} {A : Around} {R : Result → Shared → Prop} {h : Heap}
    {g : Array GenState} {d : Drawn} {t : Nat} {os : OsState} {nm q : Str} {C N : Addr} {bs bm bmB : List Value}
    {hdct : Bool} {sn : List Str} {sub : List Value} {ab : Bool} {col : Option Bool} {dd : Option Addr}
    {k0 k1 k2 k3 k5 : Option Value} {B newId initId : String} (F : ExcBaseFacts B newId initId bmB)
    (hT : ∀ X : String, bm.contains (.type X) = bmB.contains (.type X)) {e t0 : Addr} {rest : List Value}
    (hC : h.get? C = some (excClassObj nm q C N bs bm hdct sn sub ab col dd k0 k1 k2 k3 k5 newId))
    (he : h.get? e = some (exOb C none t0)) (hrest : rest.length ≤ sizeLine)
    (hq : ∀ h' t1, h.objs.size ≤ t1 → (∀ b o, b ≠ e → h.get? b = some o → h'.get? b = some o) →
      h'.get? e = some (exOb C none t1) → h'.get? t1 = some (PySem.W.kdv_tup rest) →
      R (.ok (.ret .none)) ⟨h', g, d, t, os⟩) :
    codeAny (model prog w) A (.call (.builtin initId) ⟨.ref e :: rest, []⟩) R ⟨h, g, d, t, os⟩ := by
  refine codeAny_call_builtin F.init.plain F.initEntry (PySem.HandSPX.check_init_own F hT hC he rfl ?_)
  have hes : e ≠ h.objs.size := Nat.ne_of_lt (Heap.lt_size he)
  wp_walk
  refine hq _ h.objs.size (Nat.le_refl _) (fun b o hb ho => ?_) ?_ ?_
  · exact (Heap.get?_update_other _ _ (Ne.symm hb)).trans (Heap.get?_push_of_some _ ho)
  · exact (Heap.get?_update_self _ (Heap.get?_push_of_some _ he) rfl).trans rfl
  · exact (Heap.get?_update_other _ _ hes).trans (Heap.get?_push_size _ rfl)

theorem eq_init {us : List Value} {ws : List V} {Q : Value → Shared → Prop} (T : OexC X.K C) (I : Inv X pins σ H s)
    (e : H a = some (exq a C none t1)) (hl : us.length ≤ sizeLine) (rw' : Vals ws us)
    (h : ∀ t2 s', H t2 = none → t2 ≠ a → Inv X pins σ (upd (upd H t2 (.tup ws)) a (exq a C none t2)) s' → Q .none s') :
    wpAny (model X.prog X.w) A (call (.builtin "ValueError.__init__") (.ref a :: us)) Q E s := by
  obtain ⟨nm, q, N, bs, bm, sn, sub, ab, col, dd, k0, k1, k2, k3, k5, hC, hbm⟩ := T.cls
  have ho := exq_at I.hok e
  obtain ⟨hp, g, d, t, os⟩ := s
  refine wpAny_call (init_args F.excBase_ValueError (fun Y => PySem.HandSPX.refsVE_contains Y bm hbm)
    (I.kIn _ _ hC) ho hl fun h' t2 hsz k hx ht => ?_)
  have nt : H t2 = none := I.hok.fresh hsz
  have nea : t2 ≠ a := (ne_of_none e nt).symm
  have na : ∀ {b : Addr}, H b = none → b ≠ a := fun {b} n z => by rw [z, e] at n; cases n
  have nd : ∀ {b : Addr} {o : Obj}, hp.get? b = some o → b ≠ t2 :=
    fun {b o} q => Nat.ne_of_lt (Nat.lt_of_lt_of_le (Heap.lt_size q) hsz)
  have Un1 : Un X.fs [] H (upd (upd H t2 (.tup ws)) a (exq a C none t2)) hp h' := {
    keep := fun b o q n _ _ => k b o (na n) q
    slot := fun b o q n _ _ => ⟨o.slots, k b o (na n) q⟩
    free := fun b o q n _ => ((upd_ne (na n)).trans (upd_ne (nd q))).trans n
    there := fun b o q _ => by
      by_cases hb : b = a
      · exact ⟨_, hb ▸ hx⟩
      · exact ⟨o, k b o hb q⟩
    tups := fun b xs q => ((upd_ne (at_ne e q exq_tup)).trans (upd_ne (ne_of_none q nt))).trans q
    frzs := fun b o v q => ((upd_ne (at_ne e q exq_frz)).trans (upd_ne (ne_of_none q nt))).trans q
    tbls := fun b ps q => ⟨#[], by rw [upd_ne (at_ne e q exq_tbl), upd_ne (ne_of_none q nt), q]; simp⟩ }
  refine h t2 _ nt nea (I.un (t' := t) Un1 fun b o q => ?_)
  by_cases hb : b = a
  · subst hb
    cases upd_same.symm.trans q
    exact exq_ok hx
  · rw [upd_ne hb] at q
    by_cases hd : b = t2
    · subst hd
      cases upd_same.symm.trans q
      exact ⟨by rw [Paired.length rw']; exact hl, us, rw', _, ht, rfl, _, rfl⟩
    · rw [upd_ne hd] at q
      refine (I.hok b o q).stay (fun c v hc z => k c v ?_ z)
        (fun c hc => ((upd_ne (at_ne e hc exq_own)).trans (upd_ne (ne_of_none hc nt))).trans hc)
        (fun c xs hc => ((upd_ne (at_ne e hc exq_tup)).trans (upd_ne (ne_of_none hc nt))).trans hc)
      rcases hc with hc | hc
      · exact hc ▸ hb
      · exact at_ne e hc exq_own
end

/-! ### the rules -/
/-- ValueError.__init__(self, ..) -/
def tVeq (K : PySem.W.Frag) (ta : TA) : TE := fun σ H Q => ta σ H fun vs H1 =>
  ∃ (a C t0 : Addr) (ws : List V), vs = .ref a :: ws ∧ ws.length ≤ 1000 ∧ OexC K C ∧ H1 a = some (exq a C none t0) ∧
    ∀ t2, H1 t2 = none → t2 ≠ a → Q .non (upd (upd H1 t2 (.tup ws)) a (exq a C none t2))
/-- self.f = e, the first attribute -/
def tEst (K : PySem.W.Frag) (f : Str) (to te : TE) : TS := fun D σ H => te σ H fun y H1 => to σ H1 fun x H2 =>
  ∃ a C t1 : Addr, x = .ref a ∧ OexC K C ∧ PySem.W.findIn K (.ref C) f = some none ∧ H2 a = some (exq a C none t1) ∧
    ∀ dx, H2 dx = none → dx ≠ a → D.nx σ (upd (upd H2 dx (exd dx [(f, y)])) a (exq a C (some dx) t1))
/-- C(e, ..) as a value -/
def tMkq (C : Addr) (sp : Sp) (dvs : List V) (ta : TA) : TE := fun σ H Q => ta σ H fun vs H1 => vs.length ≤ 1000 ∧
  ∀ t0 a, H1 t0 = none → H1 a = none → t0 ≠ a →
    sp (.ref a :: (vs ++ dvs)) (upd (upd H1 t0 (.tup vs)) a (exq a C none t0))
      (fun v H2 => v = .non ∧ Q (.ref a) H2) (fun _ _ _ => False)

section
variable {X : Cx} {o e : Expr} {es : List Expr} {to te : TE} {ta : TA} {f : Str} {p p' p1 p2 pos : Pos}
theorem pe_veq {pl : Sem Bool} (hg : Gl X "ValueError") (hm : X.mg "ValueError" = none)
    (vV : PySem.W.findCls X.K (.type "ValueError") (.type "type") "__init__" = some (.val (.builtin "ValueError.__init__")))
    (ha : PA X (e :: es) ta)
    (hc : eval (.Call (.Attribute (.Name "ValueError" p1) "__init__" p2) (e :: es) [] pos) X.env = (do
      let ov ← eval (.Name "ValueError" p1) X.env
      standAt p2.atName
      let (f, first) ← holding [ov] (getMethod ov "__init__" pl)
      callWith pos f first (backTo pos (starEach (e :: es) X.env)) (backToKw pos (keywordEach [] X.env))) := by rfl)
    (he : starEach (e :: es) X.env = (false, eval e X.env) :: starEach es X.env := by rfl)
    (hpl : (backTo pos (starEach es X.env)).any (·.1) = false := by rfl) :
    PE X (.Call (.Attribute (.Name "ValueError" p1) "__init__" p2) (e :: es) [] pos) (tVeq X.K ta) := by
  refine ⟨fun pins s σ H Q I h => ?_⟩
  refine PySem.W.methodCall_KW (ld_blt I hg hm PyProof.Rows.Boot.«ValueError» ?_ (by decide) (by decide)) hc
  obtain ⟨m, fr⟩ := I.fr
  refine PySem.W.method_type fr I.ok.mod.kin PySem.OEX.typ_VE (by decide +kernel) vV (by decide +kernel) ?_
  refine PyProof.Rows.callWith_method1 (first := []) (thn (ha.run pos pins _ σ H _ (I.tok _) h)
    fun us s1 ⟨vs, H1, I1, r1, a, C, t0, ws, ev, hl, T, ea, q⟩ => ?_) he hpl
  subst ev
  cases r1 with
  | @cons _ u0 _ ur ra rw' =>
    obtain rfl : u0 = Value.ref a := ra
    have hlen : ur.length ≤ sizeLine := by
      rw [← Paired.length rw', sizeLine_eq]
      omega
    exact eq_init T I1 ea hlen rw' fun t2 s' n1 n2 J => ⟨.non, _, J, rfl, q t2 n1 n2⟩

theorem ps_est (ho : PE X o to) (he : PE X e te)
    (hs : swapsWith e (some (.Attribute o f p')) pos.line X.env = pure false := by rfl) :
    PS X (.Assign [.Attribute o f p'] e pos) (tEst X.K f to te) := by
  refine ⟨fun pins s σ H D I h => ?_⟩
  refine plainObj_wpAny_Assign_Attribute (thn (he.run pins s σ H _ I h) fun v s1 ⟨y, H1, I1, r1, q1⟩ =>
    thn (ho.run pins s1 σ H1 _ I1 q1) fun u s2 ⟨x, H2, I2, r2, a, C, t1, ex, T, hno, ea, q⟩ => ?_) hs
  subst ex
  obtain rfl : u = Value.ref a := r2
  exact eq_new T I2 ea hno r1 fun dx s' n ne J => ⟨σ, _, J, q dx n ne⟩

/-- C.m(e, ..), C an own class, m a def of it: read off the class -/
theorem pe_off {x m : Str} {CX : CXT} {k : Nat} {C g : Addr} {fd : FuncData} {ps : List Str} {sp : Sp} {E : XK}
    {dvs : List V} {ds : List Value} {pl : Sem Bool} (hg : Gl X x) (hm : X.mg x = some (.ref C))
    (sg : PySem.W.specialIn X.K (.ref C) "__getattribute__" = some (some (.builtin "type.__getattribute__")))
    (rd : PySem.W.readsIn X.K C (.type "type") = true)
    (at_ : PySem.W.findCls X.K (.ref C) (.type "type") m = some (.val (.ref g)))
    (kg : PySem.W.keepIn X.K (.ref g) = true)
    (F : FnOk X.prog X.w X.K X.mg X.base CX k g fd ps sp) (hr : Room k X.A) (hb : Binds X.K fd ps ds)
    (hd : Vals dvs ds) (hx : Passes CX X E) (ha : PA X (e :: es) ta)
    (hdb : (x == ("__debug__" : Str)) = false := by decide)
    (hc : eval (.Call (.Attribute (.Name x p1) m p2) (e :: es) [] pos) X.env = (do
      let ov ← eval (.Name x p1) X.env
      standAt p2.atName
      let (f, first) ← holding [ov] (getMethod ov m pl)
      callWith pos f first (backTo pos (starEach (e :: es) X.env)) (backToKw pos (keywordEach [] X.env))) := by rfl)
    (he : starEach (e :: es) X.env = (false, eval e X.env) :: starEach es X.env := by rfl)
    (hpl : (backTo pos (starEach es X.env)).any (·.1) = false := by rfl) :
    PE X (.Call (.Attribute (.Name x p1) m p2) (e :: es) [] pos) (tCall sp dvs E ta) := by
  refine ⟨fun pins s σ H Q I h => ?_⟩
  refine PySem.W.methodCall_KW (ld_glob I hg hm ?_ hdb) hc
  refine PySem.W.method_cls I.kIn sg (PySem.W.cls_value I.kIn rd at_ rfl ?_)
  refine PySem.W.callWith_K (first := []) (h₀ := X.base) I.ok.mod.kin kg
    (thn (ha.run pos pins _ σ H _ (I.tok _) h) fun us s1 ⟨vs, H1, I1, r, q⟩ => ⟨I1.kIn, ?_⟩) he hpl
  exact run_fn F hr hb hd hx I1 r q

theorem pe_mkq {x : Str} {C fI : Addr} {k : Nat} {CX : CXT} {fd : FuncData} {ps : List Str} {sp : Sp}
    {ds : List Value} {dvs : List V} (T : OexC X.K C)
    (iC : PySem.W.findIn X.K (.ref C) "__init__" = some (some (.ref fI)))
    (tI : PySem.W.typeIn X.K (.ref fI) = some (.type "function"))
    (F1 : FnOk X.prog X.w X.K X.mg X.base CX k fI fd ps sp) (hr : Room (k + 1) X.A) (hb : Binds X.K fd ps ds)
    (hd : Vals dvs ds) (hx : Passes CX X (fun _ _ _ => False)) (hg : Gl X x) (hm : X.mg x = some (.ref C))
    (ha : PA X (e :: es) ta) (hdb : (x == ("__debug__" : Str)) = false := by decide)
    (he : starEach (e :: es) X.env = (false, eval e X.env) :: starEach es X.env := by rfl)
    (hpl : (backTo pos (starEach es X.env)).any (·.1) = false := by rfl) :
    PE X (.Call (.Name x p) (e :: es) [] pos) (tMkq C sp dvs ta) := by
  refine ⟨fun pins s σ H Q I h => ?_⟩
  obtain ⟨nm, q, N, bs, bm, sn, sub, ab, col, dd, k0, k1, k2, k3, k5, hC, hbm⟩ := T.cls
  refine wpAny_Call_Name_kw (ld_glob I hg hm ?_ hdb)
  refine PySem.W.callWith_K (h₀ := X.base) I.ok.mod.kin T.kC
    (thn (ha.run pos pins s σ H _ I h) fun us s1 ⟨vs, H1, I1, r1, hz, q1⟩ => ⟨I1.kIn, ?_⟩) he hpl
  show wpAny _ _ (call (.ref C) us) _ _ _
  obtain ⟨hp, g, dr, tk, os⟩ := s1
  have n0 : H1 hp.objs.size = none := I1.hok.fresh (Nat.le_refl _)
  have n1 : H1 (hp.objs.size + 1) = none := I1.hok.fresh (Nat.le_succ _)
  have hne : hp.objs.size ≠ hp.objs.size + 1 := Nat.ne_of_lt (Nat.lt_succ_self _)
  have hq := q1 hp.objs.size (hp.objs.size + 1) n0 n1 hne
  have hus : us.length ≤ sizeLine := by
    rw [← Paired.length r1, sizeLine_eq]
    omega
  have I2 : Inv X pins σ (upd H1 hp.objs.size (.tup vs)) ⟨hp.push (PySem.W.kdv_tup us), g, dr, tk, os⟩ :=
    I1.laid (t' := tk) (a := hp.objs.size) (o := .tup vs) (h' := hp.push (PySem.W.kdv_tup us))
      (fun b o z => Heap.get?_push_of_some _ z) (Nat.le_refl _)
      ⟨by rw [Paired.length r1]; exact hus, us, r1, _, Heap.get?_push_size _ rfl, rfl, _, rfl⟩
  have hget : ((hp.push (PySem.W.kdv_tup us)).push (exOb C none hp.objs.size)).get? (hp.objs.size + 1) =
      some (exOb C none hp.objs.size) := by heap_get
  have hsz2 : (hp.push (PySem.W.kdv_tup us)).objs.size ≤ hp.objs.size + 1 := by
    simp [Heap.push]
  have I3 : Inv X pins σ (upd (upd H1 hp.objs.size (.tup vs)) (hp.objs.size + 1) (exq (hp.objs.size + 1) C none hp.objs.size))
      ⟨(hp.push (PySem.W.kdv_tup us)).push (exOb C none hp.objs.size), g, dr, tk, os⟩ :=
    I2.laid (t' := tk) (a := hp.objs.size + 1) (o := exq (hp.objs.size + 1) C none hp.objs.size)
      (h' := (hp.push (PySem.W.kdv_tup us)).push (exOb C none hp.objs.size))
      (fun b o z => Heap.get?_push_of_some _ z) hsz2 (exq_ok hget)
  have r2 : Vals (V.ref (hp.objs.size + 1) :: (vs ++ dvs)) (Value.ref (hp.objs.size + 1) :: (us ++ ds)) :=
    .cons rfl (r1.append hd)
  have hl : (Value.ref (hp.objs.size + 1) :: us ++ ds).length = ps.length :=
    r2.length.symm.trans (F1.len _ _ _ _ hq)
  refine wpAny_call (PySem.HandSPX.call_own F.excBase_ValueError (fun Y => PySem.HandSPX.refsVE_contains Y bm hbm)
    (I1.kIn _ _ hC) (PySem.W.looks_findIn I1.kIn iC) (fun self => PySem.W.bind_fn I1.kIn self tI) hus
    (codeAny_mono (F1.run _ X.stack _ _ ⟨Value.ref (hp.objs.size + 1) :: us, []⟩
      (Value.ref (hp.objs.size + 1) :: (us ++ ds)) _ _ (fun _ _ _ => False) (hr.make C us []) (I3.env0.make C us [])
      (hb _ (Value.ref (hp.objs.size + 1) :: us) I3.kIn hl) r2 hq) fun r s' hq' => ?_))
  match r, hq' with
  | .error er, hq' => exact hx pins σ _ _ er s' I3 hq'
  | .ok (.ret u), hq' =>
    obtain ⟨v, H', I4, rv, ev, q3⟩ := I3.after hq'
    subst ev
    exact ⟨rv, ⟨V.ref (hp.objs.size + 1), H', I4, rfl, q3⟩⟩
  | .ok .next, hq' => exact False.elim hq'
  | .ok .brk, hq' => exact False.elim hq'
  | .ok .cont, hq' => exact False.elim hq'
end
end Pw

/-! What repr tells of a value: of data that are tracked, with exceptions of one's own among them. -/
namespace Pw
open PySem PySem.Spec PyProof.Rows L2
open Sem (wp)
open Builtin Builtin.Str Builtin.BaseException Builtin.Exceptions

/-- how a class's name stands in what is shown -/
def clsHead (n : Str) : Str := Str.ofString ((n.toString.cutAt '.').getLastD "")
/-- what the class of an exception must say, so that it is shown by its name and its args -/
structure ExR (K : PySem.W.Frag) (C : Addr) (nm : Str) : Prop where
  rep : PySem.W.findIn K (.ref C) "__repr__" = some (some (.builtin "BaseException.__repr__"))
  sub : PySem.W.subIn K (.ref C) (.type "BaseException") = some true
  nam : ∃ cd, PySem.W.clsIn K C = some cd ∧ cd.name = nm

mutual
/-- repr of the value is the text; the first number: how deep it is; the second: no less than the text's length -/
inductive Shw (K : PySem.W.Frag) (H : Hp) : V → Nat → Nat → Str → Prop
  | non : Shw K H .non 0 5 "None"
  | bl (b : Bool) : Shw K H (.bl b) 0 5 (if b then "True" else "False")
  | int (i : Int) (h : i.natAbs.log2 < 1920) : Shw K H (.int i) 0 1921 (toString i)
  | str (x : Str) (m : Nat) (h : (reprText x).length ≤ m) : Shw K H (.str x) 0 m (reprText x)
  | lst {a : Addr} {xs : List V} {d n : Nat} {ts : List Str} (e : H a = some (.lst xs)) (h : ShwL K H xs d n ts) :
      Shw K H (.ref a) (d + 1) (n + 2) (listText ts)
  | tup {a : Addr} {xs : List V} {d n : Nat} {ts : List Str} (e : H a = some (.tup xs)) (h : ShwL K H xs d n ts) :
      Shw K H (.ref a) (d + 1) (n + 3) (tupleText ts)
  | dct {a : Addr} {kvs : List (Key × V)} {d1 d2 n1 n2 : Nat} {ks vs : List Str} (e : H a = some (.dK kvs))
      (h1 : ShwL K H (kvs.map fun p => kV p.1) d1 n1 ks) (h2 : ShwL K H (kvs.map fun p => p.2) d2 n2 vs) :
      Shw K H (.ref a) (max d1 d2 + 1) (n1 + n2 + 2) (dictText (List.zipWith (fun k v : Str => k ++ ": " ++ v) ks vs))
  | exc {a C t : Addr} {d : Option Addr} {x nm : Str} {n1 n2 : Nat} (e : H a = some (exq a C d t))
      (et : H t = some (.tup [.str x])) (c : ExR K C nm) (l1 : (clsHead nm).length ≤ n1) (l2 : (reprText x).length ≤ n2) :
      Shw K H (.ref a) 0 (n1 + n2 + 2) (clsHead nm ++ "(" ++ reprText x ++ ")")
inductive ShwL (K : PySem.W.Frag) (H : Hp) : List V → Nat → Nat → List Str → Prop
  | nil : ShwL K H [] 0 0 []
  | cons {v : V} {vs : List V} {d e n m : Nat} {t : Str} {ts : List Str} (h : Shw K H v d n t) (hs : ShwL K H vs e m ts) :
      ShwL K H (v :: vs) (max d e) (n + 2 + m) (t :: ts)
end

theorem dK_lst {kvs : List (Key × V)} {xs : List V} : HO.dK kvs ≠ HO.lst xs := fun z => nomatch z
theorem dK_exq {kvs : List (Key × V)} {e C t : Addr} {d : Option Addr} : HO.dK kvs ≠ exq e C d t := fun z => by
  have z' : HO.dK kvs = HO.ext _ := z
  cases z'
section
variable {K : PySem.W.Frag} {H : Hp}
mutual
/-- a value is as deep as it is -/
theorem Shw.one : ∀ {v : V} {d n d' n' : Nat} {t t' : Str}, Shw K H v d n t → Shw K H v d' n' t' → d = d'
  | _, _, _, _, _, _, _, .non, .non => rfl
  | _, _, _, _, _, _, _, .bl _, .bl _ => rfl
  | _, _, _, _, _, _, _, .int _ _, .int _ _ => rfl
  | _, _, _, _, _, _, _, .str _ _ _, .str _ _ _ => rfl
  | _, _, _, _, _, _, _, .lst e h, .lst e' h' => by
    cases e.symm.trans e'
    rw [ShwL.one h h']
  | _, _, _, _, _, _, _, .lst e h, .tup e' h' => nomatch e.symm.trans e'
  | _, _, _, _, _, _, _, .lst e h, .dct e' _ _ => nomatch e.symm.trans e'
  | _, _, _, _, _, _, _, .lst e h, .exc e' _ _ _ _ => absurd (Option.some.inj (e.symm.trans e')).symm exq_lst
  | _, _, _, _, _, _, _, .tup e h, .lst e' h' => nomatch e.symm.trans e'
  | _, _, _, _, _, _, _, .tup e h, .tup e' h' => by
    cases e.symm.trans e'
    rw [ShwL.one h h']
  | _, _, _, _, _, _, _, .tup e h, .dct e' _ _ => nomatch e.symm.trans e'
  | _, _, _, _, _, _, _, .tup e h, .exc e' _ _ _ _ => absurd (Option.some.inj (e.symm.trans e')).symm exq_tup
  | _, _, _, _, _, _, _, .dct e _ _, .lst e' h' => nomatch e.symm.trans e'
  | _, _, _, _, _, _, _, .dct e _ _, .tup e' h' => nomatch e.symm.trans e'
  | _, _, _, _, _, _, _, .dct e h1 h2, .dct e' h1' h2' => by
    cases e.symm.trans e'
    rw [ShwL.one h1 h1', ShwL.one h2 h2']
  | _, _, _, _, _, _, _, .dct e _ _, .exc e' _ _ _ _ => absurd (Option.some.inj (e.symm.trans e')) dK_exq
  | _, _, _, _, _, _, _, .exc e _ _ _ _, .lst e' h' => absurd (Option.some.inj (e.symm.trans e')) exq_lst
  | _, _, _, _, _, _, _, .exc e _ _ _ _, .tup e' h' => absurd (Option.some.inj (e.symm.trans e')) exq_tup
  | _, _, _, _, _, _, _, .exc e _ _ _ _, .dct e' _ _ => absurd (Option.some.inj (e.symm.trans e')).symm dK_exq
  | _, _, _, _, _, _, _, .exc e _ _ _ _, .exc e' _ _ _ _ => rfl
theorem ShwL.one : ∀ {vs : List V} {d n d' n' : Nat} {ts ts' : List Str}, ShwL K H vs d n ts → ShwL K H vs d' n' ts' → d = d'
  | _, _, _, _, _, _, _, .nil, .nil => rfl
  | _, _, _, _, _, _, _, .cons h hs, .cons h' hs' => by rw [Shw.one h h', ShwL.one hs hs']
end

/-- the length of a join of texts, each with two signs more -/
theorem join_le (sep : Str) (hsep : sep.length = 2) : ∀ ts : List Str, (Str.join sep ts).length ≤ (ts.map fun t => t.length + 2).sum
  | [] => by
    show (Str.join sep []).length ≤ 0
    exact Nat.le_of_eq rfl
  | [x] => by
    show x.length ≤ _
    simp only [List.map_cons, List.map_nil, List.sum_cons, List.sum_nil]
    omega
  | x :: y :: r => by
    have ih := join_le sep hsep (y :: r)
    show (x ++ sep ++ Str.join sep (y :: r)).length ≤ _
    rw [strLen_append, strLen_append, hsep]
    simp only [List.map_cons, List.sum_cons] at ih ⊢
    omega
theorem textFrom_le : ∀ (ts : List Str) (i : Nat) (b : Str), (textFrom i b ts).length ≤ b.length + (ts.map fun t => t.length + 2).sum := by
  intro ts
  induction ts with
  | nil =>
    intro i b
    exact Nat.le_add_right _ _
  | cons t r ih =>
    intro i b
    have h := ih (i + 1) (b ++ Str.ofString (if 0 < i then ", " else "") ++ t)
    have e : textFrom i b (t :: r) = textFrom (i + 1) (b ++ Str.ofString (if 0 < i then ", " else "") ++ t) r := rfl
    rw [e]
    refine Nat.le_trans h ?_
    rw [strLen_append, strLen_append]
    have h2 : (Str.ofString (if 0 < i then ", " else "")).length ≤ 2 := by
      split <;> decide +kernel
    simp only [List.map_cons, List.sum_cons]
    omega
mutual
theorem Shw.len : ∀ {v : V} {d n : Nat} {t : Str}, Shw K H v d n t → t.length ≤ n
  | _, _, _, _, .non => by decide +kernel
  | _, _, _, _, .bl b => by cases b <;> decide +kernel
  | _, _, _, _, .int i h => int_text_len_1921 h
  | _, _, _, _, .str x m h => h
  | _, _, _, _, .lst (ts := ts) e h => by
    have h1 := ShwL.len h
    have h2 := textFrom_le ts 0 "["
    have e1 : ("[" : Str).length = 1 := rfl
    have e2 : (listText ts).length = (textFrom 0 "[" ts).length + 1 := by
      show (textFrom 0 "[" ts ++ "]").length = _
      rw [strLen_append]; rfl
    omega
  | _, _, _, _, .tup (ts := ts) e h => by
    have h1 := ShwL.len h
    have h2 := join_le ", " rfl ts
    unfold tupleText
    rw [strLen_append, strLen_append]
    have e1 : ("(" : Str).length = 1 := rfl
    have e2 : (Str.ofString (if (ts.length == 1) = true then ",)" else ")")).length ≤ 2 := by split <;> decide +kernel
    omega
  | _, _, _, _, .dct (ks := ks) (vs := vs) e h1 h2 => by
    have q1 := ShwL.len h1
    have q2 := ShwL.len h2
    have q3 := join_le ", " rfl (List.zipWith (fun k v : Str => k ++ ": " ++ v) ks vs)
    have q4 : ∀ (ks vs : List Str), ((List.zipWith (fun k v : Str => k ++ ": " ++ v) ks vs).map fun t => t.length + 2).sum ≤ (ks.map fun t => t.length + 2).sum + (vs.map fun t => t.length + 2).sum := by
      intro ks
      induction ks with
      | nil => intro vs; simp
      | cons k r ih =>
        intro vs
        cases vs with
        | nil => simp
        | cons v r' =>
          have i1 := ih r'
          have i2 : (k ++ (": " : Str) ++ v).length = k.length + 2 + v.length := by
            rw [strLen_append, strLen_append]; rfl
          simp only [List.zipWith_cons_cons, List.map_cons, List.sum_cons] at i1 ⊢
          omega
    have q5 := q4 ks vs
    unfold dictText
    rw [strLen_append, strLen_append]
    have e1 : ("{" : Str).length = 1 := rfl
    have e2 : ("}" : Str).length = 1 := rfl
    omega
  | _, _, _, _, .exc e et c l1 l2 => by
    rw [strLen_append, strLen_append, strLen_append]
    have e1 : ("(" : Str).length = 1 := rfl
    have e2 : (")" : Str).length = 1 := rfl
    omega
theorem ShwL.len : ∀ {vs : List V} {d n : Nat} {ts : List Str}, ShwL K H vs d n ts → (ts.map fun t => t.length + 2).sum ≤ n
  | _, _, _, _, .nil => Nat.le_refl _
  | _, _, _, _, .cons h hs => by
    have h1 := Shw.len h
    have h2 := ShwL.len hs
    simp only [List.map_cons, List.sum_cons]
    omega
end
end

/-! ### an exception of one's own is shown -/
section
variable {prog : Program} {w : World} {h₀ : Heap} {K : PySem.W.Frag} {C : Addr} {nm : Str}
theorem typ_at {M : Model} {h : Heap} {e t : Addr} {d : Option Addr} (he : h.get? e = some (exOb C d t)) :
    PySem.W.Looks M h (typeOf (.ref e)) (.ref C) := by
  intro A' Q' E' s' k q
  unfold typeOf
  exact wpAny_bind (wpAny_loadPart (k _ _ he) (wpAny_pure q))
/-- the displayed class, by name -/
theorem name_of {M : Model} {A : Around} {E : Value → Shared → Prop} {s : Shared} {e t : Addr} {d : Option Addr}
    {cd : ClassData} {Q : String → Shared → Prop} (X : K.In s.heap) (he : s.heap.get? e = some (exOb C d t))
    (hc : PySem.W.clsIn K C = some cd) (hq : Q cd.name.toString s) : wpAny M A (typeNameOfWhole (.ref e)) Q E s := by
  unfold typeNameOfWhole shownTypeOf
  have L0 : PySem.W.Looks M s.heap (typeOf (.ref e)) (.ref C) := typ_at he
  refine wpAny_bind (wpAny_bind (L0.here ?_))
  have e0 : (Value.ref C == Value.type "builtin_function_or_method") = false := rfl
  simp only [e0, Bool.false_eq_true, if_false]
  refine wpAny_pure ?_
  unfold typeNameWhole
  exact wpAny_bind ((PySem.W.looks_clsIn X hc).here (wpAny_pure hq))

theorem exc_body {A : Around} {E : Value → Shared → Prop} {s : Shared} {e t : Addr} {d : Option Addr} {cd : ClassData}
    {x : Str} {tk : Tok} {Q : Fin → Shared → Prop} (b : Nat) (X : K.In s.heap) (he : s.heap.get? e = some (exOb C d t))
    (ht : s.heap.TupAt t [.str x tk]) (hc : PySem.W.clsIn K C = some cd)
    (hq : Q (.done (.ret (.str (clsHead cd.name ++ "(" ++ reprText x ++ ")") (s.toks + 1)))) { s with toks := s.toks + 1 + 1 })
    (hsz : b + (clsHead cd.name ++ "(" ++ reprText x ++ ")").length ≤ sizeLine) :
    wpAny (model prog w) A (Builtin.bexcReprAt b ⟨[.ref e], []⟩) Q E s := by
  have e1 : b + (clsHead cd.name ++ Str.ofString "(" ++ reprText x ++ Str.ofString ")").length ≤ sizeLine := hsz
  have hsz2 : (clsHead cd.name ++ Str.ofString "(" ++ reprText x ++ Str.ofString ")").length ≤ sizeLine := by omega
  have eP : (Str.ofString "(").length = 1 := rfl
  rw [strLen_append, strLen_append, strLen_append, eP] at e1
  have hsz1 : (reprText x).length ≤ sizeLine := by omega
  have hpile : b + ((clsHead cd.name).length + 1) ≤ sizeLine := by omega
  obtain ⟨ot, k, hto, _, htd⟩ := id ht
  have args : ∀ {A' : Around} {E' : Value → Shared → Prop} {Q' : Value × List Value → Shared → Prop},
      Q' (.ref t, [.str x tk]) s → wpAny (model prog w) A' (bexcArgs (.ref e)) Q' E' s := fun {A' E' Q'} q => by
    unfold bexcArgs
    exact wpAny_bind (wpAny_field he rfl rfl (wpAny_bind (wpAny_seqItems hto htd (wpAny_pure q))))
  unfold Builtin.bexcReprAt
  unfold clsHead at hpile hsz2
  repeat (first | with_reducible refine name_of X he hc ?_ | with_reducible refine args ?_ | rw [pyReprUnder_leaf (v := .str x tk) hpile (by intro a; nofun)] | with_reducible refine wpAny_pyRepr_str ?_ | wp_step)
  exact hq

theorem ReprK.exq {e t : Addr} {d : Option Addr} {x : Str} {tk : Tok} (X : K.In h₀) (he : h₀.get? e = some (exOb C d t))
    (ht : h₀.TupAt t [.str x tk]) (R : ExR K C nm) :
    ReprK prog w [] h₀ 0 (.ref e) (clsHead nm ++ "(" ++ reprText x ++ ")") := by
  intro base hb A g E s Q hg hcl hu hk0 hQ
  obtain ⟨cd, hc, rfl⟩ := R.nam
  have X' : K.In s.heap := fun a o z => hk0 a o (X a o z)
  have he' := hk0 _ _ he
  have ht' : s.heap.TupAt t [.str x tk] := let ⟨o, k, h1, h2⟩ := ht; ⟨o, k, hk0 _ _ h1, h2⟩
  have L0 : PySem.W.Looks (model prog w) s.heap (typeOf (.ref e)) (.ref C) := typ_at he'
  have L1 := PySem.W.looks_findIn (M := model prog w) X' R.rep
  have sub : PySem.W.Looks (model prog w) s.heap (isInstance (.ref e) (.type "BaseException")) true :=
    L0.andThen (PySem.W.looks_subIn X' R.sub)
  refine wpAny_pyReprUnder_ref (by omega) ?_
  unfold pyReprObjUnder pyReprObjBy
  refine wpAny_bind (wpAny_cRoomFor (by omega) ?_)
  refine wpAny_bind (wpAny_bind (L0.here (L1.here ?_)))
  have last : wpAny (model prog w) A (call (.builtin "BaseException.__repr__.under") [.ref e, rawInt base])
      (fun v s' => ∃ y u, v = .str y u ∧ Q y s') E s := by
    refine wpAny_call (codeAny_call_builtin F.plain_bexc_repr_under F.entry_bexc_repr_under ?_)
    rw [F.check_bexc_repr_under]
    refine wpAny_pure ?_
    show wpAny _ _ (reprTwin "BaseException.__repr__" Builtin.bexcReprAt ⟨[.ref e, rawInt base], []⟩) _ _ _
    rw [reprTwin_eq]
    refine wpAny_bind (PySem.W.check_slot (i := "BaseException.__repr__") (owner := "BaseException") (n := "__repr__")
      (by decide +kernel) (by decide +kernel) sub (F.args_bexc_repr _) ?_)
    refine exc_body base X' he' ht' hc ?_ hb
    exact ⟨_, _, rfl, hQ s.heap _ fun _ _ z => z⟩
  simp only [Option.isNone_some, Bool.false_eq_true, if_false, callSpecialIfBoundBy?, bindSpecialIfBound?]
  refine wpAny_bind (wpAny_holding (wpAny_bind (wpAny_bind (wpAny_bind (L0.here (L1.here ?_))))))
  have fin : wpAny (model prog w) A (call (.builtin "BaseException.__repr__.under") [.ref e, rawInt base] >>= fun v => pure (some v))
      (fun r s' => wpAny (model prog w) A (match r with
        | some r => do
          if (← isInstance r (.type "str")) = true then pure r else
            raiseError "TypeError" s!"__repr__ returned non-string (type {← typeNameOf r})"
        | none => unsupported "repr:special-get-raises") (fun v s' => ∃ y u, v = .str y u ∧ Q y s') E s') E s :=
    wpAny_bind (wpAny_mono last (fun v s' z => by
      obtain ⟨y, u, rfl, q⟩ := z
      exact wpAny_pure (wpAny_bind (wpAny_isInstance (T := "str") (b := true) rfl isSubtype_str_str (wpAny_pure ⟨y, u, rfl, q⟩))))
      fun _ _ z => z)
  have bd : bindSpecial (.builtin "BaseException.__repr__") (.ref e) = pure (.builtin "BaseException.__repr__", [.ref e]) :=
    F.excStr_ValueError.repr.bind _
  dsimp only
  simp only [bd]
  refine wpAny_bind (wpAny_askSetting (wpAny_ite ?_))
  split
  · exact wpAny_bind (wpAny_pure (wpAny_pure fin))
  · exact wpAny_tryCatch (wpAny_bind (wpAny_pure (wpAny_pure fin)))
end
end Pw

namespace Pw
open PySem PySem.Spec PyProof.Rows L2

/-- places that are shown no deeper than that -/
def AtM (K : PySem.W.Frag) (H : Hp) (n : Nat) (bs : List Addr) : Prop :=
  ∀ b ∈ bs, ∃ d m t, Shw K H (.ref b) d m t ∧ d ≤ n
theorem AtM.mono {K : PySem.W.Frag} {H : Hp} {n m : Nat} {bs : List Addr} (h : AtM K H n bs) (l : n ≤ m) : AtM K H m bs :=
  fun b hb => let ⟨d, k, t, s, z⟩ := h b hb; ⟨d, k, t, s, Nat.le_trans z l⟩
theorem AtM.app {K : PySem.W.Frag} {H : Hp} {n : Nat} {as bs : List Addr} (h : AtM K H n as) (g : AtM K H n bs) :
    AtM K H n (as ++ bs) := fun b hb => (List.mem_append.mp hb).elim (h b) (g b)
theorem AtM.out {K : PySem.W.Frag} {H : Hp} {n d m : Nat} {a : Addr} {t : Str} {bs : List Addr} (h : AtM K H n bs)
    (s : Shw K H (.ref a) d m t) (l : n < d) : a ∉ bs := fun hm => by
  obtain ⟨d', m', t', s', z⟩ := h a hm
  have e := Shw.one s s'
  omega
theorem AtM.con {K : PySem.W.Frag} {H : Hp} {n d m : Nat} {a : Addr} {t : Str} {bs : List Addr} (h : AtM K H n bs)
    (s : Shw K H (.ref a) d m t) (l : n ≤ d) : AtM K H d (a :: bs) := fun b hb => by
  rcases List.mem_cons.mp hb with e | hb
  · subst e
    exact ⟨d, m, t, s, Nat.le_refl _⟩
  · exact (h.mono l) b hb

theorem pairs_keys {P : Program} {w : World} : ∀ {kvs : List (Key × V)} {vs : List (Key × Value)} {es : List DictEntry},
    KV kvs vs → PySem.Pairs (mixKind P w) es vs →
    Vals (kvs.map fun p => kV p.1) (es.map (·.key)) ∧ Vals (kvs.map fun p => p.2) (es.map (·.val))
  | _, _, _, .nil, .nil => ⟨.nil, .nil⟩
  | _, _, _, .cons (a := p) (b := q) h hs, .cons (e := e) hk hv ps => by
    obtain ⟨h1, h2⟩ := pairs_keys hs ps
    refine ⟨.cons ?_ h1, .cons ?_ h2⟩
    · have hk' : keyIs q.1 e.key = true := hk
      show RelV (kV p.1) e.key
      rw [h.1]
      rcases keyIs_shape hk' with ⟨i, t, e1, e2⟩ | ⟨x, t, e1, e2⟩
      · rw [e1, e2]; exact ⟨t, rfl⟩
      · rw [e1, e2]; exact ⟨t, rfl⟩
    · show RelV p.2 e.val
      rw [hv]; exact h.2

section
variable {P : Program} {w : World} {K : PySem.W.Frag} {H : Hp} {h : Heap}
mutual
theorem Shw.run (hok : HOk P w H h) (X : K.In h) : ∀ {v : V} {d n : Nat} {t : Str}, Shw K H v d n t → n ≤ sizeLine →
    ∀ u, RelV v u → ∃ bs, AtM K H d bs ∧ ReprK P w bs h d u t
  | _, _, _, _, .non, _, u, r => by
    obtain rfl : u = Value.none := r
    exact ⟨[], (fun _ z => nomatch z), .of_is ReprIs.none _ _ _⟩
  | _, _, _, _, .bl b, _, u, r => by
    obtain rfl : u = Value.bool b := r
    exact ⟨[], (fun _ z => nomatch z), .of_is (ReprIs.bool b) _ _ _⟩
  | _, _, _, _, .int i hi, _, u, r => by
    obtain ⟨t, rfl⟩ := (show ∃ t, u = Value.int i t from r)
    exact ⟨[], (fun _ z => nomatch z), .of_is (ReprIs.int t hi) _ _ _⟩
  | _, _, _, _, .str x m hm, hl, u, r => by
    obtain ⟨t, rfl⟩ := (show ∃ t, u = Value.str x t from r)
    exact ⟨[], (fun _ z => nomatch z), .of_is (ReprIs.str x t (Nat.le_trans hm hl)) _ _ _⟩
  | _, _, _, _, .lst (a := a) (xs := xs) (d := d) (ts := ts) e hs, hl, u, r => by
    obtain rfl : u = Value.ref a := r
    obtain ⟨_, its, k, rv, h1⟩ := (show ObjOk P w H h a (.lst xs) from hok a _ e)
    obtain ⟨bs, hb, hk⟩ := ShwL.run hok X hs (by omega) its rv
    have sh := Shw.lst e hs
    have hna := hb.out sh (Nat.lt_succ_self _)
    refine ⟨a :: bs, hb.con sh (Nat.le_succ _), ?_⟩
    cases its with
    | nil =>
      cases hk
      rw [listText_nil]
      exact ReprK.listEmpty h1 rfl rfl
    | cons y l => exact ReprK.list h1 rfl rfl hna (by simpa using hk.length_eq) (fun i z q => hk.item i z (by simpa using q))
  | _, _, _, _, .tup (a := a) (xs := xs) (d := d) (ts := ts) e hs, hl, u, r => by
    obtain rfl : u = Value.ref a := r
    obtain ⟨_, its, rv, o, h1, h2, k, h3⟩ := (show ObjOk P w H h a (.tup xs) from hok a _ e)
    obtain ⟨bs, hb, hk⟩ := ShwL.run hok X hs (by omega) its rv
    have sh := Shw.tup e hs
    exact ⟨a :: bs, hb.con sh (Nat.le_succ _), ReprK.tuple h1 h2 h3 (hb.out sh (Nat.lt_succ_self _)) (by simpa using hk)⟩
  | _, _, _, _, .dct (a := a) (kvs := kvs) (ks := ks) (vs := vs) e hs1 hs2, hl, u, r => by
    obtain rfl : u = Value.ref a := r
    obtain ⟨_, hsys, us, hkv, o, es, ep, h1, h2, h3, _, h4, _⟩ := (show ObjOk P w H h a (.dK kvs) from hok a _ e)
    obtain ⟨r1, r2⟩ := pairs_keys hkv h4
    obtain ⟨b1, hb1, k1⟩ := ShwL.run hok X hs1 (by omega) _ r1
    obtain ⟨b2, hb2, k2⟩ := ShwL.run hok X hs2 (by omega) _ r2
    have sh := Shw.dct e hs1 hs2
    have hb := (hb1.mono (Nat.le_max_left _ _)).app (hb2.mono (Nat.le_max_right _ _))
    exact ⟨a :: (b1 ++ b2), hb.con sh (Nat.le_succ _), ReprK.dict h1 h2.1 h3 hsys (hb.out sh (Nat.lt_succ_self _))
      (ReprEntriesK.of_two es.toList _ _ (k1.more_le (fun b z => List.mem_append_left _ z) (Nat.le_max_left _ _))
        (k2.more_le (fun b z => List.mem_append_right _ z) (Nat.le_max_right _ _)))⟩
  | _, _, _, _, .exc (a := a) (C := C) (t := t) e et c l1 l2, hl, u, r => by
    obtain rfl : u = Value.ref a := r
    obtain ⟨_, its, rv, o, h1, h2, k, h3⟩ := (show ObjOk P w H h t (.tup _) from hok t _ et)
    cases rv with
    | cons rx rr =>
      cases rr
      obtain ⟨tk, rfl⟩ := (show ∃ tk, _ = Value.str _ tk from rx)
      exact ⟨[], (fun _ z => nomatch z), ReprK.exq X (exq_at hok e) ⟨o, k, h1, h2, h3⟩ c⟩
theorem ShwL.run (hok : HOk P w H h) (X : K.In h) : ∀ {vs : List V} {d n : Nat} {ts : List Str}, ShwL K H vs d n ts → n ≤ sizeLine →
    ∀ us, Vals vs us → ∃ bs, AtM K H d bs ∧ ReprAllK P w bs h d us ts
  | _, _, _, _, .nil, _, us, r => by
    cases r
    exact ⟨[], (fun _ z => nomatch z), .nil⟩
  | _, _, _, _, .cons s ss, hl, us, r => by
    cases r with
    | cons rx rr =>
      obtain ⟨b1, hb1, k1⟩ := Shw.run hok X s (by omega) _ rx
      obtain ⟨b2, hb2, k2⟩ := ShwL.run hok X ss (by omega) _ rr
      refine ⟨b1 ++ b2, (hb1.mono (Nat.le_max_left _ _)).app (hb2.mono (Nat.le_max_right _ _)), .cons ?_ ?_⟩
      · exact (k1.more fun b z => List.mem_append_left _ z).level_le (Nat.le_max_left _ _)
      · exact k2.more_le (fun b z => List.mem_append_right _ z) (Nat.le_max_right _ _)
end
end

/-- repr(x): its text -/
def rRepr (K : PySem.W.Frag) : List V → Hp → VK → Prop := fun xs H Q => ∃ (x : V) (d n : Nat) (t : Str),
  xs = [x] ∧ Shw K H x d n t ∧ (∀ a, x = .ref a → 0 < d) ∧ n ≤ sizeLine ∧ d ≤ 60 ∧ Q (.str t) H
theorem call_repr {X : Cx} (gd : X.A.guards = some []) (hu : X.A.units + 64 < cLine) : CallR X (.builtin "repr") (rRepr X.K) := by
  intro pins s σ H xs us Q I r h
  obtain ⟨x, d, n, t, rfl, sh, hpos, hl, hd, q⟩ := h
  have hlen := Shw.len sh
  cases r with
  | cons rx rr =>
    cases rr
    rename_i u
    have hback : ∀ h' uu tk, (∀ b o, s.heap.get? b = some o → h'.get? b = some o) →
        EP X pins σ Q (.str t uu) { s with heap := h', toks := tk } := fun h' uu tk k =>
      ⟨.str t, H, I.kept k, ⟨uu, rfl⟩, q⟩
    cases sh with
    | non =>
      obtain rfl : u = Value.none := rx
      exact PySem.P.repr_of_none (hback s.heap _ _ fun _ _ z => z)
    | bl b =>
      obtain rfl : u = Value.bool b := rx
      exact PySem.P.repr_of_bool (hback s.heap _ _ fun _ _ z => z)
    | int i hi =>
      obtain ⟨tk, rfl⟩ := (show ∃ tk, u = Value.int i tk from rx)
      exact PySem.P.repr_of_int hi (hback s.heap _ _ fun _ _ z => z)
    | str z m hm =>
      obtain ⟨tk, rfl⟩ := (show ∃ tk, u = Value.str z tk from rx)
      exact PySem.P.repr_of_str (hback s.heap _ _ fun _ _ z => z) (Nat.le_trans hm hl)
    | @lst a ys d0 n0 ts e hs =>
      obtain rfl : u = Value.ref a := rx
      obtain ⟨_, its, k, rv, h1⟩ := (show ObjOk X.prog X.w H s.heap a (.lst ys) from I.hok a _ e)
      obtain ⟨bs, hb, hk⟩ := ShwL.run I.hok I.kIn hs (by omega) its rv
      have hna := hb.out (Shw.lst e hs) (Nat.lt_succ_self _)
      refine call_repr_slot (by omega) ⟨_, h1, rfl⟩ F.slot_list_repr.toG ?_
      cases its with
      | nil =>
        cases hk
        rw [listText_nil] at hback
        exact call_list_repr_empty ⟨_, h1, rfl⟩ h1 rfl ⟨_, _, rfl, hback s.heap _ _ fun _ _ z => z⟩
      | cons y l =>
        exact call_list_reprK h1 rfl rfl hna (by simpa using hk.length_eq) (fun i z q => hk.item i z (by simpa using q))
          (g := []) gd (fun b _ => Clear.nil b) (by show X.A.units + 1 + _ < _; omega) (fun _ _ z => z)
          (fun h' uu tk k => ⟨_, _, rfl, hback h' uu tk k⟩) (Nat.le_trans hlen hl)
    | @tup a ys d0 n0 ts e hs =>
      obtain rfl : u = Value.ref a := rx
      obtain ⟨_, its, rv, o, h1, h2, k, h3⟩ := (show ObjOk X.prog X.w H s.heap a (.tup ys) from I.hok a _ e)
      obtain ⟨bs, hb, hk⟩ := ShwL.run I.hok I.kIn hs (by omega) its rv
      have hna := hb.out (Shw.tup e hs) (Nat.lt_succ_self _)
      refine call_repr_slot (by omega) ⟨_, h1, h2⟩ F.slot_tuple_repr ?_
      exact call_tuple_reprK h1 h2 h3 hna (by simpa using hk)
        (g := []) gd (fun b _ => Clear.nil b) (by show X.A.units + 1 + _ < _; omega) (fun _ _ z => z)
        (fun h' uu tk k => ⟨_, _, rfl, hback h' uu tk k⟩) (Nat.le_trans hlen hl)
    | @dct a kvs d1 d2 n1 n2 ks vs e hs1 hs2 =>
      obtain rfl : u = Value.ref a := rx
      obtain ⟨_, hsys, us, hkv, o, es, ep, h1, h2, h3, _, h4, _⟩ := (show ObjOk X.prog X.w H s.heap a (.dK kvs) from I.hok a _ e)
      obtain ⟨r1, r2⟩ := pairs_keys hkv h4
      obtain ⟨b1, hb1, k1⟩ := ShwL.run I.hok I.kIn hs1 (by omega) _ r1
      obtain ⟨b2, hb2, k2⟩ := ShwL.run I.hok I.kIn hs2 (by omega) _ r2
      have hb := (hb1.mono (Nat.le_max_left d1 d2)).app (hb2.mono (Nat.le_max_right d1 d2))
      have hna := hb.out (Shw.dct e hs1 hs2) (Nat.lt_succ_self _)
      refine call_repr_slot (by omega) ⟨_, h1, h2.1⟩ F.slot_dict_repr ?_
      exact call_dict_reprK h1 h2.1 h3 hsys hna
        (ReprEntriesK.of_two es.toList _ _ (k1.more_le (fun b z => List.mem_append_left _ z) (Nat.le_max_left _ _))
          (k2.more_le (fun b z => List.mem_append_right _ z) (Nat.le_max_right _ _)))
        (g := []) gd (fun b _ => Clear.nil b) (by show X.A.units + 1 + _ < _; omega) (fun _ _ z => z)
        (fun h' uu tk k => ⟨_, _, rfl, hback h' uu tk k⟩) (Nat.le_trans hlen hl)
    | exc e et c l1 l2 => exact absurd (hpos _ rfl) (Nat.lt_irrefl 0)

/-! ### what is shown stays while what is tracked stays -/
section
variable {K : PySem.W.Frag} {H H' : Hp}
mutual
theorem Shw.same (S : Same H H') : ∀ {v : V} {d n : Nat} {t : Str}, Shw K H v d n t → Shw K H' v d n t
  | _, _, _, _, .non => .non
  | _, _, _, _, .bl b => .bl b
  | _, _, _, _, .int i h => .int i h
  | _, _, _, _, .str x m h => .str x m h
  | _, _, _, _, .lst e h => .lst (S _ _ e) (ShwL.same S h)
  | _, _, _, _, .tup e h => .tup (S _ _ e) (ShwL.same S h)
  | _, _, _, _, .dct e h1 h2 => .dct (S _ _ e) (ShwL.same S h1) (ShwL.same S h2)
  | _, _, _, _, .exc e et c l1 l2 => .exc (S _ _ e) (S _ _ et) c l1 l2
theorem ShwL.same (S : Same H H') : ∀ {vs : List V} {d n : Nat} {ts : List Str}, ShwL K H vs d n ts → ShwL K H' vs d n ts
  | _, _, _, _, .nil => .nil
  | _, _, _, _, .cons h hs => .cons (Shw.same S h) (ShwL.same S hs)
end
end
end Pw

namespace PySem.W
open PySem PySem.Calls PyProof.Rows Builtin Builtin.ObjectAttr Builtin.Getset_descriptor
section
variable {prog : Program} {w : World} {A : Around} {E : Value → Shared → Prop} {s : Shared} {K : Frag} {D x : Addr}
  {ox oD : Obj}
/-- e.__class__, e an exception of one's own that has its dict -/
theorem pw_class {Q : Option Value → Shared → Prop}
    (hga : findIn K (.ref D) "__getattribute__" = some (some (.builtin "BaseException.__getattribute__")))
    (hgt : findIn K (.ref D) "__getattr__" = some none)
    (hsub : subIn K (.ref D) (.type "BaseException") = some true)
    (hf : findObj K D (some oD) "__class__" =
      some (.bind (.builtin "getset_descriptor.__get__") (.builtin "object.__class__")))
    (hm : mroIn K D (.type "object") = some true) (X : K.In s.heap) (I : InstAt s.heap x ox D (some oD))
    (h : Q (some (.ref D)) { s with toks := s.toks + 1 }) :
    wpAny (model prog w) A (getAttr? (.ref x) "__class__") Q E s := by
  obtain ⟨hp, g, d, t, os⟩ := s
  have T0 := I.type (M := model prog w)
  have T1 := looks_findIn (M := model prog w) X hga
  have T2 := looks_findIn (M := model prog w) X hgt
  have T3 := looks_find (M := model prog w) X I hf
  have isE : Looks (model prog w) hp (isInstance (.ref x) (.type "BaseException")) true :=
    T0.andThen (looks_subIn X hsub)
  have z0 : (false && onTheHeap (Value.builtin "BaseException.__getattribute__")) = false := rfl
  have z2 : (Value.builtin "BaseException.__getattribute__" ==
    Value.builtin "object.__getattribute__") = false := by decide +kernel
  have z1 : (onTheHeap (Value.ref D) && Value.builtin "BaseException.__getattribute__" ==
    Value.builtin "object.__getattribute__") = false := by rw [z2]; rfl
  unfold getAttr? getAttrBy? getAttrBy
  refine wpAny_bind (wpAny_mkText (wpAny_bind (wpAny_attempt (wpAny_holding (wpAny_bind
    (T0.at (wpAny_bind (T1.at ?_))))))))
  show wpAny _ _ (if (onTheHeap (Value.ref D) && Value.builtin "BaseException.__getattribute__" ==
    Value.builtin "object.__getattribute__") = true then _ else _) _ _ _
  rw [z1, if_neg Bool.false_ne_true]
  unfold getAttrByItsOwn hookBefore
  refine wpAny_bind ?_
  rw [if_pos (show onTheHeap (Value.ref D) = true from rfl)]
  refine T2.at (wpAny_bind (wpAny_attempt (wpAny_holding ?_)))
  unfold callGetattribute
  rw [z0, if_neg Bool.false_ne_true]
  unfold boundAndCalled
  rw [PySem.F.excAttr_ValueError.ga.bind (.ref x)]
  refine wpAny_bind (wpAny_pure ?_)
  show wpAny _ _ (call (.builtin "BaseException.__getattribute__")
    [.ref x, .str "__class__" t]) _ _ _
  refine wpAny_call (codeAny_call_builtin PySem.F.excAttr_ValueError.ga.plain
    PySem.F.entry_bexc_ga ?_)
  refine @check_slot (model prog w) _ _ ⟨hp, g, d, t + 1, os⟩ "BaseException.__getattribute__"
    "BaseException" "__getattribute__" (.ref x) [.str "__class__" t] [] _ (by decide +kernel)
    (by decide +kernel) isE (PySem.F.args_bexc_ga (.ref x) (.str "__class__" t)) ?_
  unfold Builtin.«object.__getattribute__»
  refine wpAny_bind (wpAny_of_eq (a := ((Value.ref x : Value), [Value.str "__class__" t]))
    (by first | rfl | (simp only [slotArgs]; rfl)) ?_)
  refine wpAny_bind (wpAny_pure (wpAny_bind (T0.at (wpAny_bind (T3.at ?_)))))
  show wpAny _ _ (holding [Value.builtin "object.__class__"] (call (.builtin "getset_descriptor.__get__")
    [.builtin "object.__class__", .ref x, .ref D]) >>= ret) _ _ _
  refine wpAny_bind (wpAny_holding (wpAny_call (class_get (s := ⟨hp, g, d, t + 1, os⟩)
    (ox := ox) (od := some oD) X I hm ?_)))
  refine wpAny_pure ?_
  show wpAny _ _ (handedOut (.ref D)) _ _ _
  rw [handedOut_of (v := .ref D) rfl]
  first
    | exact wpAny_pure (wpAny_pure h)
    | exact wpAny_pure h
    | exact wpAny_pure (wpAny_bind (wpAny_pure (wpAny_pure h)))
end
end PySem.W

namespace Pw
open PySem PySem.Spec PyProof.Rows L2

theorem cls_of_dict {K : PySem.W.Frag} {D : Addr} (hd : PySem.W.hasDictIn K D = true) :
    (PySem.W.clsIn K D).isSome = true := by
  cases e : PySem.W.clsIn K D with
  | some _ => rfl
  | none =>
    unfold PySem.W.hasDictIn at hd
    rw [e] at hd
    cases hd

theorem kit_exq {K : PySem.W.Frag} {x D t dx : Addr} {oD : Obj} (C : ExcC K D) :
    PySem.W.KitX K (.ref x) (.ref D) (fun h => PySem.W.InstAt h x (exOb D (some dx) t) D (some oD)) where
  ty := fun _ _ _ I => I.type
  it := fun M h X _ => by
    obtain ⟨cd, hc⟩ := Option.isSome_iff_exists.mp (cls_of_dict C.hd)
    unfold PySem.W.clsIn at hc
    split at hc
    · rename_i ho
      intro A' Q' E' s' k q
      unfold isType loadHead
      exact wpAny_bind (wpAny_loadPart (k _ _ (X _ _ ho)) (wpAny_pure q))
    · cases hc
  ne := fun h tp dd its n sl X htp => by
    obtain ⟨cd, hc⟩ := Option.isSome_iff_exists.mp (cls_of_dict C.hd)
    refine Bool.eq_false_iff.mpr fun q => ?_
    obtain rfl : D = tp := Value.ref.inj (beq_iff_eq.mp q)
    unfold PySem.W.clsIn at hc
    split at hc
    · rename_i ho
      cases (X _ _ ho).symm.trans htp
    · cases hc
  ca := fun X I k => PySem.W.pw_class C.hg C.hk C.hs
    (PySem.W.findObj_data (cls_of_dict C.hd) C.ha C.hn C.ht) C.hm X I k

/-- a value's type, exceptions of one's own too -/
inductive TyQ (K : PySem.W.Frag) (H : Hp) : V → Value → Prop where
  | base {x : V} {t : Value} (h : TyX K H x t) : TyQ K H x t
  | exc {a D t dx : Addr} {fs : List (Str × V)} (e : H a = some (exq a D (some dx) t)) (ed : H dx = some (exd dx fs))
      (c : ExcC K D) : TyQ K H (.ref a) (.ref D)

/-- isinstance(x, c): one class -/
def rIsA (K : PySem.W.Frag) : List V → Hp → VK → Prop := fun xs H Q => ∃ (x c : V) (t u : Value) (b : Bool),
  xs = [x, c] ∧ ClsV c u ∧ TyQ K H x t ∧ PySem.W.kitOne K t u = some b ∧ Q (.bl b) H
theorem call_isa {X : Cx} : CallR X (.builtin "isinstance") (rIsA X.K) := by
  intro pins s σ H xs us Q I r h
  obtain ⟨x, c, t, u, b, rfl, k, ty, e, q⟩ := h
  cases ty with
  | base ty => exact call_isi pins s σ H _ us Q I r ⟨x, c, t, u, b, rfl, k, ty, e, q⟩
  | exc ex ed C =>
    obtain ⟨u1, u2, rfl, r1, r2⟩ := vals2 r
    obtain rfl := k.eq r2
    obtain rfl : u1 = Value.ref _ := r1
    have ha := exq_at I.hok ex
    obtain ⟨mA, ⟨oD, es, ep, hd, hr⟩, _⟩ := exd_at I.hok ed
    refine PySem.W.kia_one (kit_exq (oD := oD) C) I.kIn ⟨ha, rfl, rfl, hd⟩ e (fun z => nomatch z)
      fun tk => ⟨.bl b, H, I.tok tk, rfl, q⟩
end Pw

/-! Kinds of things, and short words for defs. -/
namespace Pw
open PySem PySem.Spec PyProof.Rows L2

/-! ### the kinds of things -/
/-- what an exception's class must say, so that it is told from the built-in kinds -/
structure ExT (K : PySem.W.Frag) (D : Addr) : Prop where
  c : ExcC K D
  int : PySem.W.kitOne K (.ref D) (.type "int") = some false
  bool : PySem.W.kitOne K (.ref D) (.type "bool") = some false
  str : PySem.W.kitOne K (.ref D) (.type "str") = some false
  tuple : PySem.W.kitOne K (.ref D) (.type "tuple") = some false
/-- a thing and its type -/
inductive Ty (K : PySem.W.Frag) (H : Hp) : V → Value → Prop where
  | non : Ty K H .non (.type "NoneType")
  | bl (b : Bool) : Ty K H (.bl b) (.type "bool")
  | int (i : Int) : Ty K H (.int i) (.type "int")
  | str (s : Str) : Ty K H (.str s) (.type "str")
  | lst {a : Addr} {xs : List V} (e : H a = some (.lst xs)) : Ty K H (.ref a) (.type "list")
  | tup {a : Addr} {xs : List V} (e : H a = some (.tup xs)) : Ty K H (.ref a) (.type "tuple")
  | dct {a : Addr} {kvs : List (Key × V)} (e : H a = some (.dK kvs)) : Ty K H (.ref a) (.type "dict")
  | exc {a D t dx : Addr} {fs : List (Str × V)} (e : H a = some (exq a D (some dx) t)) (ed : H dx = some (exd dx fs))
      (c : ExT K D) : Ty K H (.ref a) (.ref D)
theorem Ty.q {K : PySem.W.Frag} {H : Hp} {x : V} {t : Value} (h : Ty K H x t) : TyQ K H x t := by
  cases h with
  | non => exact .base (.base .non)
  | bl b => exact .base (.base (.bl b))
  | int i => exact .base (.base (.int i))
  | str s => exact .base (.base (.str s))
  | lst e => exact .base (.base (.lst e))
  | tup e => exact .base (.base (.tup e))
  | dct e => exact .base (.base (.dK e))
  | exc e ed c => exact .exc e ed c.c
theorem Ty.same {K : PySem.W.Frag} {H H' : Hp} {x : V} {t : Value} (S : Same H H') (h : Ty K H x t) : Ty K H' x t := by
  cases h with
  | non => exact .non
  | bl b => exact .bl b
  | int i => exact .int i
  | str s => exact .str s
  | lst e => exact .lst (S _ _ e)
  | tup e => exact .tup (S _ _ e)
  | dct e => exact .dct (S _ _ e)
  | exc e ed c => exact .exc (S _ _ e) (S _ _ ed) c
def numB : V → Bool
  | .int _ => true
  | _ => false
def blB : V → Bool
  | .bl _ => true
  | _ => false
def strB : V → Bool
  | .str _ => true
  | _ => false
def tupB (H : Hp) : V → Bool
  | .ref a => match H a with
    | some (.tup _) => true
    | _ => false
  | _ => false
theorem Ty.isInt {K : PySem.W.Frag} {H : Hp} {x : V} {t : Value} (h : Ty K H x t) :
    PySem.W.kitOne K t (.type "int") = some (numB x || blB x) := by
  cases h with
  | non  => exact (kit_ty (a := "NoneType") (b := "int") (r := false) (by decide +kernel) : _ = some false)
  | bl b => exact (kit_ty (a := "bool") (b := "int") (r := true) (by decide +kernel) : _ = some true)
  | int i => exact (kit_ty (a := "int") (b := "int") (r := true) (by decide +kernel) : _ = some true)
  | str s => exact (kit_ty (a := "str") (b := "int") (r := false) (by decide +kernel) : _ = some false)
  | lst e => exact (kit_ty (a := "list") (b := "int") (r := false) (by decide +kernel) : _ = some false)
  | tup e => exact (kit_ty (a := "tuple") (b := "int") (r := false) (by decide +kernel) : _ = some false)
  | dct e => exact (kit_ty (a := "dict") (b := "int") (r := false) (by decide +kernel) : _ = some false)
  | exc e ed c => exact c.int
theorem Ty.isBool {K : PySem.W.Frag} {H : Hp} {x : V} {t : Value} (h : Ty K H x t) :
    PySem.W.kitOne K t (.type "bool") = some (blB x) := by
  cases h with
  | non  => exact (kit_ty (a := "NoneType") (b := "bool") (r := false) (by decide +kernel) : _ = some false)
  | bl b => exact (kit_ty (a := "bool") (b := "bool") (r := true) (by decide +kernel) : _ = some true)
  | int i => exact (kit_ty (a := "int") (b := "bool") (r := false) (by decide +kernel) : _ = some false)
  | str s => exact (kit_ty (a := "str") (b := "bool") (r := false) (by decide +kernel) : _ = some false)
  | lst e => exact (kit_ty (a := "list") (b := "bool") (r := false) (by decide +kernel) : _ = some false)
  | tup e => exact (kit_ty (a := "tuple") (b := "bool") (r := false) (by decide +kernel) : _ = some false)
  | dct e => exact (kit_ty (a := "dict") (b := "bool") (r := false) (by decide +kernel) : _ = some false)
  | exc e ed c => exact c.bool
theorem Ty.isStr {K : PySem.W.Frag} {H : Hp} {x : V} {t : Value} (h : Ty K H x t) :
    PySem.W.kitOne K t (.type "str") = some (strB x) := by
  cases h with
  | non  => exact (kit_ty (a := "NoneType") (b := "str") (r := false) (by decide +kernel) : _ = some false)
  | bl b => exact (kit_ty (a := "bool") (b := "str") (r := false) (by decide +kernel) : _ = some false)
  | int i => exact (kit_ty (a := "int") (b := "str") (r := false) (by decide +kernel) : _ = some false)
  | str s => exact (kit_ty (a := "str") (b := "str") (r := true) (by decide +kernel) : _ = some true)
  | lst e => exact (kit_ty (a := "list") (b := "str") (r := false) (by decide +kernel) : _ = some false)
  | tup e => exact (kit_ty (a := "tuple") (b := "str") (r := false) (by decide +kernel) : _ = some false)
  | dct e => exact (kit_ty (a := "dict") (b := "str") (r := false) (by decide +kernel) : _ = some false)
  | exc e ed c => exact c.str
theorem Ty.isTuple {K : PySem.W.Frag} {H : Hp} {x : V} {t : Value} (h : Ty K H x t) :
    PySem.W.kitOne K t (.type "tuple") = some (tupB H x) := by
  cases h with
  | non  => exact (kit_ty (a := "NoneType") (b := "tuple") (r := false) (by decide +kernel) : _ = some false)
  | bl b => exact (kit_ty (a := "bool") (b := "tuple") (r := false) (by decide +kernel) : _ = some false)
  | int i => exact (kit_ty (a := "int") (b := "tuple") (r := false) (by decide +kernel) : _ = some false)
  | str s => exact (kit_ty (a := "str") (b := "tuple") (r := false) (by decide +kernel) : _ = some false)
  | @lst ad xs e =>
    have z : tupB H (.ref ad) = false := by simp only [tupB, e]
    rw [z]
    exact kit_ty (a := "list") (b := "tuple") (r := false) (by decide +kernel)
  | @tup ad xs e =>
    have z : tupB H (.ref ad) = true := by simp only [tupB, e]
    rw [z]
    exact kit_ty (a := "tuple") (b := "tuple") (r := true) (by decide +kernel)
  | @dct ad xs e =>
    have z : tupB H (.ref ad) = false := by simp only [tupB, e]
    rw [z]
    exact kit_ty (a := "dict") (b := "tuple") (r := false) (by decide +kernel)
  | @exc ad D t dx fs e ed c =>
    have z : tupB H (.ref ad) = false := by simp only [tupB, e]; rfl
    rw [z]
    exact c.tuple

/-! ### defs by name -/
section
variable (P : Program) (w : World) (K : PySem.W.Frag) (mg : Str → Option Value) (base : Heap)
/-- the def st of the text stands under its name x -/
structure At (x : Str) (st : Stmt) : Prop where
  ex : ∃ f fd, Fun K x x st f fd ∧ mg x = some (.ref f)
/-- under its name x a def stands that keeps the promise sp -/
structure Def (x : Str) (k : Nat) (ps : List Str) (sp : Sp) : Prop where
  ex : ∃ f fd, mg x = some (.ref f) ∧ PySem.W.keepIn K (.ref f) = true ∧ Binds K fd ps [] ∧
    FnOk P w K mg base CX0 k f fd ps sp
structure DefG (x : Str) (k : Nat) (ps : List Str) (sp : Sp) : Prop where
  ex : ∃ f fd, mg x = some (.ref f) ∧ PySem.W.keepIn K (.ref f) = true ∧ Binds K fd ps [] ∧
    FnG P w K mg base CX0 k f fd ps sp
end
section
variable {P : Program} {w : World} {K : PySem.W.Frag} {mg : Str → Option Value} {base : Heap}
theorem Def.mono {x : Str} {k j : Nat} {ps : List Str} {sp : Sp} (d : Def P w K mg base x k ps sp) (h : k ≤ j) :
    Def P w K mg base x j ps sp :=
  let ⟨f, fd, a, b, c, F⟩ := d.ex
  ⟨f, fd, a, b, c, F.mono h⟩
theorem mkDef {x : Str} {st : Stmt} {N ps : List Str} {k : Nat} {sp : Sp} (A : At K mg x st)
    (S : FnScope N ps (defScope st))
    (hb : ∀ (kV doc pm : Value) (an : Option Addr) (cdv ct : Value) (us : List Value), us.length = ps.length →
      bindArgs (PySem.W.fnOf x x (defArgs st) (defBody st) (defScope st) .none kV doc pm an cdv ct) ⟨us, []⟩ = pure (ps.zip us))
    (len : ∀ vs H Q E, sp vs H Q E → vs.length = ps.length)
    (body : ∀ (f : Addr) (cdv : Value) (A : Around) (out : List Env) (s : Shared) (H : Hp) (vs : List V) (Q : VK) (E : XK),
      Room k (A.deeper (envOfC x (defScope st) s.heap.objs.size f cdv)) → sp vs H Q E →
      ∃ t, PSs (cxOf CX0 P w K mg base N x (defScope st) f cdv A out s H E).nox (defBody st) t ∧
        t { nx := fun _ H' => Q .non H', rt := Q } (start N vs) H) : Def P w K mg base x (k + 1) ps sp := by
  obtain ⟨f, fd, F, m⟩ := A.ex
  exact ⟨f, fd, m, F.kp, F.binds hb, F.ok S len (body f)⟩
theorem mkDefG {x : Str} {st : Stmt} {N ps : List Str} {k : Nat} {sp : Sp} (A : At K mg x st)
    (S : FnScope N ps (defScope st))
    (hb : ∀ (kV doc pm : Value) (an : Option Addr) (cdv ct : Value) (us : List Value), us.length = ps.length →
      bindArgs (PySem.W.fnOf x x (defArgs st) (defBody st) (defScope st) .none kV doc pm an cdv ct) ⟨us, []⟩ = pure (ps.zip us))
    (len : ∀ vs H Q E, sp vs H Q E → vs.length = ps.length)
    (body : ∀ (f : Addr) (cdv : Value) (A : Around) (out : List Env) (s : Shared) (H : Hp) (vs : List V) (Q : VK) (E : XK),
      A.guards = some [] → Room k (A.deeper (envOfC x (defScope st) s.heap.objs.size f cdv)) → sp vs H Q E →
      ∃ t, PSs (cxOf CX0 P w K mg base N x (defScope st) f cdv A out s H E).nox (defBody st) t ∧
        t { nx := fun _ H' => Q .non H', rt := Q } (start N vs) H) : DefG P w K mg base x (k + 1) ps sp := by
  obtain ⟨f, fd, F, m⟩ := A.ex
  exact ⟨f, fd, m, F.kp, F.binds hb, okG F S len (body f)⟩
end
section
variable {X : Cx} {x : Str} {k j : Nat} {ps : List Str} {sp : Sp} {p pos : Pos} {e : Expr} {es : List Expr} {t : TA}
/-- x(e, ..), by the promise of the def under that name -/
theorem pe_d (D : Def X.prog X.w X.K X.mg X.base x k ps sp) (hr : Room j X.A) (hk : k ≤ j) (hg : Gl X x) (ha : PA X (e :: es) t)
    (hdb : (x == ("__debug__" : Str)) = false := by decide)
    (he : starEach (e :: es) X.env = (false, eval e X.env) :: starEach es X.env := by rfl)
    (hpl : (backTo pos (starEach es X.env)).any (·.1) = false := by rfl) :
    PE X (.Call (.Name x p) (e :: es) [] pos) (tCall sp [] E0 t) := by
  obtain ⟨f, fd, m, kp, b, F⟩ := D.ex
  exact pe_call F (hr.mono hk) hg m kp b .nil pass0 ha hdb he hpl
theorem pe_dG (D : DefG X.prog X.w X.K X.mg X.base x k ps sp) (gd : X.A.guards = some []) (hr : Room j X.A) (hk : k ≤ j) (hg : Gl X x)
    (ha : PA X (e :: es) t) (hdb : (x == ("__debug__" : Str)) = false := by decide)
    (he : starEach (e :: es) X.env = (false, eval e X.env) :: starEach es X.env := by rfl)
    (hpl : (backTo pos (starEach es X.env)).any (·.1) = false := by rfl) :
    PE X (.Call (.Name x p) (e :: es) [] pos) (tCall sp [] E0 t) := by
  obtain ⟨f, fd, m, kp, b, F⟩ := D.ex
  exact pe_callG F gd (hr.mono hk) hg m kp b .nil pass0 ha hdb he hpl
end

/-! ### heaps: all but one place stays -/
/-- the heap without one place -/
def wo (H : Hp) (p : Addr) : Hp := fun b => if b = p then none else H b
theorem wo_ne {H : Hp} {p b : Addr} (h : b ≠ p) : wo H p b = H b := if_neg h
theorem wo_same {H : Hp} {p : Addr} : Same (wo H p) H := fun b o e => by
  unfold wo at e
  split at e
  · cases e
  · exact e
theorem wo_at {H : Hp} {p b : Addr} {o : HO} (e : wo H p b = some o) : b ≠ p ∧ H b = some o := by
  unfold wo at e
  split at e
  · cases e
  · rename_i n
    exact ⟨n, e⟩
theorem wo_of {H : Hp} {p b : Addr} {o : HO} (n : b ≠ p) (e : H b = some o) : wo H p b = some o := (wo_ne n).trans e
/-- all that is tracked, but at p, stays -/
def But (p : Addr) (H H' : Hp) : Prop := Same (wo H p) (wo H' p)
theorem But.refl {p : Addr} {H : Hp} : But p H H := fun _ _ e => e
theorem But.trans {p : Addr} {H H1 H2 : Hp} (a : But p H H1) (b : But p H1 H2) : But p H H2 := fun c o h => b c o (a c o h)
theorem But.of {p : Addr} {H H' : Hp} (h : ∀ b o, b ≠ p → H b = some o → H' b = some o) : But p H H' := fun b o e =>
  let ⟨n, z⟩ := wo_at e
  wo_of n (h b o n z)
theorem But.at {p : Addr} {H H' : Hp} (h : But p H H') {b : Addr} {o : HO} (n : b ≠ p) (e : H b = some o) : H' b = some o :=
  (wo_at (h b o (wo_of n e))).2
theorem Same.but {p : Addr} {H H' : Hp} (h : Same H H') : But p H H' := But.of fun b o _ e => h b o e
theorem Same.laid {H : Hp} {q : Addr} {o : HO} (n : H q = none) : Same H (upd H q o) := fun b u e =>
  (upd_ne (ne_of_none e n)).trans e
theorem But.laid {p : Addr} {H : Hp} {q : Addr} {o : HO} (n : H q = none) : But p H (upd H q o) := Same.but (Same.laid n)
theorem But.set {p : Addr} {H : Hp} {o : HO} : But p H (upd H p o) := But.of fun b u n e => (upd_ne n).trans e
end Pw

/-! Lists of tuples; comprehensions and loops that lay a new list, all else staying. -/
namespace Pw
open PySem PySem.Spec PyProof.Rows L2

/-! ### lists of tuples -/
/-- at each place of vs the tuple that f makes of the row -/
inductive Al {α : Type} (f : α → List V) (H : Hp) : List V → List α → Prop where
  | nil : Al f H [] []
  | cons {p : Addr} {vs : List V} {r : α} {rs : List α} (e : H p = some (.tup (f r))) (t : Al f H vs rs) : Al f H (.ref p :: vs) (r :: rs)
section
variable {α : Type} {f : α → List V} {H H' : Hp}
theorem Al.same {vs : List V} {rs : List α} (h : Al f H vs rs) (S : Same H H') : Al f H' vs rs := by
  induction h with
  | nil => exact .nil
  | cons e _ ih => exact .cons (S _ _ e) ih
theorem Al.imp {vs : List V} {rs : List α} (h : Al f H vs rs) (S : ∀ p xs, H p = some (.tup xs) → H' p = some (.tup xs)) : Al f H' vs rs := by
  induction h with
  | nil => exact .nil
  | cons e _ ih => exact .cons (S _ _ e) ih
theorem Al.length {vs : List V} {rs : List α} (h : Al f H vs rs) : vs.length = rs.length := by
  induction h with
  | nil => rfl
  | cons _ _ ih => simp only [List.length_cons, ih]
theorem Al.append {vs ws : List V} {rs ss : List α} (h : Al f H vs rs) (k : Al f H ws ss) : Al f H (vs ++ ws) (rs ++ ss) := by
  induction h with
  | nil => exact k
  | cons e _ ih => exact .cons e ih
theorem Al.one {p : Addr} {r : α} (e : H p = some (.tup (f r))) : Al f H [.ref p] [r] := .cons e .nil
theorem Al.snoc {vs : List V} {rs : List α} {p : Addr} {r : α} (h : Al f H vs rs) (e : H p = some (.tup (f r))) :
    Al f H (vs ++ [.ref p]) (rs ++ [r]) := h.append (.one e)
theorem Al.get {vs : List V} {rs : List α} (h : Al f H vs rs) : ∀ {i : Nat} {v : V}, vs[i]? = some v →
    ∃ p r, v = .ref p ∧ rs[i]? = some r ∧ H p = some (.tup (f r)) := by
  induction h with
  | nil => intro i v e; simp at e
  | @cons p _ r _ e _ ih =>
    intro i v z
    cases i with
    | zero =>
      simp only [List.getElem?_cons_zero, Option.some.injEq] at z
      exact ⟨p, r, z.symm, rfl, e⟩
    | succ i =>
      simp only [List.getElem?_cons_succ] at z
      obtain ⟨q, r', h1, h2, h3⟩ := ih z
      exact ⟨q, r', h1, by simpa using h2, h3⟩
theorem Al.at {vs : List V} {rs : List α} (h : Al f H vs rs) {i : Nat} {r : α} (e : rs[i]? = some r) :
    ∃ p, vs[i]? = some (.ref p) ∧ H p = some (.tup (f r)) := by
  have hi : i < vs.length := by
    rw [h.length]
    exact (List.getElem?_eq_some_iff.mp e).1
  have hv : vs[i]? = some vs[i] := List.getElem?_eq_getElem hi
  obtain ⟨p, r', h1, h2, h3⟩ := h.get hv
  rw [e] at h2
  cases h2
  exact ⟨p, by rw [hv, h1], h3⟩
theorem Al.mem {vs : List V} {rs : List α} (h : Al f H vs rs) {v : V} (m : v ∈ vs) : ∃ p r, v = .ref p ∧ r ∈ rs ∧ H p = some (.tup (f r)) := by
  obtain ⟨i, e⟩ := List.mem_iff_getElem?.mp m
  obtain ⟨p, r, h1, h2, h3⟩ := h.get e
  exact ⟨p, r, h1, List.mem_of_getElem? h2, h3⟩
theorem Al.take {vs : List V} {rs : List α} (h : Al f H vs rs) (n : Nat) : Al f H (vs.take n) (rs.take n) := by
  induction h generalizing n with
  | nil => simp; exact .nil
  | cons e _ ih =>
    cases n with
    | zero => exact .nil
    | succ n => exact .cons e (ih n)
end
/-- at a: a list of such tuples -/
structure LT {α : Type} (f : α → List V) (H : Hp) (a : Addr) (rs : List α) : Prop where
  ex : ∃ vs, H a = some (.lst vs) ∧ Al f H vs rs
section
variable {α : Type} {f : α → List V} {H H' : Hp}
theorem LT.same {a : Addr} {rs : List α} (h : LT f H a rs) (S : Same H H') : LT f H' a rs :=
  let ⟨vs, e, k⟩ := h.ex
  ⟨vs, S _ _ e, k.same S⟩
theorem LT.mk' {a : Addr} {vs : List V} {rs : List α} (e : H a = some (.lst vs)) (k : Al f H vs rs) : LT f H a rs := ⟨vs, e, k⟩
end

/-! ### data: rows of numbers and texts -/
mutual
theorem eqv_refl_ : ∀ d : PyData, d.canLay0 = true → PyData.eqv d d = true
  | .none, _ => rfl
  | .bool b, _ => by simp [PyData.eqv]
  | .int i, _ => by simp [PyData.eqv]
  | .str x, _ => by simp [PyData.eqv]
  | .list xs, h => by rw [PyData.eqv]; exact eqvAll_refl_ xs (by simpa [PyData.canLay0] using h)
  | .tuple xs, h => by rw [PyData.eqv]; exact eqvAll_refl_ xs (by simpa [PyData.canLay0] using h)
  | .dict _, h => by simp [PyData.canLay0] at h
theorem eqvAll_refl_ : ∀ xs : List PyData, PyData.canLayAll0 xs = true → PyData.eqvAll xs xs = true
  | [], _ => rfl
  | x :: xs, h => by
    have h' : x.canLay0 = true ∧ PyData.canLayAll0 xs = true := by simpa [PyData.canLayAll0] using h
    rw [PyData.eqvAll, eqv_refl_ x h'.1, eqvAll_refl_ xs h'.2]; rfl
end
/-- what a row's things are, as data, of rows that are ok -/
structure Dat {α : Type} (f : α → List V) (g : α → List PyData) (ok : α → Prop) : Prop where
  dp : ∀ (K : PySem.W.Frag) (H : Hp) (r : α), DpAll K H (f r) (g r)
  lay : ∀ r, ok r → PyData.canLayAll0 (g r) = true
  dep : ∀ r, PyData.depthAll (g r) = 0
section
variable {α : Type} {f : α → List V} {g : α → List PyData} {ok : α → Prop} {K : PySem.W.Frag} {H : Hp}
theorem Al.dp (D : Dat f g ok) {vs : List V} {rs : List α} (h : Al f H vs rs) : DpAll K H vs (rs.map fun r => .tuple (g r)) := by
  induction h with
  | nil => exact .nil
  | cons e _ ih => exact .cons (.tup (SqT.of e) (D.dp K H _)) ih
theorem lay_rows (D : Dat f g ok) : ∀ rs : List α, (∀ r ∈ rs, ok r) → PyData.canLayAll0 (rs.map fun r => .tuple (g r)) = true
  | [], _ => by simp only [List.map_nil, PyData.canLayAll0]
  | r :: t, h => by
    simp only [List.map_cons, PyData.canLayAll0, PyData.canLay0, lay_rows D t fun r' m => h r' (List.mem_cons_of_mem _ m), D.lay r (h r List.mem_cons_self), Bool.and_self]
theorem dep_rows (D : Dat f g ok) : ∀ rs : List α, PyData.depthAll (rs.map fun r => .tuple (g r)) ≤ 1
  | [] => by simp only [List.map_nil, PyData.depthAll]; exact Nat.zero_le _
  | r :: t => by
    have := dep_rows D t
    simp only [List.map_cons, PyData.depthAll, PyData.depth, D.dep r]
    omega
theorem shaped_rows (D : Dat f g ok) (rs : List α) (ho : ∀ r ∈ rs, ok r) : SeqAt.shaped (.list (rs.map fun r => .tuple (g r))) = true := by
  unfold SeqAt.shaped
  have h := dep_rows D rs
  have e1 : PyData.canLay0 (.list (rs.map fun r => .tuple (g r))) = true := by
    simp only [PyData.canLay0]
    exact lay_rows D rs ho
  have e2 : PyData.depth (.list (rs.map fun r => .tuple (g r))) ≤ 64 := by
    simp only [PyData.depth]
    omega
  rw [e1, decide_eq_true e2]
  rfl
theorem LT.dp (D : Dat f g ok) {a : Addr} {rs : List α} (h : LT f H a rs) : Dp K H (.ref a) (.list (rs.map fun r => .tuple (g r))) :=
  let ⟨_, e, k⟩ := h.ex
  .lst (SqL.of e) (k.dp D)
theorem eqv_rows (D : Dat f g ok) (rs : List α) (ho : ∀ r ∈ rs, ok r) : PyData.eqv (.list (rs.map fun r => .tuple (g r))) (.list (rs.map fun r => .tuple (g r))) = true :=
  eqv_refl_ _ (by simp only [PyData.canLay0]; exact lay_rows D rs ho)
/-- two lists of the same rows are equal -/
theorem eq_rows {Q : VK} (D : Dat f g ok) {a b : Addr} {rs : List α} (ho : ∀ r ∈ rs, ok r) (h : LT f H a rs) (k : LT f H b rs) (q : Q (.bl true) H) :
    rEqD K (.ref a) (.ref b) H Q :=
  ⟨_, _, h.dp D, k.dp D, shaped_rows D rs ho, shaped_rows D rs ho, by rw [eqv_rows D rs ho]; exact q⟩
theorem ne_rows {Q : VK} (D : Dat f g ok) {a b : Addr} {rs : List α} (ho : ∀ r ∈ rs, ok r) (h : LT f H a rs) (k : LT f H b rs) (q : Q (.bl false) H) :
    rNeD K (.ref a) (.ref b) H Q :=
  ⟨_, _, h.dp D, k.dp D, shaped_rows D rs ho, shaped_rows D rs ho, by rw [eqv_rows D rs ho]; exact q⟩
/-- such a list held against the empty one -/
theorem eqv_nil (g : α → List PyData) (rs : List α) : PyData.eqv (.list (rs.map fun r => PyData.tuple (g r))) (.list []) = rs.isEmpty := by
  cases rs <;> simp [PyData.eqv, PyData.eqvAll]
theorem ne_empty {Q : VK} (D : Dat f g ok) {a b : Addr} {rs : List α} (ho : ∀ r ∈ rs, ok r) (h : LT f H a rs) (k : H b = some (.lst [])) (q : Q (.bl !rs.isEmpty) H) :
    rNeD K (.ref a) (.ref b) H Q :=
  ⟨_, .list [], h.dp D, .lst (xs := []) (SqL.of k) .nil, shaped_rows D rs ho, rfl, by rw [eqv_nil]; exact q⟩
theorem eq_empty {Q : VK} (D : Dat f g ok) {a b : Addr} {rs : List α} (ho : ∀ r ∈ rs, ok r) (h : LT f H a rs) (k : H b = some (.lst [])) (q : Q (.bl rs.isEmpty) H) :
    rEqD K (.ref a) (.ref b) H Q :=
  ⟨_, .list [], h.dp D, .lst (xs := []) (SqL.of k) .nil, shaped_rows D rs ho, rfl, by rw [eqv_nil]; exact q⟩
/-- lists of numbers -/
theorem dp_ints {K : PySem.W.Frag} {H : Hp} : ∀ ns : List Int, DpAll K H (ns.map V.int) (ns.map .int)
  | [] => .nil
  | i :: r => .cons (.int i) (dp_ints r)
theorem lay_ints : ∀ ns : List Int, PyData.canLayAll0 (ns.map .int) = true
  | [] => by simp only [List.map_nil, PyData.canLayAll0]
  | r :: t => by simp only [List.map_cons, PyData.canLayAll0, PyData.canLay0, lay_ints t, Bool.and_self]
theorem dep_ints : ∀ ns : List Int, PyData.depthAll (ns.map .int) = 0
  | [] => by simp only [List.map_nil, PyData.depthAll]
  | r :: t => by simp only [List.map_cons, PyData.depthAll, PyData.depth, dep_ints t, Nat.max_self]
theorem shaped_ints (ns : List Int) : SeqAt.shaped (.list (ns.map .int)) = true := by
  unfold SeqAt.shaped
  simp only [PyData.canLay0, PyData.depth, lay_ints ns, dep_ints ns]
  rfl
theorem ne_ints {Q : VK} {a b : Addr} {ns : List Int} (h : H a = some (.lst (ns.map V.int))) (k : H b = some (.lst (ns.map V.int))) (q : Q (.bl false) H) :
    rNeD K (.ref a) (.ref b) H Q :=
  ⟨_, _, .lst (SqL.of h) (dp_ints ns), .lst (SqL.of k) (dp_ints ns), shaped_ints ns, shaped_ints ns, by
    rw [eqv_refl_ _ (by simp only [PyData.canLay0]; exact lay_ints ns)]; exact q⟩
end

/-- a number that the text's top keeps under a name -/
theorem pe_gi {X : Cx} {x : Str} {p : Pos} {n : Int} (h : ∃ t, X.mg x = some (.int n t)) (hg : Gl X x := by rfl)
    (hd : (x == ("__debug__" : Str)) = false := by decide) : PE X (.Name x p) (tC (.int n)) := by
  obtain ⟨t, h⟩ := h
  exact pe_glob (v := .int n) hg h ⟨_, rfl⟩ hd
/-- len(..) of a list or a tuple -/
def rLn (K : PySem.W.Frag) : List V → Hp → VK → Prop := fun xs H Q => ∃ p ys, xs = [V.ref p] ∧ (SqL K H p ys ∨ SqT K H p ys) ∧ Q (.int (ys.length : Int)) H
theorem kit_lt_list {K : PySem.W.Frag} : PySem.W.kitAny K (.type "list") [.type "list", .type "tuple"] = some true := by
  have e : PySem.W.kitOne K (.type "list") (.type "list") = some true := kit_ty (a := "list") (b := "list") (r := true) (by decide +kernel)
  simp only [PySem.W.kitAny, e]
theorem kit_lt_tuple {K : PySem.W.Frag} : PySem.W.kitAny K (.type "tuple") [.type "list", .type "tuple"] = some true := by
  have e : PySem.W.kitOne K (.type "tuple") (.type "list") = some false := kit_ty (a := "tuple") (b := "list") (r := false) (by decide +kernel)
  have e2 : PySem.W.kitOne K (.type "tuple") (.type "tuple") = some true := kit_ty (a := "tuple") (b := "tuple") (r := true) (by decide +kernel)
  simp only [PySem.W.kitAny, e, e2]

/-! ### a comprehension that lays a new list, all else staying -/
theorem Same.wo_upd {H H' : Hp} {D : Addr} {o : HO} (S : Same H H') (n : H D = none) : Same H (upd H' D o) := fun b u e =>
  (upd_ne (ne_of_none e n)).trans (S b u e)
theorem wo_upd {H : Hp} {D : Addr} {o : HO} : wo (upd H D o) D = wo H D := by
  funext b
  unfold wo
  split
  · rfl
  · rename_i h
    exact upd_ne h
theorem Same.wo {H H' : Hp} {p : Addr} (S : Same H H') : Same (wo H p) (wo H' p) := Same.but S
theorem wo_none {H : Hp} {D : Addr} (n : H D = none) : wo H D = H := by
  funext b
  unfold wo
  split
  · rename_i e
    rw [e, n]
  · rfl
theorem lc_acc {J : It} {n : Nat} {G : Hp → Prop} {Y : Nat → Hp → V → Hp → Prop} (w : Walk J n G Y) {g : TG} {tt : TT} {te : TE} {vs : List Nat} {σ : L2.St}
    {H1 : Hp} {D : Addr} {Qd : Hp → Prop} (hD : H1 D = none) (hn : n ≤ 1000000) (R : Nat → List V → Hp → Prop) (r0 : R 0 [] H1)
    (hG : ∀ H, Same H1 H → G H)
    (hs : ∀ i x H H' acc, i < n → Same H1 H → H D = some (.lst acc) → acc.length ≤ i → R i acc (wo H D) → Y i H x H' →
      ∀ (Fy : V → Hp → Prop) (Fn : Hp → Prop), (∀ y H4, Same H H4 → R (i + 1) (acc ++ [y]) (wo H4 D) → Fy y H4) →
        (∀ H3, Same H H3 → R (i + 1) acc (wo H3 D) → Fn H3) →
      g x (wipe σ vs) H' fun σ2 H2 => wipe σ2 vs = wipe σ vs ∧ tt σ2 H2 fun b H3 => if b = true then te σ2 H3 Fy else Fn H3)
    (hd : ∀ H acc, Same H1 H → H D = some (.lst acc) → R n acc (wo H D) → Qd H) :
    ∃ W : Nat → Nat → Hp → Prop, (∃ m, W 0 m (upd H1 D (.lst []))) ∧ ∀ i m H, W i m H →
      (J.stop i H ∧ Qd H) ∨ (J.go i H ∧ ∃ Nx : Hp → Prop, (∀ H', Nx H' → ∃ m', m' < m ∧ W (i + 1) m' H') ∧ ∀ x H', J.yld i H x H' → g x (wipe σ vs) H' fun σ2 H2 => wipe σ2 vs = wipe σ vs ∧ tt σ2 H2 fun b H3 =>
        if b = true then te σ2 H3 fun y H4 => ∃ acc, H4 D = some (.lst acc) ∧ acc.length < sizeLine ∧ Nx (upd H4 D (.lst (acc ++ [y]))) else Nx H3) := by
  have line : 1000000 < sizeLine := by decide
  refine lc_it w (fun i H => Same H1 H ∧ ∃ acc, H D = some (.lst acc) ∧ acc.length ≤ i ∧ R i acc (wo H D))
    ⟨Same.laid hD, [], upd_same, Nat.le_refl _, by rw [wo_upd, wo_none hD]; exact r0⟩ (fun i H _ h => hG H h.1) ?_ ?_
  · rintro i x H H' hi ⟨S, acc, e, hl, r⟩ y
    refine hs i x H H' acc hi S e hl r y _ _ (fun y H4 S4 r4 => ?_) fun H3 S3 r3 => ?_
    · refine ⟨acc, S4 _ _ e, Nat.lt_of_le_of_lt hl (Nat.lt_of_lt_of_le hi (Nat.le_trans hn (Nat.le_of_lt line))), Same.wo_upd (S.trans S4) hD, acc ++ [y], upd_same, ?_, ?_⟩
      · rw [List.length_append, List.length_singleton]
        omega
      · rw [wo_upd]
        exact r4
    · exact ⟨S.trans S3, acc, S3 _ _ e, by omega, r3⟩
  · rintro H ⟨S, acc, e, _, r⟩
    exact hd H acc S e r
/-- a while by a measure, its end told to the test -/
theorem while_m {c : TT} {tb : TS} {D : Ends} {σ : L2.St} {H : Hp} (Pv : Nat → L2.St → Hp → Prop) (m0 : Nat) (h0 : Pv m0 σ H)
    (hs : ∀ m σ H, Pv m σ H → ∀ F : Bool → Hp → Prop,
      (∀ H1, (∀ N : L2.St → Hp → Prop, (∀ m' σ' H', m' < m → Pv m' σ' H' → N σ' H') → tb { D with nx := N, ct := N, bk := D.nx } σ H1) → F true H1) →
      (∀ H1, D.nx σ H1 → F false H1) → c σ H F) : tWhile c tb D σ H := by
  refine ⟨Pv, ⟨m0, h0⟩, fun m σ H p => hs m σ H p _ (fun H1 h => ?_) fun H1 h => ?_⟩
  · rw [if_pos rfl]
    exact ⟨fun σ' H' => ∃ m', m' < m ∧ Pv m' σ' H', fun _ _ h => h, h _ fun m' σ' H' l p => ⟨m', l, p⟩⟩
  · rw [if_neg Bool.false_ne_true]
    exact h

/-- what is laid since then -/
def fre (H G : Hp) : Hp := fun b => match H b with
  | none => G b
  | some _ => none
theorem fre_at {H G : Hp} {b : Addr} {o : HO} (e : fre H G b = some o) : H b = none ∧ G b = some o := by
  unfold fre at e
  cases q : H b with
  | none => rw [q] at e; exact ⟨rfl, e⟩
  | some u => rw [q] at e; cases e
theorem fre_of {H G : Hp} {b : Addr} {o : HO} (n : H b = none) (e : G b = some o) : fre H G b = some o := by
  unfold fre
  rw [n]
  exact e
theorem Same.no {H G : Hp} {b : Addr} (S : Same H G) (n : G b = none) : H b = none := by
  cases q : H b with
  | none => rfl
  | some o => rw [S _ _ q] at n; cases n

/-! ### dicts with number keys -/
theorem valV_none_of {kvs : List (Key × V)} {k : Key} (h : ∀ kv ∈ kvs, kv.1 ≠ k) : valV kvs k = none := by
  induction kvs with
  | nil => rfl
  | cons p r ih =>
    rw [valV_neg (h p (by simp))]
    exact ih fun kv m => h kv (by simp [m])
theorem valV_last {kvs : List (Key × V)} {k : Key} {v : V} (h : ∀ kv ∈ kvs, kv.1 ≠ k) : valV (kvs ++ [(k, v)]) k = some v := by
  rw [valV_snoc k k v kvs (valV_none_of h), if_pos rfl]

/-! ### defs with keyword-only defaults -/
section
variable (P : Program) (w : World) (K : PySem.W.Frag) (mg : Str → Option Value) (base : Heap)
structure AtD (x : Str) (st : Stmt) (kws : List (Str × V)) : Prop where
  ex : ∃ f fd, FunD K x x (defArgs st) (defBody st) (defScope st) [] kws f fd ∧ mg x = some (.ref f)
/-- under its name x a def stands that keeps the promise sp; ds fill up what is left out -/
structure DefD (x : Str) (k : Nat) (ps : List Str) (ds : List V) (sp : Sp) : Prop where
  ex : ∃ f fd us, mg x = some (.ref f) ∧ PySem.W.keepIn K (.ref f) = true ∧ Vals ds us ∧ Binds K fd ps us ∧
    FnOk P w K mg base CX0 k f fd ps sp
/-- the same, the keywords ks told behind n things -/
structure DefK (x : Str) (k : Nat) (ps : List Str) (n : Nat) (ks : List Str) (gV : List V → List V → List V) (sp : Sp) : Prop where
  ex : ∃ f fd g, mg x = some (.ref f) ∧ PySem.W.keepIn K (.ref f) = true ∧ KBn K fd ps n ks g gV ∧
    FnOk P w K mg base CX0 k f fd ps sp
end
section
variable {P : Program} {w : World} {K : PySem.W.Frag} {mg : Str → Option Value} {base : Heap}
theorem mkFnD {x : Str} {st : Stmt} {kws : List (Str × V)} {f : Addr} {fd : FuncData} {N ps : List Str} {k : Nat} {sp : Sp}
    (F : FunD K x x (defArgs st) (defBody st) (defScope st) [] kws f fd) (S : FnScope N ps (defScope st))
    (len : ∀ vs H Q E, sp vs H Q E → vs.length = ps.length)
    (body : ∀ (f : Addr) (cdv : Value) (A : Around) (out : List Env) (s : Shared) (H : Hp) (vs : List V) (Q : VK) (E : XK),
      Room k (A.deeper (envOfC x (defScope st) s.heap.objs.size f cdv)) → sp vs H Q E →
      ∃ t, PSs (cxOf CX0 P w K mg base N x (defScope st) f cdv A out s H E).nox (defBody st) t ∧
        t { nx := fun _ H' => Q .non H', rt := Q } (start N vs) H) : FnOk P w K mg base CX0 (k + 1) f fd ps sp :=
  F.ok S len fun cdv A out s H vs Q E hr hs =>
    let ⟨t, h, q⟩ := body f cdv A out s H vs Q E hr hs
    ⟨t, h.nox, q⟩
theorem mkDefD {x : Str} {st : Stmt} {kws : List (Str × V)} {N ps : List Str} {k n : Nat} {sp : Sp} (A : AtD K mg x st kws)
    (S : FnScope N ps (defScope st)) (hk : kws ≠ []) (hn : n + kws.length = ps.length)
    (hb : ∀ (D : Addr) (doc pm : Value) (an : Option Addr) (cdv ct : Value) (us ks : List Value), us.length = n → ks.length = kws.length →
      KwChain D ((kws.map (·.1)).zip ks) (bindArgs (PySem.W.fnOf x x (defArgs st) (defBody st) (defScope st) .none (.ref D) doc pm an cdv ct) ⟨us, []⟩) (ps.zip (us ++ ks)))
    (len : ∀ vs H Q E, sp vs H Q E → vs.length = ps.length)
    (body : ∀ (f : Addr) (cdv : Value) (A : Around) (out : List Env) (s : Shared) (H : Hp) (vs : List V) (Q : VK) (E : XK),
      Room k (A.deeper (envOfC x (defScope st) s.heap.objs.size f cdv)) → sp vs H Q E →
      ∃ t, PSs (cxOf CX0 P w K mg base N x (defScope st) f cdv A out s H E).nox (defBody st) t ∧
        t { nx := fun _ H' => Q .non H', rt := Q } (start N vs) H) : DefD P w K mg base x (k + 1) ps (kws.map (·.2)) sp := by
  obtain ⟨f, fd, F, m⟩ := A.ex
  obtain ⟨us, hv, b⟩ := F.binds0 n hk hn hb
  exact ⟨f, fd, us, m, F.kp, hv, b, mkFnD F S len body⟩
/-- all keyword-only ones are told -/
theorem mkDefK {x : Str} {st : Stmt} {kws : List (Str × V)} {N ps ks : List Str} {k n : Nat} {sp : Sp} {g : {α : Type} → List α → List α → List α} (A : AtD K mg x st kws)
    (S : FnScope N ps (defScope st))
    (hb : ∀ (kV doc pm : Value) (an : Option Addr) (cdv ct : Value) (us ws : List Value), us.length = n → ws.length = ks.length →
      bindArgs (PySem.W.fnOf x x (defArgs st) (defBody st) (defScope st) .none kV doc pm an cdv ct) ⟨us, ks.zip ws⟩ = pure (ps.zip (g us ws)))
    (hg : ∀ {vs : List V} {us : List Value} {zs : List V} {ws : List Value}, Vals vs us → Vals zs ws → Vals (g vs zs) (g us ws))
    (len : ∀ vs H Q E, sp vs H Q E → vs.length = ps.length)
    (body : ∀ (f : Addr) (cdv : Value) (A : Around) (out : List Env) (s : Shared) (H : Hp) (vs : List V) (Q : VK) (E : XK),
      Room k (A.deeper (envOfC x (defScope st) s.heap.objs.size f cdv)) → sp vs H Q E →
      ∃ t, PSs (cxOf CX0 P w K mg base N x (defScope st) f cdv A out s H E).nox (defBody st) t ∧
        t { nx := fun _ H' => Q .non H', rt := Q } (start N vs) H) : DefK P w K mg base x (k + 1) ps n ks g sp := by
  obtain ⟨f, fd, F, m⟩ := A.ex
  have F' := F
  obtain ⟨oc, od, dV, kV, doc, pm, an, cdv, ct, osl, rfl, lk, hcd, hD, hK⟩ := F.ex
  rcases hD with ⟨_, rfl⟩ | ⟨e, _⟩
  · exact ⟨f, _, fun us ws => g us ws, m, F'.kp, ⟨fun s us ws X l1 l2 => .of_eq (hb kV doc pm an cdv ct us ws l1 l2), hg⟩, mkFnD F' S len body⟩
  · exact absurd rfl e
end
section
variable {X : Cx} {x : Str} {k j n : Nat} {ps ks : List Str} {ds : List V} {sp : Sp} {p pos : Pos} {e : Expr} {es : List Expr} {t tk : TA} {gV : List V → List V → List V}
  {kws : List Keyword}
theorem pe_dD (D : DefD X.prog X.w X.K X.mg X.base x k ps ds sp) (hr : Room j X.A) (hk : k ≤ j) (hg : Gl X x) (ha : PA X (e :: es) t)
    (hdb : (x == ("__debug__" : Str)) = false := by decide)
    (he : starEach (e :: es) X.env = (false, eval e X.env) :: starEach es X.env := by rfl)
    (hpl : (backTo pos (starEach es X.env)).any (·.1) = false := by rfl) :
    PE X (.Call (.Name x p) (e :: es) [] pos) (tCall sp ds E0 t) := by
  obtain ⟨f, fd, us, m, kp, hv, b, F⟩ := D.ex
  exact pe_call F (hr.mono hk) hg m kp b hv pass0 ha hdb he hpl
theorem pe_dK (D : DefK X.prog X.w X.K X.mg X.base x k ps n ks gV sp) (hr : Room j X.A) (hk : k ≤ j) (hg : Gl X x) (ha : PA X (e :: es) t) (hkw : PK X kws tk)
    (hall : (backToKw pos (keywordEach kws X.env)).all (·.1.isSome) = true := by rfl) (hks : (backToKw pos (keywordEach kws X.env)).filterMap (·.1) = ks := by rfl)
    (hdb : (x == ("__debug__" : Str)) = false := by decide)
    (he : starEach (e :: es) X.env = (false, eval e X.env) :: starEach es X.env := by rfl)
    (hpl : ((backTo pos (starEach (e :: es) X.env)).any (·.1) || (backToKw pos (keywordEach kws X.env)).any (·.1.isNone)) = false := by rfl) :
    PE X (.Call (.Name x p) (e :: es) kws pos) (tCallN n ks.length sp gV E0 t tk) := by
  obtain ⟨f, fd, g, m, kp, b, F⟩ := D.ex
  exact pe_callN F (hr.mono hk) hg m kp b pass0 ha hkw hall hks hdb he hpl
end
end Pw

/-! Classes: methods by name, objects made, their fields. -/
namespace Pw
open PySem PySem.Spec PyProof.Rows L2
section
variable (P : Program) (w : World) (K : PySem.W.Frag) (mg : Str → Option Value) (base : Heap)
/-- the method m of the class at C is the def st of the text -/
structure AtMt (C : Addr) (m q : Str) (st : Stmt) : Prop where
  ex : ∃ f fd, Fun K m q st f fd ∧ Meth K C m f
/-- the method m of the class at C keeps the promise sp -/
structure DefM (C : Addr) (m : Str) (k : Nat) (ps : List Str) (sp : Sp) : Prop where
  ex : ∃ f fd, Meth K C m f ∧ Binds K fd ps [] ∧ FnOk P w K mg base CX0 k f fd ps sp
/-- C(..) is made, its __init__ keeping the promise sp -/
structure DefI (x : Str) (C : Addr) (k : Nat) (ps : List Str) (sp : Sp) : Prop where
  ex : ∃ f fd, mg x = some (.ref C) ∧ Mk K C f ∧ Binds K fd ps [] ∧ FnOk P w K mg base CX0 k f fd ps sp
end
section
variable {P : Program} {w : World} {K : PySem.W.Frag} {mg : Str → Option Value} {base : Heap}
theorem DefM.mono {C : Addr} {m : Str} {k j : Nat} {ps : List Str} {sp : Sp} (d : DefM P w K mg base C m k ps sp) (h : k ≤ j) : DefM P w K mg base C m j ps sp :=
  let ⟨f, fd, a, b, F⟩ := d.ex
  ⟨f, fd, a, b, F.mono h⟩
theorem mkDefM {C : Addr} {m q : Str} {st : Stmt} {N ps : List Str} {k : Nat} {sp : Sp} (A : AtMt K C m q st)
    (S : FnScope N ps (defScope st))
    (hb : ∀ (kV doc pm : Value) (an : Option Addr) (cdv ct : Value) (us : List Value), us.length = ps.length →
      bindArgs (PySem.W.fnOf m q (defArgs st) (defBody st) (defScope st) .none kV doc pm an cdv ct) ⟨us, []⟩ = pure (ps.zip us))
    (len : ∀ vs H Q E, sp vs H Q E → vs.length = ps.length)
    (body : ∀ (f : Addr) (cdv : Value) (A : Around) (out : List Env) (s : Shared) (H : Hp) (vs : List V) (Q : VK) (E : XK),
      Room k (A.deeper (envOfC q (defScope st) s.heap.objs.size f cdv)) → sp vs H Q E →
      ∃ t, PSs (cxOf CX0 P w K mg base N q (defScope st) f cdv A out s H E).nox (defBody st) t ∧
        t { nx := fun _ H' => Q .non H', rt := Q } (start N vs) H) : DefM P w K mg base C m (k + 1) ps sp := by
  obtain ⟨f, fd, F, M⟩ := A.ex
  exact ⟨f, fd, M, F.binds hb, F.ok S len (body f)⟩
theorem mkDefI {x : Str} {C f : Addr} {fd : FuncData} {m q : Str} {st : Stmt} {N ps : List Str} {k : Nat} {sp : Sp} (hm : mg x = some (.ref C)) (M : Mk K C f) (F : Fun K m q st f fd)
    (S : FnScope N ps (defScope st))
    (hb : ∀ (kV doc pm : Value) (an : Option Addr) (cdv ct : Value) (us : List Value), us.length = ps.length →
      bindArgs (PySem.W.fnOf m q (defArgs st) (defBody st) (defScope st) .none kV doc pm an cdv ct) ⟨us, []⟩ = pure (ps.zip us))
    (len : ∀ vs H Q E, sp vs H Q E → vs.length = ps.length)
    (body : ∀ (f : Addr) (cdv : Value) (A : Around) (out : List Env) (s : Shared) (H : Hp) (vs : List V) (Q : VK) (E : XK),
      Room k (A.deeper (envOfC q (defScope st) s.heap.objs.size f cdv)) → sp vs H Q E →
      ∃ t, PSs (cxOf CX0 P w K mg base N q (defScope st) f cdv A out s H E).nox (defBody st) t ∧
        t { nx := fun _ H' => Q .non H', rt := Q } (start N vs) H) : DefI P w K mg base x C (k + 1) ps sp :=
  ⟨f, fd, hm, M, F.binds hb, F.ok S len (body f)⟩
/-- under its name x a def stands (nothing is promised of it) -/
theorem At.any {x : Str} {st : Stmt} {ps : List Str} (A : At K mg x st)
    (hb : ∀ (kV doc pm : Value) (an : Option Addr) (cdv ct : Value) (us : List Value), us.length = ps.length →
      bindArgs (PySem.W.fnOf x x (defArgs st) (defBody st) (defScope st) .none kV doc pm an cdv ct) ⟨us, []⟩ = pure (ps.zip us))
    (k : Nat) (sp : Sp) (no : ∀ vs H Q E, ¬ sp vs H Q E) : Def P w K mg base x k ps sp := by
  obtain ⟨f, fd, F, m⟩ := A.ex
  exact ⟨f, fd, m, F.kp, F.binds hb, ⟨fun vs H Q E h => absurd h (no vs H Q E), fun A out s H ar us vs Q E _ _ _ _ h => absurd h (no vs H Q E)⟩⟩
end
section
variable {X : Cx} {x m : Str} {C : Addr} {k j : Nat} {ps : List Str} {sp : Sp} {o : Expr} {p pos apos : Pos} {e : Expr} {es : List Expr} {ta : TE} {t : TA}
theorem pe_mm {pl : Sem Bool} (he : PE X o ta) (c : Cls X.K C) (D : DefM X.prog X.w X.K X.mg X.base C m k ps sp) (hr : Room j X.A) (hk : k ≤ j) (ha : PA X (e :: es) t)
    (hst : starEach (e :: es) X.env = (false, eval e X.env) :: starEach es X.env := by rfl) (hpl : (backTo pos (starEach es X.env)).any (·.1) = false := by rfl)
    (ht : eval (.Call (.Attribute o m apos) (e :: es) [] pos) X.env = (do
      let ov ← eval o X.env
      standAt apos.atName
      let (f, first) ← holding [ov] (getMethod ov m pl)
      callWith pos f first (backTo pos (starEach (e :: es) X.env)) (backToKw pos (keywordEach [] X.env))) := by rfl) :
    PE X (.Call (.Attribute o m apos) (e :: es) [] pos) (tMeth C m sp [] E0 ta t) := by
  obtain ⟨f, fd, M, b, F⟩ := D.ex
  exact pe_meth (pl := pl) he c M F (hr.mono hk) b .nil pass0 ha hst hpl ht
theorem pe_mm0 {pl : Sem Bool} (he : PE X o ta) (c : Cls X.K C) (D : DefM X.prog X.w X.K X.mg X.base C m k ps sp) (hr : Room j X.A) (hk : k ≤ j)
    (ht : eval (.Call (.Attribute o m apos) [] [] pos) X.env = (do
      let ov ← eval o X.env
      standAt apos.atName
      let (f, first) ← holding [ov] (getMethod ov m pl)
      callWith pos f first (backTo pos (starEach [] X.env)) (backToKw pos (keywordEach [] X.env))) := by rfl) :
    PE X (.Call (.Attribute o m apos) [] [] pos) (tMeth C m sp [] E0 ta tNil) := by
  obtain ⟨f, fd, M, b, F⟩ := D.ex
  exact pe_meth0 (pl := pl) he c M F (hr.mono hk) b .nil pass0 ht
theorem pe_mi (D : DefI X.prog X.w X.K X.mg X.base x C k ps sp) (hr : Room j X.A) (hk : k + 1 ≤ j) (hg : Gl X x) (ha : PA X (e :: es) t)
    (hdb : (x == ("__debug__" : Str)) = false := by decide) (he : starEach (e :: es) X.env = (false, eval e X.env) :: starEach es X.env := by rfl) (hpl : (backTo pos (starEach es X.env)).any (·.1) = false := by rfl) :
    PE X (.Call (.Name x p) (e :: es) [] pos) (tMake C sp [] E0 t) := by
  obtain ⟨f, fd, hm, M, b, F⟩ := D.ex
  exact pe_make M F (hr.mono hk) hg hm b .nil pass0 ha hdb he hpl
end
/-! ### fields by name -/
theorem lk_eq {f : Str} {v : V} {r : List (Str × V)} : List.lookup f ((f, v) :: r) = some v := by
  simp only [List.lookup, beq_self_eq_true]
theorem lk_ne {f g : Str} {v : V} {r : List (Str × V)} (h : (f == g) = false) : List.lookup f ((g, v) :: r) = List.lookup f r := by
  simp only [List.lookup, h]
theorem put_eq {f : Str} {v x : V} {r : List (Str × V)} : putF f v ((f, x) :: r) = (f, v) :: r := by
  show (if f = f then _ else _) = _
  rw [if_pos rfl]
theorem put_ne {f g : Str} {v x : V} {r : List (Str × V)} (h : (g == f) = false) : putF f v ((g, x) :: r) = (g, x) :: putF f v r := by
  show (if g = f then _ else _) = _
  rw [if_neg (by simpa using h)]
end Pw

/-! Calls by names alone. -/
namespace Pw
open PySem PySem.Spec PyProof.Rows L2
section
variable (P : Program) (w : World) (K : PySem.W.Frag) (mg : Str → Option Value) (base : Heap)
/-- called by the names ks alone, in this order -/
structure DefK0 (x : Str) (k : Nat) (ps ks : List Str) (g : {α : Type} → List α → List α) (sp : Sp) : Prop where
  ex : ∃ f fd, mg x = some (.ref f) ∧ PySem.W.keepIn K (.ref f) = true ∧
    (∀ (s : Shared) (ws : List Value), K.In s.heap → ws.length = ks.length → BindsTo s fd ⟨[], ks.zip ws⟩ (ps.zip (g ws))) ∧ FnOk P w K mg base CX0 k f fd ps sp
end
section
variable {P : Program} {w : World} {K : PySem.W.Frag} {mg : Str → Option Value} {base : Heap}
theorem mkDefK0 {x : Str} {st : Stmt} {N ps ks : List Str} {k : Nat} {sp : Sp} {g : {α : Type} → List α → List α} (A : At K mg x st)
    (S : FnScope N ps (defScope st))
    (hb : ∀ (kV doc pm : Value) (an : Option Addr) (cdv ct : Value) (ws : List Value), ws.length = ks.length →
      bindArgs (PySem.W.fnOf x x (defArgs st) (defBody st) (defScope st) .none kV doc pm an cdv ct) ⟨[], ks.zip ws⟩ = pure (ps.zip (g ws)))
    (len : ∀ vs H Q E, sp vs H Q E → vs.length = ps.length)
    (body : ∀ (f : Addr) (cdv : Value) (A : Around) (out : List Env) (s : Shared) (H : Hp) (vs : List V) (Q : VK) (E : XK),
      Room k (A.deeper (envOfC x (defScope st) s.heap.objs.size f cdv)) → sp vs H Q E →
      ∃ t, PSs (cxOf CX0 P w K mg base N x (defScope st) f cdv A out s H E).nox (defBody st) t ∧
        t { nx := fun _ H' => Q .non H', rt := Q } (start N vs) H) : DefK0 P w K mg base x (k + 1) ps ks g sp := by
  obtain ⟨f, fd, F, m⟩ := A.ex
  have F' := F
  obtain ⟨oc, od, kV, doc, pm, an, cdv, ct, osl, rfl, lk, hcd⟩ := F.ex
  exact ⟨f, _, m, F'.kp, fun s ws _ hl => .of_eq (hb kV doc pm an cdv ct ws hl), F'.ok S len (body f)⟩
end
section
variable {X : Cx} {x : Str} {k j : Nat} {ps ks : List Str} {sp : Sp} {p pos : Pos} {tk : TA} {kws : List Keyword}
def tCallK0 (n : Nat) (g : {α : Type} → List α → List α) (sp : Sp) (tk : TA) : TE := fun σ H Q => tk σ H fun zs H2 => zs.length = n ∧ sp (g zs) H2 Q E0
theorem pe_dK0 {g : {α : Type} → List α → List α} (D : DefK0 X.prog X.w X.K X.mg X.base x k ps ks g sp) (hgv : ∀ {vs : List V} {us : List Value}, Vals vs us → Vals (g vs) (g us)) (hr : Room j X.A) (hk : k ≤ j) (hg : Gl X x) (hkw : PK X kws tk)
    (hall : (backToKw pos (keywordEach kws X.env)).all (·.1.isSome) = true := by rfl) (hks : (backToKw pos (keywordEach kws X.env)).filterMap (·.1) = ks := by rfl)
    (hdb : (x == ("__debug__" : Str)) = false := by decide)
    (hpl : ((backTo pos (starEach [] X.env)).any (·.1) || (backToKw pos (keywordEach kws X.env)).any (·.1.isNone)) = false := by rfl) :
    PE X (.Call (.Name x p) [] kws pos) (tCallK0 ks.length g sp tk) := by
  obtain ⟨f, fd, m, kp, hb, F⟩ := D.ex
  refine ⟨fun pins s σ H Q I h => ?_⟩
  refine wpAny_Call_Name_kw (ld_glob I hg m ?_ hdb)
  refine PySem.W.callWith_KW0 (h₀ := X.base) I.ok.mod.kin kp hall ?_ hpl
  refine thn (hkw.run pos pins s σ H _ I h) fun ws s2 ⟨zs, H2, I2, rz, l, q2⟩ => ⟨I2.kIn, ?_⟩
  rw [hks]
  have r2 := hgv rz
  refine wpAny_call (codeAny_mono (F.run X.A X.stack s2 H2 ⟨[], ks.zip ws⟩ (g ws) (g zs) Q E0 (hr.mono hk) I2.env0 (hb s2 ws I2.kIn (rz.length.symm.trans l)) r2 q2) fun r s' hq => ?_)
  cases r with
  | error e => exact pass0 pins σ H2 s2 e s' I2 hq
  | ok fl =>
    cases fl with
    | ret u => exact I2.after hq
    | next => exact False.elim hq
    | brk => exact False.elim hq
    | cont => exact False.elim hq
end
/-- the third ahead -/
def g201 {α : Type} : List α → List α
  | [a, b, c] => [c, a, b]
  | _ => []
/-- the first behind -/
def g120 {α : Type} : List α → List α
  | [a, b, c] => [b, c, a]
  | _ => []
theorem g201_vals {vs : List V} {us : List Value} (r : Vals vs us) : Vals (g201 vs) (g201 us) := by
  cases r with
  | nil => exact .nil
  | cons r1 r =>
    cases r with
    | nil => exact .nil
    | cons r2 r =>
      cases r with
      | nil => exact .nil
      | cons r3 r =>
        cases r with
        | nil => exact .cons r3 (.cons r1 (.cons r2 .nil))
        | cons r4 r => exact .nil
theorem g120_vals {vs : List V} {us : List Value} (r : Vals vs us) : Vals (g120 vs) (g120 us) := by
  cases r with
  | nil => exact .nil
  | cons r1 r =>
    cases r with
    | nil => exact .nil
    | cons r2 r =>
      cases r with
      | nil => exact .nil
      | cons r3 r =>
        cases r with
        | nil => exact .cons r2 (.cons r3 (.cons r1 .nil))
        | cons r4 r => exact .nil
end Pw

/-! sorted(d.items()) of a dict whose keys are numbers that rise. -/
namespace Pw
open PySem PySem.Spec PyProof.Rows L2 L2.DX

/-- the number that stands first in the tuple at v -/
def fstI (h : Heap) : Value → Int
  | .ref a => match h.get? a with
    | some o => match o.data with
      | .seq xs _ => match (xs[0]? : Option Value) with
        | some (Value.int x _) => x
        | _ => 0
      | _ => 0
    | none => 0
  | _ => 0
/-- a pair of a number and any thing -/
def PairR (h : Heap) (v : Value) (x : Int) (u : Value) : Prop := ∃ a o t n, v = .ref a ∧ h.get? a = some o ∧ o.cls = .type "tuple" ∧ o.data = .seq #[.int x t, u] n
theorem PairR.fst {h : Heap} {v u : Value} {x : Int} (p : PairR h v x u) : fstI h v = x := by
  obtain ⟨a, o, t, n, rfl, ho, hc, hd⟩ := p
  simp only [fstI, ho, hd]
  rfl
theorem PairR.keeps {h h' : Heap} {v u : Value} {x : Int} (p : PairR h v x u) (k : ∀ b o, h.get? b = some o → o.cls = .type "tuple" → h'.get? b = some o) : PairR h' v x u := by
  obtain ⟨a, o, t, n, e, ho, hc, hd⟩ := p
  exact ⟨a, o, t, n, e, k _ _ ho hc, hc, hd⟩
theorem firsts_ofR {h : Heap} : ∀ {vs : List Value}, (∀ v ∈ vs, ∃ x u, PairR h v x u) → ∃ fs : List Value, PySem.W.KatTups h vs fs ∧ fs.length = vs.length ∧ ∀ f ∈ fs, ∃ x t, f = Value.int x t
  | [], _ => ⟨[], PySem.W.KatTups.nil, rfl, fun _ hm => by simp at hm⟩
  | v :: vs, hp => by
    obtain ⟨fs, h1, h2, h3⟩ := firsts_ofR (vs := vs) fun v' hm => hp v' (List.mem_cons_of_mem _ hm)
    obtain ⟨x, u, a, o, t, n, e, ho, hc, hd⟩ := hp v (List.mem_cons_self ..)
    subst e
    refine ⟨.int x t :: fs, PySem.W.KatTups.cons ho hc hd rfl h1, by rw [List.length_cons, List.length_cons, h2], fun f hm => ?_⟩
    rcases List.mem_cons.mp hm with rfl | hm
    · exact ⟨x, t, rfl⟩
    · exact h3 f hm
theorem swo_by (k : Value → Int) : SrtO.Swo fun v u => decide (k v < k u) := by
  refine ⟨fun x y h => ?_, fun x y z h1 h2 => ?_⟩
  · have := of_decide_eq_true h
    exact decide_eq_false (by omega)
  · have a := of_decide_eq_false h1
    have b := of_decide_eq_false h2
    exact decide_eq_false (by omega)
section
variable {prog : Program} {w : World} {A : Around} {s : Shared}
theorem pairR_cmp {vs : List Value} {k : Value → Int} (hp : ∀ v ∈ vs, ∃ u, PairR s.heap v (k v) u) (hi : ∀ v ∈ vs, ∀ u ∈ vs, k v = k u → v = u) :
    SrtO.Cmp prog w A s (tuples' true) (fun p => p.1 ∈ vs) (SrtO.lt2 fun v u => decide (k v < k u)) := by
  intro p q hm hm'
  obtain ⟨y, a, o, t, n, e, ho, hc, hd⟩ := hp _ hm
  obtain ⟨y', a', o', t', n', e', ho', hc', hd'⟩ := hp _ hm'
  have hinj := hi _ hm _ hm'
  show wpAny (model prog w) A (keyLt' (tuples' true) p.1 q.1) (fun r s' => s' = s ∧ r = decide (k p.1 < k q.1)) (fun _ _ => False) s
  generalize k p.1 = x at hd hinj ⊢
  generalize k q.1 = x' at hd' hinj ⊢
  rw [e, e'] at hinj ⊢
  refine PySem.W.kat_lt ho hd ho' hd' ?_
  show PySem.W.KatLex prog w A true (decide (2 < 2)) _ [(.int x t, .int x' t'), (y, y')] 0 s
  refine PySem.W.kat_cons (SeqAt.EqAt.int_int x t x' t' prog w _ _ ?_)
  refine PySem.W.kat_go (fun e1 => ?_) (fun e1 => ?_)
  · have ex : x = x' := by simpa using e1
    have ea := hinj ex
    cases ea
    rw [ho] at ho'
    cases ho'
    rw [hd] at hd'
    injection hd' with h1 h2
    have hy : y = y' := by
      have := congrArg (fun z : Array Value => z[1]?) h1
      simpa using this
    subst hy
    refine PySem.W.kat_yes (PySem.W.kat_cons (SeqAt.EqAt.same y prog w _ _ ?_))
    refine PySem.W.kat_yes (PySem.W.kat_nil ⟨rfl, ?_⟩)
    rw [ex]
    exact (decide_eq_false (Int.lt_irrefl _)).symm
  · exact PySem.W.kat_no (oneLt_int ⟨rfl, rfl⟩)
theorem pairsR_sortable {a : Addr} {vs : List Value} {k : Value → Int} (h0 : 0 < vs.length) (hp : ∀ v ∈ vs, ∃ u, PairR s.heap v (k v) u) (hi : ∀ v ∈ vs, ∀ u ∈ vs, k v = k u → v = u)
    (ha : ∀ o, s.heap.get? a = some o → o.cls ≠ .type "tuple") : SrtO.SortableO prog w A s a vs fun v u => decide (k v < k u) := by
  intro h' keep
  have hp' : ∀ v ∈ vs, ∃ u, PairR h' v (k v) u := fun v hm => let ⟨u, z⟩ := hp v hm; ⟨u, z.keeps fun b o e c => keep b o (fun z => by subst z; exact ha o e c) e⟩
  obtain ⟨fs, h1, h2, h3⟩ := firsts_ofR fun v hm => let ⟨u, z⟩ := hp' v hm; ⟨_, u, z⟩
  refine ⟨tuples' true, fun Q E hq => ?_, pairR_cmp hp' hi⟩
  refine PySem.W.kat_kind (T := .type "int") h1 (by omega) (fun f hm => ?_) (by rfl) ?_
  · obtain ⟨x, t, rfl⟩ := h3 f hm
    exact PySem.W.Looks.now
  · have e : (Value.type "int" != Value.type "tuple") = true := by first | decide +kernel | rfl | decide
    rw [e]
    exact hq
end
theorem perm_rise {α : Type} (f : α → Int) : ∀ (l m : List α), l.Perm m → l.Pairwise (fun a b => f a ≤ f b) → m.Pairwise (fun a b => f a < f b) → l = m
  | [], m, p, _, _ => p.nil_eq
  | y :: l, [], p, _, _ => by cases p.length_eq
  | y :: l, x :: m, p, h1, h2 => by
    have hy : y ∈ x :: m := p.mem_iff.mp (List.mem_cons_self ..)
    have hx : x ∈ y :: l := p.mem_iff.mpr (List.mem_cons_self ..)
    have e : y = x := by
      rcases List.mem_cons.mp hy with e | hy
      · exact e
      · rcases List.mem_cons.mp hx with e | hx
        · exact e.symm
        · have a := (List.pairwise_cons.mp h1).1 x hx
          have b := (List.pairwise_cons.mp h2).1 y hy
          omega
    subst e
    rw [perm_rise f l m p.cons_inv (List.pairwise_cons.mp h1).2 (List.pairwise_cons.mp h2).2]

section
variable {X : Cx}
/-- d.items(), d a dict with number or text keys -/
def rItemsK : V → List V → Hp → VK → Prop := fun x xs H Q => ∃ (a : Addr) (kvs : List (Key × V)), x = .ref a ∧ xs = [] ∧ H a = some (.dK kvs) ∧ ∀ p, H p = none → Q (.ref p) (upd H p (itemsO p a))
theorem mt_itemsK : MtR X "dict.items" rItemsK := by
  intro pins s σ H x xs v us Q I rx rxs h
  obtain ⟨a, kvs, rfl, rfl, ha, q⟩ := h
  cases rx
  cases rxs
  obtain ⟨_, hsys, us, hkv, o, es, ep, h1, h2, h3, _⟩ := (show ObjOk X.prog X.w H s.heap a (.dK kvs) from I.hok a _ ha)
  refine DT.callItems (es := es) (ep := ep) hsys ⟨o, h1, h2, h3⟩ ?_
  have hf : H s.heap.objs.size = none := I.hok.fresh (Nat.le_refl _)
  exact ⟨.ref s.heap.objs.size, upd H s.heap.objs.size (itemsO s.heap.objs.size a), I.laid (t' := s.toks) (fun b u e => Heap.get?_push_of_some _ e) (Nat.le_refl _) (itemsO_ok (Heap.get?_push_size _ rfl)), rfl, q _ hf⟩

/-- sorted(d.items()): the keys are numbers that rise -/
def rSortK : List V → Hp → VK → Prop := fun xs H Q => ∃ (p a : Addr) (kvs : List (Key × V)) (ks : List Int), xs = [.ref p] ∧ H p = some (itemsO p a) ∧ H a = some (.dK kvs) ∧
  kvs.map Prod.fst = ks.map Sum.inl ∧ ks.Pairwise (· < ·) ∧ kvs.length ≤ 1000000 ∧
  ∀ (H' : Hp) (l : Addr) (as : List Addr), Same H H' → H l = none → H' l = some (.lst (as.map V.ref)) → as.length = kvs.length →
    (∀ (j : Nat) (b : Addr) (k : Int) (v : V), as[j]? = some b → kvs[j]? = some (.inl k, v) → H b = none ∧ H' b = some (.tup [.int k, v])) → Q (.ref l) H'
theorem cr_sortK (hc : X.calm = true) : CallR X (.builtin "sorted") rSortK := by
  intro pins s σ H xs us Q I r h
  obtain ⟨p, a, kvs, ks, rfl, hp, ha, hk, hri, hl, q⟩ := h
  obtain rfl := Vals.ref1 r
  have view : s.heap.IsItemsView p a := (show ObjOk X.prog X.w H s.heap p (itemsO p a) from I.hok p _ hp).1
  obtain ⟨_, hsys, ws, hkv, o, es, ep, h1, h2, h3, _, h4, _⟩ := (show ObjOk X.prog X.w H s.heap a (.dK kvs) from I.hok a _ ha)
  obtain ⟨r1, r2⟩ := pairs_keys hkv h4
  have hh : X.A.handled = none := I.ok.hd hc
  have les : es.size = kvs.length := by
    have := r2.length
    simpa using this.symm
  have lks : ks.length = kvs.length := by
    have := congrArg List.length hk
    simpa using this.symm
  have big : (1000000 : Nat) < sizeLine := by decide
  refine DT.sortedI (es := es) (ep := ep) hh view ⟨o, h1, h2, h3⟩ (by omega) fun h' tk as hk' hlt hl' hG => ?_
  have lak : as.length = kvs.length := by omega
  have nd : as.Nodup := List.Pairwise.imp (fun h => Nat.ne_of_lt h) hG.rise
  have pr : ∀ (j : Nat) (b : Addr), as[j]? = some b → ∃ (k : Int) (v : V) (t : Tok) (u : Value), kvs[j]? = some (.inl k, v) ∧ ks[j]? = some k ∧ RelV v u ∧ h'.get? b = some { cls := .type "tuple", data := .seq #[.int k t, u] } := by
    intro j b hj
    obtain ⟨en, he, hg⟩ := hG.pairs j b hj
    have hj2 : j < kvs.length := by rw [← lak]; exact (List.getElem?_eq_some_iff.mp hj).1
    have he' : es.toList[j]? = some en := by rw [Array.getElem?_toList]; exact he
    obtain ⟨u1, hu1, rv1⟩ := r1.get (i := j) (x := kV (kvs[j]).1) (by rw [List.getElem?_map, List.getElem?_eq_getElem hj2]; rfl)
    obtain ⟨u2, hu2, rv2⟩ := r2.get (i := j) (x := (kvs[j]).2) (by rw [List.getElem?_map, List.getElem?_eq_getElem hj2]; rfl)
    rw [List.getElem?_map, he'] at hu1 hu2
    have hkj : ks[j]? = some ks[j] := List.getElem?_eq_getElem (by omega)
    have ek : (kvs[j]).1 = Sum.inl ks[j] := by
      have := congrArg (fun z => z[j]?) hk
      simp only [List.getElem?_map, List.getElem?_eq_getElem hj2, hkj, Option.map_some, Option.some.injEq] at this
      exact this
    cases hu1
    cases hu2
    rw [ek] at rv1
    obtain ⟨t, et⟩ := (show ∃ t, en.key = Value.int ks[j] t from rv1)
    rw [et] at hg
    refine ⟨ks[j], (kvs[j]).2, t, en.val, ?_, hkj, rv2, hg⟩
    rw [List.getElem?_eq_getElem hj2, ← ek]
  have hob : (h'.push { cls := .type "list", data := .seq (as.map Value.ref).toArray }).get? h'.objs.size = some (seqObj "list" (as.map Value.ref).toArray 0) := Heap.get?_push_size _ rfl
  have ne0 : ∀ b o, h'.get? b = some o → b ≠ h'.objs.size := fun b o e => Nat.ne_of_lt (Heap.lt_size e)
  generalize hh2 : h'.push { cls := .type "list", data := .seq (as.map Value.ref).toArray } = h2' at hob ⊢
  have ka : ∀ b o, h'.get? b = some o → h2'.get? b = some o := fun b o e => by rw [← hh2]; exact Heap.get?_push_of_some _ e
  have kb : ∀ b o, s.heap.get? b = some o → h2'.get? b = some o := fun b o e => ka _ _ (hk' _ _ e)
  have pin : ∀ (j : Nat) (b : Addr) (k : Int), as[j]? = some b → ks[j]? = some k → ∃ u, PairR h2' (.ref b) k u := by
    intro j b k hj hkj
    obtain ⟨k', v, t, u, _, e2, _, e4⟩ := pr j b hj
    rw [hkj] at e2
    cases e2
    exact ⟨u, b, _, t, 0, rfl, ka _ _ e4, rfl, rfl⟩
  have fk : ∀ (j : Nat) (b : Addr) (k : Int), as[j]? = some b → ks[j]? = some k → fstI h2' (.ref b) = k := fun j b k hj hkj =>
    let ⟨u, z⟩ := pin j b k hj hkj
    z.fst
  have at_ : ∀ v ∈ as.map Value.ref, ∃ (j : Nat) (b : Addr) (k : Int), v = .ref b ∧ as[j]? = some b ∧ ks[j]? = some k := by
    intro v hv'
    obtain ⟨b, hb, rfl⟩ := List.mem_map.mp hv'
    obtain ⟨j, hj⟩ := List.mem_iff_getElem?.mp hb
    obtain ⟨k, _, _, _, _, e2, _⟩ := pr j b hj
    exact ⟨j, b, k, rfl, hj, e2⟩
  have fits : (as.map Value.ref).length ≤ sizeLine := by rw [List.length_map]; omega
  have ndk : ks.Nodup := List.Pairwise.imp (fun h => Int.ne_of_lt h) hri
  have rise : (as.map Value.ref).Pairwise fun v u => fstI h2' v < fstI h2' u := by
    refine List.pairwise_iff_getElem.mpr fun i j hi hj hij => ?_
    rw [List.length_map] at hi hj
    have hi' : i < ks.length := by omega
    have hj' : j < ks.length := by omega
    rw [List.getElem_map, List.getElem_map, fk i _ ks[i] (List.getElem?_eq_getElem hi) (List.getElem?_eq_getElem hi'), fk j _ ks[j] (List.getElem?_eq_getElem hj) (List.getElem?_eq_getElem hj')]
    exact List.pairwise_iff_getElem.mp hri i j hi' hj' hij
  refine wpAny_call_entry PyProof.Rows.slot_list_sort ⟨_, hob, rfl⟩ PyProof.Rows.entry_list_sort
    (SrtO.list_sort_ord (s := { s with heap := h2', toks := tk }) (swo_by (fstI h2')) hob fits (fun h2 => ?_) fun out g1 g2 => ⟨.none, rfl, ?_⟩) (PyProof.Rows.args_list_sort _)
  · refine pairsR_sortable (s := { s with heap := h2', toks := tk }) (by omega) (fun v hv' => ?_) (fun v hv' u hu' e => ?_) (fun o e => ?_)
    · obtain ⟨j, b, k, rfl, hj, hkj⟩ := at_ v hv'
      rw [fk j b k hj hkj]
      exact pin j b k hj hkj
    · obtain ⟨j, b, k, rfl, hj, hkj⟩ := at_ v hv'
      obtain ⟨j2, b2, k2, rfl, hj2, hkj2⟩ := at_ u hu'
      rw [fk j b k hj hkj, fk j2 b2 k2 hj2 hkj2] at e
      subst e
      have := (List.getElem?_inj (List.getElem?_eq_some_iff.mp hkj).1 ndk).mp (hkj.trans hkj2.symm)
      subst this
      rw [hj] at hj2
      cases hj2
      rfl
    · have e' : some o = some (seqObj "list" (as.map Value.ref).toArray 0) := e.symm.trans hob
      cases e'
      intro c
      exact absurd (Value.type.inj c) (by decide)
  · show EP X pins σ Q (.ref h'.objs.size) { s with heap := sortedHeap h2' h'.objs.size (as.map Value.ref) out.toArray, toks := tk }
    have eo : out = as.map Value.ref := by
      refine perm_rise (fstI h2') _ _ g2.perm (g1.imp fun {x y} z => ?_) rise
      have := of_decide_eq_false z
      omega
    subst eo
    have kF : ∀ b o, b ≠ h'.objs.size → h2'.get? b = some o → (sortedHeap h2' h'.objs.size (as.map Value.ref) (as.map Value.ref).toArray).get? b = some o := fun b o hb e => (PyProof.Rows.sortedHeap_old hb (Heap.lt_size e)).trans e
    have kS : ∀ b o, s.heap.get? b = some o → (sortedHeap h2' h'.objs.size (as.map Value.ref) (as.map Value.ref).toArray).get? b = some o := fun b o e => kF b o (ne0 _ _ (hk' b o e)) (kb b o e)
    obtain ⟨eF, heF⟩ := PyProof.Rows.sortedHeap_at (vs := as.map Value.ref) (out := (as.map Value.ref).toArray) hob
    generalize sortedHeap h2' h'.objs.size (as.map Value.ref) (as.map Value.ref).toArray = h5 at kF kS heF ⊢
    have I1 : Inv X pins σ H { s with heap := h5, toks := tk } := I.kept (t' := tk) kS
    have hn0 : H h'.objs.size = none := I.hok.fresh (Nat.le_of_lt hlt)
    have hlen : (as.map V.ref).length ≤ sizeLine := by rw [List.length_map]; omega
    have rv : Vals (as.map V.ref) (as.map Value.ref) := vals_maps V.ref Value.ref as fun _ _ => rfl
    have I2 : Inv X pins σ (upd H h'.objs.size (.lst (as.map V.ref))) { s with heap := h5, toks := tk } :=
      I1.take (h' := h5) (t' := tk) (fun b ob _ e => e) (I.fpOk (Nat.le_of_lt hlt) hn0) ⟨hlen, as.map Value.ref, eF, rv, by simpa using heF⟩
    obtain ⟨H2, I3, g, qt⟩ := takeT (P := fun b vs => ∃ (j : Nat) (k : Int) (v : V), as[j]? = some b ∧ kvs[j]? = some (.inl k, v) ∧ vs = [.int k, v]) I as _ I2 nd fun b hb => by
      obtain ⟨j, hj⟩ := List.mem_iff_getElem?.mp hb
      obtain ⟨k, v, t, u, e1, _, e3, e4⟩ := pr j b hj
      have hbl : s.heap.objs.size ≤ b := Nat.le_of_lt (hG.above b hb)
      refine ⟨hbl, ?_, [.int k, v], ⟨j, k, v, hj, e1, rfl⟩, fun H3 => ⟨(by show 2 ≤ sizeLine; decide), [Value.int k t, u], .cons ⟨t, rfl⟩ (.cons e3 .nil), ⟨_, kF _ _ (ne0 _ _ e4) (ka _ _ e4), rfl, 0, rfl⟩⟩⟩
      rw [upd_ne (ne0 _ _ e4)]
      exact I.hok.fresh hbl
    have gr : ∀ b o, H b = some o → H2 b = some o := fun b o e => g b o (by rw [upd_ne (ne_of_none e hn0)]; exact e)
    refine ⟨.ref h'.objs.size, H2, I3, rfl, q H2 h'.objs.size as gr hn0 (g _ _ upd_same) lak fun j b k v hj hkv' => ?_⟩
    obtain ⟨vs, ⟨i, k', v', i1, i2, ev⟩, hH⟩ := qt b (List.mem_of_getElem? hj)
    have eij : i = j := (List.getElem?_inj (List.getElem?_eq_some_iff.mp i1).1 nd).mp (i1.trans hj.symm)
    subst eij
    rw [hkv'] at i2
    cases i2
    rw [ev] at hH
    exact ⟨I.hok.fresh (Nat.le_of_lt (hG.above b (List.mem_of_getElem? hj))), hH⟩
end
end Pw

/-! Rows in a list or in a tuple; how lists of rows are shown. -/
namespace Pw
open PySem PySem.Spec PyProof.Rows L2
/-- at a a tuple of tuples -/
def TT {α : Type} (f : α → List V) (H : Hp) (a : Addr) (rs : List α) : Prop := ∃ vs, H a = some (.tup vs) ∧ Al f H vs rs
/-- at a a list or a tuple of tuples -/
def LS {α : Type} (f : α → List V) (H : Hp) (a : Addr) (rs : List α) : Prop := LT f H a rs ∨ TT f H a rs
section
variable {α : Type} {f : α → List V} {H H' : Hp} {K : PySem.W.Frag}
theorem TT.same {a : Addr} {rs : List α} (h : TT f H a rs) (S : Same H H') : TT f H' a rs := let ⟨vs, e, al⟩ := h; ⟨vs, S _ _ e, al.same S⟩
theorem LS.same {a : Addr} {rs : List α} (h : LS f H a rs) (S : Same H H') : LS f H' a rs := h.imp (fun l => l.same S) fun t => t.same S
theorem LT.ls {a : Addr} {rs : List α} (h : LT f H a rs) : LS f H a rs := .inl h
theorem TT.ls {a : Addr} {rs : List α} (h : TT f H a rs) : LS f H a rs := .inr h
/-- rows are shown by their texts, none longer than N -/
def ShR (f : α → List V) (tx : α → Str) (ok : α → Prop) (N : Nat) : Prop :=
  ∀ (K : PySem.W.Frag) (H : Hp) (p : Addr) (r : α), ok r → H p = some (.tup (f r)) → Shw K H (.ref p) 1 N (tx r)
theorem shl_rows {tx : α → Str} {ok : α → Prop} {N : Nat} (S : ShR f tx ok N) {vs : List V} {rs : List α} (h : Al f H vs rs) (ho : ∀ r ∈ rs, ok r) :
    ∃ d, d ≤ 1 ∧ ShwL K H vs d (rs.length * (N + 2)) (rs.map tx) := by
  induction h with
  | nil => exact ⟨0, by decide, by simpa using ShwL.nil⟩
  | @cons p vs r rs e t ih =>
    obtain ⟨d, hd, s⟩ := ih fun r hr => ho r (by simp [hr])
    refine ⟨max 1 d, by omega, ?_⟩
    have := ShwL.cons (S K H p r (ho r (by simp)) e) s
    have e2 : N + 2 + rs.length * (N + 2) = (r :: rs).length * (N + 2) := by
      rw [List.length_cons, Nat.succ_mul]
      omega
    rw [e2] at this
    exact this
/-- a list of rows is shown -/
theorem shw_rows {tx : α → Str} {ok : α → Prop} {N : Nat} (K : PySem.W.Frag) (S : ShR f tx ok N) {a : Addr} {rs : List α} (h : LT f H a rs) (ho : ∀ r ∈ rs, ok r)
    (hl : rs.length * (N + 2) + 2 ≤ sizeLine) : ∃ d n, Shw K H (.ref a) (d + 1) n (listText (rs.map tx)) ∧ n ≤ sizeLine ∧ d + 1 ≤ 60 := by
  obtain ⟨vs, e, al⟩ := h.ex
  obtain ⟨d, hd, s⟩ := shl_rows (K := K) S al ho
  exact ⟨d, _, .lst e s, hl, by omega⟩
theorem sm60 {i : Int} (h : -1000000000000 ≤ i) (k : i ≤ 1000000000000) : i.natAbs.log2 < 1920 := by
  by_cases hz : i.natAbs = 0
  · rw [hz]
    decide
  · rw [Nat.log2_lt hz]
    exact Nat.lt_of_lt_of_le (show i.natAbs < 2 ^ 60 by omega) (Nat.pow_le_pow_right (by decide) (by decide))
/-- what follows two ways that meet -/
theorem seq_join {A B : TS} {D : Ends} {σ : L2.St} {H : Hp} (P : L2.St → Hp → Prop) (h2 : ∀ N' : L2.St → Hp → Prop, (∀ σ' H', P σ' H' → N' σ' H') → A { D with nx := N' } σ H)
    (h1 : ∀ σ' H', P σ' H' → B D σ' H') : tSeq A B D σ H := h2 _ h1
end
end Pw

/-! A list or a tuple, whichever it is: walked along, looked at, asked for its kind. -/
namespace Pw
open PySem PySem.Spec PyProof.Rows L2
theorem Rd_same {H H' : Hp} {a : Addr} {u : HO} (S : Same H H') (r : Rd H a u) : Rd H' a u := r.imp (S _ _) fun ⟨o, e⟩ => ⟨o, S _ _ e⟩
def Sq (K : PySem.W.Frag) (H : Hp) (a : Addr) (xs : List V) : Prop := SqL K H a xs ∨ SqT K H a xs
theorem Sq.same {K : PySem.W.Frag} {H H' : Hp} {a : Addr} {xs : List V} (h : Sq K H a xs) (S : Same H H') : Sq K H' a xs := h.imp (fun z => Same.seq S z) fun z => z.imp (fun r => Rd_same S r) id
/-- what a walk over a list or a tuple asks -/
def iSq (K : PySem.W.Frag) (tl : TE) : TI := fun σ H R => tl σ H fun x H1 => ∃ a xs, x = .ref a ∧ Sq K H1 a xs ∧
  ∀ (J : It) (G : Hp → Prop), (∀ H', Same H1 H' → G H') → Walk J xs.length G (YAt xs) → R J H1
theorem pi_sq {X : Cx} {tg l : Expr} {tl : TE} (hl : PE X l tl) : PI X tg l (iSq X.K tl) := by
  refine ⟨fun pins s σ H R I h => ?_⟩
  refine thn (hl.run pins s σ H _ I h) fun v s1 hv => ?_
  obtain ⟨x, H1, I1, r1, a, xs, rfl, hs, q⟩ := hv
  obtain rfl : v = Value.ref a := r1
  rcases hs with hq | hq
  · obtain ⟨its, rv, p, hz⟩ := I1.list hq
    refine wpAny_pyIter_list (PlainL.isList p) ⟨s1.heap.objs.size, [s1.heap.objs.size], fun i h => h.IsListIter s1.heap.objs.size a i, Itl X.K a, H1, rfl, I1.kept fun b o e => Heap.get?_push_of_some _ e, turn_list a _,
      ⟨_, Heap.get?_push_size _ rfl, rfl, rfl⟩, fun b hb => ?_, q _ (fun H => SqL X.K H a xs) (fun H' S => Same.seq S hq) walk_list⟩
    rw [List.mem_singleton.mp hb]
    exact I1.fpOk (Nat.le_refl _) (HOk.fresh I1.hok (Nat.le_refl _))
  · obtain ⟨its, rv, p, hz⟩ := I1.tuple hq
    refine wpAny_pyIter_tuple p ⟨s1.heap.objs.size, [s1.heap.objs.size], fun i h => h.IsTupleIter s1.heap.objs.size a i, Itt X.K a, H1, rfl, I1.kept fun b o e => Heap.get?_push_of_some _ e, turn_tuple a _,
      ⟨_, Heap.get?_push_size _ rfl, rfl, rfl⟩, fun b hb => ?_, q _ (fun H => SqT X.K H a xs) (fun H' S => hq.imp (fun r => Rd_same S r) id) walk_tup⟩
    rw [List.mem_singleton.mp hb]
    exact I1.fpOk (Nat.le_refl _) (HOk.fresh I1.hok (Nat.le_refl _))
/-- its kind -/
theorem Sq.ty {K : PySem.W.Frag} {H : Hp} {a : Addr} {xs : List V} (h : Sq K H a xs) : ∃ t, TyX K H (.ref a) t ∧ PySem.W.kitAny K t [.type "list", .type "tuple"] = some true := by
  rcases h with h | h
  · rcases h with h | ⟨o, its, n, e, c, _⟩
    · rcases h with e | ⟨o, e⟩
      · exact ⟨_, .base (.lst e), kit_lt_list⟩
      · exact ⟨_, .base (.frz e), kit_lt_list⟩
    · exact ⟨_, .kList e c, kit_lt_list⟩
  · rcases h with h | ⟨o, its, n, e, c, _⟩
    · rcases h with e | ⟨o, e⟩
      · exact ⟨_, .base (.tup e), kit_lt_tuple⟩
      · exact ⟨_, .fTuple e, kit_lt_tuple⟩
    · exact ⟨_, .kTuple e c, kit_lt_tuple⟩
end Pw

/-! Set comprehensions of texts and numbers; len of such a set. -/
namespace Pw
open PySem PySem.Spec PyProof.Rows L2
def tScK (P : Program) (w : World) (wi : TI) (g : TG) (tt : L2.TT) (te : TE) (vs : List Nat) : TE := fun σ H Q => wi σ H fun J H1 => ∀ D, H1 D = none →
  ∃ W : Nat → Nat → Hp → Prop, (∃ m, W 0 m (upd H1 D (SetK P w D (fun _ => false) 0))) ∧ ∀ i m H, W i m H → (J.stop i H ∧ Q (.ref D) H) ∨
    (J.go i H ∧ ∃ Nx : Hp → Prop, (∀ H', Nx H' → ∃ m', m' < m ∧ W (i + 1) m' H') ∧ ∀ x H', J.yld i H x H' → g x (wipe σ vs) H' fun σ2 H2 => wipe σ2 vs = wipe σ vs ∧ tt σ2 H2 fun b H3 =>
      if b = true then te σ2 H3 fun y H4 => ∃ (k : Key) (S : Key → Bool) (n : Nat), y = kV k ∧ H4 D = some (SetK P w D S n) ∧ n + 1 < scanBound ∧
        Nx (upd H4 D (SetK P w D (fun j => S j || decide (j = k)) (if S k = true then n else n + 1))) else Nx H3)
theorem setOf_fresh {P : Program} {w : World} {h : Heap} :
    Heap.SetOf (mixKind P w) (h.push { cls := Value.type "set", data := Data.set #[] 0 (SetTable.fresh 0 0 !w.params.followText "set-order") }) h.objs.size (fun _ => false) 0 := by
  refine ⟨_, #[], 0, _, Heap.get?_push_size _ rfl, ⟨rfl, rfl, rfl⟩, rfl, ?_, ?_, ?_, ?_, rfl⟩
  · intro e h
    cases h
  · intro k
    simp
  · decide
  · cases (!w.params.followText "set-order") <;> rfl
section
variable {X : Cx} {pins : List (Addr × Obj)} {s : Shared} {σ : L2.St} {H : Hp} {Q : VK} {elt tg iter : Expr}
  {ifs : List Expr} {scope : Scope} {own : List (Str × Nat)} {pos pos' : Pos} {wi : TI} {g : TG}
  {tt : L2.TT} {te : TE} {use : Option (Value → Sem Unit)} {Qf : Value → Shared → Prop}
theorem scK_core (hc : X.calm = true) (hN : X.N.Nodup) (I : Inv X pins σ H s) (hi : PI X tg iter wi) (ok : BlkOk X.N X.env.scope scope own)
    (hg : ∀ (s : Shared) (H : Hp) (C : Addr) (cl : List (Str × Addr)) (fp : List Addr), PG (X.blk s H scope (compEnvC scope cl C X.env) fp) tg g)
    (ht : ∀ (s : Shared) (H : Hp) (C : Addr) (cl : List (Str × Addr)) (fp : List Addr), PTs (X.blk s H scope (compEnvC scope cl C X.env) fp) ifs tt)
    (he : ∀ (s : Shared) (H : Hp) (C : Addr) (cl : List (Str × Addr)) (fp : List Addr), PE (X.blk s H scope (compEnvC scope cl C X.env) fp) elt te)
    (hs : ∀ x : Value, foldedSetIterable iter X.env x = pure x) (h : tScK X.prog X.w wi g tt te (own.map (·.2)) σ H Q)
    (hRR : ∀ (D C : Addr) (s' : Shared) (m : Str → Option Value) (H' : Hp), Inv X pins σ H' s' → Q (.ref D) H' → s'.heap.Ns C m → FpOk X pins H' C →
      compPost (model X.prog X.w) X.A X.xe use Qf (.ref D) C (.ok .next) s') :
    wpAny (model X.prog X.w) X.A (comprehension (elt.SetComp [{ target := tg, iter := iter, ifs := ifs, is_async := 0 }] scope pos) scope X.env pos' (newSet (.type "set")) false (eval iter X.env) use) Qf X.xe s := by
  have hfree : ∀ y ∈ scope.names, y.2 = NameKind.free → ∃ c, List.lookup y.1 X.env.cells = some c := fun y hy e => by
    rcases ok.free y hy e with k | k
    · exact I.ok.has y.1 (Or.inl k)
    · exact I.ok.has y.1 (Or.inr k)
  refine wpAny_comprehension_free rfl hs (closure_ok hfree) ok.kind (fun y hy e => by rw [ok.uniq y hy, e]) ?_
  refine thn (hi.run pins s σ H _ I h) fun xv s1 hx => thn hx fun itv s2 h2 => ?_
  obtain ⟨it, fp, tn, J, H2, rfl, I2, T, st2, f2, q⟩ := h2
  refine PpSet.newSet_ok (newEnv_comp ?_)
  have hDn := HOk.fresh I2.hok (Nat.le_of_eq (Eq.refl s2.heap.objs.size))
  obtain ⟨W, ⟨m0, w0⟩, turn⟩ := q s2.heap.objs.size hDn
  generalize es3 : ({ heap := s2.heap.push { cls := Value.type "set", data := Data.set #[] 0 (SetTable.fresh 0 0 !X.w.params.followText "set-order") }, gens := s2.gens, drawn := s2.drawn, toks := s2.toks, os := s2.os } : Shared) = s3
  have eh3 : s3.heap = s2.heap.push { cls := Value.type "set", data := Data.set #[] 0 (SetTable.fresh 0 0 !X.w.params.followText "set-order") } := by rw [← es3]
  have I3 : Inv X pins σ (upd H2 s2.heap.objs.size (SetK X.prog X.w s2.heap.objs.size (fun _ => false) 0)) s3 := by
    rw [← es3]
    exact I2.laid (fun b o e => Heap.get?_push_of_some _ e) (Nat.le_of_eq rfl) (setK_new setOf_fresh)
  generalize hH3 : upd H2 s2.heap.objs.size (SetK X.prog X.w s2.heap.objs.size (fun _ => false) 0) = H3 at *
  have sz : ∀ b ∈ fp, b < s2.heap.objs.size := fun b hb => by
    obtain ⟨o, e, _⟩ := T.obj 0 s2.heap st2 b hb
    exact Heap.lt_size e
  have f3 : ∀ b ∈ fp, FpOk X pins H3 b ∧ b < s3.heap.objs.size := fun b hb => by
    have hlt := sz b hb
    refine ⟨⟨?_, (f2 b hb).2⟩, ?_⟩
    · rw [← hH3, upd_ne (Nat.ne_of_lt hlt)]
      exact (f2 b hb).1
    · rw [eh3, Heap.size_push]
      exact Nat.lt_succ_of_lt hlt
  have st3 : tn 0 s3.heap := T.keep 0 s2.heap s3.heap st2 fun b _ o e => by
    rw [eh3]
    exact Heap.get?_push_of_some _ e
  have I4 := block_start I3 ok hN f3
  have pg := hg s3 H3 s3.heap.objs.size (cellsFrom (s3.heap.objs.size + 1) scope.names (cloFrom X.env.cells scope.names [])) fp
  have pt := ht s3 H3 s3.heap.objs.size (cellsFrom (s3.heap.objs.size + 1) scope.names (cloFrom X.env.cells scope.names [])) fp
  have pe := he s3 H3 s3.heap.objs.size (cellsFrom (s3.heap.objs.size + 1) scope.names (cloFrom X.env.cells scope.names [])) fp
  have nfp : ∀ b ∈ fp, H3 b = none := fun b hb => (f3 b hb).1.1
  generalize eCe : cellsFrom (s3.heap.objs.size + 1) scope.names (cloFrom X.env.cells scope.names []) = ce at *
  generalize eDN : s3.heap.objs.size = DN at *
  have stat : ∀ {σ' : L2.St} {H' : Hp} {s' : Shared}, Inv (X.blk s3 H3 scope (compEnvC scope ce DN X.env) fp) [] σ' H' s' → (∀ b ∈ fp, H' b = none) → ∀ b ∈ fp, FpOk (X.blk s3 H3 scope (compEnvC scope ce DN X.env) fp) [] H' b := fun {σ' H' s'} I' hn b hb =>
    ⟨hn b hb, (I'.ok.exf b hb).1, I'.ok.exfs b hb, .inl hb, fun x c e => (I'.ok.exf b hb).2 x c e, fun p hp => absurd hp (by simp)⟩
  have st4 : tn 0 (pushCells (s3.heap.push { cls := Value.type "dict", data := Data.dict #[] }) scope.names) := T.keep 0 s3.heap _ st3 fun b _ o e => pushCells_keeps _ _ _ _ (Heap.get?_push_of_some _ e)
  have loop : codeAny (model X.prog X.w) X.A (Code.compLoop (elt.SetComp [{ target := tg, iter := iter, ifs := ifs, is_async := 0 }] scope pos) 0 (.ref it) (.ref s2.heap.objs.size) (compEnvC scope ce DN X.env))
      (compPost (model X.prog X.w) X.A X.xe use Qf (.ref s2.heap.objs.size) DN)
      { heap := pushCells (s3.heap.push { cls := Value.type "dict", data := Data.dict #[] }) scope.names, gens := s3.gens, drawn := s3.drawn, toks := s3.toks, os := s3.os } := by
    refine PpSet.compLoopS_any (fun n s' => ∃ i H', Inv (X.blk s3 H3 scope (compEnvC scope ce DN X.env) fp) [] (wipe σ (own.map (·.2))) H' s' ∧ tn i s'.heap ∧ (∀ b ∈ fp, H' b = none) ∧ W i n H') ?_ m0 ⟨0, H3, I4, st4, nfp, w0⟩
    rintro n s5 ⟨i, H5, I5, st5, n5, w5⟩
    rcases turn i n H5 w5 with ⟨stop, qq⟩ | ⟨go, Nx, hNx, step⟩
    · have td := T.done (X.blk s3 H3 scope (compEnvC scope ce DN X.env) fp) rfl rfl rfl hc i [] s5 _ H5 (fun _ _ => False) I5 (stat I5 n5) st5 stop
      refine thnF td fun r s6 h6 => ?_
      obtain ⟨rfl, I6⟩ := h6
      have I7 := Inv.call' I3 I6.os I6.base I6.hok I6.bare fun b hb => ⟨(f3 b hb).1.2.2.2.1, (f3 b hb).1.2.1, (f3 b hb).1.2.2.2.2.1, (f3 b hb).1.2.2.2.2.2⟩
      have nC : H5 DN = none := I6.free
      obtain ⟨m, hn, _⟩ := I6.loc
      exact hRR s2.heap.objs.size DN s6 m H5 I7 qq hn (I3.fpOk (Nat.le_of_eq eDN) nC)
    · have ti := T.item (X.blk s3 H3 scope (compEnvC scope ce DN X.env) fp) rfl rfl rfl hc i [] s5 _ H5 (fun _ _ => False) I5 (stat I5 n5) st5 go
      refine thnF ti fun r s6 h6 => ?_
      obtain ⟨u, rfl, h6⟩ := h6
      refine thnF h6 fun _ s7 h7 => ?_
      obtain ⟨x, H7, I7, r7, y7, st7, n7⟩ := h7
      have I7' := Inv.pinned I7 (stat I7 n7) (T.obj (i + 1) s7.heap st7)
      refine thnF (pg.run ([] ++ pinsAt fp s7.heap) s7 _ H7 x u _ I7' r7 (step x H7 y7)) fun _ s8 h8 => ?_
      obtain ⟨σ8, H8, I8, hw8, q8⟩ := h8
      have fin : ∀ {H' : Hp} {s' : Shared}, Inv (X.blk s3 H3 scope (compEnvC scope ce DN X.env) fp) ([] ++ pinsAt fp s7.heap) σ8 H' s' → Nx H' → ∃ m, m < n ∧ ∃ i H', Inv (X.blk s3 H3 scope (compEnvC scope ce DN X.env) fp) [] (wipe σ (own.map (·.2))) H' s' ∧ tn i s'.heap ∧ (∀ b ∈ fp, H' b = none) ∧ W i m H' := fun {H' s'} I' nx => by
        obtain ⟨m', hm, w'⟩ := hNx H' nx
        have z : ∀ b ∈ fp, ∀ o, s7.heap.get? b = some o → s'.heap.get? b = some o ∧ H' b = none := fun b hb o e => by
          have z := I'.pin (b, o) (List.mem_append_right _ (mem_pinsAt hb e))
          exact ⟨z.1, z.2.1⟩
        have hl : (wipe σ (own.map (·.2))).length = σ8.length := by rw [← hw8, wipe_length]
        refine ⟨m', hm, i + 1, H', Inv.weak (Inv.unpinned I') hl (fun j v e => (wipe_some (by rw [hw8]; exact e)).1), T.keep (i + 1) s7.heap s'.heap st7 (fun b hb o e => (z b hb o e).1), fun b hb => ?_, w'⟩
        obtain ⟨o, e, _⟩ := T.obj (i + 1) s7.heap st7 b hb
        exact (z b hb o e).2
      refine thnF (pt.run ([] ++ pinsAt fp s7.heap) s8 σ8 H8 _ I8 q8) fun b s9 h9 => ?_
      obtain ⟨H9, I9, q9⟩ := h9
      cases b with
      | false => exact fin I9 q9
      | true =>
        refine thnF (pe.run ([] ++ pinsAt fp s7.heap) s9 σ8 H9 _ I9 q9) fun yv s10 h10 => ?_
        obtain ⟨y, H10, I10, r10, k, S, nn, rfl, hD10, hz10, nx⟩ := h10
        have ad := mt_saddK (X := (X.blk s3 H3 scope (compEnvC scope ce DN X.env) fp)) ([] ++ pinsAt fp s7.heap) s10 σ8 H10 (.ref s2.heap.objs.size) [kV k] (.ref s2.heap.objs.size) [yv] (fun _ H' => Nx H') I10 rfl (.cons r10 .nil) ⟨_, k, S, nn, rfl, rfl, hD10, hz10, nx⟩
        refine thnF ad fun _ s11 h11 => ?_
        obtain ⟨_, H11, I11, _, nx'⟩ := h11
        exact fin I11 nx'
  subst eCe
  subst eDN
  exact PpSet.codeAny_compStart_set loop (T.self X.A 0 _ _ _ st4 loop)
theorem pe_scK (hc : X.calm = true) (hN : X.N.Nodup) (hi : PI X tg iter wi) (ok : BlkOk X.N X.env.scope scope own)
    (hg : ∀ (s : Shared) (H : Hp) (C : Addr) (cl : List (Str × Addr)) (fp : List Addr), PG (X.blk s H scope (compEnvC scope cl C X.env) fp) tg g)
    (ht : ∀ (s : Shared) (H : Hp) (C : Addr) (cl : List (Str × Addr)) (fp : List Addr), PTs (X.blk s H scope (compEnvC scope cl C X.env) fp) ifs tt)
    (he : ∀ (s : Shared) (H : Hp) (C : Addr) (cl : List (Str × Addr)) (fp : List Addr), PE (X.blk s H scope (compEnvC scope cl C X.env) fp) elt te)
    (hs : ∀ x : Value, foldedSetIterable iter X.env x = pure x := by intro x; rfl) :
    PE X (.SetComp elt [⟨tg, iter, ifs, 0⟩] scope pos) (tScK X.prog X.w wi g tt te (own.map (·.2))) := by
  refine ⟨fun pins s σ H Q I h => ?_⟩
  rw [PpSet.eval_SetComp]
  refine scK_core hc hN I hi ok hg ht he hs h fun D C s' m H' I' q hn hf => ?_
  refine ⟨m, hn, fun h' hb => ⟨.ref D, H', ?_, rfl, q⟩⟩
  exact I'.turned (it := C) (fun b o n e => (hb.2 b n).trans e) hf.1 hf.2.1 hf.2.2.2.1 hf.2.2.2.2.1 hf.2.2.2.2.2
/-- len of a set of texts or numbers -/
def rLenSK (P : Program) (w : World) : List V → Hp → VK → Prop := fun xs H Q => ∃ (a : Addr) (S : Key → Bool) (n : Nat), xs = [V.ref a] ∧ H a = some (SetK P w a S n) ∧ Q (.int (n : Int)) H
theorem call_lenSK {X : Cx} : CallR X (.builtin "len") (rLenSK X.prog X.w) := by
  intro pins s σ H xs us Q I r h
  obtain ⟨a, S, n, rfl, e, q⟩ := h
  obtain ⟨u, rfl, ru⟩ := vals1 r
  obtain rfl : u = Value.ref a := ru
  obtain ⟨o, es, ep, t, ho, hx, hd, he, hS, hsz, hf, rfl⟩ := setK_get I e
  refine call_len_set ho hx hd hf ?_ ?_
  · exact Int.lt_of_lt_of_le (Int.ofNat_lt.mpr hsz) (by decide)
  · exact ⟨.int (es.size : Int), H, I.tok _, ⟨_, rfl⟩, q⟩
end
end Pw

namespace V51
open PySem PySem.Spec PyProof.Rows L2 Pw
def top (i : Nat) : Stmt := PySem.Challenge.pw_panelwatch_k51_whole_spans_tick_by_tick.main.body.getD i (.Pass ⟨0, 0, 0, 0⟩)
abbrev sWall : Stmt := top 0
theorem scWall : FnScope ["k"] ["k"] (defScope sWall) := ⟨rfl, rfl, rfl, by decide +kernel, rfl, by decide +kernel, by decide +kernel⟩
abbrev sIsNumber : Stmt := top 24
theorem scIsNumber : FnScope ["thing"] ["thing"] (defScope sIsNumber) := ⟨rfl, rfl, rfl, by decide +kernel, rfl, by decide +kernel, by decide +kernel⟩
abbrev sCheckNumber : Stmt := top 25
theorem scCheckNumber : FnScope ["thing"] ["thing"] (defScope sCheckNumber) := ⟨rfl, rfl, rfl, by decide +kernel, rfl, by decide +kernel, by decide +kernel⟩
abbrev sIsWhole : Stmt := top 26
theorem scIsWhole : FnScope ["thing", "low", "high"] ["thing", "low", "high"] (defScope sIsWhole) := ⟨rfl, rfl, rfl, by decide +kernel, rfl, by decide +kernel, by decide +kernel⟩
abbrev sIsName : Stmt := top 27
theorem scIsName : FnScope ["thing", "sign"] ["thing"] (defScope sIsName) := ⟨rfl, rfl, rfl, by decide +kernel, rfl, by decide +kernel, by decide +kernel⟩
abbrev sIsTime : Stmt := top 28
theorem scIsTime : FnScope ["thing"] ["thing"] (defScope sIsTime) := ⟨rfl, rfl, rfl, by decide +kernel, rfl, by decide +kernel, by decide +kernel⟩
abbrev sIsMark : Stmt := top 29
theorem scIsMark : FnScope ["thing"] ["thing"] (defScope sIsMark) := ⟨rfl, rfl, rfl, by decide +kernel, rfl, by decide +kernel, by decide +kernel⟩
abbrev sIsOneOf : Stmt := top 30
theorem scIsOneOf : FnScope ["thing", "words"] ["thing", "words"] (defScope sIsOneOf) := ⟨rfl, rfl, rfl, by decide +kernel, rfl, by decide +kernel, by decide +kernel⟩
abbrev sIsTuple : Stmt := top 31
theorem scIsTuple : FnScope ["thing", "many"] ["thing", "many"] (defScope sIsTuple) := ⟨rfl, rfl, rfl, by decide +kernel, rfl, by decide +kernel, by decide +kernel⟩
abbrev sIsList : Stmt := top 32
theorem scIsList : FnScope ["thing", "least", "most"] ["thing", "least", "most"] (defScope sIsList) := ⟨rfl, rfl, rfl, by decide +kernel, rfl, by decide +kernel, by decide +kernel⟩
abbrev sIsListOf : Stmt := top 33
theorem scIsListOf : FnScope ["fits", "thing", "least", "most", "part"] ["fits", "thing", "least", "most"] (defScope sIsListOf) := ⟨rfl, rfl, rfl, by decide +kernel, rfl, by decide +kernel, by decide +kernel⟩
abbrev sIsRising : Stmt := top 34
theorem scIsRising : FnScope ["numbers", "one", "other"] ["numbers"] (defScope sIsRising) := ⟨rfl, rfl, rfl, by decide +kernel, rfl, by decide +kernel, by decide +kernel⟩
abbrev sCheckTime : Stmt := top 35
theorem scCheckTime : FnScope ["thing"] ["thing"] (defScope sCheckTime) := ⟨rfl, rfl, rfl, by decide +kernel, rfl, by decide +kernel, by decide +kernel⟩
abbrev sIsLevel : Stmt := top 42
theorem scIsLevel : FnScope ["thing"] ["thing"] (defScope sIsLevel) := ⟨rfl, rfl, rfl, by decide +kernel, rfl, by decide +kernel, by decide +kernel⟩
abbrev sIsPointShape : Stmt := top 43
theorem scIsPointShape : FnScope ["thing", "name", "place", "kind"] ["thing"] (defScope sIsPointShape) := ⟨rfl, rfl, rfl, by decide +kernel, rfl, by decide +kernel, by decide +kernel⟩
abbrev sIsRuleShape : Stmt := top 44
theorem scIsRuleShape : FnScope ["thing", "name", "point", "word", "limit", "back", "hold", "rank"] ["thing"] (defScope sIsRuleShape) := ⟨rfl, rfl, rfl, by decide +kernel, rfl, by decide +kernel, by decide +kernel⟩
abbrev sIsCauseShape : Stmt := top 45
theorem scIsCauseShape : FnScope ["thing", "cause", "effect", "within"] ["thing"] (defScope sIsCauseShape) := ⟨rfl, rfl, rfl, by decide +kernel, rfl, by decide +kernel, by decide +kernel⟩
abbrev sIsLockShape : Stmt := top 46
theorem scIsLockShape : FnScope ["thing", "point", "word", "limit"] ["thing"] (defScope sIsLockShape) := ⟨rfl, rfl, rfl, by decide +kernel, rfl, by decide +kernel, by decide +kernel⟩
abbrev sIsCommandShape : Stmt := top 47
theorem scIsCommandShape : FnScope ["thing", "name", "point", "worth", "locks"] ["thing"] (defScope sIsCommandShape) := ⟨rfl, rfl, rfl, by decide +kernel, rfl, by decide +kernel, by decide +kernel⟩
abbrev sIsRelationShape : Stmt := top 48
theorem scIsRelationShape : FnScope ["thing", "word", "first", "rest"] ["thing"] (defScope sIsRelationShape) := ⟨rfl, rfl, rfl, by decide +kernel, rfl, by decide +kernel, by decide +kernel⟩
abbrev sPointsOfRelation : Stmt := top 49
theorem scPointsOfRelation : FnScope ["relation", "word", "first", "rest"] ["relation"] (defScope sPointsOfRelation) := ⟨rfl, rfl, rfl, by decide +kernel, rfl, by decide +kernel, by decide +kernel⟩
abbrev sIsRow : Stmt := top 51
theorem scIsRow : FnScope ["thing", "time", "worth", "mark"] ["thing"] (defScope sIsRow) := ⟨rfl, rfl, rfl, by decide +kernel, rfl, by decide +kernel, by decide +kernel⟩
abbrev sIsHistory : Stmt := top 52
theorem scIsHistory : FnScope ["thing", "row"] ["thing"] (defScope sIsHistory) := ⟨rfl, rfl, rfl, by decide +kernel, rfl, by decide +kernel, by decide +kernel⟩
abbrev sRowAt : Stmt := top 53
theorem scRowAt : FnScope ["history", "at", "row"] ["history", "at"] (defScope sRowAt) := ⟨rfl, rfl, rfl, by decide +kernel, rfl, by decide +kernel, by decide +kernel⟩
abbrev sByName : Stmt := top 61
theorem scByName : FnScope ["rows", "row"] ["rows"] (defScope sByName) := ⟨rfl, rfl, rfl, by decide +kernel, rfl, by decide +kernel, by decide +kernel⟩
abbrev sIsWorthOf : Stmt := top 62
theorem scIsWorthOf : FnScope ["point", "thing"] ["point", "thing"] (defScope sIsWorthOf) := ⟨rfl, rfl, rfl, by decide +kernel, rfl, by decide +kernel, by decide +kernel⟩
abbrev sCheckPoints : Stmt := top 63
theorem scCheckPoints : FnScope ["points", "many", "name", "_", "place"] ["points"] (defScope sCheckPoints) := ⟨rfl, rfl, rfl, by decide +kernel, rfl, by decide +kernel, by decide +kernel⟩
abbrev sCheckEachOnce : Stmt := top 64
theorem scCheckEachOnce : FnScope ["names", "at", "name"] ["names"] (defScope sCheckEachOnce) := ⟨rfl, rfl, rfl, by decide +kernel, rfl, by decide +kernel, by decide +kernel⟩
abbrev sCheckRules : Stmt := top 65
theorem scCheckRules : FnScope ["rules", "points", "ahead", "rule", "name", "point"] ["rules", "points"] (defScope sCheckRules) := ⟨rfl, rfl, rfl, by decide +kernel, rfl, by decide +kernel, by decide +kernel⟩
abbrev sCheckCauses : Stmt := top 66
theorem scCheckCauses : FnScope ["causes", "rules", "ahead", "cause", "effect", "_", "name"] ["causes", "rules"] (defScope sCheckCauses) := ⟨rfl, rfl, rfl, by decide +kernel, rfl, by decide +kernel, by decide +kernel⟩
abbrev sLeadsToItself : Stmt := top 67
theorem scLeadsToItself : FnScope ["name", "causes", "reached", "steps", "step", "cause", "effect", "_"] ["name", "causes"] (defScope sLeadsToItself) := ⟨rfl, rfl, rfl, by decide +kernel, rfl, by decide +kernel, by decide +kernel⟩
abbrev sCheckCommands : Stmt := top 68
theorem scCheckCommands : FnScope ["commands", "points", "ahead", "name", "point", "worth", "locks"] ["commands", "points"] (defScope sCheckCommands) := ⟨rfl, rfl, rfl, by decide +kernel, rfl, by decide +kernel, by decide +kernel⟩
abbrev sCheckLocks : Stmt := top 69
theorem scCheckLocks : FnScope ["locks", "place", "points", "point", "_"] ["locks", "place", "points"] (defScope sCheckLocks) := ⟨rfl, rfl, rfl, by decide +kernel, rfl, by decide +kernel, by decide +kernel⟩
abbrev sCheckRelations : Stmt := top 70
theorem scCheckRelations : FnScope ["relations", "points", "relation", "names", "name"] ["relations", "points"] (defScope sCheckRelations) := ⟨rfl, rfl, rfl, by decide +kernel, rfl, by decide +kernel, by decide +kernel⟩
abbrev sCheckWorks : Stmt := top 73
theorem scCheckWorks : FnScope ["thing"] ["thing"] (defScope sCheckWorks) := ⟨rfl, rfl, rfl, by decide +kernel, rfl, by decide +kernel, by decide +kernel⟩
abbrev sRelationHolds : Stmt := top 74
theorem scRelationHolds : FnScope ["relation", "worths", "name", "word", "first", "rest"] ["relation", "worths"] (defScope sRelationHolds) := ⟨rfl, rfl, rfl, by decide +kernel, rfl, by decide +kernel, by decide +kernel⟩
abbrev sBroken : Stmt := top 77
theorem scBroken : FnScope ["works", "picture"] ["works", "picture"] (defScope sBroken) := ⟨rfl, rfl, rfl, by decide +kernel, rfl, by decide +kernel, by decide +kernel⟩
abbrev sCheckPicture : Stmt := top 78
theorem scCheckPicture : FnScope ["works", "thing", "name"] ["works", "thing"] (defScope sCheckPicture) := ⟨rfl, rfl, rfl, by decide +kernel, rfl, by decide +kernel, by decide +kernel⟩
abbrev sBrokenIn : Stmt := top 79
theorem scBrokenIn : FnScope ["relations", "picture", "at", "relation"] ["relations", "picture"] (defScope sBrokenIn) := ⟨rfl, rfl, rfl, by decide +kernel, rfl, by decide +kernel, by decide +kernel⟩
abbrev sPictureAt : Stmt := top 80
theorem scPictureAt : FnScope ["works", "histories", "time"] ["works", "histories", "time"] (defScope sPictureAt) := ⟨rfl, rfl, rfl, by decide +kernel, rfl, by decide +kernel, by decide +kernel⟩
abbrev sCheckHistories : Stmt := top 81
theorem scCheckHistories : FnScope ["works", "thing", "name"] ["works", "thing"] (defScope sCheckHistories) := ⟨rfl, rfl, rfl, by decide +kernel, rfl, by decide +kernel, by decide +kernel⟩
abbrev sIsHistoryOf : Stmt := top 82
theorem scIsHistoryOf : FnScope ["works", "name", "thing", "_", "worth"] ["works", "name", "thing"] (defScope sIsHistoryOf) := ⟨rfl, rfl, rfl, by decide +kernel, rfl, by decide +kernel, by decide +kernel⟩
abbrev sPictureIn : Stmt := top 83
theorem scPictureIn : FnScope ["works", "histories", "time", "picture", "name", "_", "row"] ["works", "histories", "time"] (defScope sPictureIn) := ⟨rfl, rfl, rfl, by decide +kernel, rfl, by decide +kernel, by decide +kernel⟩
abbrev sSpans : Stmt := top 84
theorem scSpans : FnScope ["works", "histories", "since", "till", "relations", "found", "first", "last", "numbers"] ["works", "histories", "since", "till"] (defScope sSpans) := ⟨rfl, rfl, rfl, by decide +kernel, rfl, by decide +kernel, by decide +kernel⟩
abbrev sStretches : Stmt := top 85
theorem scStretches : FnScope ["histories", "since", "till", "times", "firsts", "rows", "time", "_", "first"] ["histories", "since", "till"] (defScope sStretches) := ⟨rfl, rfl, rfl, by decide +kernel, rfl, by decide +kernel, by decide +kernel⟩
abbrev sAddSpan : Stmt := top 86
theorem scAddSpan : FnScope ["found", "span", "first", "last", "numbers"] ["found", "span"] (defScope sAddSpan) := ⟨rfl, rfl, rfl, by decide +kernel, rfl, by decide +kernel, by decide +kernel⟩
abbrev sLawCell : Stmt := top 88
theorem scLawCell : FnScope ["_law_script", "_law_k"] ["_law_script", "_law_k"] (defScope sLawCell) := ⟨rfl, rfl, rfl, by decide +kernel, rfl, by decide +kernel, by decide +kernel⟩
abbrev sLawBox : Stmt := top 89
theorem scLawBox : FnScope ["_law_cell_here"] ["_law_cell_here"] (defScope sLawBox) := ⟨rfl, rfl, rfl, by decide +kernel, rfl, by decide +kernel, by decide +kernel⟩
abbrev sLawTake : Stmt := top 90
theorem scLawTake : FnScope ["_law_box_here", "_law_many", "_law_digit", "_law_number"] ["_law_box_here", "_law_many"] (defScope sLawTake) := ⟨rfl, rfl, rfl, by decide +kernel, rfl, by decide +kernel, by decide +kernel⟩
abbrev sLawNames : Stmt := top 91
theorem scLawNames : FnScope ["_law_box_here", "_law_many", "_law_letters", "_law_words", "_law_way", "_law_first", "_law_stem", "_law_at", "_law_heads", "_law_k", "_law_head"] ["_law_box_here", "_law_many"] (defScope sLawNames) := ⟨rfl, rfl, rfl, by decide +kernel, rfl, by decide +kernel, by decide +kernel⟩
abbrev sLawMixed : Stmt := top 92
theorem scLawMixed : FnScope ["_law_box_here", "_law_some", "_law_left", "_law_k"] ["_law_box_here", "_law_some"] (defScope sLawMixed) := ⟨rfl, rfl, rfl, by decide +kernel, rfl, by decide +kernel, by decide +kernel⟩
abbrev sLawPoints : Stmt := top 93
theorem scLawPoints : FnScope ["_law_box_here", "_law_names_here", "_law_levels", "_law_places", "_law_found", "_law_name", "_law_kind", "_law_one"] ["_law_box_here", "_law_names_here", "_law_levels"] (defScope sLawPoints) := ⟨rfl, rfl, rfl, by decide +kernel, rfl, by decide +kernel, by decide +kernel⟩
abbrev sLawBonds : Stmt := top 94
theorem scLawBonds : FnScope ["_law_box_here", "_law_points_here", "_law_found", "_law_lap", "_law_order", "_law_valves", "_law_way", "_law_point"] ["_law_box_here", "_law_points_here"] (defScope sLawBonds) := ⟨rfl, rfl, rfl, by decide +kernel, rfl, by decide +kernel, by decide +kernel⟩
abbrev sLawMost : Stmt := top 95
theorem scLawMost : FnScope ["_law_points_here", "_law_name", "_law_point"] ["_law_points_here", "_law_name"] (defScope sLawMost) := ⟨rfl, rfl, rfl, by decide +kernel, rfl, by decide +kernel, by decide +kernel⟩
abbrev sLawIn : Stmt := top 96
theorem scLawIn : FnScope ["_law_bond"] ["_law_bond"] (defScope sLawIn) := ⟨rfl, rfl, rfl, by decide +kernel, rfl, by decide +kernel, by decide +kernel⟩
abbrev sLawHolds : Stmt := top 97
theorem scLawHolds : FnScope ["_law_bond", "_law_worths", "_law_first", "_law_others", "_law_name"] ["_law_bond", "_law_worths"] (defScope sLawHolds) := ⟨rfl, rfl, rfl, by decide +kernel, rfl, by decide +kernel, by decide +kernel⟩
abbrev sLawBroken : Stmt := top 98
theorem scLawBroken : FnScope ["_law_bonds_here", "_law_worths", "_law_at", "_law_bond"] ["_law_bonds_here", "_law_worths"] (defScope sLawBroken) := ⟨rfl, rfl, rfl, by decide +kernel, rfl, by decide +kernel, by decide +kernel⟩
abbrev sLawPicture : Stmt := top 99
theorem scLawPicture : FnScope ["_law_box_here", "_law_points_here", "_law_bonds_here", "_law_found", "_law_name", "_law_place", "_law_kind", "_law_high", "_law_lap", "_law_bond", "_law_others", "_law_worth"] ["_law_box_here", "_law_points_here", "_law_bonds_here"] (defScope sLawPicture) := ⟨rfl, rfl, rfl, by decide +kernel, rfl, by decide +kernel, by decide +kernel⟩
abbrev sLawHistory : Stmt := top 100
theorem scLawHistory : FnScope ["_law_box_here", "_law_high", "_law_ticks", "_law_found", "_law_time", "_law_lap", "_law_worth", "_law_at", "_law_sign", "_law_one"] ["_law_box_here", "_law_high", "_law_ticks"] (defScope sLawHistory) := ⟨rfl, rfl, rfl, by decide +kernel, rfl, by decide +kernel, by decide +kernel⟩
abbrev sLawHistories : Stmt := top 101
theorem scLawHistories : FnScope ["_law_box_here", "_law_points_here", "_law_ticks", "_law_found", "_law_name", "_law_place", "_law_kind"] ["_law_box_here", "_law_points_here", "_law_ticks"] (defScope sLawHistories) := ⟨rfl, rfl, rfl, by decide +kernel, rfl, by decide +kernel, by decide +kernel⟩
abbrev sLawPictureAt : Stmt := top 102
theorem scLawPictureAt : FnScope ["_law_points_here", "_law_histories_here", "_law_time", "_law_found", "_law_name", "_law_place", "_law_kind", "_law_signs", "_law_sign"] ["_law_points_here", "_law_histories_here", "_law_time"] (defScope sLawPictureAt) := ⟨rfl, rfl, rfl, by decide +kernel, rfl, by decide +kernel, by decide +kernel⟩
abbrev sLawSpans : Stmt := top 103
theorem scLawSpans : FnScope ["_law_points_here", "_law_bonds_here", "_law_histories_here", "_law_since", "_law_till", "_law_found", "_law_time", "_law_numbers"] ["_law_points_here", "_law_bonds_here", "_law_histories_here", "_law_since", "_law_till"] (defScope sLawSpans) := ⟨rfl, rfl, rfl, by decide +kernel, rfl, by decide +kernel, by decide +kernel⟩
abbrev sLawSpansOfAll : Stmt := top 104
theorem scLawSpansOfAll : FnScope ["_law_points_here", "_law_bonds_here", "_law_histories_here", "_law_times", "_law_row", "_law_found", "_law_time", "_law_later", "_law_numbers", "_law_sign"] ["_law_points_here", "_law_bonds_here", "_law_histories_here"] (defScope sLawSpansOfAll) := ⟨rfl, rfl, rfl, by decide +kernel, rfl, by decide +kernel, by decide +kernel⟩
abbrev sLawTicksRight : Stmt := top 105
theorem scLawTicksRight : FnScope ["_law_works", "_law_histories_here", "_law_found", "_law_since", "_law_till", "_law_broken_at", "_law_first", "_law_last", "_law_numbers", "_law_time", "_law_free", "_law_row"] ["_law_works", "_law_histories_here", "_law_found", "_law_since", "_law_till"] (defScope sLawTicksRight) := ⟨rfl, rfl, rfl, by decide +kernel, rfl, by decide +kernel, by decide +kernel⟩
abbrev sLaw : Stmt := top 106
theorem scLaw : FnScope ["_law_script", "_law_k", "_law_box_here", "_law_points_here", "_law_bonds_here", "_law_works", "_law_ticks", "_law_shift", "_law_histories_here", "_law_name", "_law_row", "_law_kept", "_law_turn", "_law_since", "_law_till", "_law_due", "_law_found", "_law_time", "_law_worth", "_law_tone"] ["_law_script"] (defScope sLaw) := ⟨rfl, rfl, rfl, by decide +kernel, rfl, by decide +kernel, by decide +kernel⟩
abbrev mPanelError_Init : Stmt := inClass (top 2) 0
theorem scmPanelError_Init : FnScope ["self", "text"] ["self", "text"] (defScope mPanelError_Init) := ⟨rfl, rfl, rfl, by decide +kernel, rfl, by decide +kernel, by decide +kernel⟩
abbrev mAbsent_Init : Stmt := inClass (top 3) 0
theorem scmAbsent_Init : FnScope ["self", "text"] ["self", "text"] (defScope mAbsent_Init) := ⟨rfl, rfl, rfl, by decide +kernel, rfl, by decide +kernel, by decide +kernel⟩
abbrev mTooMany_Init : Stmt := inClass (top 4) 0
theorem scmTooMany_Init : FnScope ["self", "many"] ["self", "many"] (defScope mTooMany_Init) := ⟨rfl, rfl, rfl, by decide +kernel, rfl, by decide +kernel, by decide +kernel⟩
abbrev mNoTime_Init : Stmt := inClass (top 5) 0
theorem scmNoTime_Init : FnScope ["self", "found"] ["self", "found"] (defScope mNoTime_Init) := ⟨rfl, rfl, rfl, by decide +kernel, rfl, by decide +kernel, by decide +kernel⟩
abbrev mNoWorth_Init : Stmt := inClass (top 6) 0
theorem scmNoWorth_Init : FnScope ["self", "found"] ["self", "found"] (defScope mNoWorth_Init) := ⟨rfl, rfl, rfl, by decide +kernel, rfl, by decide +kernel, by decide +kernel⟩
abbrev mNoNumber_Init : Stmt := inClass (top 7) 0
theorem scmNoNumber_Init : FnScope ["self", "found"] ["self", "found"] (defScope mNoNumber_Init) := ⟨rfl, rfl, rfl, by decide +kernel, rfl, by decide +kernel, by decide +kernel⟩
abbrev mNoPoints_Init : Stmt := inClass (top 8) 0
theorem scmNoPoints_Init : FnScope ["self", "found"] ["self", "found"] (defScope mNoPoints_Init) := ⟨rfl, rfl, rfl, by decide +kernel, rfl, by decide +kernel, by decide +kernel⟩
abbrev mNoRules_Init : Stmt := inClass (top 9) 0
theorem scmNoRules_Init : FnScope ["self", "found"] ["self", "found"] (defScope mNoRules_Init) := ⟨rfl, rfl, rfl, by decide +kernel, rfl, by decide +kernel, by decide +kernel⟩
abbrev mNoCauses_Init : Stmt := inClass (top 10) 0
theorem scmNoCauses_Init : FnScope ["self", "found"] ["self", "found"] (defScope mNoCauses_Init) := ⟨rfl, rfl, rfl, by decide +kernel, rfl, by decide +kernel, by decide +kernel⟩
abbrev mNoCommands_Init : Stmt := inClass (top 11) 0
theorem scmNoCommands_Init : FnScope ["self", "found"] ["self", "found"] (defScope mNoCommands_Init) := ⟨rfl, rfl, rfl, by decide +kernel, rfl, by decide +kernel, by decide +kernel⟩
abbrev mNoRelations_Init : Stmt := inClass (top 12) 0
theorem scmNoRelations_Init : FnScope ["self", "found"] ["self", "found"] (defScope mNoRelations_Init) := ⟨rfl, rfl, rfl, by decide +kernel, rfl, by decide +kernel, by decide +kernel⟩
abbrev mNoWorks_Init : Stmt := inClass (top 13) 0
theorem scmNoWorks_Init : FnScope ["self", "found"] ["self", "found"] (defScope mNoWorks_Init) := ⟨rfl, rfl, rfl, by decide +kernel, rfl, by decide +kernel, by decide +kernel⟩
abbrev mNoHistory_Init : Stmt := inClass (top 14) 0
theorem scmNoHistory_Init : FnScope ["self", "found"] ["self", "found"] (defScope mNoHistory_Init) := ⟨rfl, rfl, rfl, by decide +kernel, rfl, by decide +kernel, by decide +kernel⟩
abbrev mNoPicture_Init : Stmt := inClass (top 15) 0
theorem scmNoPicture_Init : FnScope ["self", "found"] ["self", "found"] (defScope mNoPicture_Init) := ⟨rfl, rfl, rfl, by decide +kernel, rfl, by decide +kernel, by decide +kernel⟩
abbrev mTwice_Init : Stmt := inClass (top 16) 0
theorem scmTwice_Init : FnScope ["self", "found"] ["self", "found"] (defScope mTwice_Init) := ⟨rfl, rfl, rfl, by decide +kernel, rfl, by decide +kernel, by decide +kernel⟩
abbrev mRing_Init : Stmt := inClass (top 17) 0
theorem scmRing_Init : FnScope ["self", "found"] ["self", "found"] (defScope mRing_Init) := ⟨rfl, rfl, rfl, by decide +kernel, rfl, by decide +kernel, by decide +kernel⟩
abbrev mNoPoint_Init : Stmt := inClass (top 18) 0
theorem scmNoPoint_Init : FnScope ["self", "found"] ["self", "found"] (defScope mNoPoint_Init) := ⟨rfl, rfl, rfl, by decide +kernel, rfl, by decide +kernel, by decide +kernel⟩
abbrev mNoRule_Init : Stmt := inClass (top 19) 0
theorem scmNoRule_Init : FnScope ["self", "found"] ["self", "found"] (defScope mNoRule_Init) := ⟨rfl, rfl, rfl, by decide +kernel, rfl, by decide +kernel, by decide +kernel⟩
abbrev mWorks_Init : Stmt := inClass (top 72) 0
theorem scmWorks_Init : FnScope ["self", "points", "rules", "causes", "commands", "relations"] ["self", "points", "rules", "causes", "commands", "relations"] (defScope mWorks_Init) := ⟨rfl, rfl, rfl, by decide +kernel, rfl, by decide +kernel, by decide +kernel⟩
abbrev mWorks_Eq : Stmt := inClass (top 72) 1
theorem scmWorks_Eq : FnScope ["self", "other"] ["self", "other"] (defScope mWorks_Eq) := ⟨rfl, rfl, rfl, by decide +kernel, rfl, by decide +kernel, by decide +kernel⟩
abbrev mWorks_Points : Stmt := inClass (top 72) 2
theorem scmWorks_Points : FnScope ["self"] ["self"] (defScope mWorks_Points) := ⟨rfl, rfl, rfl, by decide +kernel, rfl, by decide +kernel, by decide +kernel⟩
abbrev mWorks_Rules : Stmt := inClass (top 72) 3
theorem scmWorks_Rules : FnScope ["self"] ["self"] (defScope mWorks_Rules) := ⟨rfl, rfl, rfl, by decide +kernel, rfl, by decide +kernel, by decide +kernel⟩
abbrev mWorks_Causes : Stmt := inClass (top 72) 4
theorem scmWorks_Causes : FnScope ["self"] ["self"] (defScope mWorks_Causes) := ⟨rfl, rfl, rfl, by decide +kernel, rfl, by decide +kernel, by decide +kernel⟩
abbrev mWorks_Commands : Stmt := inClass (top 72) 5
theorem scmWorks_Commands : FnScope ["self"] ["self"] (defScope mWorks_Commands) := ⟨rfl, rfl, rfl, by decide +kernel, rfl, by decide +kernel, by decide +kernel⟩
abbrev mWorks_Relations : Stmt := inClass (top 72) 6
theorem scmWorks_Relations : FnScope ["self"] ["self"] (defScope mWorks_Relations) := ⟨rfl, rfl, rfl, by decide +kernel, rfl, by decide +kernel, by decide +kernel⟩
abbrev mWorks_Places : Stmt := inClass (top 72) 7
theorem scmWorks_Places : FnScope ["self"] ["self"] (defScope mWorks_Places) := ⟨rfl, rfl, rfl, by decide +kernel, rfl, by decide +kernel, by decide +kernel⟩
abbrev mWorks_Point : Stmt := inClass (top 72) 8
theorem scmWorks_Point : FnScope ["self", "name"] ["self", "name"] (defScope mWorks_Point) := ⟨rfl, rfl, rfl, by decide +kernel, rfl, by decide +kernel, by decide +kernel⟩
abbrev mWorks_Rule : Stmt := inClass (top 72) 9
theorem scmWorks_Rule : FnScope ["self", "name"] ["self", "name"] (defScope mWorks_Rule) := ⟨rfl, rfl, rfl, by decide +kernel, rfl, by decide +kernel, by decide +kernel⟩
abbrev mWorks_Command : Stmt := inClass (top 72) 10
theorem scmWorks_Command : FnScope ["self", "name"] ["self", "name"] (defScope mWorks_Command) := ⟨rfl, rfl, rfl, by decide +kernel, rfl, by decide +kernel, by decide +kernel⟩
abbrev mWorks_PointsAt : Stmt := inClass (top 72) 11
theorem scmWorks_PointsAt : FnScope ["self", "place"] ["self", "place"] (defScope mWorks_PointsAt) := ⟨rfl, rfl, rfl, by decide +kernel, rfl, by decide +kernel, by decide +kernel⟩
abbrev mWorks_IsWorth : Stmt := inClass (top 72) 12
theorem scmWorks_IsWorth : FnScope ["self", "point", "thing"] ["self", "point", "thing"] (defScope mWorks_IsWorth) := ⟨rfl, rfl, rfl, by decide +kernel, rfl, by decide +kernel, by decide +kernel⟩
abbrev mWorks_HasPoint : Stmt := inClass (top 72) 13
theorem scmWorks_HasPoint : FnScope ["self", "thing"] ["self", "thing"] (defScope mWorks_HasPoint) := ⟨rfl, rfl, rfl, by decide +kernel, rfl, by decide +kernel, by decide +kernel⟩
abbrev mWorks_HasPlace : Stmt := inClass (top 72) 14
theorem scmWorks_HasPlace : FnScope ["self", "thing"] ["self", "thing"] (defScope mWorks_HasPlace) := ⟨rfl, rfl, rfl, by decide +kernel, rfl, by decide +kernel, by decide +kernel⟩
abbrev mWorks_HasRule : Stmt := inClass (top 72) 15
theorem scmWorks_HasRule : FnScope ["self", "thing"] ["self", "thing"] (defScope mWorks_HasRule) := ⟨rfl, rfl, rfl, by decide +kernel, rfl, by decide +kernel, by decide +kernel⟩
abbrev mWorks_HasCommand : Stmt := inClass (top 72) 16
theorem scmWorks_HasCommand : FnScope ["self", "thing"] ["self", "thing"] (defScope mWorks_HasCommand) := ⟨rfl, rfl, rfl, by decide +kernel, rfl, by decide +kernel, by decide +kernel⟩
abbrev mWorks_CausesOf : Stmt := inClass (top 72) 17
theorem scmWorks_CausesOf : FnScope ["self", "rule"] ["self", "rule"] (defScope mWorks_CausesOf) := ⟨rfl, rfl, rfl, by decide +kernel, rfl, by decide +kernel, by decide +kernel⟩
/-- the built-in names that the text calls, and its constants -/
structure Txt (mg : Str → Option Value) : Prop where
  KeyError : mg "KeyError" = none
  ValueError : mg "ValueError" = none
  all : mg "all" = none
  bool : mg "bool" = none
  dict : mg "dict" = none
  enumerate : mg "enumerate" = none
  int : mg "int" = none
  isinstance : mg "isinstance" = none
  len : mg "len" = none
  list : mg "list" = none
  max : mg "max" = none
  min : mg "min" = none
  range : mg "range" = none
  repr : mg "repr" = none
  reversed : mg "reversed" = none
  sorted : mg "sorted" = none
  str : mg "str" = none
  sum : mg "sum" = none
  tuple : mg "tuple" = none
  zip : mg "zip" = none
  cMOST_TIME : ∃ t, mg "MOST_TIME" = some (.int 9999 t)
  cMOST_LEVEL : ∃ t, mg "MOST_LEVEL" = some (.int 63 t)
  c_MOST_NAME : ∃ t, mg "_MOST_NAME" = some (.int 8 t)
  c_MOST_LOCKS : ∃ t, mg "_MOST_LOCKS" = some (.int 4 t)
  c_MOST_PARTS : ∃ t, mg "_MOST_PARTS" = some (.int 3 t)
  c_MOST_HOLD : ∃ t, mg "_MOST_HOLD" = some (.int 99 t)
  c_MOST_RANK : ∃ t, mg "_MOST_RANK" = some (.int 3 t)
  c_MOST_WITHIN : ∃ t, mg "_MOST_WITHIN" = some (.int 999 t)
  c_MOST_PLACES : ∃ t, mg "_MOST_PLACES" = some (.int 3 t)
  c_MOST_POINTS : ∃ t, mg "_MOST_POINTS" = some (.int 8 t)
  c_MOST_RULES : ∃ t, mg "_MOST_RULES" = some (.int 6 t)
  c_MOST_CAUSES : ∃ t, mg "_MOST_CAUSES" = some (.int 8 t)
  c_MOST_COMMANDS : ∃ t, mg "_MOST_COMMANDS" = some (.int 4 t)
  c_MOST_RELATIONS : ∃ t, mg "_MOST_RELATIONS" = some (.int 5 t)
  c_MOST_SIGNS : ∃ t, mg "_MOST_SIGNS" = some (.int 100 t)
end V51

/-! Exceptions over ValueError, LookupError and KeyError: as values, and raised. -/
namespace Pw
open PySem
/-- what __init__ of a built-in error must be -/
structure IniF (B initId : String) : Prop where
  split : splitId initId = some (B, "__init__")
  kind : builtinKind initId = some .slot
  row : Manifest.signature? initId =
    some ⟨.positional, "*", B, .self, [⟨"args", .varPos, false⟩]⟩
  plain : plainId initId = true
  star : (B != "*") = true
  entry : entryFor table initId = some Builtin.«BaseException.__init__»
theorem iniV : IniF "ValueError" "ValueError.__init__" :=
  ⟨F.excBase_ValueError.initSplit, F.excBase_ValueError.initKind, F.excBase_ValueError.initRow, F.excBase_ValueError.init.plain, by decide, F.excBase_ValueError.initEntry⟩
theorem iniL : IniF "LookupError" "LookupError.__init__" :=
  ⟨F.excBase_LookupError.initSplit, F.excBase_LookupError.initKind, F.excBase_LookupError.initRow, F.excBase_LookupError.init.plain, by decide, F.excBase_LookupError.initEntry⟩
theorem iniK : IniF "KeyError" "KeyError.__init__" where
  split := by kernel_rfl
  kind := by kernel_rfl
  row := by kernel_rfl
  plain := by decide +kernel
  star := by decide
  entry := entryFor_alias (id' := "BaseException.__init__") (by rw [fastTable_eq_tree]; kernel_rfl)
    (by first | rfl | decide +kernel) (by decide +kernel)
    (by rw [fastTable_eq_tree]; kernel_rfl)
abbrev veT : List Value := [.type "ValueError", .type "Exception", .type "BaseException", .type "object"]
abbrev leT : List Value := [.type "LookupError", .type "Exception", .type "BaseException", .type "object"]
abbrev keT : List Value := [.type "KeyError", .type "LookupError", .type "Exception", .type "BaseException", .type "object"]
/-- the classes behind an own one, and the maker of its instances -/
structure Fit (newId : String) (bm : List Value) : Prop where
  maker : ∃ B i bmB, ExcBaseFacts B newId i bmB ∧ bm.contains (.type B) = true
  noA : bm.contains (.type "AttributeError") = false
  noN : bm.contains (.type "NameError") = false
  obj : bm.contains (.type "object") = true
  pass : ∀ self, refuseLoop self "__setattr__" bm = pure ()
theorem fitV : Fit "ValueError.__new__" veT :=
  ⟨⟨_, _, _, F.excBase_ValueError, by decide +kernel⟩, by decide +kernel, by decide +kernel, by decide +kernel, F.store_ValueError.passes⟩
theorem fitL : Fit "LookupError.__new__" leT :=
  ⟨⟨_, _, _, F.excBase_LookupError, by decide +kernel⟩, by decide +kernel, by decide +kernel, by decide +kernel, F.store_LookupError.passes⟩
theorem fitK : Fit "LookupError.__new__" keT :=
  ⟨⟨_, _, _, F.excBase_LookupError, by decide +kernel⟩, by decide +kernel, by decide +kernel, by decide +kernel, fun self => by kernel_rfl⟩
theorem Fit.up {newId : String} {bm : List Value} (c : Addr) (h : Fit newId bm) : Fit newId (.ref c :: bm) := by
  obtain ⟨B, i, bmB, F, hB⟩ := h.maker
  have e : ∀ X : String, (Value.ref c :: bm).contains (.type X) = bm.contains (.type X) := fun X => by
    rw [List.contains_cons]; rfl
  exact ⟨⟨B, i, bmB, F, (e B).trans hB⟩, (e _).trans h.noA, (e _).trans h.noN, (e _).trans h.obj, fun self => by
    rw [refuseLoop_ref]
    exact h.pass self⟩
end Pw

namespace Pw
open PySem PySem.Spec PyProof.Rows L2

/-! ### such a class is called -/
section
variable {prog : Program} {w : World} {A : Around} {R : Result → Shared → Prop} {h : Heap} {g : Array GenState}
  {d : Drawn} {t : Nat} {os : OsState} {nm q : Str} {C N : Addr} {bs bm bmB : List Value} {hdct : Bool} {sn : List Str}
  {sub : List Value} {ab : Bool} {col : Option Bool} {dd : Option Addr} {k0 k1 k2 k3 k5 : Option Value} {B newId initId : String} {kw : List (Str × Value)}

theorem new_checkF {M : Model} {E : Value → Shared → Prop} (F : ExcBaseFacts B newId initId bmB)
    (hB : (Value.ref C :: bm).contains (.type B) = true) {rest : List Value} {Q : Unit → Shared → Prop}
    (hC : h.get? C = some (excClassObj nm q C N bs bm hdct sn sub ab col dd k0 k1 k2 k3 k5 newId)) (hq : Q () ⟨h, g, d, t, os⟩) :
    wpAny M A (checkBuiltinCall newId ⟨.ref C :: rest, kw⟩) Q E ⟨h, g, d, t, os⟩ := by
  have star := F.noStar
  simp only [checkBuiltinCall, F.newKind, F.newSplit, F.newRow]
  repeat (first
    | refine wpAny_loadPart_at hC ?_
    | (refine wpAny_isSubtype_exc hC ?_; rw [hB])
    | refine wpAny_staticBase_exc hC ?_
    | refine wpAny_madeBy_exc hC ?_
    | simp only [bne_self_eq_false, Bool.false_eq_true, if_false]
    | wp_step)
  exact hq

theorem newF (F : ExcBaseFacts B newId initId bmB) (hB : (Value.ref C :: bm).contains (.type B) = true)
    (hA : (Value.ref C :: bm).contains (.type "AttributeError") = false)
    (hN : (Value.ref C :: bm).contains (.type "NameError") = false) {rest : List Value}
    (hC : h.get? C = some (excClassObj nm q C N bs bm hdct sn sub ab col dd k0 k1 k2 k3 k5 newId))
    (hq : R (.ok (.ret (.ref (h.objs.size + 1)))) ⟨(h.push (PySem.W.kdv_tup rest)).push (exOb C none h.objs.size), g, d, t, os⟩)
    (hrest : rest.length ≤ sizeLine) :
    codeAny (model prog w) A (.builtin newId ⟨.ref C :: rest, kw⟩) R ⟨h, g, d, t, os⟩ := by
  have ends := F.ends
  refine codeAny_builtinAt F.entry ?_
  unfold Builtin.«BaseException.__new__»
  refine PySem.wpAt_bind ?_
  show PySem.wpAt _ _ _ (stack >>= _) _ _ _
  refine PySem.wpAt_bind (PySem.wpAt_stack fun p below => PySem.wpAt_of_wpAny ?_)
  wp_walk
  refine PySem.wpAt_of_wpAny ?_
  rw [F.owner]
  repeat (first
    | with_reducible refine wpAny_madeHere_exc F.canon hC ?_
    | with_reducible refine wpAny_loadPart_at hC ?_
    | (with_reducible refine wpAny_isSubtype_exc hC ?_; first | rw [hB] | rw [hA] | rw [hN])
    | wp_step)
  show R _ _
  rw [Heap.size_push]
  exact hq

theorem type_callF {E : Value → Shared → Prop} (F : ExcBaseFacts B newId initId bmB) (hB : (Value.ref C :: bm).contains (.type B) = true)
    (hA : (Value.ref C :: bm).contains (.type "AttributeError") = false)
    (hN : (Value.ref C :: bm).contains (.type "NameError") = false) {rest : List Value} {fI : Addr} {Q : Fin → Shared → Prop}
    (hC : h.get? C = some (excClassObj nm q C N bs bm hdct sn sub ab col dd k0 k1 k2 k3 k5 newId))
    (hi : PySem.W.Looks (model prog w) h (typeLookup (.ref C) "__init__") (some (.ref fI)))
    (hb : ∀ self, PySem.W.Looks (model prog w) h (bindSpecial (.ref fI) self) (.ref fI, [self])) (hrest : rest.length ≤ sizeLine)
    (hq : codeAny (model prog w) A (.call (.ref fI) ⟨.ref (h.objs.size + 1) :: rest, kw⟩)
      (fun r s' => match r with
        | .ok (.ret v) => v = .none ∧ Q (.done (.ret (.ref (h.objs.size + 1)))) s'
        | .ok _ => False
        | .error e => E e s')
      ⟨(h.push (PySem.W.kdv_tup rest)).push (exOb C none h.objs.size), g, d, t, os⟩) :
    wpAny (model prog w) A (Builtin.«type.__call__» ⟨.ref C :: rest, kw⟩) Q E ⟨h, g, d, t, os⟩ := by
  repeat (first
    | with_reducible refine wpAny_loadPart_at hC ?_
    | with_reducible refine wpAny_madeBy_exc hC ?_
    | wp_step)
  refine codeAny_call_builtin_code (Code.quiet_builtin _ F.quiet) (new_checkF F hB hC ?_)
  refine newF F hB hA hN hC ?_ hrest
  show wpAny _ _ _ _ _ _
  have k : ∀ b o, h.get? b = some o → ((h.push (PySem.W.kdv_tup rest)).push (exOb C none h.objs.size)).get? b = some o :=
    fun b o e => Heap.get?_push_of_some _ (Heap.get?_push_of_some _ e)
  have hC1 := k _ _ hC
  have hget : ((h.push (PySem.W.kdv_tup rest)).push (exOb C none h.objs.size)).get? (h.objs.size + 1) =
    some (exOb C none h.objs.size) := by heap_get
  have hcC : (Value.ref C :: bm).contains (.ref C) = true := by simp
  have i1 := hi.keeps k
  have b1 := (hb (.ref (h.objs.size + 1))).keeps k
  unfold isInstance
  repeat (first
    | with_reducible refine wpAny_loadPart_at hget ?_
    | (with_reducible refine wpAny_isSubtype_exc hC1 ?_; rw [hcC])
    | wp_step)
  show wpAny _ _ (typeLookup (.ref C) _) _ _ _
  refine i1.at (wpAny_holding (wpAny_bind (b1.at ?_)))
  refine wpAny_bind (wpAny_call (codeAny_mono hq fun r s' z => ?_))
  match r, z with
  | .error e, z => exact z
  | .ok (.ret v), ⟨hv, z⟩ =>
    subst hv
    first
      | exact wpAny_pure (wpAny_pure z)
      | (wp_walk; exact z)
  | .ok .next, z => exact z.elim
  | .ok .brk, z => exact z.elim
  | .ok .cont, z => exact z.elim

theorem call_ownF (F : ExcBaseFacts B newId initId bmB) (hB : (Value.ref C :: bm).contains (.type B) = true)
    (hA : (Value.ref C :: bm).contains (.type "AttributeError") = false)
    (hN : (Value.ref C :: bm).contains (.type "NameError") = false) {rest : List Value} {fI : Addr}
    (hC : h.get? C = some (excClassObj nm q C N bs bm hdct sn sub ab col dd k0 k1 k2 k3 k5 newId))
    (hi : PySem.W.Looks (model prog w) h (typeLookup (.ref C) "__init__") (some (.ref fI)))
    (hb : ∀ self, PySem.W.Looks (model prog w) h (bindSpecial (.ref fI) self) (.ref fI, [self])) (hrest : rest.length ≤ sizeLine)
    (hq : codeAny (model prog w) (A.under (.builtin "type.__call__" ⟨.ref C :: rest, kw⟩))
      (.call (.ref fI) ⟨.ref (h.objs.size + 1) :: rest, kw⟩) (PySem.W.InitBack (h.objs.size + 1) R)
      ⟨(h.push (PySem.W.kdv_tup rest)).push (exOb C none h.objs.size), g, d, t, os⟩) :
    codeAny (model prog w) A (.call (.ref C) ⟨rest, kw⟩) R ⟨h, g, d, t, os⟩ := by
  have f1 := tc_lookup
  have f2 := tc_bind (.ref C)
  have hTy : (⟨h, g, d, t, os⟩ : Shared).TypeIs (.ref C) "type" := ⟨_, hC, rfl⟩
  refine codeAny_of_tree ?_
  show wpAny _ _ (callAny (.ref C) _) _ _ _
  repeat (any_goals (first
    | assumption
    | with_reducible refine wpAny_loadPart_at hC ?_
    | wp_step))
  refine ⟨rfl, ?_⟩
  refine codeAny_call_builtin_at (Code.quiet_builtin _ (by decide +kernel)) entry_typeCall
    (wpAny_check_type_call_sub hC (type_callF F hB hA hN hC hi hb hrest ?_))
  refine codeAny_mono hq fun r s' z => ?_
  match r, z with
  | .error e, z => exact z
  | .ok (.ret v), z => exact z
  | .ok .next, z => exact z
  | .ok .brk, z => exact z
  | .ok .cont, z => exact z

/-- B.__init__(e, ..): the args are laid anew -/
theorem init_argsF (I : IniF B initId) (hB : (Value.ref C :: bm).contains (.type B) = true) {e t0 : Addr} {rest : List Value}
    (hC : h.get? C = some (excClassObj nm q C N bs bm hdct sn sub ab col dd k0 k1 k2 k3 k5 newId))
    (he : h.get? e = some (exOb C none t0)) (hrest : rest.length ≤ sizeLine)
    (hq : ∀ h' t1, h.objs.size ≤ t1 → (∀ b o, b ≠ e → h.get? b = some o → h'.get? b = some o) →
      h'.get? e = some (exOb C none t1) → h'.get? t1 = some (PySem.W.kdv_tup rest) →
      R (.ok (.ret .none)) ⟨h', g, d, t, os⟩) :
    codeAny (model prog w) A (.call (.builtin initId) ⟨.ref e :: rest, []⟩) R ⟨h, g, d, t, os⟩ := by
  refine codeAny_call_builtin I.plain I.entry ?_
  simp only [checkBuiltinCall, I.kind, I.split, I.row]
  have star := I.star
  repeat (first
    | with_reducible refine wpAny_loadPart_at he ?_
    | with_reducible refine wpAny_loadPart_at hC ?_
    | (with_reducible refine wpAny_isSubtype_exc hC ?_; rw [hB])
    | wp_step)
  refine wpAny_onRaise ?_
  have chk : ∀ (a b : String) (n : Nat), Bind.check ⟨.positional, "*", B, .self, [⟨"args", .varPos, false⟩]⟩ a b n
      (List.map (fun x => x.fst) ({ pos := Value.ref e :: rest } : Args).kw) = pure () :=
    fun a b n => check_star_args _ _ _ _ _ _
  rw [chk]
  refine wpAny_pure ?_
  have hes : e ≠ h.objs.size := Nat.ne_of_lt (Heap.lt_size he)
  wp_walk
  refine hq _ h.objs.size (Nat.le_refl _) (fun b o hb ho => ?_) ?_ ?_
  · exact (Heap.get?_update_other _ _ (Ne.symm hb)).trans (Heap.get?_push_of_some _ ho)
  · exact (Heap.get?_update_self _ (Heap.get?_push_of_some _ he) rfl).trans rfl
  · exact (Heap.get?_update_other _ _ hes).trans (Heap.get?_push_size _ rfl)
end
end Pw

/-! Exceptions of one's own over any of the three bases: stored in, made, read. -/
namespace Pw
open PySem PySem.Spec PyProof.Rows L2

/-- what the written part says of the class at C -/
structure OexF (K : PySem.W.Frag) (C : Addr) : Prop where
  cls : ∃ newId nm q N bs bm sn sub ab col dd k0 k1 k2 k3 k5,
    K.lookup C = some (excClassObj nm q C N bs bm true sn sub ab col dd k0 k1 k2 k3 k5 newId) ∧ Fit newId (.ref C :: bm)
  sa : PySem.W.findIn K (.ref C) "__setattr__" = some (some (.builtin "object.__setattr__"))
  exC : PySem.W.subIn K (.ref C) (.type "BaseException") = some true
  tyC : PySem.W.typeIn K (.ref C) = some (.type "type")
  kC : PySem.W.keepIn K (.ref C) = true

section
variable {prog : Program} {w : World} {A : Around} {R : Result → Shared → Prop} {hp : Heap} {g : Array GenState}
  {d : Drawn} {t : Nat} {os : OsState}
open PySem.Builtin PySem.Builtin.ObjectAttr in
/-- object.__setattr__ on an exception that has no dict yet -/
theorem osaF {K : PySem.W.Frag} {name : Str} {tk : Tok} {v : Value} {x C : Addr} {fv : Array Value} {cd : ClassData}
    (X : K.In hp) (hx : hp.get? x = some { cls := .ref C, data := .fields fv })
    (hcd : PySem.W.clsIn K C = some cd) (hne : cd.mro.isEmpty = false) (hob : cd.mro.contains (.type "object") = true)
    (hps : ∀ self, refuseLoop self "__setattr__" cd.mro = pure ()) (hh : cd.hasDict = true)
    (ha : PySem.W.findIn K (.ref C) name = some none)
    (hq : ∀ h' tk' dx, (∀ b o, b ≠ x → hp.get? b = some o → h'.get? b = some o) → hp.objs.size ≤ dx → dx ≠ x →
      h'.get? x = some { cls := .ref C, dict := some dx, data := .fields fv } →
      h'.Ns1 dx (fun y => if y = name then some v else none) → R (.ok (.ret .none)) ⟨h', g, d, tk', os⟩) :
    codeAny (model prog w) A (.call (.builtin "object.__setattr__") ⟨[.ref x, .str name tk, v], []⟩) R ⟨hp, g, d, t, os⟩ := by
  have I : PySem.W.InstAt hp x { cls := .ref C, data := .fields fv } C none := ⟨hx, rfl, rfl, trivial⟩
  have SF := F.store_object
  have hxs : x ≠ hp.objs.size := Nat.ne_of_lt (Heap.lt_size hx)
  have mo : PySem.W.mroIn K C (.type "object") = some true := by
    unfold PySem.W.mroIn
    rw [hcd, Option.bind_some, if_neg (by rw [hne]; decide), hob]
  have sub : PySem.W.Looks (model prog w) hp (isInstance (.ref x) (.type "object")) true :=
    I.type.andThen (PySem.W.looks_mroIn X mo)
  refine codeAny_call_builtin SF.slot.plain SF.entry ?_
  refine @PySem.W.check_slot (model prog w) _ _ ⟨hp, g, d, t, os⟩ "object.__setattr__" "object" "__setattr__" (.ref x)
    [.str name tk, v] [] _ SF.kind SF.split sub (SF.args (.ref x) (.str name tk) v) ?_
  have hmr : PySem.W.Looks (model prog w) hp (mroOf (.ref C)) cd.mro := (PySem.W.looks_clsIn X hcd).andThen .now
  have nt : PySem.W.Looks (model prog w) hp (storeTaker? none) none := .now
  have lc : PySem.W.Looks (model prog w) hp (classData C) cd := PySem.W.looks_clsIn X hcd
  rw [PySem.W.osa_eq, refuse_eq]
  refine wpAny_bind (wpAny_bind (I.type.at (wpAny_bind (hmr.at ?_))))
  rw [hps]
  refine wpAny_pure (wpAny_bind (I.type.at (wpAny_bind ((PySem.W.looks_findIn X ha).at (wpAny_bind (nt.at ?_))))))
  show wpAny _ _ (storeInOwnDict (.ref x) (.ref C) (.str name tk) name v false) _ _ _
  obtain ⟨nm, bs, mro, ns, qn, hd, sn, sb, ab, col, del⟩ := cd
  dsimp only at hh
  subst hh
  unfold storeInOwnDict ownDictForStores
  repeat (first
    | with_reducible refine PySem.HandSPX.store_in_new ?_ ?_
    | with_reducible refine wpAny_loadPart_at hx ?_
    | with_reducible refine lc.at ?_
    | wp_step)
  · exact ⟨_, #[], _, (Heap.get?_update_ne _ _ _ _ hxs.symm).trans (Heap.get?_push_at rfl rfl), rfl,
      fun e he => absurd he (by simp), fun _ => rfl⟩
  · intro h' tk' hn' hs
    have hx₁ : (hp.push { cls := .type "dict", data := .dict #[] }).get? x = some { cls := .ref C, data := .fields fv } :=
      Heap.get?_push_of_some _ hx
    refine hq h' tk' hp.objs.size (fun b o hb ho => ?_) (Nat.le_refl _) hxs.symm ?_ hn'
    · exact (hs.2 b (Nat.ne_of_lt (Heap.lt_size ho))).trans
        ((Heap.get?_update_ne _ _ _ _ hb).trans (Heap.get?_push_of_some _ ho))
    · exact (hs.2 x hxs).trans (Heap.get?_update_self _ hx₁ rfl)
end

section
variable {X : Cx} {pins : List (Addr × Obj)} {σ : L2.St} {H : Hp} {s : Shared} {a C t1 : Addr} {f : Str} {y : V}
  {u : Value} {E : Value → Shared → Prop} {A : Around}

/-- self.f = y, the first attribute -/
theorem eq_newF {Q : Unit → Shared → Prop} (T : OexF X.K C) (I : Inv X pins σ H s) (e : H a = some (exq a C none t1))
    (hno : PySem.W.findIn X.K (.ref C) f = some none) (ry : RelV y u)
    (h : ∀ dx s', H dx = none → dx ≠ a →
      Inv X pins σ (upd (upd H dx (exd dx [(f, y)])) a (exq a C (some dx) t1)) s' → Q () s') :
    wpAny (model X.prog X.w) A (setAttr (.ref a) f u) Q E s := by
  obtain ⟨newId, nm, q, N, bs, bm, sn, sub, ab, col, dd, k0, k1, k2, k3, k5, hC, ft⟩ := T.cls
  have hcl : PySem.W.clsIn X.K C = some { name := nm, bases := bs, mro := .ref C :: bm, ns := N, qualname := q, hasDict := true, slotNames := sn, subclasses := sub, abstract := ab, collection := col, hasDel := false } := by
    unfold PySem.W.clsIn
    rw [hC] <;> rfl
  have ho := exq_at I.hok e
  obtain ⟨hp, g, d, t, os⟩ := s
  refine PySem.W.set_plain I.kIn (ox := exOb C none t1) (od := none) ⟨ho, rfl, rfl, trivial⟩ T.sa ?_
  refine osaF I.kIn ho hcl rfl ft.obj ft.pass rfl hno (fun h' tk' dx k dn dne hx hn => ?_)
  have hnd : H dx = none := I.hok.fresh dn
  have nd : ∀ {b : Addr} {o : Obj}, hp.get? b = some o → b ≠ dx :=
    fun {b o} q => Nat.ne_of_lt (Nat.lt_of_lt_of_le (Heap.lt_size q) dn)
  have na : ∀ {b : Addr}, H b = none → b ≠ a := fun {b} n z => by rw [z, e] at n; cases n
  have Un1 : Un X.fs [] H (upd (upd H dx (exd dx [(f, y)])) a (exq a C (some dx) t1)) hp h' := {
    keep := fun b o q n _ _ => k b o (na n) q
    slot := fun b o q n _ _ => ⟨o.slots, k b o (na n) q⟩
    free := fun b o q n _ => ((upd_ne (na n)).trans (upd_ne (nd q))).trans n
    there := fun b o q _ => by
      by_cases hb : b = a
      · exact ⟨_, hb ▸ hx⟩
      · exact ⟨o, k b o hb q⟩
    tups := fun b xs q => ((upd_ne (at_ne e q exq_tup)).trans (upd_ne (ne_of_none q hnd))).trans q
    frzs := fun b o v q => ((upd_ne (at_ne e q exq_frz)).trans (upd_ne (ne_of_none q hnd))).trans q
    tbls := fun b ps q => ⟨#[], by rw [upd_ne (at_ne e q exq_tbl), upd_ne (ne_of_none q hnd), q]; simp⟩ }
  refine h dx _ hnd dne (I.un (t' := tk') Un1 fun b o q => ?_)
  by_cases hb : b = a
  · subst hb
    cases upd_same.symm.trans q
    exact exq_ok hx
  · rw [upd_ne hb] at q
    by_cases hd : b = dx
    · subst hd
      cases upd_same.symm.trans q
      exact exd_ok hn (relO_put (fs := []) ry fun g => True.intro)
    · rw [upd_ne hd] at q
      refine (I.hok b o q).stay (fun c v hc z => k c v ?_ z)
        (fun c hc => ((upd_ne (at_ne e hc exq_own)).trans (upd_ne (ne_of_none hc hnd))).trans hc)
        (fun c xs hc => ((upd_ne (at_ne e hc exq_tup)).trans (upd_ne (ne_of_none hc hnd))).trans hc)
      rcases hc with hc | hc
      · exact hc ▸ hb
      · exact at_ne e hc exq_own

/-- what the class stands above, from its own list -/
theorem has_of {K : PySem.W.Frag} {newId : String} {nm q : Str} {N : Addr} {bs bm : List Value} {sn : List Str}
    {sub : List Value} {ab : Bool} {col : Option Bool} {dd : Option Addr} {k0 k1 k2 k3 k5 : Option Value} {T : Value}
    (hC : K.lookup C = some (excClassObj nm q C N bs bm true sn sub ab col dd k0 k1 k2 k3 k5 newId))
    (m : PySem.W.mroIn K C T = some true) : (Value.ref C :: bm).contains T = true := by
  have hcl : PySem.W.clsIn K C = some { name := nm, bases := bs, mro := .ref C :: bm, ns := N, qualname := q, hasDict := true, slotNames := sn, subclasses := sub, abstract := ab, collection := col, hasDel := false } := by
    unfold PySem.W.clsIn
    rw [hC] <;> rfl
  unfold PySem.W.mroIn at m
  rw [hcl, Option.bind_some, if_neg (by show ¬ (false = true); decide)] at m
  exact Option.some.inj m

theorem eq_initF {B initId : String} {us : List Value} {ws : List V} {Q : Value → Shared → Prop} (J : IniF B initId)
    (T : OexF X.K C) (hB : PySem.W.mroIn X.K C (.type B) = some true) (I : Inv X pins σ H s)
    (e : H a = some (exq a C none t1)) (hl : us.length ≤ sizeLine) (rw' : Vals ws us)
    (h : ∀ t2 s', H t2 = none → t2 ≠ a → Inv X pins σ (upd (upd H t2 (.tup ws)) a (exq a C none t2)) s' → Q .none s') :
    wpAny (model X.prog X.w) A (call (.builtin initId) (.ref a :: us)) Q E s := by
  obtain ⟨newId, nm, q, N, bs, bm, sn, sub, ab, col, dd, k0, k1, k2, k3, k5, hC, ft⟩ := T.cls
  have ho := exq_at I.hok e
  obtain ⟨hp, g, d, t, os⟩ := s
  refine wpAny_call (init_argsF J (has_of hC hB) (I.kIn _ _ hC) ho hl fun h' t2 hsz k hx ht => ?_)
  have nt : H t2 = none := I.hok.fresh hsz
  have nea : t2 ≠ a := (ne_of_none e nt).symm
  have na : ∀ {b : Addr}, H b = none → b ≠ a := fun {b} n z => by rw [z, e] at n; cases n
  have nd : ∀ {b : Addr} {o : Obj}, hp.get? b = some o → b ≠ t2 :=
    fun {b o} q => Nat.ne_of_lt (Nat.lt_of_lt_of_le (Heap.lt_size q) hsz)
  have Un1 : Un X.fs [] H (upd (upd H t2 (.tup ws)) a (exq a C none t2)) hp h' := {
    keep := fun b o q n _ _ => k b o (na n) q
    slot := fun b o q n _ _ => ⟨o.slots, k b o (na n) q⟩
    free := fun b o q n _ => ((upd_ne (na n)).trans (upd_ne (nd q))).trans n
    there := fun b o q _ => by
      by_cases hb : b = a
      · exact ⟨_, hb ▸ hx⟩
      · exact ⟨o, k b o hb q⟩
    tups := fun b xs q => ((upd_ne (at_ne e q exq_tup)).trans (upd_ne (ne_of_none q nt))).trans q
    frzs := fun b o v q => ((upd_ne (at_ne e q exq_frz)).trans (upd_ne (ne_of_none q nt))).trans q
    tbls := fun b ps q => ⟨#[], by rw [upd_ne (at_ne e q exq_tbl), upd_ne (ne_of_none q nt), q]; simp⟩ }
  refine h t2 _ nt nea (I.un (t' := t) Un1 fun b o q => ?_)
  by_cases hb : b = a
  · subst hb
    cases upd_same.symm.trans q
    exact exq_ok hx
  · rw [upd_ne hb] at q
    by_cases hd : b = t2
    · subst hd
      cases upd_same.symm.trans q
      exact ⟨by rw [Paired.length rw']; exact hl, us, rw', _, ht, rfl, _, rfl⟩
    · rw [upd_ne hd] at q
      refine (I.hok b o q).stay (fun c v hc z => k c v ?_ z)
        (fun c hc => ((upd_ne (at_ne e hc exq_own)).trans (upd_ne (ne_of_none hc nt))).trans hc)
        (fun c xs hc => ((upd_ne (at_ne e hc exq_tup)).trans (upd_ne (ne_of_none hc nt))).trans hc)
      rcases hc with hc | hc
      · exact hc ▸ hb
      · exact at_ne e hc exq_own
end

/-! ### the rules -/
/-- B.__init__(self, ..) -/
def tBeq (K : PySem.W.Frag) (B : String) (ta : TA) : TE := fun σ H Q => ta σ H fun vs H1 =>
  ∃ (a C t0 : Addr) (ws : List V), vs = .ref a :: ws ∧ ws.length ≤ 1000 ∧ OexF K C ∧
    PySem.W.mroIn K C (.type B) = some true ∧ H1 a = some (exq a C none t0) ∧
    ∀ t2, H1 t2 = none → t2 ≠ a → Q .non (upd (upd H1 t2 (.tup ws)) a (exq a C none t2))
/-- self.f = e, the first attribute -/
def tEstF (K : PySem.W.Frag) (f : Str) (to te : TE) : TS := fun D σ H => te σ H fun y H1 => to σ H1 fun x H2 =>
  ∃ a C t1 : Addr, x = .ref a ∧ OexF K C ∧ PySem.W.findIn K (.ref C) f = some none ∧ H2 a = some (exq a C none t1) ∧
    ∀ dx, H2 dx = none → dx ≠ a → D.nx σ (upd (upd H2 dx (exd dx [(f, y)])) a (exq a C (some dx) t1))
/-- the names of the three bases as the text reads them -/
structure BaseNm (B : String) (x : Str) (initId : String) : Prop where
  ini : IniF B initId
  boot : bootBuiltins x = some (.type B)
  typ : typeOf (.type B) = pure (.type "type")
  stub : Manifest.isStub B = false
  hand : PySem.W.handedIn (.builtin initId) = true
  dbg : (x == ("__debug__" : Str)) = false
  nme : x ≠ "__name__"
theorem nmV : BaseNm "ValueError" "ValueError" "ValueError.__init__" :=
  ⟨iniV, PyProof.Rows.Boot.«ValueError», by kernel_rfl, by decide +kernel, by decide +kernel, by decide, by decide⟩
theorem nmL : BaseNm "LookupError" "LookupError" "LookupError.__init__" :=
  ⟨iniL, by kernel_rfl, by kernel_rfl, by decide +kernel, by decide +kernel, by decide, by decide⟩
theorem nmK : BaseNm "KeyError" "KeyError" "KeyError.__init__" :=
  ⟨iniK, by kernel_rfl, by kernel_rfl, by decide +kernel, by decide +kernel, by decide, by decide⟩

section
variable {X : Cx} {o e : Expr} {es : List Expr} {to te : TE} {ta : TA} {f : Str} {p p' p1 p2 pos : Pos}
theorem pe_beq {B initId : String} {x : Str} {pl : Sem Bool} (N : BaseNm B x initId) (hg : Gl X x) (hm : X.mg x = none)
    (vV : PySem.W.findCls X.K (.type B) (.type "type") "__init__" = some (.val (.builtin initId)))
    (ha : PA X (e :: es) ta)
    (hc : eval (.Call (.Attribute (.Name x p1) "__init__" p2) (e :: es) [] pos) X.env = (do
      let ov ← eval (.Name x p1) X.env
      standAt p2.atName
      let (f, first) ← holding [ov] (getMethod ov "__init__" pl)
      callWith pos f first (backTo pos (starEach (e :: es) X.env)) (backToKw pos (keywordEach [] X.env))) := by rfl)
    (he : starEach (e :: es) X.env = (false, eval e X.env) :: starEach es X.env := by rfl)
    (hpl : (backTo pos (starEach es X.env)).any (·.1) = false := by rfl) :
    PE X (.Call (.Attribute (.Name x p1) "__init__" p2) (e :: es) [] pos) (tBeq X.K B ta) := by
  refine ⟨fun pins s σ H Q I h => ?_⟩
  refine PySem.W.methodCall_KW (ld_blt I hg hm N.boot ?_ N.nme N.dbg) hc
  obtain ⟨m, fr⟩ := I.fr
  refine PySem.W.method_type fr I.ok.mod.kin N.typ N.stub vV N.hand ?_
  refine PyProof.Rows.callWith_method1 (first := []) (thn (ha.run pos pins _ σ H _ (I.tok _) h)
    fun us s1 ⟨vs, H1, I1, r1, a, C, t0, ws, ev, hl, T, hB, ea, q⟩ => ?_) he hpl
  subst ev
  cases r1 with
  | @cons _ u0 _ ur ra rw' =>
    obtain rfl : u0 = Value.ref a := ra
    have hlen : ur.length ≤ sizeLine := by
      rw [← Paired.length rw', sizeLine_eq]
      omega
    exact eq_initF N.ini T hB I1 ea hlen rw' fun t2 s' n1 n2 J => ⟨.non, _, J, rfl, q t2 n1 n2⟩

theorem ps_estF (ho : PE X o to) (he : PE X e te)
    (hs : swapsWith e (some (.Attribute o f p')) pos.line X.env = pure false := by rfl) :
    PS X (.Assign [.Attribute o f p'] e pos) (tEstF X.K f to te) := by
  refine ⟨fun pins s σ H D I h => ?_⟩
  refine plainObj_wpAny_Assign_Attribute (thn (he.run pins s σ H _ I h) fun v s1 ⟨y, H1, I1, r1, q1⟩ =>
    thn (ho.run pins s1 σ H1 _ I1 q1) fun u s2 ⟨x, H2, I2, r2, a, C, t1, ex, T, hno, ea, q⟩ => ?_) hs
  subst ex
  obtain rfl : u = Value.ref a := r2
  exact eq_newF T I2 ea hno r1 fun dx s' n ne J => ⟨σ, _, J, q dx n ne⟩

/-- the class called, its own __init__ keeping sp: us by place, kw by name; as: what its __init__ binds behind self -/
theorem own_call {pins : List (Addr × Obj)} {σ : L2.St} {H1 : Hp} {s1 : Shared} {C fI : Addr} {k : Nat} {CX : CXT} {fd : FuncData}
    {ps : List Str} {sp : Sp} {us as : List Value} {kw : List (Str × Value)} {vs avs : List V} {Q : VK} (T : OexF X.K C)
    (iC : PySem.W.findIn X.K (.ref C) "__init__" = some (some (.ref fI)))
    (tI : PySem.W.typeIn X.K (.ref fI) = some (.type "function"))
    (F1 : FnOk X.prog X.w X.K X.mg X.base CX k fI fd ps sp) (hr : Room (k + 1) X.A)
    (hb : ∀ (s : Shared) (self : Value), X.K.In s.heap → (self :: as).length = ps.length →
      BindsTo s fd ⟨self :: us, kw⟩ (ps.zip (self :: as)))
    (hx : Passes CX X (fun _ _ _ => False)) (I1 : Inv X pins σ H1 s1) (r1 : Vals vs us) (r2 : Vals avs as)
    (hz : vs.length ≤ 1000)
    (q1 : ∀ t0 a, H1 t0 = none → H1 a = none → t0 ≠ a →
      sp (.ref a :: avs) (upd (upd H1 t0 (.tup vs)) a (exq a C none t0))
        (fun v H2 => v = .non ∧ Q (.ref a) H2) (fun _ _ _ => False)) :
    wpAny (model X.prog X.w) X.A (call (.ref C) us kw) (EP X pins σ Q) X.xe s1 := by
  obtain ⟨newId, nm, q, N, bs, bm, sn, sub, ab, col, dd, k0, k1, k2, k3, k5, hC, ft⟩ := T.cls
  obtain ⟨B, i, bmB, EF, hB⟩ := ft.maker
  obtain ⟨hp, g, dr, tk, os⟩ := s1
  have n0 : H1 hp.objs.size = none := I1.hok.fresh (Nat.le_refl _)
  have n1 : H1 (hp.objs.size + 1) = none := I1.hok.fresh (Nat.le_succ _)
  have hne : hp.objs.size ≠ hp.objs.size + 1 := Nat.ne_of_lt (Nat.lt_succ_self _)
  have hq := q1 hp.objs.size (hp.objs.size + 1) n0 n1 hne
  have hus : us.length ≤ sizeLine := by
    rw [← Paired.length r1, sizeLine_eq]
    omega
  have I2 : Inv X pins σ (upd H1 hp.objs.size (.tup vs)) ⟨hp.push (PySem.W.kdv_tup us), g, dr, tk, os⟩ :=
    I1.laid (t' := tk) (a := hp.objs.size) (o := .tup vs) (h' := hp.push (PySem.W.kdv_tup us))
      (fun b o z => Heap.get?_push_of_some _ z) (Nat.le_refl _)
      ⟨by rw [Paired.length r1]; exact hus, us, r1, _, Heap.get?_push_size _ rfl, rfl, _, rfl⟩
  have hget : ((hp.push (PySem.W.kdv_tup us)).push (exOb C none hp.objs.size)).get? (hp.objs.size + 1) =
      some (exOb C none hp.objs.size) := by heap_get
  have hsz2 : (hp.push (PySem.W.kdv_tup us)).objs.size ≤ hp.objs.size + 1 := by
    simp [Heap.push]
  have I3 : Inv X pins σ (upd (upd H1 hp.objs.size (.tup vs)) (hp.objs.size + 1) (exq (hp.objs.size + 1) C none hp.objs.size))
      ⟨(hp.push (PySem.W.kdv_tup us)).push (exOb C none hp.objs.size), g, dr, tk, os⟩ :=
    I2.laid (t' := tk) (a := hp.objs.size + 1) (o := exq (hp.objs.size + 1) C none hp.objs.size)
      (h' := (hp.push (PySem.W.kdv_tup us)).push (exOb C none hp.objs.size))
      (fun b o z => Heap.get?_push_of_some _ z) hsz2 (exq_ok hget)
  have r3 : Vals (V.ref (hp.objs.size + 1) :: avs) (Value.ref (hp.objs.size + 1) :: as) := .cons rfl r2
  have hl : (Value.ref (hp.objs.size + 1) :: as).length = ps.length :=
    r3.length.symm.trans (F1.len _ _ _ _ hq)
  refine wpAny_call (call_ownF EF hB ft.noA ft.noN (I1.kIn _ _ hC) (PySem.W.looks_findIn I1.kIn iC)
    (fun self => PySem.W.bind_fn I1.kIn self tI) hus
    (codeAny_mono (F1.run _ X.stack _ _ ⟨Value.ref (hp.objs.size + 1) :: us, kw⟩
      (Value.ref (hp.objs.size + 1) :: as) _ _ (fun _ _ _ => False) (hr.make C us kw) (I3.env0.make C us kw)
      (hb _ (Value.ref (hp.objs.size + 1)) I3.kIn hl) r3 hq) fun r s' hq' => ?_))
  match r, hq' with
  | .error er, hq' => exact hx pins σ _ _ er s' I3 hq'
  | .ok (.ret u), hq' =>
    obtain ⟨v, H', I4, rv, ev, q3⟩ := I3.after hq'
    subst ev
    exact ⟨rv, ⟨V.ref (hp.objs.size + 1), H', I4, rfl, q3⟩⟩
  | .ok .next, hq' => exact False.elim hq'
  | .ok .brk, hq' => exact False.elim hq'
  | .ok .cont, hq' => exact False.elim hq'

/-- C(e, ..) -/
theorem pe_mkqF {x : Str} {C fI : Addr} {k : Nat} {CX : CXT} {fd : FuncData} {ps : List Str} {sp : Sp}
    {ds : List Value} {dvs : List V} (T : OexF X.K C)
    (iC : PySem.W.findIn X.K (.ref C) "__init__" = some (some (.ref fI)))
    (tI : PySem.W.typeIn X.K (.ref fI) = some (.type "function"))
    (F1 : FnOk X.prog X.w X.K X.mg X.base CX k fI fd ps sp) (hr : Room (k + 1) X.A) (hb : Binds X.K fd ps ds)
    (hd : Vals dvs ds) (hx : Passes CX X (fun _ _ _ => False)) (hg : Gl X x) (hm : X.mg x = some (.ref C))
    (ha : PA X (e :: es) ta) (hdb : (x == ("__debug__" : Str)) = false := by decide)
    (he : starEach (e :: es) X.env = (false, eval e X.env) :: starEach es X.env := by rfl)
    (hpl : (backTo pos (starEach es X.env)).any (·.1) = false := by rfl) :
    PE X (.Call (.Name x p) (e :: es) [] pos) (tMkq C sp dvs ta) := by
  refine ⟨fun pins s σ H Q I h => ?_⟩
  refine wpAny_Call_Name_kw (ld_glob I hg hm ?_ hdb)
  exact PySem.W.callWith_K (h₀ := X.base) I.ok.mod.kin T.kC
    (thn (ha.run pos pins s σ H _ I h) fun us s1 ⟨vs, H1, I1, r1, hz, q1⟩ =>
      ⟨I1.kIn, own_call T iC tI F1 hr (fun s self X hl => hb s (self :: us) X hl) hx I1 r1 (r1.append hd) hz q1⟩) he hpl

/-- C(f = e): by the name of its field -/
def tMkqK (C : Addr) (sp : Sp) (te : TE) : TE := fun σ H Q => tCons te tNil σ H fun zs H1 => ∃ v, zs = [v] ∧
  ∀ t0 a, H1 t0 = none → H1 a = none → t0 ≠ a →
    sp [.ref a, v] (upd (upd H1 t0 (.tup [])) a (exq a C none t0)) (fun v H2 => v = .non ∧ Q (.ref a) H2) (fun _ _ _ => False)
theorem pe_mkqK {x n self : Str} {C fI : Addr} {k : Nat} {CX : CXT} {fd : FuncData} {sp : Sp} {kp : Pos} (T : OexF X.K C)
    (iC : PySem.W.findIn X.K (.ref C) "__init__" = some (some (.ref fI)))
    (tI : PySem.W.typeIn X.K (.ref fI) = some (.type "function"))
    (F1 : FnOk X.prog X.w X.K X.mg X.base CX k fI fd [self, n] sp) (hr : Room (k + 1) X.A)
    (hb : ∀ (s : Shared) (a b : Value), X.K.In s.heap → BindsTo s fd ⟨[a], [(n, b)]⟩ [(self, a), (n, b)])
    (hx : Passes CX X (fun _ _ _ => False)) (hg : Gl X x) (hm : X.mg x = some (.ref C))
    (he : PE X e te) (hdb : (x == ("__debug__" : Str)) = false := by decide)
    (hall : (backToKw pos (keywordEach [⟨some n, e, kp⟩] X.env)).all (·.1.isSome) = true := by rfl)
    (hks : (backToKw pos (keywordEach [⟨some n, e, kp⟩] X.env)).filterMap (·.1) = [n] := by rfl)
    (hpl : ((backTo pos (starEach [] X.env)).any (·.1) || (backToKw pos (keywordEach [⟨some n, e, kp⟩] X.env)).any (·.1.isNone)) = false := by rfl) :
    PE X (.Call (.Name x p) [] [⟨some n, e, kp⟩] pos) (tMkqK C sp te) := by
  refine ⟨fun pins s σ H Q I h => ?_⟩
  refine wpAny_Call_Name_kw (ld_glob I hg hm ?_ hdb)
  refine PySem.W.callWith_KW0 (h₀ := X.base) I.ok.mod.kin T.kC hall ?_ hpl
  have P : PK X [⟨some n, e, kp⟩] (tCons te tNil) := pk_cons he pk_nil
  refine thn (P.run pos pins s σ H _ I h) fun ws s2 ⟨zs, H2, I2, rz, v, ev, q2⟩ => ⟨I2.kIn, ?_⟩
  subst ev
  obtain ⟨u, rfl, ru⟩ : ∃ u, ws = [u] ∧ RelV v u := by
    cases rz with
    | cons r1 r2 => cases r2; exact ⟨_, rfl, r1⟩
  rw [hks]
  exact own_call (us := []) (as := [u]) T iC tI F1 hr (fun s a X _ => hb s a u X) hx I2 .nil (.cons ru .nil) (Nat.zero_le _) q2

/-- e.f, the error at e with its dict -/
def tQget (K : PySem.W.Frag) (f : Str) (te : TE) : TE := fun σ H Q => te σ H fun x H1 =>
  ∃ (a C d t : Addr) (fs : List (Str × V)) (v : V), x = .ref a ∧ XfC K C ∧ PySem.W.findIn K (.ref C) f = some none ∧
    H1 a = some (exq a C (some d) t) ∧ H1 d = some (exd d fs) ∧ fs.lookup f = some v ∧ Q v H1
theorem pe_qget {te : TE} (he : PE X e te)
    (hb : attributeBase e f X.env (eval e X.env) = eval e X.env := by rfl) :
    PE X (.Attribute e f pos) (tQget X.K f te) := by
  refine ⟨fun pins s σ H Q I h => ?_⟩
  refine attr_of hb (thn (he.run pins s σ H _ I h) fun u s1 hh => ?_)
  obtain ⟨x, H1, I1, rx, a, C, dd, t, fs, v, rfl, T, hno, ea, ed, l, q⟩ := hh
  obtain rfl : u = Value.ref a := rx
  obtain ⟨mA, hns, hr⟩ := exd_at I1.hok ed
  obtain ⟨od, ho, hl⟩ := lookIn_ns hns
  obtain ⟨u, hu, ru⟩ := RelO.some_of (v := v) (o := mA f) (by rw [← l]; exact hr f)
  have J : PySem.W.InstAt s1.heap a (exOb C (some dd) t) C (some od) := ⟨exq_at I1.hok ea, rfl, rfl, ho⟩
  exact PySem.HandSPX.exc_get I1.kIn J T.ga T.gg T.exC (PySem.W.findObj_own T.hdC hno rfl (by rw [hl, hu])) (handed_of ru)
    ⟨v, H1, I1.tok _, ru, q⟩
end

/-! ### isinstance, the error may be without a dict -/
inductive TyE (K : PySem.W.Frag) (H : Hp) : V → Value → Prop where
  | base {x : V} {t : Value} (h : TyQ K H x t) : TyE K H x t
  | bare {a D t : Addr} (e : H a = some (exq a D none t)) (c : ExcC K D) : TyE K H (.ref a) (.ref D)
def rIsE2 (K : PySem.W.Frag) : List V → Hp → VK → Prop := fun xs H Q => ∃ (x c : V) (t u : Value) (b : Bool),
  xs = [x, c] ∧ ClsV c u ∧ TyE K H x t ∧ PySem.W.kitOne K t u = some b ∧ Q (.bl b) H
theorem call_ise {X : Cx} : CallR X (.builtin "isinstance") (rIsE2 X.K) := by
  intro pins s σ H xs us Q I r h
  obtain ⟨x, c, t, u, b, rfl, k, ty, e, q⟩ := h
  cases ty with
  | base ty => exact call_isa pins s σ H _ us Q I r ⟨x, c, t, u, b, rfl, k, ty, e, q⟩
  | bare ex C =>
    obtain ⟨u1, u2, rfl, r1, r2⟩ := vals2 r
    obtain rfl := k.eq r2
    obtain rfl : u1 = Value.ref _ := r1
    have ha := exq_at I.hok ex
    refine PySem.W.kia_one (PySem.W.handS_kitx_exc C.hg C.hk C.hs C.hd C.ha C.hn C.ht C.hm) I.kIn ⟨ha, rfl, rfl, trivial⟩ e (fun z => nomatch z)
      fun tk => ⟨.bl b, H, I.tok tk, rfl, q⟩
end Pw

/-! Such an error is raised: what was known of it as a value is let go, its dict stands as an error's dict. -/
namespace Pw
open PySem PySem.Spec PyProof.Rows L2
theorem exd_frz' {e : Addr} {fs : List (Str × V)} {o : Obj} {u : HO} : exd e fs ≠ .frz o u := fun z => by
  have z' : HO.ext _ = HO.frz o u := z
  cases z'
theorem exd_tbl' {e : Addr} {fs : List (Str × V)} {ps : Array Value} : exd e fs ≠ .tbl ps := fun z => by
  have z' : HO.ext _ = HO.tbl ps := z
  cases z'
section
variable {X : Cx} {pins : List (Addr × Obj)} {σ : L2.St} {H : Hp} {s : Shared}
theorem toXd {d : Addr} {fs : List (Str × V)} (I : Inv X pins σ H s) (ed : H d = some (exd d fs)) :
    Inv X pins σ (upd H d (.xd fs)) s := by
  have nd : ∀ {b : Addr}, H b = none → b ≠ d := fun {b} n z => by rw [z, ed] at n; cases n
  have U : Un X.fs [] H (upd H d (.xd fs)) s.heap s.heap := {
    keep := fun b o q n _ _ => q
    slot := fun b o q n _ _ => ⟨o.slots, q⟩
    free := fun b o q n _ => (upd_ne (nd n)).trans n
    there := fun b o q _ => ⟨o, q⟩
    tups := fun b xs q => (upd_ne (at_ne ed q exd_tup)).trans q
    frzs := fun b o v q => (upd_ne (at_ne ed q exd_frz')).trans q
    tbls := fun b ps q => ⟨#[], by rw [upd_ne (at_ne ed q exd_tbl'), q]; simp⟩ }
  have hk : HOk X.prog X.w (upd H d (.xd fs)) s.heap := fun b o q => by
    by_cases hb : b = d
    · subst hb
      cases upd_same.symm.trans q
      exact exd_at I.hok ed
    · rw [upd_ne hb] at q
      exact (I.hok b o q).stay (fun c v _ z => z) (fun c hc => (upd_ne (at_ne ed hc exd_own)).trans hc)
        (fun c xs hc => (upd_ne (at_ne ed hc exd_tup)).trans hc)
  exact I.un (t' := s.toks) U hk
/-- what is asked where such an error is raised -/
def tRq (H0 : Hp) (K0 : PySem.W.Frag) (te : TE) : L2.St → Hp → XK → Prop := fun σ H Q => te σ H fun x H1 => ∃ a C t : Addr, x = .ref a ∧ Fr0 H0 a ∧
  PySem.W.subIn K0 (.ref C) (.type "BaseException") = some true ∧ PySem.W.typeIn K0 (.ref C) = some (.type "type") ∧ ((H1 a = some (exq a C none t) ∧ Q (.ref C) none (delH H1 a)) ∨
    ∃ (d : Addr) (fs : List (Str × V)), d ≠ a ∧ H1 a = some (exq a C (some d) t) ∧ H1 d = some (exd d fs) ∧
      Q (.ref C) (some d) (upd (delH H1 a) d (.xd fs)))
theorem pmk_q {e : Expr} {te : TE} {H0 : Hp} {K0 : PySem.W.Frag} (hH : X.H_0 = H0) (hK : X.K = K0) (hx : X.ex = []) (he : PE X e te) : PMk X e (tRq H0 K0 te) := by
  subst hH
  subst hK
  intro pins s σ H Q I h
  refine wpAny_mono (he.run pins s σ H _ I h) (fun u s1 hu => ?_) fun _ _ x => x
  obtain ⟨v, H1, I1, r1, a, C, t, rfl, h0, r2, r3, q | ⟨d, fs, hda, ea, ed, q⟩⟩ := hu
  · have hr : Raises X (.ref C) := raises_own r2 r3
    obtain ⟨ea, q⟩ := q
    cases r1
    have ho := exq_at I1.hok ea
    obtain ⟨G, gs, ga, J⟩ := I1.untrack ea h0 hx
    exact ⟨a, _, _, { s1 with heap := G }, delH H1 a, .ref C, none, rfl, J, gs, ga, ho, ⟨rfl, rfl⟩, rfl, rfl, delH_same, rfl, I1.bare, hr, q⟩
  · have hr : Raises X (.ref C) := raises_own r2 r3
    cases r1
    have ho := exq_at I1.hok ea
    obtain ⟨G, gs, ga, J⟩ := I1.untrack ea h0 hx
    have J2 := toXd (d := d) (fs := fs) J ((delH_ne hda).trans ed)
    exact ⟨a, _, _, { s1 with heap := G }, upd (delH H1 a) d (.xd fs), .ref C, some d, rfl, J2, gs, ga, ho, ⟨rfl, rfl⟩, rfl, rfl,
      (upd_ne hda.symm).trans delH_same, rfl, I1.bare, hr, q⟩
end
end Pw

/-! A head of which nothing is written out: facts of one's own, each told by a truth over the part of the heap that the names reach. -/
namespace Pw
open PySem PySem.Spec PyProof.Rows L2

abbrev Fb := PySem.W.Frag → Bool
def obsB (fb : List Fb) (fn : List He.DefD) (K : PySem.W.Frag) : He.AlD := ((fb.all fun f => f K) && fn.all fun d => d.ok K, fn.map fun d => He.fnW K d.at_)
def SaysB (fb : List Fb) (fn : List He.DefD) (K : PySem.W.Frag) : Prop := obsB fb fn K = He.valD fn
/-- what an object names: a def's code and defaults; a class's names, its methods, their code -/
def kids (g : Addr → Option Obj) (a : Addr) : List Addr := match g a with
  | some ⟨_, _, .dict es _, _⟩ => es.toList.flatMap fun e => He.refV e.val
  | _ => []
def kid1 (g : Addr → Option Obj) (a : Addr) : List Addr := match g a with
  | some ⟨_, _, .func fd, _⟩ => He.refV fd.code ++ (He.refV fd.defaults ++ (He.refV fd.kwdefaults ++ (He.refV fd.kwdefaults).flatMap (kids g)))
  | _ => []
def kid2 (g : Addr → Option Obj) (a : Addr) : List Addr := match g a with
  | some ⟨_, _, .cls cd, _⟩ => cd.ns :: (kids g cd.ns).flatMap fun f => f :: kid1 g f
  | _ => kid1 g a
/-- what the module's names reach -/
def reachB (g : Addr → Option Obj) : List Addr := PySem.cStatics :: mainGlobals :: (kids g mainGlobals).flatMap fun a => a :: kid2 g a
def obsBG (n : Nat) (fb : List Fb) (fn : List He.DefD) (g : Addr → Option Obj) : He.AlD := obsB fb fn (He.frG g (reachB g))
def hookB (n : Nat) (fb : List Fb) (fn : List He.DefD) : PySem.W.Hook where
  α := He.AlD
  obs := fun s => obsBG n fb fn s.heap.get?
  val := fun _ => He.valD fn
  says := fun _ h => ∃ K : PySem.W.Frag, K.In h ∧ SaysB fb fn K
  of := fun _ _ e => ⟨_, He.frG_in, e⟩
  keeps := fun _ _ _ ⟨K, hK, c⟩ k => ⟨K, PySem.W.Frag.In.keeps hK k, c⟩
theorem obsBG_eq {n : Nat} {fb : List Fb} {fn : List He.DefD} {g : Addr → Option Obj} {s : Shared} (h : ∀ a, g a = s.heap.get? a) : obsBG n fb fn g = (hookB n fb fn).obs s := by
  have e : g = s.heap.get? := funext h
  rw [e] <;> rfl
section
variable {fb : List Fb} {fn : List He.DefD} {K : PySem.W.Frag}
theorem SaysB.fact (c : SaysB fb fn K) {f : Fb} (i : Nat) (h : fb[i]? = some f) : f K = true := by
  have c1 := (He.ba (show ((fb.all fun f => f K) && fn.all fun d => d.ok K) = true from congrArg (fun z : He.AlD => z.1) c)).1
  exact List.all_eq_true.mp c1 f (List.mem_of_getElem? h)
theorem SaysB.def_ (c : SaysB fb fn K) {d : He.DefD} (i : Nat) (h : fn[i]? = some d) : ∃ fd, FunD K d.name d.qual d.params d.body d.scope (d.dvs K) (d.kws K) (He.fAd K d.at_) fd := by
  have c2 := (He.ba (show ((fb.all fun f => f K) && fn.all fun d => d.ok K) = true from congrArg (fun z : He.AlD => z.1) c)).2
  have e : fn.map (fun d => He.fnW K d.at_) = fn.map He.DefD.val := congrArg (fun z : He.AlD => z.2) c
  have e2 : (fn.map fun d => He.fnW K d.at_)[i]? = (fn.map He.DefD.val)[i]? := by rw [e]
  rw [List.getElem?_map, List.getElem?_map, h] at e2
  exact He.DefD.funD (Option.some.inj e2) (List.all_eq_true.mp c2 d (List.mem_of_getElem? h))
end
/-- a def without defaults, as the layer has it -/
theorem funOf {K : PySem.W.Frag} {x q : Str} {st : Stmt} {f : Addr} {fd : FuncData} (F : FunD K x q (defArgs st) (defBody st) (defScope st) [] [] f fd) : Fun K x q st f fd := by
  obtain ⟨oc, od, dV, kV, doc, pm, an, cdv, ct, osl, e, lk, hcd, hD, _⟩ := F.ex
  rcases hD with ⟨_, rfl⟩ | ⟨h, _⟩
  · subst e
    exact ⟨⟨oc, od, kV, doc, pm, an, cdv, ct, osl, rfl, lk, hcd⟩, F.kp⟩
  · exact absurd rfl h
theorem atOf {K : PySem.W.Frag} {h : Heap} {mg : Str → Option Value} {x : Str} {st : Stmt} (X : K.In h) (G : h.Ns mainGlobals mg) (g : (He.Fa.glo x).ok K = true)
    (F : ∃ fd, FunD K x x (defArgs st) (defBody st) (defScope st) [] [] (He.ga K x) fd) : At K mg x st :=
  let ⟨fd, F⟩ := F
  ⟨_, fd, funOf F, He.glo_ok X G g⟩
/-- a class that is an exception, as it stands -/
def xcB (K : PySem.W.Frag) (C : Addr) (bm : List Value) (newId : String) (x : Str) : Bool := match K.lookup C with
  | some ⟨.type "type", _, .cls cd, sl⟩ => (match sl.toList with
    | [_, _, _, _, some (.builtin n), _] => decide (cd.mro = .ref C :: bm) && (decide (n = newId) && (!cd.hasDel && (cd.hasDict && decide (cd.name = x))))
    | _ => false)
  | _ => false
theorem xcB_ok {K : PySem.W.Frag} {C : Addr} {bm : List Value} {newId : String} {x : Str} (q : xcB K C bm newId x = true) :
    ∃ qn N bs sn sub ab col dd m0 m1 m2 m3 m5, K.lookup C = some (excClassObj x qn C N bs bm true sn sub ab col dd m0 m1 m2 m3 m5 newId) := by
  unfold xcB at q
  split at q
  · rename_i dd cd sl ho
    split at q
    · rename_i k0 k1 k2 k3 n k5 hs
      obtain ⟨nm, bs, mro, ns, qn, hd, sn, sub, ab, col, del⟩ := cd
      simp only [Bool.and_eq_true, decide_eq_true_eq, Bool.not_eq_true'] at q
      obtain ⟨rfl, rfl, rfl, rfl, rfl⟩ := q
      have hsl : sl = #[k0, k1, k2, k3, some (.builtin n), k5] := by
        obtain ⟨l⟩ := sl
        simp only at hs
        rw [hs]
      subst hsl
      exact ⟨qn, ns, bs, sn, sub, ab, col, dd, k0, k1, k2, k3, k5, ho⟩
    · cases q
  · cases q
/-- a law: F gives the written part, the function object, the promise over every base, where nothing is being shown -/
theorem walkE {l : PySem.W.OpenLaw} {n k : Nat} {q : Program} {loose : List Str} {XP : (Str → Option Value) → Heap → Prop} {YP : World → Heap → Prop} {d : DefRec} {CX : CXT} {x : Str}
    (hn : l.most = some n) (hn2 : n ≤ sizeLine) (hdf : d.params.defaults = []) (hr : Room k callerA)
    (F : ∀ (w : World) (mg : Str → Option Value) (fa : Addr) (h : Heap), YP w h → h.Ns mainGlobals mg → mg d.name = some (.ref fa) →
      ∃ (K : PySem.W.Frag) (fd : FuncData) (sp : Sp), K.In h ∧ (∀ (s : Shared) (u : Value), BindsTo s fd ⟨[u], []⟩ [(x, u)]) ∧
        (∀ (H : Hp) (a : Addr) (ns : List Int), ns.length ≤ n → Only H → SqL K H a (ns.map V.int) → sp [.ref a] H (fun v _ => v = .bl true) fun _ _ _ => False) ∧
        ∀ base : Heap, K.In base → base.Ns mainGlobals mg → FnG l.prog w K mg base CX k fa fd [x] sp)
    (hCX : ∀ (H : Hp) (s : Shared) (e : Value) (s' : Shared), CX [] H s (fun _ _ _ => False) e s' → False) :
    PySem.W.WalkO q loose XP YP l.row.toRowW d [] (fun f vs => PySem.call f vs) := by
  refine Att.attach_call hn hdf fun w s₀ s₁ mg mb fa o pm cd doc a vs ns G Y ho hd hcd hmg hobj hints hlen hg => ?_
  obtain ⟨K, fd, sp, KX, hb, hsp, hF⟩ := F w mg fa _ Y G.T.g hmg
  exact law_callG KX G.T.g G.T.b G.T.builtins G.T.nolimit hg hobj hints (Nat.le_trans hlen hn2) hr hF hb (fun H hO hS => hsp H a ns hlen hO hS) fun H e s' => hCX H s₁ e s'
end Pw

/-! Own errors raised, let through, and held by a suite. -/
namespace Pw
open PySem PySem.Spec PyProof.Rows L2
theorem kit_xd {K : PySem.W.Frag} {x D : Addr} {ox oD : Obj} (C : ExcC K D) :
    PySem.W.KitX K (.ref x) (.ref D) (fun h => PySem.W.InstAt h x ox D (some oD)) where
  ty := fun _ _ _ I => I.type
  it := fun M h X _ => by
    obtain ⟨cd, hc⟩ := Option.isSome_iff_exists.mp (cls_of_dict C.hd)
    unfold PySem.W.clsIn at hc
    split at hc
    · rename_i ho
      intro A' Q' E' s' k q
      unfold isType loadHead
      exact wpAny_bind (wpAny_loadPart (k _ _ (X _ _ ho)) (wpAny_pure q))
    · cases hc
  ne := fun h tp dd its n sl X htp => by
    obtain ⟨cd, hc⟩ := Option.isSome_iff_exists.mp (cls_of_dict C.hd)
    refine Bool.eq_false_iff.mpr fun q => ?_
    obtain rfl : D = tp := Value.ref.inj (beq_iff_eq.mp q)
    unfold PySem.W.clsIn at hc
    split at hc
    · rename_i ho
      cases (X _ _ ho).symm.trans htp
    · cases hc
  ca := fun X I k => PySem.W.pw_class C.hg C.hk C.hs
    (PySem.W.findObj_data (cls_of_dict C.hd) C.ha C.hn C.ht) C.hm X I k
/-- isinstance(e, c), e the error that the suite holds, with its dict -/
def rIsD (K : PySem.W.Frag) (a : Addr) (cls : Value) (d : Option Addr) : List V → Hp → VK → Prop := fun xs H Q => ∃ (D dd : Addr) (fs : List (Str × V)) (c : V) (cv : Value) (b : Bool),
  cls = .ref D ∧ d = some dd ∧ ExcC K D ∧ xs = [.ref a, c] ∧ (∀ u, RelV c u → u = cv) ∧ PySem.W.kitOne K (.ref D) cv = some b ∧ H dd = some (.xd fs) ∧ Q (.bl b) H
theorem call_isD {X : Cx} {a : Addr} {oe : Obj} {cls : Value} {d : Option Addr} {pn : List (Addr × Obj)} (hz : Zc cls d oe) (hf : ∃ vs, oe.data = .fields vs) :
    CallR (X.suite a ((a, oe) :: pn)) (.builtin "isinstance") (rIsD X.K a cls d) := by
  intro pins s σ H xs us Q I r h
  obtain ⟨D, dd, fs, c, cv, b, rfl, rfl, C, rfl, hcv, e, ed, q⟩ := h
  cases r with
  | cons rx rr =>
    cases rr with
    | cons rt rr =>
      cases rr
      cases rx
      have ec := hcv _ rt
      subst ec
      obtain ⟨hget, _⟩ := I.pin (a, oe) (List.mem_append.mpr (.inl List.mem_cons_self))
      obtain ⟨vs, hv⟩ := hf
      have hx : ObjOk X.prog X.w H s.heap dd (.xd fs) := I.hok dd _ ed
      obtain ⟨mA, hns, hr⟩ := hx
      obtain ⟨od, ho, hl⟩ := lookIn_ns hns
      have J : PySem.W.InstAt s.heap a oe D (some od) := ⟨hget, hz.1, by unfold PySem.W.notCls; rw [hv] <;> rfl, by rw [hz.2]; exact ho⟩
      exact PySem.W.kia_one (kit_xd C) I.kIn J e (fun z => nomatch z) fun tk => ⟨.bl b, H, I.kept (t' := tk) fun _ _ z => z, rfl, q⟩
/-- a family of refusals, by its name: read as a class, and made -/
structure Fam (K : PySem.W.Frag) (mg : Str → Option Value) (x : Str) (q : Str) (B : String) (st : Stmt) (C f : Addr) : Prop where
  mgC : mg x = some (.ref C)
  oex : OexF K C
  hB : PySem.W.mroIn K C (.type B) = some true
  sg : PySem.W.specialIn K (.ref C) "__getattribute__" = some (some (.builtin "type.__getattribute__"))
  rd : PySem.W.readsIn K C (.type "type") = true
  at_ : PySem.W.findCls K (.ref C) (.type "type") "__init__" = some (.val (.ref f))
  iC : PySem.W.findIn K (.ref C) "__init__" = some (some (.ref f))
  tI : PySem.W.typeIn K (.ref f) = some (.type "function")
  fn : ∃ fd, Fun K "__init__" q st f fd
/-- how a built-in base's __init__ is read -/
structure Bas (K : PySem.W.Frag) (mg : Str → Option Value) (B : String) (x : Str) (initId : String) : Prop where
  nm : BaseNm B x initId
  free : mg x = none
  vV : PySem.W.findCls K (.type B) (.type "type") "__init__" = some (.val (.builtin initId))
/-- a refusal's class as it stands -/
structure Cl (K : PySem.W.Frag) (mg : Str → Option Value) (x q field : Str) (B : String) (st : Stmt) (C : Addr) : Prop where
  mgC : mg x = some (.ref C)
  oex : OexF K C
  hB : PySem.W.mroIn K C (.type B) = some true
  nF : PySem.W.findIn K (.ref C) field = some none
  fn : ∃ f fd, PySem.W.findIn K (.ref C) "__init__" = some (some (.ref f)) ∧
    PySem.W.typeIn K (.ref f) = some (.type "function") ∧ Fun K "__init__" q st f fd

section
variable {P : Program} {w : World} {K : PySem.W.Frag} {mg : Str → Option Value} {base : Heap}
/-- a family's __init__(self, text) -/
def spFam (K : PySem.W.Frag) (B : String) : Sp := fun vs H Q _ => ∃ a C t0 x, vs = [.ref a, .str x] ∧ OexF K C ∧
  PySem.W.mroIn K C (.type B) = some true ∧ H a = some (exq a C none t0) ∧
  ∀ t2, H t2 = none → t2 ≠ a → Q .non (upd (upd H t2 (.tup [.str x])) a (exq a C none t2))
/-- a refusal's __init__(self, field): the text x0 becomes its args -/
def spX (K : PySem.W.Frag) (B : String) (field x0 : Str) : Sp := fun vs H Q _ => ∃ a C t0 y, vs = [.ref a, y] ∧ OexF K C ∧
  PySem.W.mroIn K C (.type B) = some true ∧ H a = some (exq a C none t0) ∧
  PySem.W.findIn K (.ref C) field = some none ∧
  ∀ t2 dx, H t2 = none → t2 ≠ a → H dx = none → dx ≠ a → dx ≠ t2 →
    Q .non (upd (upd (upd (upd H t2 (.tup [.str x0])) a (exq a C none t2)) dx (exd dx [(field, y)])) a (exq a C (some dx) t2))
theorem fin_x {field x0 : Str} {H : Hp} {a C : Addr} {y : V} {Q : V → Hp → Prop} {σ : L2.St}
    {D : Ends} (hD : ∀ H', Q .non H' → D.nx σ H')
    (k : ∀ t2 dx, H t2 = none → t2 ≠ a → H dx = none → dx ≠ a → dx ≠ t2 →
      Q .non (upd (upd (upd (upd H t2 (.tup [.str x0])) a (exq a C none t2)) dx (exd dx [(field, y)])) a (exq a C (some dx) t2)))
    {t2 : Addr} (n2 : H t2 = none) (ne : t2 ≠ a) {dx : Addr}
    (nx : upd (upd H t2 (.tup [.str x0])) a (exq a C none t2) dx = none) (nxa : dx ≠ a) :
    D.nx σ (upd (upd (upd (upd H t2 (.tup [.str x0])) a (exq a C none t2)) dx (exd dx [(field, y)])) a (exq a C (some dx) t2)) := by
  have e1 : dx ≠ t2 := fun z => by
    rw [z, upd_ne ne, upd_same] at nx
    cases nx
  have e2 : H dx = none := by
    rw [upd_ne nxa, upd_ne e1] at nx
    exact nx
  exact hD _ (k t2 dx n2 ne e2 nxa e1)
end
/-- the same, K told -/
theorem call_isDK {X : Cx} {K : PySem.W.Frag} {a : Addr} {oe : Obj} {cls : Value} {d : Option Addr} {pn : List (Addr × Obj)} (hK : X.K = K) (hz : Zc cls d oe) (hf : ∃ vs, oe.data = .fields vs) :
    CallR (X.suite a ((a, oe) :: pn)) (.builtin "isinstance") (rIsD K a cls d) := by
  subst hK
  exact call_isD hz hf
theorem call_reprK {X : Cx} {K : PySem.W.Frag} (hK : X.K = K) (gd : X.A.guards = some []) (hu : X.A.units + 64 < cLine) : CallR X (.builtin "repr") (rRepr K) := by
  subst hK
  exact call_repr gd hu
/-! ### defs that let errors out -/
section
variable (P : Program) (w : World) (K : PySem.W.Frag) (mg : Str → Option Value) (base : Heap)
/-- under its name x a def stands that keeps the promise sp, errors too; ds fill up what is left out -/
structure DefE (x : Str) (k : Nat) (ps : List Str) (ds : List V) (sp : Sp) : Prop where
  ex : ∃ f fd us, mg x = some (.ref f) ∧ PySem.W.keepIn K (.ref f) = true ∧ Vals ds us ∧ Binds K fd ps us ∧
    FnOk P w K mg base (L2.CX P w) k f fd ps sp
end
section
variable {P : Program} {w : World} {K : PySem.W.Frag} {mg : Str → Option Value} {base : Heap}
theorem mkDefE {x : Str} {st : Stmt} {N ps : List Str} {k : Nat} {sp : Sp} (A : At K mg x st)
    (S : FnScope N ps (defScope st))
    (hb : ∀ (kV doc pm : Value) (an : Option Addr) (cdv ct : Value) (us : List Value), us.length = ps.length →
      bindArgs (PySem.W.fnOf x x (defArgs st) (defBody st) (defScope st) .none kV doc pm an cdv ct) ⟨us, []⟩ = pure (ps.zip us))
    (len : ∀ vs H Q E, sp vs H Q E → vs.length = ps.length)
    (body : ∀ (f : Addr) (cdv : Value) (A : Around) (out : List Env) (s : Shared) (H : Hp) (vs : List V) (Q : VK) (E : XK),
      Room k (A.deeper (envOfC x (defScope st) s.heap.objs.size f cdv)) → sp vs H Q E →
      ∃ t, PSs (cxOf (L2.CX P w) P w K mg base N x (defScope st) f cdv A out s H E) (defBody st) t ∧
        t { nx := fun _ H' => Q .non H', rt := Q } (start N vs) H) : DefE P w K mg base x (k + 1) ps [] sp := by
  obtain ⟨f, fd, F, m⟩ := A.ex
  exact ⟨f, fd, [], m, F.kp, .nil, F.binds hb, F.okX S len (body f)⟩
theorem mkDefED {x : Str} {st : Stmt} {kws : List (Str × V)} {N ps : List Str} {k n : Nat} {sp : Sp} (A : AtD K mg x st kws)
    (S : FnScope N ps (defScope st)) (hk : kws ≠ []) (hn : n + kws.length = ps.length)
    (hb : ∀ (D : Addr) (doc pm : Value) (an : Option Addr) (cdv ct : Value) (us ks : List Value), us.length = n → ks.length = kws.length →
      KwChain D ((kws.map (·.1)).zip ks) (bindArgs (PySem.W.fnOf x x (defArgs st) (defBody st) (defScope st) .none (.ref D) doc pm an cdv ct) ⟨us, []⟩) (ps.zip (us ++ ks)))
    (len : ∀ vs H Q E, sp vs H Q E → vs.length = ps.length)
    (body : ∀ (f : Addr) (cdv : Value) (A : Around) (out : List Env) (s : Shared) (H : Hp) (vs : List V) (Q : VK) (E : XK),
      Room k (A.deeper (envOfC x (defScope st) s.heap.objs.size f cdv)) → sp vs H Q E →
      ∃ t, PSs (cxOf (L2.CX P w) P w K mg base N x (defScope st) f cdv A out s H E) (defBody st) t ∧
        t { nx := fun _ H' => Q .non H', rt := Q } (start N vs) H) : DefE P w K mg base x (k + 1) ps (kws.map (·.2)) sp := by
  obtain ⟨f, fd, F, m⟩ := A.ex
  obtain ⟨us, hv, b⟩ := F.binds0 n hk hn hb
  exact ⟨f, fd, us, m, F.kp, hv, b, F.ok S len fun cdv A out s H vs Q E hr hs => body f cdv A out s H vs Q E hr hs⟩
end
theorem pe_dE {X : Cx} {x : Str} {k j : Nat} {ps : List Str} {ds : List V} {sp : Sp} {W : WX} {p pos : Pos} {e : Expr} {es : List Expr} {t : TA}
    (D : DefE X.prog X.w X.K X.mg X.base x k ps ds sp) (tk : Takes X W) (hr : Room j X.A) (hk : k ≤ j) (hg : Gl X x) (ha : PA X (e :: es) t)
    (hdb : (x == ("__debug__" : Str)) = false := by decide)
    (he : starEach (e :: es) X.env = (false, eval e X.env) :: starEach es X.env := by rfl)
    (hpl : (backTo pos (starEach es X.env)).any (·.1) = false := by rfl) :
    PE X (.Call (.Name x p) (e :: es) [] pos) (tCallSD sp ds (WE W) t) := by
  obtain ⟨f, fd, us, m, kp, hv, b, F⟩ := D.ex
  exact pe_callSD F (hr.mono hk) hg m kp b hv (passAt tk) ha hdb he hpl
end Pw

/-! What a head by facts tells of own errors. -/
namespace Pw
open PySem PySem.Spec PyProof.Rows L2
/-- a class as it stands: what it stands above -/
structure Look (K : PySem.W.Frag) (C : Addr) (m : List Value) : Prop where
  cls : ∃ cd, PySem.W.clsIn K C = some cd ∧ cd.mro = .ref C :: m
  tyC : PySem.W.typeIn K (.ref C) = some (.type "type")
section
variable {K : PySem.W.Frag} {C D : Addr} {m m' : List Value}
theorem Look.mro (h : Look K C m) (v : Value) : PySem.W.mroIn K C v = some ((Value.ref C :: m).contains v) := by
  obtain ⟨cd, h1, h2⟩ := h.cls
  unfold PySem.W.mroIn
  rw [h1, Option.bind_some, h2]
  rfl
theorem Look.kit (h : Look K C m) (g : Look K D m') :
    PySem.W.kitOne K (.ref C) (.ref D) = some ((Value.ref C :: m).contains (.ref D)) := by
  obtain ⟨cd, h1, h2⟩ := g.cls
  unfold PySem.W.kitOne PySem.W.kitCls
  by_cases e : (Value.ref C == Value.ref D) = true
  · rw [if_pos e]
    obtain rfl := Value.ref.inj (beq_iff_eq.mp e)
    simp
  · rw [if_neg e]
    have e2 : ((PySem.W.clsIn K D).isSome && PySem.W.typeIn K (.ref D) == some (.type "type")) = true := by
      rw [h1, g.tyC]
      rfl
    simp only [e2, if_true]
    exact h.mro _
theorem Look.exm (h : Look K C m) (g : Look K D m') (hb : m'.contains (.type "BaseException") = true) (hne : C ≠ D) :
    PySem.W.exmOne K (.ref C) (.ref D) = some ((Value.ref C :: m).contains (.ref D)) := by
  obtain ⟨cd, h1, h2⟩ := g.cls
  have e2 : ((PySem.W.clsIn K D).isSome && PySem.W.typeIn K (.ref D) == some (.type "type")) = true := by
    rw [h1, g.tyC]
    rfl
  have e1 : PySem.W.subIn K (.ref D) (.type "BaseException") = some true := by
    show PySem.W.mroIn K D _ = _
    rw [g.mro, List.contains_cons, hb, Bool.or_true]
  unfold PySem.W.exmOne PySem.W.kitCls
  rw [e1, if_pos (by decide)]
  simp only [e2, if_true]
  exact h.mro _
theorem Look.exs (g : Look K D m') (hb : m'.contains (.type "BaseException") = true) :
    PySem.W.exmOne K (.ref D) (.ref D) = some true := by
  obtain ⟨cd, h1, h2⟩ := g.cls
  have e2 : ((PySem.W.clsIn K D).isSome && PySem.W.typeIn K (.ref D) == some (.type "type")) = true := by
    rw [h1, g.tyC]
    rfl
  have e1 : PySem.W.subIn K (.ref D) (.type "BaseException") = some true := by
    show PySem.W.mroIn K D _ = _
    rw [g.mro, List.contains_cons, hb, Bool.or_true]
  unfold PySem.W.exmOne PySem.W.kitCls
  rw [e1, if_pos (by decide)]
  simp only [e2, if_true]
  show PySem.W.mroIn K D _ = _
  rw [g.mro]
  simp
theorem Look.kitT (h : Look K C m) {T : String} (hk : PySem.W.kitMeta T = true) :
    PySem.W.kitOne K (.ref C) (.type T) = some (m.contains (.type T)) := by
  have e : (Value.ref C == Value.type T) = false := rfl
  unfold PySem.W.kitOne PySem.W.kitCls
  rw [e, if_neg Bool.false_ne_true]
  simp only [hk, if_true]
  show PySem.W.mroIn K C _ = _
  have e' : (Value.type T == Value.ref C) = false := rfl
  rw [h.mro, List.contains_cons, e', Bool.false_or]
end

section
variable {K : PySem.W.Frag} {mg : Str → Option Value} {h : Heap}
/-- what is the same of all errors -/
structure MethO (K : PySem.W.Frag) : Prop where
  hn : PySem.W.specialIn K (.builtin "object.__class__") "__get__" = some (some (.builtin "getset_descriptor.__get__"))
  ht : PySem.W.takesIn K (.builtin "object.__class__") = some true
theorem look_mk {x qn : Str} {C N : Addr} {bs bm : List Value} {sn : List Str} {sub : List Value} {ab : Bool} {col : Option Bool} {dd : Option Addr} {m0 m1 m2 m3 m5 : Option Value} {newId : String}
    (xL : K.lookup C = some (excClassObj x qn C N bs bm true sn sub ab col dd m0 m1 m2 m3 m5 newId))
    (tC : PySem.W.typeIn K (.ref C) = some (.type "type")) : Look K C bm :=
  ⟨⟨{ name := x, bases := bs, mro := .ref C :: bm, ns := N, qualname := qn, hasDict := true, slotNames := sn, subclasses := sub, abstract := ab, collection := col, hasDel := false },
    by unfold PySem.W.clsIn; rw [xL] <;> rfl, rfl⟩, tC⟩
theorem cl_mk {x q field qn : Str} {B newId : String} {st : Stmt} {C CB f N : Addr} {bs tl : List Value} {sn : List Str} {sub : List Value} {ab : Bool} {col : Option Bool} {dd : Option Addr} {m0 m1 m2 m3 m5 : Option Value}
    {oc : Value} {od an : Option Addr} {osl : Array (Option Value)} {kV doc pm cdv ct : Value} (X : K.In h) (G : h.Ns mainGlobals mg) (F : Fit newId tl) (hBt : tl.contains (.type B) = true) (hOb : tl.contains (.type "object") = true) (M : MethO K)
    (aC : PySem.W.nsIn K mainGlobals x = some (some (.ref C)))
    (xL : K.lookup C = some (excClassObj x qn C N bs (.ref CB :: tl) true sn sub ab col dd m0 m1 m2 m3 m5 newId))
    (sa : PySem.W.findIn K (.ref C) "__setattr__" = some (some (.builtin "object.__setattr__")))
    (eC : PySem.W.subIn K (.ref C) (.type "BaseException") = some true) (tC : PySem.W.typeIn K (.ref C) = some (.type "type"))
    (kC : PySem.W.keepIn K (.ref C) = true) (i1 : PySem.W.findIn K (.ref C) "__init__" = some (some (.ref f)))
    (t1 : PySem.W.typeIn K (.ref f) = some (.type "function"))
    (l1 : K.lookup f = some ⟨oc, od, .func (PySem.W.fnOf "__init__" q (defArgs st) (defBody st) (defScope st) .none kV doc pm an cdv ct), osl⟩)
    (c1 : PySem.W.codeIn K cdv q = true) (k1 : PySem.W.keepIn K (.ref f) = true)
    (hg : PySem.W.findIn K (.ref C) "__getattribute__" = some (some (.builtin "BaseException.__getattribute__")))
    (hk : PySem.W.findIn K (.ref C) "__getattr__" = some none) (hd : PySem.W.hasDictIn K C = true)
    (ha : PySem.W.findIn K (.ref C) "__class__" = some (some (.builtin "object.__class__")))
    (nF : PySem.W.findIn K (.ref C) field = some none) : Cl K mg x q field B st C ∧ Look K C (.ref CB :: tl) ∧ ExcC K C := by
  have L := look_mk xL tC
  refine ⟨⟨PySem.W.mg_of X G aC, ⟨⟨newId, x, qn, N, bs, _, sn, sub, ab, col, dd, m0, m1, m2, m3, m5, xL, (F.up CB).up C⟩, sa, eC, tC, kC⟩, ?_, nF, f, _, i1, t1, fun_mk (st := st) l1 c1 k1⟩,
    L, ⟨hg, hk, eC, hd, ha, M.hn, M.ht, ?_⟩⟩
  · rw [L.mro, List.contains_cons, List.contains_cons, hBt, Bool.or_true, Bool.or_true]
  · rw [L.mro, List.contains_cons, List.contains_cons, hOb, Bool.or_true, Bool.or_true]
theorem fam_mk {x q qn : Str} {B newId : String} {st : Stmt} {C f N : Addr} {bs tl : List Value} {sn : List Str} {sub : List Value} {ab : Bool} {col : Option Bool} {dd : Option Addr} {m0 m1 m2 m3 m5 : Option Value}
    {oc : Value} {od an : Option Addr} {osl : Array (Option Value)} {kV doc pm cdv ct : Value} (X : K.In h) (G : h.Ns mainGlobals mg) (F : Fit newId tl) (hBt : tl.contains (.type B) = true) (hOb : tl.contains (.type "object") = true) (M : MethO K)
    (aC : PySem.W.nsIn K mainGlobals x = some (some (.ref C)))
    (xL : K.lookup C = some (excClassObj x qn C N bs tl true sn sub ab col dd m0 m1 m2 m3 m5 newId))
    (sa : PySem.W.findIn K (.ref C) "__setattr__" = some (some (.builtin "object.__setattr__")))
    (eC : PySem.W.subIn K (.ref C) (.type "BaseException") = some true) (tC : PySem.W.typeIn K (.ref C) = some (.type "type"))
    (kC : PySem.W.keepIn K (.ref C) = true) (i1 : PySem.W.findIn K (.ref C) "__init__" = some (some (.ref f)))
    (t1 : PySem.W.typeIn K (.ref f) = some (.type "function"))
    (l1 : K.lookup f = some ⟨oc, od, .func (PySem.W.fnOf "__init__" q (defArgs st) (defBody st) (defScope st) .none kV doc pm an cdv ct), osl⟩)
    (c1 : PySem.W.codeIn K cdv q = true) (k1 : PySem.W.keepIn K (.ref f) = true)
    (hg : PySem.W.findIn K (.ref C) "__getattribute__" = some (some (.builtin "BaseException.__getattribute__")))
    (hk : PySem.W.findIn K (.ref C) "__getattr__" = some none) (hd : PySem.W.hasDictIn K C = true)
    (ha : PySem.W.findIn K (.ref C) "__class__" = some (some (.builtin "object.__class__")))
    (sg : PySem.W.specialIn K (.ref C) "__getattribute__" = some (some (.builtin "type.__getattribute__")))
    (rd : PySem.W.readsIn K C (.type "type") = true)
    (at_ : PySem.W.findCls K (.ref C) (.type "type") "__init__" = some (.val (.ref f))) : Fam K mg x q B st C f ∧ Look K C tl ∧ ExcC K C := by
  have L := look_mk xL tC
  refine ⟨⟨PySem.W.mg_of X G aC, ⟨⟨newId, x, qn, N, bs, _, sn, sub, ab, col, dd, m0, m1, m2, m3, m5, xL, F.up C⟩, sa, eC, tC, kC⟩, ?_, sg, rd, at_, i1, t1, _, fun_mk (st := st) l1 c1 k1⟩,
    L, ⟨hg, hk, eC, hd, ha, M.hn, M.ht, ?_⟩⟩
  · rw [L.mro, List.contains_cons, hBt, Bool.or_true]
  · rw [L.mro, List.contains_cons, hOb, Bool.or_true]
end
def iniB (B initId : String) : Fb := fun K => match PySem.W.findCls K (.type B) (.type "type") "__init__" with
  | some (.val v) => decide (v = .builtin initId)
  | _ => false
def hnB : Fb := fun K => He.eqO (PySem.W.specialIn K (.builtin "object.__class__") "__get__") (some (some (.builtin "getset_descriptor.__get__")))
def htB : Fb := fun K => decide (PySem.W.takesIn K (.builtin "object.__class__") = some true)
def clC (x : Str) : Fb := fun K => He.eqO (PySem.W.findIn K (.ref (He.ga K x)) "__setattr__") (some (some (.builtin "object.__setattr__"))) &&
  (decide (PySem.W.subIn K (.ref (He.ga K x)) (.type "BaseException") = some true) && (decide (PySem.W.typeIn K (.ref (He.ga K x)) = some (.type "type")) && (PySem.W.keepIn K (.ref (He.ga K x)) &&
  (He.eqO (PySem.W.findIn K (.ref (He.ga K x)) "__init__") (some (some (.ref (He.ma K (He.ga K x) "__init__")))) && (decide (PySem.W.typeIn K (.ref (He.ma K (He.ga K x) "__init__")) = some (.type "function")) &&
  (He.eqO (PySem.W.findIn K (.ref (He.ga K x)) "__getattribute__") (some (some (.builtin "BaseException.__getattribute__"))) && (He.eqO (PySem.W.findIn K (.ref (He.ga K x)) "__getattr__") (some none) &&
  (PySem.W.hasDictIn K (He.ga K x) && He.eqO (PySem.W.findIn K (.ref (He.ga K x)) "__class__") (some (some (.builtin "object.__class__")))))))))))
def clB (x fam field : Str) (tl : List Value) (newId : String) : Fb := fun K => (He.Fa.glo x).ok K && (xcB K (He.ga K x) (.ref (He.ga K fam) :: tl) newId x && (clC x K &&
  He.eqO (PySem.W.findIn K (.ref (He.ga K x)) field) (some none)))
def fmB (x : Str) (tl : List Value) (newId : String) : Fb := fun K => (He.Fa.glo x).ok K && (xcB K (He.ga K x) tl newId x && (clC x K &&
  (He.eqO (PySem.W.specialIn K (.ref (He.ga K x)) "__getattribute__") (some (some (.builtin "type.__getattribute__"))) && (PySem.W.readsIn K (He.ga K x) (.type "type") &&
  (match PySem.W.findCls K (.ref (He.ga K x)) (.type "type") "__init__" with
  | some (.val v) => decide (v = .ref (He.ma K (He.ga K x) "__init__"))
  | _ => false)))))
abbrev dfN (x : Str) (st : Stmt) : He.DefD := ⟨(x, none), x, x, defArgs st, defBody st, defScope st, [], []⟩
abbrev dfI (x q : Str) (st : Stmt) : He.DefD := ⟨(x, some "__init__"), "__init__", q, defArgs st, defBody st, defScope st, [], []⟩
section
variable {K : PySem.W.Frag} {h : Heap} {mg : Str → Option Value}
theorem iniB_ok {B initId : String} (c : iniB B initId K = true) : PySem.W.findCls K (.type B) (.type "type") "__init__" = some (.val (.builtin initId)) := by
  unfold iniB at c
  split at c
  · rename_i v e
    rw [e, of_decide_eq_true c]
  · cases c
theorem clB_ok {x q field fam : Str} {B newId : String} {st : Stmt} {tl : List Value} (X : K.In h) (G : h.Ns mainGlobals mg) (F : Fit newId tl) (hBt : tl.contains (.type B) = true) (hOb : tl.contains (.type "object") = true) (M : MethO K)
    (c : clB x fam field tl newId K = true) (D : ∃ fd, FunD K "__init__" q (defArgs st) (defBody st) (defScope st) [] [] (He.ma K (He.ga K x) "__init__") fd) :
    Cl K mg x q field B st (He.ga K x) ∧ Look K (He.ga K x) (.ref (He.ga K fam) :: tl) ∧ ExcC K (He.ga K x) := by
  obtain ⟨c1, c⟩ := He.ba c
  obtain ⟨c2, c⟩ := He.ba c
  obtain ⟨c3, c4⟩ := He.ba c
  obtain ⟨e1, c3⟩ := He.ba c3
  obtain ⟨e2, c3⟩ := He.ba c3
  obtain ⟨e3, c3⟩ := He.ba c3
  obtain ⟨e4, c3⟩ := He.ba c3
  obtain ⟨e5, c3⟩ := He.ba c3
  obtain ⟨e6, c3⟩ := He.ba c3
  obtain ⟨e7, c3⟩ := He.ba c3
  obtain ⟨e8, c3⟩ := He.ba c3
  obtain ⟨e9, e10⟩ := He.ba c3
  obtain ⟨qn, N, bs, sn, sub, ab, col, dd, m0, m1, m2, m3, m5, xL⟩ := xcB_ok c2
  obtain ⟨fd, DF⟩ := D
  obtain ⟨oc, od, dV, kV, doc, pm, an, cdv, ct, osl, rfl, lk, hcd, hD, _⟩ := DF.ex
  rcases hD with ⟨_, rfl⟩ | ⟨z, _⟩
  · exact cl_mk X G F hBt hOb M (He.eqO_ok c1) xL (He.eqO_ok e1) (of_decide_eq_true e2) (of_decide_eq_true e3) e4 (He.eqO_ok e5) (of_decide_eq_true e6) lk hcd DF.kp (He.eqO_ok e7) (He.eqO_ok e8) e9 (He.eqO_ok e10) (He.eqO_ok c4)
  · exact absurd rfl z
theorem fmB_ok {x q : Str} {B newId : String} {st : Stmt} {tl : List Value} (X : K.In h) (G : h.Ns mainGlobals mg) (F : Fit newId tl) (hBt : tl.contains (.type B) = true) (hOb : tl.contains (.type "object") = true) (M : MethO K)
    (c : fmB x tl newId K = true) (D : ∃ fd, FunD K "__init__" q (defArgs st) (defBody st) (defScope st) [] [] (He.ma K (He.ga K x) "__init__") fd) :
    Fam K mg x q B st (He.ga K x) (He.ma K (He.ga K x) "__init__") ∧ Look K (He.ga K x) tl ∧ ExcC K (He.ga K x) := by
  obtain ⟨c1, c⟩ := He.ba c
  obtain ⟨c2, c⟩ := He.ba c
  obtain ⟨c3, c⟩ := He.ba c
  obtain ⟨s1, c⟩ := He.ba c
  obtain ⟨s2, s3⟩ := He.ba c
  obtain ⟨e1, c3⟩ := He.ba c3
  obtain ⟨e2, c3⟩ := He.ba c3
  obtain ⟨e3, c3⟩ := He.ba c3
  obtain ⟨e4, c3⟩ := He.ba c3
  obtain ⟨e5, c3⟩ := He.ba c3
  obtain ⟨e6, c3⟩ := He.ba c3
  obtain ⟨e7, c3⟩ := He.ba c3
  obtain ⟨e8, c3⟩ := He.ba c3
  obtain ⟨e9, e10⟩ := He.ba c3
  obtain ⟨qn, N, bs, sn, sub, ab, col, dd, m0, m1, m2, m3, m5, xL⟩ := xcB_ok c2
  obtain ⟨fd, DF⟩ := D
  obtain ⟨oc, od, dV, kV, doc, pm, an, cdv, ct, osl, rfl, lk, hcd, hD, _⟩ := DF.ex
  have at_ : PySem.W.findCls K (.ref (He.ga K x)) (.type "type") "__init__" = some (.val (.ref (He.ma K (He.ga K x) "__init__"))) := by
    split at s3
    · rename_i v e
      rw [e, of_decide_eq_true s3]
    · cases s3
  rcases hD with ⟨_, rfl⟩ | ⟨z, _⟩
  · exact fam_mk X G F hBt hOb M (He.eqO_ok c1) xL (He.eqO_ok e1) (of_decide_eq_true e2) (of_decide_eq_true e3) e4 (He.eqO_ok e5) (of_decide_eq_true e6) lk hcd DF.kp (He.eqO_ok e7) (He.eqO_ok e8) e9 (He.eqO_ok e10) (He.eqO_ok s1) s2 at_
  · exact absurd rfl z
end
theorem typ_of_cl {x fam field : Str} {tl : List Value} {newId : String} {K : PySem.W.Frag} (c : clB x fam field tl newId K = true) : PySem.W.typeIn K (.ref (He.ga K x)) = some (.type "type") := by
  obtain ⟨_, c⟩ := He.ba c
  obtain ⟨_, c⟩ := He.ba c
  obtain ⟨c3, _⟩ := He.ba c
  obtain ⟨_, c3⟩ := He.ba c3
  obtain ⟨_, c3⟩ := He.ba c3
  obtain ⟨e3, _⟩ := He.ba c3
  exact of_decide_eq_true e3
/-- what the head finds of a def with keyword-only defaults -/
theorem atDOf {K : PySem.W.Frag} {h : Heap} {mg : Str → Option Value} {x : Str} {st : Stmt} {kws : List (Str × V)} (X : K.In h) (G : h.Ns mainGlobals mg) (g : (He.Fa.glo x).ok K = true)
    (F : ∃ fd, FunD K x x (defArgs st) (defBody st) (defScope st) [] kws (He.ga K x) fd) : AtD K mg x st kws :=
  let ⟨fd, F⟩ := F
  ⟨_, fd, F, He.glo_ok X G g⟩
end Pw

namespace V51
open PySem PySem.Spec PyProof.Rows L2 Pw
abbrev dfK (x : Str) (st : Stmt) (kw : List (Str × He.Dv)) : He.DefD := ⟨(x, none), x, x, defArgs st, defBody st, defScope st, [], kw⟩
abbrev dfM (c m q : Str) (st : Stmt) : He.DefD := ⟨(c, some m), m, q, defArgs st, defBody st, defScope st, [], []⟩
abbrev dfMK (c m q : Str) (st : Stmt) (kw : List (Str × He.Dv)) : He.DefD := ⟨(c, some m), m, q, defArgs st, defBody st, defScope st, [], kw⟩
/-- where a keyword's default of Works.__init__ stands -/
def dAd (x : Str) (K : PySem.W.Frag) : Addr := match K.lookup (He.ma K (He.ga K "Works") "__init__") with
  | some ⟨_, _, .func fd, _⟩ => (match fd.kwdefaults with
    | .ref D => (match PySem.W.nsIn K D x with
      | some (some (.ref a)) => a
      | _ => 0)
    | _ => 0)
  | _ => 0
def dNo (x : Str) (K : PySem.W.Frag) : Bool := match K.lookup (dAd x K) with
  | some ⟨.type "tuple", _, .seq its _, _⟩ => its.toList.isEmpty
  | _ => false
theorem dNo_ok {x : Str} {K : PySem.W.Frag} (h : dNo x K = true) : ∀ H, SqT K H (dAd x K) [] := fun H => by
  unfold dNo at h
  split at h
  · rename_i dd its n sl ho
    have e : its.toList = [] := List.isEmpty_iff.mp h
    refine .inr ⟨_, its, n, ho, rfl, rfl, ?_, ?_⟩
    · have : its.size = 0 := by rw [← Array.length_toList, e]; rfl
      rw [this]
      exact Nat.zero_le _
    · rw [e]
      exact .nil
  · cases h

def fb : List Fb := ([(He.Fa.free "KeyError").ok, (He.Fa.free "ValueError").ok, (He.Fa.free "all").ok, (He.Fa.free "bool").ok, (He.Fa.free "dict").ok, (He.Fa.free "enumerate").ok, (He.Fa.free "int").ok, (He.Fa.free "isinstance").ok, (He.Fa.free "len").ok, (He.Fa.free "list").ok, (He.Fa.free "max").ok, (He.Fa.free "min").ok, (He.Fa.free "range").ok, (He.Fa.free "repr").ok, (He.Fa.free "reversed").ok, (He.Fa.free "sorted").ok, (He.Fa.free "str").ok, (He.Fa.free "sum").ok, (He.Fa.free "tuple").ok, (He.Fa.free "zip").ok, (He.Fa.int "MOST_TIME" 9999).ok, (He.Fa.int "MOST_LEVEL" 63).ok, (He.Fa.int "_MOST_NAME" 8).ok, (He.Fa.int "_MOST_LOCKS" 4).ok, (He.Fa.int "_MOST_PARTS" 3).ok, (He.Fa.int "_MOST_HOLD" 99).ok, (He.Fa.int "_MOST_RANK" 3).ok, (He.Fa.int "_MOST_WITHIN" 999).ok, (He.Fa.int "_MOST_PLACES" 3).ok, (He.Fa.int "_MOST_POINTS" 8).ok] : List Fb) ++ ([(He.Fa.int "_MOST_RULES" 6).ok, (He.Fa.int "_MOST_CAUSES" 8).ok, (He.Fa.int "_MOST_COMMANDS" 4).ok, (He.Fa.int "_MOST_RELATIONS" 5).ok, (He.Fa.int "_MOST_SIGNS" 100).ok, (He.Fa.glo "_is_number").ok, (He.Fa.glo "_check_number").ok, (He.Fa.glo "is_whole").ok, (He.Fa.glo "is_name").ok, (He.Fa.glo "is_one_of").ok, (He.Fa.glo "is_tuple").ok, (He.Fa.glo "is_list").ok, (He.Fa.glo "is_list_of").ok, (He.Fa.glo "is_time").ok, (He.Fa.glo "is_level").ok, (He.Fa.glo "is_mark").ok, (He.Fa.glo "check_time").ok, (He.Fa.glo "is_row").ok, (He.Fa.glo "is_history").ok, (He.Fa.glo "is_rising").ok, (He.Fa.glo "is_point_shape").ok, (He.Fa.glo "_check_each_once").ok, (He.Fa.glo "by_name").ok, (He.Fa.glo "check_points").ok, (He.Fa.glo "check_rules").ok, (He.Fa.glo "is_rule_shape").ok, (He.Fa.glo "check_causes").ok, (He.Fa.glo "is_cause_shape").ok, (He.Fa.glo "_leads_to_itself").ok, (He.Fa.glo "check_commands").ok] : List Fb) ++ ([(He.Fa.glo "is_command_shape").ok, (He.Fa.glo "is_worth_of").ok, (He.Fa.glo "_check_locks").ok, (He.Fa.glo "check_relations").ok, (He.Fa.glo "is_relation_shape").ok, (He.Fa.glo "points_of_relation").ok, (He.Fa.glo "check_works").ok, (He.Fa.glo "relation_holds").ok, (He.Fa.glo "_check_picture").ok, (He.Fa.glo "_broken_in").ok, (He.Fa.glo "broken").ok, (He.Fa.glo "row_at").ok, (He.Fa.glo "_is_history_of").ok, (He.Fa.glo "_check_histories").ok, (He.Fa.glo "_picture_in").ok, (He.Fa.glo "picture_at").ok, (He.Fa.glo "spans").ok, (He.Fa.glo "_stretches").ok, (He.Fa.glo "_add_span").ok, (He.Fa.glo "_law_cell").ok, (He.Fa.glo "_law_box").ok, (He.Fa.glo "_law_take").ok, (He.Fa.glo "_law_names").ok, (He.Fa.glo "_law_points").ok, (He.Fa.glo "_law_mixed").ok, (He.Fa.glo "_law_bonds").ok, (He.Fa.glo "_law_in").ok, (He.Fa.glo "_law_holds").ok, (He.Fa.glo "_law_broken").ok, (He.Fa.glo "_law_history").ok] : List Fb) ++ ([(He.Fa.glo "_law_histories").ok, (He.Fa.glo "_law_picture_at").ok, (He.Fa.glo "_law_spans").ok, (He.Fa.glo "_law_spans_of_all").ok, (He.Fa.glo "_law_ticks_right").ok, (He.Fa.glo "law").ok, hnB, htB, (He.Fa.glo "Works").ok, (He.Fa.cls "Works").ok, (He.Fa.mkr "Works").ok, (He.Fa.noat "Works" "_points").ok, (He.Fa.noat "Works" "_point_by_name").ok, (He.Fa.noat "Works" "_rules").ok, (He.Fa.noat "Works" "_rule_by_name").ok, (He.Fa.noat "Works" "_causes").ok, (He.Fa.noat "Works" "_commands").ok, (He.Fa.noat "Works" "_command_by_name").ok, (He.Fa.noat "Works" "_relations").ok, (He.Fa.meth "Works" "points").ok, (He.Fa.meth "Works" "has_point").ok, (He.Fa.meth "Works" "point").ok, (He.Fa.meth "Works" "is_worth").ok, (He.Fa.meth "Works" "relations").ok, (dNo "rules"), (dNo "causes"), (dNo "commands"), (dNo "relations"), (fun K => He.eqO (PySem.W.findIn K (.ref (He.ga K "Works")) "__class__") (some (some (.builtin "object.__class__")))), (fun K => decide (PySem.W.mroIn K (He.ga K "Works") (.type "object") = some true))] : List Fb) ++ ([(fun K => decide (PySem.W.kitOne K (.ref (He.ga K "Works")) (.ref (He.ga K "Works")) = some true))] : List Fb)
def fn : List He.DefD := ([dfN "_is_number" sIsNumber, dfN "_check_number" sCheckNumber, dfN "is_whole" sIsWhole, dfN "is_name" sIsName, dfN "is_one_of" sIsOneOf, dfN "is_tuple" sIsTuple, dfN "is_list" sIsList, dfN "is_list_of" sIsListOf, dfN "is_time" sIsTime, dfN "is_level" sIsLevel, dfN "is_mark" sIsMark, dfN "check_time" sCheckTime, dfN "is_row" sIsRow, dfN "is_history" sIsHistory, dfN "is_rising" sIsRising, dfN "is_point_shape" sIsPointShape, dfN "_check_each_once" sCheckEachOnce, dfN "by_name" sByName, dfN "check_points" sCheckPoints, dfN "check_rules" sCheckRules, dfN "is_rule_shape" sIsRuleShape, dfN "check_causes" sCheckCauses, dfN "is_cause_shape" sIsCauseShape, dfN "_leads_to_itself" sLeadsToItself, dfN "check_commands" sCheckCommands, dfN "is_command_shape" sIsCommandShape, dfN "is_worth_of" sIsWorthOf, dfN "_check_locks" sCheckLocks, dfN "check_relations" sCheckRelations, dfN "is_relation_shape" sIsRelationShape] : List He.DefD) ++ ([dfN "points_of_relation" sPointsOfRelation, dfN "check_works" sCheckWorks, dfN "relation_holds" sRelationHolds, dfN "_check_picture" sCheckPicture, dfN "_broken_in" sBrokenIn, dfN "broken" sBroken, dfN "row_at" sRowAt, dfN "_is_history_of" sIsHistoryOf, dfN "_check_histories" sCheckHistories, dfN "_picture_in" sPictureIn, dfN "picture_at" sPictureAt, dfN "spans" sSpans, dfN "_stretches" sStretches, dfN "_add_span" sAddSpan, dfN "_law_cell" sLawCell, dfN "_law_box" sLawBox, dfN "_law_take" sLawTake, dfN "_law_names" sLawNames, dfN "_law_points" sLawPoints, dfN "_law_mixed" sLawMixed, dfN "_law_bonds" sLawBonds, dfN "_law_in" sLawIn, dfN "_law_holds" sLawHolds, dfN "_law_broken" sLawBroken, dfN "_law_history" sLawHistory, dfN "_law_histories" sLawHistories, dfN "_law_picture_at" sLawPictureAt, dfN "_law_spans" sLawSpans, dfN "_law_spans_of_all" sLawSpansOfAll, dfN "_law_ticks_right" sLawTicksRight] : List He.DefD) ++ ([dfN "law" sLaw, dfM "Works" "points" "Works.points" mWorks_Points, dfM "Works" "has_point" "Works.has_point" mWorks_HasPoint, dfM "Works" "point" "Works.point" mWorks_Point, dfM "Works" "is_worth" "Works.is_worth" mWorks_IsWorth, dfM "Works" "relations" "Works.relations" mWorks_Relations, dfMK "Works" "__init__" "Works.__init__" mWorks_Init [("rules", .adr (dAd "rules")), ("causes", .adr (dAd "causes")), ("commands", .adr (dAd "commands")), ("relations", .adr (dAd "relations"))]] : List He.DefD)
def loose : List Str := (["_wall", "PanelError", "Absent", "TooMany", "NoTime", "NoWorth", "NoNumber", "NoPoints", "NoRules", "NoCauses", "NoCommands", "NoRelations", "NoWorks", "NoHistory", "NoPicture", "Twice", "Ring", "NoPoint", "NoRule", "MOST_TIME", "MOST_LEVEL", "_MOST_NAME", "_is_number", "_check_number", "is_whole", "is_name", "is_time", "is_mark", "is_one_of", "is_tuple"] : List Str) ++ (["is_list", "is_list_of", "is_rising", "check_time", "_MOST_LOCKS", "_MOST_PARTS", "_MOST_HOLD", "_MOST_RANK", "_MOST_WITHIN", "is_level", "is_point_shape", "is_rule_shape", "is_cause_shape", "is_lock_shape", "is_command_shape", "is_relation_shape", "points_of_relation", "is_row", "is_history", "row_at", "_MOST_PLACES", "_MOST_POINTS", "_MOST_RULES", "_MOST_CAUSES", "_MOST_COMMANDS", "_MOST_RELATIONS", "by_name", "is_worth_of", "check_points", "_check_each_once"] : List Str) ++ (["check_rules", "check_causes", "_leads_to_itself", "check_commands", "_check_locks", "check_relations", "Works", "check_works", "relation_holds", "_MOST_SIGNS", "broken", "_check_picture", "_broken_in", "picture_at", "_check_histories", "_is_history_of", "_picture_in", "spans", "_stretches", "_add_span", "_law_cell", "_law_box", "_law_take", "_law_names", "_law_mixed", "_law_points", "_law_bonds", "_law_most", "_law_in", "_law_holds"] : List Str) ++ (["_law_broken", "_law_picture", "_law_history", "_law_histories", "_law_picture_at", "_law_spans", "_law_spans_of_all", "_law_ticks_right"] : List Str)
abbrev R : PySem.W.OpenRow := PySem.W.OpenLaw.row PySem.Challenge.rw_panelwatch_k51_whole_spans_tick_by_tick
def hk : PySem.W.Hook := hookB 0 fb fn
def ob (s : PySem.W.SharedT) : He.AlD := obsBG 0 fb fn (HandSHeadRun.getT s)
theorem ob_eq (s : PySem.W.SharedT) : ob s = hk.obs s.abs := obsBG_eq (HandSHeadRun.getT_eq s)
end V51

set_option maxHeartbeats 0
namespace V51
open PySem PySem.Spec PyProof.Rows L2 Pw
theorem run (w : World) : HandSHeadRun.RunEq R (PySem.W.view R.prog [106]) hk ob 30000 loose w := by
  intro os
  kernel_rfl
end V51

namespace V51
open PySem PySem.Spec PyProof.Rows L2 Pw
/-! ### what is told of a thing -/
def wholeB (x : V) (lo hi : Int) : Bool := match x with
  | .int i => decide (lo ≤ i) && decide (i ≤ hi)
  | _ => false
def oneB (x : V) (ws : List Str) : Bool := match x with
  | .str s => ws.any fun y => y == s
  | _ => false
/-- is it a tuple of so many things -/
def tupNB (H : Hp) (x : V) (n : Int) : Bool := match x with
  | .ref a => match H a with
    | some (.tup xs) => decide ((xs.length : Int) = n)
    | _ => false
  | _ => false
def nameB (x : V) : Bool := match x with
  | .str s => decide (1 ≤ s.length ∧ s.length ≤ 8) && s.cps.toList.all fun c => decide (97 ≤ c ∧ c ≤ 122)
  | _ => false
/-- texts are short, and of plain signs -/
def Short (x : V) : Prop := ∀ s, x = .str s → s.length ≤ 1000 ∧ ∀ c ∈ s.cps.toList, c < 128

theorem let_lt (c k : Nat) : (!decide ([c] < [k])) = decide (k ≤ c) := by
  by_cases h : k ≤ c
  · have n : ¬ [c] < [k] := by
      intro q
      cases q with
      | rel q => omega
      | cons q => cases q
    rw [decide_eq_true h, decide_eq_false n]
    rfl
  · have y : [c] < [k] := List.Lex.rel (by omega)
    rw [decide_eq_false h, decide_eq_true y]
    rfl

section
variable {P : Program} {w : World} {K : PySem.W.Frag} {mg : Str → Option Value} {base : Heap}
/-- isinstance(slot i, T) -/
theorem pe_is {X : Cx} {i : Nat} {x T : Str} {Tn : String} {p p1 p2 p3 : Pos} (hm : X.mg "isinstance" = none) (hg : Gl X "isinstance")
    (hx : PE X (.Name x p2) (tVar i)) (hT : X.mg T = none) (hgT : Gl X T) (hv : bootBuiltins T = some (.type Tn))
    (hn : T ≠ "__name__" := by decide) (hd : (T == ("__debug__" : Str)) = false := by decide)
    (he : starEach [.Name x p2, .Name T p3] X.env = (false, eval (.Name x p2) X.env) :: starEach [.Name T p3] X.env := by rfl)
    (he2 : starEach [.Name T p3] X.env = (false, eval (.Name T p3) X.env) :: starEach [] X.env := by rfl)
    (hpl : (backTo p (starEach [.Name T p3] X.env)).any (·.1) = false := by rfl) :
    PE X (.Call (.Name "isinstance" p1) [.Name x p2, .Name T p3] [] p)
      (tCB (rIsA X.K) (tCons (tVar i) (tCons (tC (.ty Tn)) tNil))) :=
  pe_callB call_isa hg hm PyProof.Rows.boot_isinstance
    (pa_cons hx (pa_cons (pe_bltn hgT hT hv rfl hn hd) pa_nil he2) he) (by decide) (by decide) he hpl

def spNumber (K : PySem.W.Frag) : Sp := fun vs H Q _ => ∃ x t, vs = [x] ∧ Ty K H x t ∧ Q (.bl (numB x)) H
theorem d_number (T : Txt mg) (A : At K mg "_is_number" sIsNumber) :
    Def P w K mg base "_is_number" 1 ["thing"] (spNumber K) := by
  refine mkDef A scIsNumber (fun _ _ _ _ _ _ us hl => match us, hl with | [_], _ => rfl) (fun vs H Q E h => ?_)
    (fun f cdv A out s H vs Q E hr h => ?_)
  · obtain ⟨x, t, rfl, _⟩ := h
    rfl
  · obtain ⟨x, t, rfl, ty, k⟩ := h
    refine ⟨_, pss_one (ps_ret (pe_and (pe_is T.isinstance (by rfl) (pv 0) T.int (by rfl) (Tn := "int") (by decide +kernel))
      (pe_one (pe_not (pe_is T.isinstance (by rfl) (pv 0) T.bool (by rfl) (Tn := "bool") (by decide +kernel)))))), ?_⟩
    refine ⟨_, rfl, x, .ty "int", t, .type "int", _, rfl, .ty "int", ty.q, ty.isInt, _, rfl, ?_⟩
    have e : numB x = ((numB x || blB x) && !blB x) := by cases x <;> rfl
    cases hb : numB x || blB x with
    | false =>
      refine iteF ?_
      rw [hb] at e
      rw [e] at k
      exact k
    | true =>
      refine iteT ?_
      refine ⟨_, rfl, x, .ty "bool", t, .type "bool", _, rfl, .ty "bool", ty.q, ty.isBool, _, rfl, ?_⟩
      rw [hb, Bool.true_and] at e
      rw [e] at k
      exact k

def spCheck (K : PySem.W.Frag) : Sp := fun vs H Q _ => ∃ i, vs = [.int i] ∧ Q .non H
theorem d_check (A : At K mg "_check_number" sCheckNumber) (dn : Def P w K mg base "_is_number" 1 ["thing"] (spNumber K)) :
    Def P w K mg base "_check_number" 2 ["thing"] (spCheck K) := by
  refine mkDef A scCheckNumber (fun _ _ _ _ _ _ us hl => match us, hl with | [_], _ => rfl) (fun vs H Q E h => ?_)
    (fun f cdv A out s H vs Q E hr h => ?_)
  · obtain ⟨x, rfl, _⟩ := h
    rfl
  · obtain ⟨i, rfl, k⟩ := h
    refine ⟨_, pss_one (ps_if (pt_not (pt_val (pe_d dn hr (by decide) (by rfl) (pa_cons (pv 0) pa_nil))))
      (pss_one ps_never) pss_nil), ?_⟩
    refine ⟨_, rfl, _, _, rfl, .int i, true, rfl, ?_⟩
    exact iteF k

def spWhole (K : PySem.W.Frag) : Sp := fun vs H Q _ => ∃ x t lo hi, vs = [x, .int lo, .int hi] ∧ Ty K H x t ∧
  Q (.bl (wholeB x lo hi)) H
theorem d_whole (A : At K mg "is_whole" sIsWhole) (dn : Def P w K mg base "_is_number" 1 ["thing"] (spNumber K))
    (dc : Def P w K mg base "_check_number" 2 ["thing"] (spCheck K)) :
    Def P w K mg base "is_whole" 3 ["thing", "low", "high"] (spWhole K) := by
  refine mkDef A scIsWhole (fun _ _ _ _ _ _ us hl => match us, hl with | [_, _, _], _ => rfl) (fun vs H Q E h => ?_)
    (fun f cdv A out s H vs Q E hr h => ?_)
  · obtain ⟨x, t, lo, hi, rfl, _⟩ := h
    rfl
  · obtain ⟨x, t, lo, hi, rfl, ty, k⟩ := h
    refine ⟨_, pss_cons (ps_expr (pe_d dc hr (by decide) (by rfl) (pa_cons (pv 1) pa_nil)))
      (pss_cons (ps_expr (pe_d dc hr (by decide) (by rfl) (pa_cons (pv 2) pa_nil)))
      (pss_one (ps_ret (pe_and (pe_d dn hr (by decide) (by rfl) (pa_cons (pv 0) pa_nil))
        (pe_one (pe_chain op_le op_le (pv 1) (pv 0) (pv 2))))))), ?_⟩
    refine ⟨_, rfl, lo, rfl, _, rfl, hi, rfl, _, rfl, x, t, rfl, ty, _, rfl, ?_⟩
    cases x with
    | int i =>
      refine iteT ⟨_, rfl, _, rfl, lo, i, rfl, rfl, _, rfl, ?_⟩
      by_cases hlo : lo ≤ i
      · rw [decide_eq_true hlo]
        refine iteT ⟨_, rfl, i, hi, rfl, rfl, ?_⟩
        have e : wholeB (.int i) lo hi = decide (i ≤ hi) := by
          show (decide (lo ≤ i) && decide (i ≤ hi)) = _
          rw [decide_eq_true hlo, Bool.true_and]
        rw [e] at k
        exact k
      · rw [decide_eq_false hlo]
        refine iteF ?_
        have e : wholeB (.int i) lo hi = false := by
          show (decide (lo ≤ i) && decide (i ≤ hi)) = _
          rw [decide_eq_false hlo, Bool.false_and]
        rw [e] at k
        exact k
    | _ => exact iteF k
def spRange (K : PySem.W.Frag) (lo hi : Int) : Sp := fun vs H Q _ => ∃ x t, vs = [x] ∧ Ty K H x t ∧ Q (.bl (wholeB x lo hi)) H
theorem d_time (T : Txt mg) (A : At K mg "is_time" sIsTime) (dw : Def P w K mg base "is_whole" 3 ["thing", "low", "high"] (spWhole K)) :
    Def P w K mg base "is_time" 4 ["thing"] (spRange K 0 9999) := by
  refine mkDef A scIsTime (fun _ _ _ _ _ _ us hl => match us, hl with | [_], _ => rfl) (fun vs H Q E ⟨x, t, e, _⟩ => by rw [e]; rfl)
    (fun f cdv A out s H vs Q E hr h => ?_)
  obtain ⟨x, t, rfl, ty, k⟩ := h
  exact ⟨_, pss_one (ps_ret (pe_d dw hr (by decide) (by rfl) (pa_cons (pv 0) (pa_cons pe_int
    (pa_cons (pe_gi T.cMOST_TIME) pa_nil))))), _, rfl, x, t, 0, 9999, rfl, ty, k⟩
def spOne (K : PySem.W.Frag) : Sp := fun vs H Q _ => ∃ x t p ws, vs = [x, .ref p] ∧ Ty K H x t ∧
  H p = some (.tup (ws.map V.str)) ∧ Q (.bl (oneB x ws)) H
theorem d_oneof (T : Txt mg) (A : At K mg "is_one_of" sIsOneOf) : Def P w K mg base "is_one_of" 1 ["thing", "words"] (spOne K) := by
  refine mkDef A scIsOneOf (fun _ _ _ _ _ _ us hl => match us, hl with | [_, _], _ => rfl) (fun vs H Q E ⟨x, t, p, ws, e, _⟩ => by rw [e]; rfl)
    (fun f cdv A out s H vs Q E hr h => ?_)
  obtain ⟨x, t, p, ws, rfl, ty, hp, k⟩ := h
  refine ⟨_, pss_one (ps_ret (pe_and (pe_is T.isinstance (by rfl) (pv 0) T.str (by rfl) (Tn := "str") (by decide +kernel))
    (pe_one (pe_cmpR op_in_seq (pv 0) (pv 1) (by rfl))))), ?_⟩
  refine ⟨_, rfl, x, .ty "str", t, .type "str", _, rfl, .ty "str", ty.q, ty.isStr, _, rfl, ?_⟩
  cases x with
  | str z =>
    refine iteT ?_
    refine ⟨_, rfl, _, rfl, p, ws.map V.str, rfl, .inr (SqT.of hp), rfl, ?_, ?_⟩
    · rw [List.all_eq_true]
      intro y hy
      obtain ⟨z', _, rfl⟩ := List.mem_map.mp hy
      rfl
    · have e : inV (.str z) (ws.map V.str) = oneB (.str z) ws := by
        show (ws.map V.str).any (fun y => eqV y (.str z)) = ws.any fun y => y == z
        rw [List.any_map]
        rfl
      show Q (.bl (inV (.str z) (ws.map V.str))) H
      rw [e]
      exact k
  | _ => exact iteF k

def spMark (K : PySem.W.Frag) : Sp := fun vs H Q _ => ∃ x t, vs = [x] ∧ Ty K H x t ∧ ∀ H', Same H H' → Q (.bl (oneB x ["good", "odd"])) H'
theorem d_mark (A : At K mg "is_mark" sIsMark) (d1 : Def P w K mg base "is_one_of" 1 ["thing", "words"] (spOne K)) :
    Def P w K mg base "is_mark" 2 ["thing"] (spMark K) := by
  refine mkDef A scIsMark (fun _ _ _ _ _ _ us hl => match us, hl with | [_], _ => rfl) (fun vs H Q E ⟨x, t, e, _⟩ => by rw [e]; rfl)
    (fun f cdv A out s H vs Q E hr h => ?_)
  obtain ⟨x, t, rfl, ty, k⟩ := h
  refine ⟨_, pss_one (ps_ret (pe_d d1 hr (by decide) (by rfl) (pa_cons (pv 0) (pa_cons (pe_tup (pa_cons pe_str (pa_cons pe_str pa_nil))) pa_nil)))), ?_⟩
  refine ⟨_, rfl, by show 2 ≤ sizeLine; decide, fun q hq => ?_⟩
  exact ⟨x, t, q, ["good", "odd"], rfl, ty.same (Same.laid hq), upd_same, k _ (Same.laid hq)⟩

def spTupN (K : PySem.W.Frag) : Sp := fun vs H Q _ => ∃ x t n, vs = [x, .int n] ∧ Ty K H x t ∧ Q (.bl (tupNB H x n)) H
theorem d_tuple (T : Txt mg) (A : At K mg "is_tuple" sIsTuple) : Def P w K mg base "is_tuple" 1 ["thing", "many"] (spTupN K) := by
  refine mkDef A scIsTuple (fun _ _ _ _ _ _ us hl => match us, hl with | [_, _], _ => rfl) (fun vs H Q E ⟨x, t, n, e, _⟩ => by rw [e]; rfl)
    (fun f cdv A out s H vs Q E hr h => ?_)
  obtain ⟨x, t, n, rfl, ty, k⟩ := h
  refine ⟨_, pss_one (ps_ret (pe_and (pe_is T.isinstance (by rfl) (pv 0) T.tuple (by rfl) (Tn := "tuple") (by decide +kernel))
    (pe_one (pe_cmpR op_eq (pe_callB call_len_seq (by rfl) T.len PySem.boot_len (pa_cons (pv 0) pa_nil)) (pv 1) (nomark _))))), ?_⟩
  refine ⟨_, rfl, x, .ty "tuple", t, .type "tuple", _, rfl, .ty "tuple", ty.q, ty.isTuple, _, rfl, ?_⟩
  cases ty with
  | @tup a xs e =>
    have e1 : tupB H (.ref a) = true := by simp only [tupB, e]
    have e2 : tupNB H (.ref a) n = decide ((xs.length : Int) = n) := by simp only [tupNB, e]
    rw [e1]
    rw [e2] at k
    refine iteT ?_
    refine ⟨_, rfl, a, xs, rfl, .inr (SqT.of e), _, rfl, ?_⟩
    have e3 : decide (V.int (xs.length : Int) = V.int n) = decide ((xs.length : Int) = n) :=
      decide_eq_decide.mpr ⟨V.int.inj, congrArg V.int⟩
    refine ⟨rfl, ?_⟩
    show Q (V.bl (decide (V.int (xs.length : Int) = V.int n))) H
    rw [e3]
    exact k
  | @lst a xs e =>
    have e1 : tupB H (.ref a) = false := by simp only [tupB, e]
    have e2 : tupNB H (.ref a) n = false := by simp only [tupNB, e]
    rw [e1]
    rw [e2] at k
    exact iteF k
  | @dct a xs e =>
    have e1 : tupB H (.ref a) = false := by simp only [tupB, e]
    have e2 : tupNB H (.ref a) n = false := by simp only [tupNB, e]
    rw [e1]
    rw [e2] at k
    exact iteF k
  | @exc a D t dx fs e ed c =>
    have e1 : tupB H (.ref a) = false := by simp only [tupB, e]; rfl
    have e2 : tupNB H (.ref a) n = false := by simp only [tupNB, e]; rfl
    rw [e1]
    rw [e2] at k
    exact iteF k
  | _ => exact iteF k

def spName (K : PySem.W.Frag) : Sp := fun vs H Q _ => ∃ x t, vs = [x] ∧ Ty K H x t ∧ Short x ∧
  ∀ H', Same H H' → Q (.bl (nameB x)) H'
def letB (c : Nat) : Bool := decide (97 ≤ c) && decide (c ≤ 122)
theorem d_name (T : Txt mg) (A : At K mg "is_name" sIsName) : Def P w K mg base "is_name" 1 ["thing"] (spName K) := by
  refine mkDef A scIsName (fun _ _ _ _ _ _ us hl => match us, hl with | [_], _ => rfl) (fun vs H Q E h => ?_)
    (fun f cdv A out s H vs Q E hr h => ?_)
  · obtain ⟨x, t, rfl, _⟩ := h
    rfl
  · obtain ⟨x, t, rfl, ty, sh, k⟩ := h
    obtain ⟨tk, hmn⟩ := T.c_MOST_NAME
    refine ⟨_, pss_cons (ps_if (PW.pt (pw_or (pt_not (pt_val (pe_is T.isinstance (by rfl) (pv 0) T.str (by rfl) (Tn := "str") (by decide +kernel))))
        (pw_or1 (pt_not (pt_chain op_le op_le pe_int (pe_callB call_len_str (by rfl) T.len PySem.boot_len (pa_cons (pv 0) pa_nil))
          (pe_glob (v := .int 8) (by rfl) hmn ⟨_, rfl⟩))))))
        (pss_one (ps_ret pe_bl)) pss_nil)
      (pss_one (ps_ret (pe_callB (cr_all rfl) (by rfl) T.all PyProof.Rows.boot_all (pa_cons
        (pe_lc (own := [("sign", 1)]) (g := gName 1) (tt := tYes) rfl scIsName.nd (pi_str (pv 0))
          (blkOk_by (own := [("sign", 1)]) (N := ["thing", "sign"]) (sc := defScope sIsName) (by decide +kernel))
          (fun _ _ _ _ _ => pg_name (i := 1) scIsName.nd rfl (Or.inl rfl)) (fun _ _ _ _ _ => pts_nil)
          (fun _ _ _ _ _ => pe_chain op_le_str op_le_str pe_str (pv 1) pe_str)) pa_nil)))), ?_⟩
    refine ⟨_, rfl, x, .ty "str", t, .type "str", _, rfl, .ty "str", ty.q, ty.isStr, _, rfl, ?_⟩
    cases x with
    | str z =>
      have hz := (sh z rfl).1
      have hzl : z.length ≤ sizeLine := Nat.le_trans hz (by decide)
      refine iteF ⟨_, rfl, z, rfl, hzl, 1, (z.length : Int), rfl, rfl, _, rfl, ?_⟩
      by_cases h1 : (1 : Int) ≤ (z.length : Int)
      · rw [decide_eq_true h1]
        refine iteT ⟨(z.length : Int), 8, rfl, rfl, _, rfl, ?_⟩
        by_cases h2 : (z.length : Int) ≤ 8
        · rw [decide_eq_true h2]
          refine iteF ⟨_, rfl, z, rfl, fun D hD => ?_⟩
          have nm : nameB (.str z) = ((z.cps.toList.map letB).all id) := by
            have e1 : decide (1 ≤ z.length ∧ z.length ≤ 8) = true := decide_eq_true ⟨by omega, by omega⟩
            show (decide (1 ≤ z.length ∧ z.length ≤ 8) && z.cps.toList.all fun c => decide (97 ≤ c ∧ c ≤ 122)) = _
            rw [e1, Bool.true_and, List.all_map]
            congr 1
            funext c
            show decide (97 ≤ c ∧ c ≤ 122) = (decide (97 ≤ c) && decide (c ≤ 122))
            exact Bool.decide_and _ _
          refine lc_it walk_str (fun i H' => Same H H' ∧ H' D = some (.lst (((z.cps.toList.take i).map letB).map V.bl)))
            ⟨Same.laid hD, upd_same⟩ (fun _ _ _ _ => trivial) ?_ ?_
          · rintro i v H1 H2 hi ⟨S1, e1⟩ ⟨rfl, c, hc, rfl⟩
            have hc' : z.cps.toList[i]? = some c := by rw [Array.getElem?_toList]; exact hc
            refine ⟨rfl, ?_⟩
            unfold tYes
            refine iteT ?_
            refine ⟨_, rfl, "a", ⟨#[c]⟩, rfl, rfl, !decide ([c] < [97]), rfl, ?_⟩
            have fin : ∀ b : Bool, b = letB c → ∃ acc, H2 D = some (.lst acc) ∧ acc.length < sizeLine ∧
                Same H (upd H2 D (.lst (acc ++ [V.bl b]))) ∧ upd H2 D (.lst (acc ++ [V.bl b])) D =
                  some (.lst (((z.cps.toList.take (i + 1)).map letB).map V.bl)) := by
              rintro b rfl
              refine ⟨_, e1, ?_, ?_, ?_⟩
              · have h4 : z.cps.size ≤ 1000 := hz
                simp only [List.length_map, List.length_take]
                exact Nat.lt_of_le_of_lt (Nat.min_le_left _ _) (Nat.lt_of_lt_of_le hi (Nat.le_trans h4 (by decide)))
              · exact fun b o e => (upd_ne (ne_of_none e hD)).trans (S1 b o e)
              · rw [upd_same, List.take_add_one, hc']
                simp
            rw [let_lt]
            by_cases ha : 97 ≤ c
            · rw [decide_eq_true ha]
              refine iteT ?_
              refine ⟨⟨#[c]⟩, "z", rfl, rfl, ?_⟩
              refine fin _ ?_
              show (!decide ([122] < [c])) = (decide (97 ≤ c) && decide (c ≤ 122))
              rw [decide_eq_true ha, Bool.true_and]
              have q := let_lt 122 c
              exact q
            · rw [decide_eq_false ha]
              refine iteF ?_
              refine fin false ?_
              show false = (decide (97 ≤ c) && decide (c ≤ 122))
              rw [decide_eq_false ha, Bool.false_and]
          · rintro H2 ⟨S1, e1⟩
            refine ⟨D, z.cps.toList.map letB, rfl, SqL.of ?_, ?_⟩
            · rw [e1, List.take_of_length_le (by simp)]
            · rw [← nm]
              exact k H2 S1
        · rw [decide_eq_false h2]
          refine iteT ?_
          have e1 : nameB (.str z) = false := by
            have e1 : decide (1 ≤ z.length ∧ z.length ≤ 8) = false := decide_eq_false (fun q => h2 (by omega))
            show (decide (1 ≤ z.length ∧ z.length ≤ 8) && _) = _
            rw [e1, Bool.false_and]
          rw [e1] at k
          exact k H (Same.refl H)
      · rw [decide_eq_false h1]
        refine iteF ⟨_, rfl, ?_⟩
        refine iteT ?_
        have e1 : nameB (.str z) = false := by
          have e1 : decide (1 ≤ z.length ∧ z.length ≤ 8) = false := decide_eq_false (fun q => h1 (by omega))
          show (decide (1 ≤ z.length ∧ z.length ≤ 8) && _) = _
          rw [e1, Bool.false_and]
        rw [e1] at k
        exact k H (Same.refl H)
    | _ => exact iteT (k H (Same.refl H))
end
end V51

namespace V51
open PySem PySem.Spec PyProof.Rows L2 Pw
abbrev R3 := Int × Int × Str
def f3 (r : R3) : List V := [.int r.1, .int r.2.1, .str r.2.2]
def f2 (r : Int × Int) : List V := [.int r.1, .int r.2]
structure GoodR (r : R3) : Prop where
  t0 : 0 ≤ r.1
  t1 : r.1 ≤ 9999
  w0 : 0 ≤ r.2.1
  w1 : r.2.1 ≤ 63
  m : r.2.2 = "good" ∨ r.2.2 = "odd"
structure GoodH (rs : List R3) : Prop where
  all : ∀ r ∈ rs, GoodR r
  rise : rs.Pairwise fun a b => a.1 < b.1
  len : rs.length ≤ 1000
theorem whole_in {i lo hi : Int} (h : lo ≤ i) (k : i ≤ hi) : wholeB (.int i) lo hi = true := by
  show (decide (lo ≤ i) && decide (i ≤ hi)) = true
  rw [decide_eq_true h, decide_eq_true k]
  rfl
theorem cut1 (xs : List V) : cutV xs (some 1) none = xs.drop 1 := by
  unfold cutV
  rw [HT.sIx_none, show (1 : Int) = ((1 : Nat) : Int) from rfl, HT.sIx_nat]
  cases xs with
  | nil => rfl
  | cons x r =>
    have e : min 1 (x :: r).length = 1 := by
      rw [List.length_cons]
      omega
    rw [e, List.take_of_length_le]
    rw [List.length_drop]
    exact Nat.le_refl _
theorem reps_all (n : Nat) : (List.replicate n true).all id = true := by
  rw [List.all_eq_true]
  intro x hx
  rw [List.eq_of_mem_replicate hx]
  rfl
theorem reps_succ (n : Nat) : (List.replicate n true).map V.bl ++ [V.bl true] = (List.replicate (n + 1) true).map V.bl := by
  rw [List.replicate_succ', List.map_append]
  rfl
section
variable {P : Program} {w : World} {K : PySem.W.Frag} {mg : Str → Option Value} {base : Heap}
theorem d_level (T : Txt mg) (A : At K mg "is_level" sIsLevel) (dw : Def P w K mg base "is_whole" 3 ["thing", "low", "high"] (spWhole K)) :
    Def P w K mg base "is_level" 4 ["thing"] (spRange K 0 63) := by
  refine mkDef A scIsLevel (fun _ _ _ _ _ _ us hl => match us, hl with | [_], _ => rfl) (fun vs H Q E ⟨x, t, e, _⟩ => by rw [e]; rfl)
    (fun f cdv A out s H vs Q E hr h => ?_)
  obtain ⟨x, t, rfl, ty, k⟩ := h
  exact ⟨_, pss_one (ps_ret (pe_d dw hr (by decide) (by rfl) (pa_cons (pv 0) (pa_cons pe_int (pa_cons (pe_gi T.cMOST_LEVEL) pa_nil))))),
    _, rfl, x, t, 0, 63, rfl, ty, k⟩

def spRow : Sp := fun vs H Q _ => ∃ p r, vs = [.ref p] ∧ H p = some (.tup (f3 r)) ∧ GoodR r ∧ ∀ H', Same H H' → Q (.bl true) H'
theorem d_row (A : At K mg "is_row" sIsRow) (dt : Def P w K mg base "is_tuple" 1 ["thing", "many"] (spTupN K))
    (dti : Def P w K mg base "is_time" 4 ["thing"] (spRange K 0 9999)) (dl : Def P w K mg base "is_level" 4 ["thing"] (spRange K 0 63))
    (dm : Def P w K mg base "is_mark" 2 ["thing"] (spMark K)) : Def P w K mg base "is_row" 5 ["thing"] spRow := by
  refine mkDef A scIsRow (fun _ _ _ _ _ _ us hl => match us, hl with | [_], _ => rfl) (fun vs H Q E ⟨p, r, e, _⟩ => by rw [e]; rfl)
    (fun f cdv A out s H vs Q E hr h => ?_)
  obtain ⟨p, r, rfl, e, g, k⟩ := h
  refine ⟨_, (pss_cons (ps_if (pt_not (pt_val (pe_d dt hr (by decide) (by rfl) (pa_cons (pv 0) (pa_cons pe_int pa_nil)))))
      (pss_one (ps_ret pe_bl))
      pss_nil)
    (pss_cons (ps_asg (pv 0) (pg_tup (by rfl) (pgs_cons (pg_name (i := 1) scIsRow.nd rfl (.inl rfl)) (pgs_cons (pg_name (i := 2) scIsRow.nd rfl (.inl rfl)) (pgs_cons (pg_name (i := 3) scIsRow.nd rfl (.inl rfl)) pgs_nil)))))
    (pss_one (ps_ret (pe_and (pe_d dti hr (by decide) (by rfl) (pa_cons (pv 1) pa_nil)) (pe_and (pe_d dl hr (by decide) (by rfl) (pa_cons (pv 2) pa_nil)) (pe_one (pe_d dm hr (by decide) (by rfl) (pa_cons (pv 3) pa_nil))))))))), ?_⟩
  have eT : tupNB H (.ref p) 3 = true := by simp only [tupNB, e]; rfl
  refine ⟨_, rfl, .ref p, _, 3, rfl, .tup e, true, congrArg V.bl eT, iteF ?_⟩
  refine ⟨_, rfl, p, f3 r, rfl, SqT.of e, rfl, _, _, rfl, _, _, rfl, _, _, rfl, rfl, ?_⟩
  refine ⟨_, rfl, .int r.1, _, rfl, .int _, true, congrArg V.bl (whole_in g.t0 g.t1), iteT ?_⟩
  refine ⟨_, rfl, .int r.2.1, _, rfl, .int _, true, congrArg V.bl (whole_in g.w0 g.w1), iteT ?_⟩
  refine ⟨_, rfl, .str r.2.2, _, rfl, .str _, fun H' S => ?_⟩
  have eM : oneB (.str r.2.2) ["good", "odd"] = true := by
    rcases g.m with z | z <;> rw [z] <;> decide +kernel
  rw [eM]
  exact k H' S

def spRis (K : PySem.W.Frag) : Sp := fun vs H Q _ => ∃ (a : Addr) (ns : List Int), vs = [.ref a] ∧ SqL K H a (ns.map V.int) ∧ ns.length ≤ 2000 ∧ ns.Pairwise (· < ·) ∧
  ∀ H', Same H H' → Q (.bl true) H'
theorem d_rising (T : Txt mg) (A : At K mg "is_rising" sIsRising) : Def P w K mg base "is_rising" 1 ["numbers"] (spRis K) := by
  refine mkDef A scIsRising (fun _ _ _ _ _ _ us hl => match us, hl with | [_], _ => rfl) (fun vs H Q E ⟨_, _, e, _⟩ => by rw [e]; rfl)
    (fun f cdv A out s H vs Q E hr h => ?_)
  obtain ⟨a, ns, rfl, hS, hl, hp, k⟩ := h
  refine ⟨_, (pss_one (ps_ret (pe_callB (cr_all rfl) (by rfl) T.all PyProof.Rows.boot_all (pa_cons (pe_lc (own := [("one", 1), ("other", 2)]) (g := gTup K 2 (gCons (gName 1) (gCons (gName 2) gNil))) (tt := tYes) rfl scIsRising.nd (pi_zip (by rfl) T.zip (pa_cons (pv 0) (pa_cons (pe_slice sl_list (pv 0) (po_some pe_int) po_none) pa_nil)))
        (blkOk_by (own := [("one", 1), ("other", 2)]) (N := ["numbers", "one", "other"]) (sc := defScope sIsRising) (by decide +kernel))
        (fun _ _ _ _ _ => (pg_tup (by rfl) (pgs_cons (pg_name (i := 1) scIsRising.nd rfl (.inl rfl)) (pgs_cons (pg_name (i := 2) scIsRising.nd rfl (.inl rfl)) pgs_nil)))) (fun _ _ _ _ _ => pts_nil)
        (fun _ _ _ _ _ => (pe_cmpR op_lt (pv 1) (pv 2) (nomark _)))) pa_nil)))), ?_⟩
  refine ⟨_, rfl, _, rfl, 1, rfl, a, ns.map V.int, rfl, hS, fun b nb => ?_⟩
  rw [cut1]
  generalize q1 : upd H b (.lst ((ns.map V.int).drop 1)) = H1
  have S1 : Same H H1 := q1 ▸ Same.laid nb
  have e1 : H1 b = some (.lst ((ns.map V.int).drop 1)) := q1 ▸ upd_same
  refine ⟨a, b, ns.map V.int, (ns.map V.int).drop 1, rfl, S1.seq hS, SqL.of e1, fun D hD => ?_⟩
  have hn : min (ns.map V.int).length ((ns.map V.int).drop 1).length ≤ 1000000 := by
    rw [List.length_map]
    omega
  refine lc_acc (walk_zip (xs := ns.map V.int) (ys := (ns.map V.int).drop 1) rfl) hD hn (fun i acc H => acc = (List.replicate i true).map V.bl) rfl
    (fun H' S => ⟨S.seq (S1.seq hS), SqL.of (S _ _ e1)⟩) ?_ ?_
  · rintro i v H2 H3 acc hi S2 eD hl2 rfl ⟨Tt, x, y, rfl, nT, rfl, hx, hy⟩ Fy Fn hy1 _
    have hx' : (ns.map V.int)[i]? = some x := hx
    have hy' : ((ns.map V.int).drop 1)[i]? = some y := hy
    rw [List.getElem?_map] at hx'
    rw [List.getElem?_drop, List.getElem?_map] at hy'
    cases qa : ns[i]? with
    | none => rw [qa] at hx'; cases hx'
    | some i1 =>
      cases qb : ns[1 + i]? with
      | none => rw [qb] at hy'; cases hy'
      | some i2 =>
        rw [qa] at hx'; rw [qb] at hy'
        cases hx'; cases hy'
        refine ⟨Tt, _, rfl, SqT.of upd_same, rfl, _, _, rfl, _, _, rfl, rfl, rfl, ?_⟩
        unfold tYes
        refine iteT ?_
        refine ⟨_, rfl, _, rfl, i1, i2, rfl, rfl, ?_⟩
        have hlt : i1 < i2 := by
          obtain ⟨ha, ea⟩ := List.getElem?_eq_some_iff.mp qa
          obtain ⟨hb, eb⟩ := List.getElem?_eq_some_iff.mp qb
          have := List.pairwise_iff_getElem.mp hp i (1 + i) ha hb (by omega)
          rw [ea, eb] at this
          exact this
        show Fy (V.bl (decide (i1 < i2))) _
        rw [decide_eq_true hlt]
        refine hy1 _ _ (Same.laid nT) ?_
        show _ ++ [V.bl true] = _
        rw [List.replicate_succ', List.map_append]
        rfl
  · rintro H2 acc S2 eD rfl
    refine ⟨D, List.replicate _ true, rfl, SqL.of eD, ?_⟩
    have : (List.replicate (min (ns.map V.int).length ((ns.map V.int).drop 1).length) true).all id = true := by
      rw [List.all_eq_true]
      intro x hx
      rw [List.eq_of_mem_replicate hx]
      rfl
    rw [this]
    exact k _ (S1.trans S2)
/-- a history, as a list or a tuple -/
def Hs (H : Hp) (a : Addr) (rs : List R3) : Prop := LT f3 H a rs ∨ ∃ vs, H a = some (.tup vs) ∧ Al f3 H vs rs
theorem Hs.same {H H' : Hp} {a : Addr} {rs : List R3} (h : Hs H a rs) (S : Same H H') : Hs H' a rs := h.imp (fun l => l.same S) fun ⟨vs, e, al⟩ => ⟨vs, S _ _ e, al.same S⟩
def spHist : Sp := fun vs H Q _ => ∃ (a : Addr) (rs : List R3), vs = [.ref a] ∧ Hs H a rs ∧ GoodH rs ∧ ∀ H', Same H H' → Q (.bl true) H'
theorem d_history (T : Txt mg) (A : At K mg "is_history" sIsHistory) (dr : Def P w K mg base "is_row" 5 ["thing"] spRow)
    (di : Def P w K mg base "is_rising" 1 ["numbers"] (spRis K)) : Def P w K mg base "is_history" 6 ["thing"] spHist := by
  refine mkDef A scIsHistory (fun _ _ _ _ _ _ us hl => match us, hl with | [_], _ => rfl) (fun vs H Q E ⟨_, _, e, _⟩ => by rw [e]; rfl)
    (fun f cdv A out s H vs Q E hr h => ?_)
  obtain ⟨a, rs, rfl, hH, hg, k⟩ := h
  rcases hH with hL | ⟨vs, eL, al⟩
  · obtain ⟨vs, eL, al⟩ := hL.ex
    refine ⟨_, (pss_cons (ps_if (PW.pt (pw_or (pt_not (pt_val (pe_callB call_isiT (by rfl) T.isinstance PyProof.Rows.boot_isinstance (pa_cons (pv 0) (pa_cons (pe_tup (pa_cons (pe_bltn (v := .ty "list") (u := .type "list") (by rfl) T.list (by decide +kernel) rfl) (pa_cons (pe_bltn (v := .ty "tuple") (u := .type "tuple") (by rfl) T.tuple (by decide +kernel) rfl) pa_nil))) pa_nil))))) (pw_or1 (pt_not (pt_val (pe_callB (cr_all rfl) (by rfl) T.all PyProof.Rows.boot_all (pa_cons (pe_lc (own := [("row", 1)]) (g := gName 1) (tt := tYes) rfl scIsHistory.nd (pi_list (pv 0))
          (blkOk_by (own := [("row", 1)]) (N := ["thing", "row"]) (sc := defScope sIsHistory) (by decide +kernel))
          (fun _ _ _ _ _ => (pg_name (i := 1) scIsHistory.nd rfl (.inl rfl))) (fun _ _ _ _ _ => pts_nil)
          (fun _ _ _ _ _ => (pe_d dr hr (by decide) (by rfl) (pa_cons (pv 1) pa_nil)))) pa_nil)))))))
        (pss_one (ps_ret pe_bl))
        pss_nil)
      (pss_one (ps_ret (pe_d di hr (by decide) (by rfl) (pa_cons (pe_lc (own := [("row", 1)]) (g := gName 1) (tt := tYes) rfl scIsHistory.nd (pi_list (pv 0))
          (blkOk_by (own := [("row", 1)]) (N := ["thing", "row"]) (sc := defScope sIsHistory) (by decide +kernel))
          (fun _ _ _ _ _ => (pg_name (i := 1) scIsHistory.nd rfl (.inl rfl))) (fun _ _ _ _ _ => pts_nil)
          (fun _ _ _ _ _ => (pe_ix (r := rIxT K) ix_tup (pv 1) pe_int (fun _ _ => rfl)))) pa_nil))))), ?_⟩
    refine ⟨_, rfl, by show 2 ≤ sizeLine; decide, fun q hq => ?_⟩
    generalize q1 : upd H q (.tup [.ty "list", .ty "tuple"]) = H1
    have S1 : Same H H1 := q1 ▸ Same.laid hq
    have e1 : H1 q = some (.tup [.ty "list", .ty "tuple"]) := q1 ▸ upd_same
    refine ⟨.ref a, q, [.ty "list", .ty "tuple"], .type "list", [.type "list", .type "tuple"], true, rfl, e1, .cons (.ty _) (.cons (.ty _) .nil),
      .base (.lst (S1 _ _ eL)), kit_lt_list, true, rfl, iteF ?_⟩
    have al1 := al.same S1
    have hn : vs.length ≤ 1000000 := by
      rw [al.length]
      exact Nat.le_trans hg.len (by decide)
    refine ⟨_, rfl, a, rfl, ⟨_, SqL.of (S1 _ _ eL)⟩, fun D hD => ?_⟩
    refine lc_acc (walk_list (K := K) (a := a) (xs := vs)) hD hn (fun i acc H => acc = (List.replicate i true).map V.bl) rfl
      (fun H' S => SqL.of (S _ _ (S1 _ _ eL))) ?_ ?_
    · rintro i v H2 H3 acc hi S2 eD hl2 rfl ⟨rfl, hx⟩ Fy Fn hy1 _
      obtain ⟨p, r, rfl, hr', ep⟩ := (al1.same S2).get hx
      refine ⟨rfl, ?_⟩
      unfold tYes
      refine iteT ?_
      exact ⟨_, rfl, p, r, rfl, ep, hg.all r (List.mem_of_getElem? hr'), fun H4 S4 => hy1 _ _ S4 (reps_succ i)⟩
    · rintro H2 acc S2 eD rfl
      refine ⟨D, List.replicate _ true, rfl, SqL.of eD, true, congrArg V.bl (reps_all _), iteF ?_⟩
      have eL2 := S2 _ _ (S1 _ _ eL)
      have al2 := al1.same S2
      refine ⟨_, rfl, a, rfl, ⟨_, SqL.of eL2⟩, fun D2 hD2 => ?_⟩
      refine lc_acc (walk_list (K := K) (a := a) (xs := vs)) hD2 hn (fun i acc H => acc = ((rs.take i).map (·.1)).map V.int) rfl
        (fun H' S => SqL.of (S _ _ eL2)) ?_ ?_
      · rintro i v H3 H4 acc hi S3 eD2 hl3 rfl ⟨rfl, hx⟩ Fy Fn hy1 _
        obtain ⟨p, r, rfl, hr', ep⟩ := (al2.same S3).get hx
        refine ⟨rfl, ?_⟩
        unfold tYes
        refine iteT ?_
        refine ⟨_, rfl, p, f3 r, 0, .int r.1, rfl, rfl, SqT.of ep, rfl, ?_⟩
        refine hy1 _ _ (Same.refl _) ?_
        rw [List.take_add_one, hr', List.map_append, List.map_append]
        rfl
      · rintro H3 acc S3 eD2 rfl
        rw [al.length, List.take_length] at eD2
        refine ⟨D2, rs.map (·.1), rfl, SqL.of eD2, by rw [List.length_map]; exact Nat.le_trans hg.len (by decide), List.pairwise_map.mpr hg.rise, fun H4 S4 => ?_⟩
        exact k _ (S1.trans (S2.trans (S3.trans S4)))
  · refine ⟨_, (pss_cons (ps_if (PW.pt (pw_or (pt_not (pt_val (pe_callB call_isiT (by rfl) T.isinstance PyProof.Rows.boot_isinstance (pa_cons (pv 0) (pa_cons (pe_tup (pa_cons (pe_bltn (v := .ty "list") (u := .type "list") (by rfl) T.list (by decide +kernel) rfl) (pa_cons (pe_bltn (v := .ty "tuple") (u := .type "tuple") (by rfl) T.tuple (by decide +kernel) rfl) pa_nil))) pa_nil))))) (pw_or1 (pt_not (pt_val (pe_callB (cr_all rfl) (by rfl) T.all PyProof.Rows.boot_all (pa_cons (pe_lc (own := [("row", 1)]) (g := gName 1) (tt := tYes) rfl scIsHistory.nd (pi_tup (pv 0))
          (blkOk_by (own := [("row", 1)]) (N := ["thing", "row"]) (sc := defScope sIsHistory) (by decide +kernel))
          (fun _ _ _ _ _ => (pg_name (i := 1) scIsHistory.nd rfl (.inl rfl))) (fun _ _ _ _ _ => pts_nil)
          (fun _ _ _ _ _ => (pe_d dr hr (by decide) (by rfl) (pa_cons (pv 1) pa_nil)))) pa_nil)))))))
        (pss_one (ps_ret pe_bl))
        pss_nil)
      (pss_one (ps_ret (pe_d di hr (by decide) (by rfl) (pa_cons (pe_lc (own := [("row", 1)]) (g := gName 1) (tt := tYes) rfl scIsHistory.nd (pi_tup (pv 0))
          (blkOk_by (own := [("row", 1)]) (N := ["thing", "row"]) (sc := defScope sIsHistory) (by decide +kernel))
          (fun _ _ _ _ _ => (pg_name (i := 1) scIsHistory.nd rfl (.inl rfl))) (fun _ _ _ _ _ => pts_nil)
          (fun _ _ _ _ _ => (pe_ix (r := rIxT K) ix_tup (pv 1) pe_int (fun _ _ => rfl)))) pa_nil))))), ?_⟩
    refine ⟨_, rfl, by show 2 ≤ sizeLine; decide, fun q hq => ?_⟩
    generalize q1 : upd H q (.tup [.ty "list", .ty "tuple"]) = H1
    have S1 : Same H H1 := q1 ▸ Same.laid hq
    have e1 : H1 q = some (.tup [.ty "list", .ty "tuple"]) := q1 ▸ upd_same
    refine ⟨.ref a, q, [.ty "list", .ty "tuple"], .type "tuple", [.type "list", .type "tuple"], true, rfl, e1, .cons (.ty _) (.cons (.ty _) .nil),
      .base (.tup (S1 _ _ eL)), kit_lt_tuple, true, rfl, iteF ?_⟩
    have al1 := al.same S1
    have hn : vs.length ≤ 1000000 := by
      rw [al.length]
      exact Nat.le_trans hg.len (by decide)
    refine ⟨_, rfl, a, rfl, ⟨_, SqT.of (S1 _ _ eL)⟩, fun D hD => ?_⟩
    refine lc_acc (walk_tup (K := K) (a := a) (xs := vs)) hD hn (fun i acc H => acc = (List.replicate i true).map V.bl) rfl
      (fun H' S => SqT.of (S _ _ (S1 _ _ eL))) ?_ ?_
    · rintro i v H2 H3 acc hi S2 eD hl2 rfl ⟨rfl, hx⟩ Fy Fn hy1 _
      obtain ⟨p, r, rfl, hr', ep⟩ := (al1.same S2).get hx
      refine ⟨rfl, ?_⟩
      unfold tYes
      refine iteT ?_
      exact ⟨_, rfl, p, r, rfl, ep, hg.all r (List.mem_of_getElem? hr'), fun H4 S4 => hy1 _ _ S4 (reps_succ i)⟩
    · rintro H2 acc S2 eD rfl
      refine ⟨D, List.replicate _ true, rfl, SqL.of eD, true, congrArg V.bl (reps_all _), iteF ?_⟩
      have eL2 := S2 _ _ (S1 _ _ eL)
      have al2 := al1.same S2
      refine ⟨_, rfl, a, rfl, ⟨_, SqT.of eL2⟩, fun D2 hD2 => ?_⟩
      refine lc_acc (walk_tup (K := K) (a := a) (xs := vs)) hD2 hn (fun i acc H => acc = ((rs.take i).map (·.1)).map V.int) rfl
        (fun H' S => SqT.of (S _ _ eL2)) ?_ ?_
      · rintro i v H3 H4 acc hi S3 eD2 hl3 rfl ⟨rfl, hx⟩ Fy Fn hy1 _
        obtain ⟨p, r, rfl, hr', ep⟩ := (al2.same S3).get hx
        refine ⟨rfl, ?_⟩
        unfold tYes
        refine iteT ?_
        refine ⟨_, rfl, p, f3 r, 0, .int r.1, rfl, rfl, SqT.of ep, rfl, ?_⟩
        refine hy1 _ _ (Same.refl _) ?_
        rw [List.take_add_one, hr', List.map_append, List.map_append]
        rfl
      · rintro H3 acc S3 eD2 rfl
        rw [al.length, List.take_length] at eD2
        refine ⟨D2, rs.map (·.1), rfl, SqL.of eD2, by rw [List.length_map]; exact Nat.le_trans hg.len (by decide), List.pairwise_map.mpr hg.rise, fun H4 S4 => ?_⟩
        exact k _ (S1.trans (S2.trans (S3.trans S4)))

def spHistC : Sp := fun vs H Q _ => ∃ (a : Addr) (rs : List R3), vs = [.ref a] ∧ Hs H a rs ∧ GoodH rs ∧ ∀ H', Same H H' → Q .non H'
def spIn (lo hi : Int) : Sp := fun vs H Q _ => ∃ i, vs = [.int i] ∧ lo ≤ i ∧ i ≤ hi ∧ Q .non H
theorem d_ctime (A : At K mg "check_time" sCheckTime) (d : Def P w K mg base "is_time" 4 ["thing"] (spRange K 0 9999)) :
    Def P w K mg base "check_time" 5 ["thing"] (spIn 0 9999) := by
  refine mkDef A scCheckTime (fun _ _ _ _ _ _ us hl => match us, hl with | [_], _ => rfl) (fun vs H Q E ⟨_, e, _⟩ => by rw [e]; rfl)
    (fun f cdv A out s H vs Q E hr h => ?_)
  obtain ⟨i, rfl, h0, h1, k⟩ := h
  refine ⟨_, (pss_one (ps_if (pt_not (pt_val (pe_d d hr (by decide) (by rfl) (pa_cons (pv 0) pa_nil))))
      (pss_one ps_never)
      pss_nil)), ?_⟩
  exact ⟨_, rfl, .int i, _, rfl, .int i, true, congrArg V.bl (whole_in h0 h1), iteF k⟩
end
end V51

namespace V51
open PySem PySem.Spec PyProof.Rows L2 Pw
/-! ### points -/
structure Pt where
  nm : Str
  pl : Str
  sw : Bool
def kd (b : Bool) : Str := if b = true then "switch" else "level"
def fP (p : Pt) : List V := [.str p.nm, .str p.pl, .str (kd p.sw)]
structure OkName (s : Str) : Prop where
  b : nameB (.str s) = true
  sh : Short (.str s)
structure GoodP (p : Pt) : Prop where
  nm : OkName p.nm
  pl : OkName p.pl
structure GoodPs (ps : List Pt) : Prop where
  all : ∀ p ∈ ps, GoodP p
  nd : (ps.map (·.nm)).Nodup
  few : ∃ ws : List Str, ws.length ≤ 3 ∧ ∀ p ∈ ps, p.pl ∈ ws
  pos : 1 ≤ ps.length
  len : ps.length ≤ 8
theorem kd_one (b : Bool) : oneB (.str (kd b)) ["level", "switch"] = true := by cases b <;> decide +kernel
theorem kd_level (b : Bool) : decide (V.str (kd b) = V.str "level") = !b := by cases b <;> decide +kernel
theorem LS.sq {α : Type} {f : α → List V} {K : PySem.W.Frag} {H : Hp} {a : Addr} {rs : List α} (h : LS f H a rs) : ∃ vs, Sq K H a vs ∧ Al f H vs rs := by
  rcases h with h | ⟨vs, e, al⟩
  · obtain ⟨vs, e, al⟩ := h.ex
    exact ⟨vs, .inl (SqL.of e), al⟩
  · exact ⟨vs, .inr (SqT.of e), al⟩
section
variable {P : Program} {w : World} {K : PySem.W.Frag} {mg : Str → Option Value} {base : Heap}
/-- a list or a tuple of so many -/
def spList (K : PySem.W.Frag) : Sp := fun vs H Q _ => ∃ (a : Addr) (xs : List V) (lo hi : Int), vs = [.ref a, .int lo, .int hi] ∧ Sq K H a xs ∧ lo ≤ (xs.length : Int) ∧ (xs.length : Int) ≤ hi ∧
  ∀ H', Same H H' → Q (.bl true) H'
theorem d_list (T : Txt mg) (A : At K mg "is_list" sIsList) : Def P w K mg base "is_list" 1 ["thing", "least", "most"] (spList K) := by
  refine mkDef A scIsList (fun _ _ _ _ _ _ us hl => match us, hl with | [_, _, _], _ => rfl) (fun vs H Q E ⟨_, _, _, _, e, _⟩ => by rw [e]; rfl)
    (fun f cdv A out s H vs Q E hr h => ?_)
  obtain ⟨a, xs, lo, hi, rfl, hs, h1, h2, k⟩ := h
  refine ⟨_, (pss_one (ps_ret (pe_and (pe_callB call_isiT (by rfl) T.isinstance PyProof.Rows.boot_isinstance (pa_cons (pv 0) (pa_cons (pe_tup (pa_cons (pe_bltn (v := .ty "list") (u := .type "list") (by rfl) T.list (by decide +kernel) rfl) (pa_cons (pe_bltn (v := .ty "tuple") (u := .type "tuple") (by rfl) T.tuple (by decide +kernel) rfl) pa_nil))) pa_nil)))
    (pe_one (pe_chain op_le op_le (pv 1) (pe_callB call_len_seq (by rfl) T.len PySem.boot_len (pa_cons (pv 0) pa_nil)) (pv 2)))))), ?_⟩
  refine ⟨_, rfl, by show 2 ≤ sizeLine; decide, fun q hq => ?_⟩
  have S1 := Same.laid (o := HO.tup [.ty "list", .ty "tuple"]) hq
  have e1 : upd H q (.tup [.ty "list", .ty "tuple"]) q = some (.tup [.ty "list", .ty "tuple"]) := upd_same
  generalize upd H q (.tup [.ty "list", .ty "tuple"]) = H1 at *
  obtain ⟨t, ty, kit⟩ := (hs.same S1).ty
  refine ⟨.ref a, q, [.ty "list", .ty "tuple"], t, [.type "list", .type "tuple"], true, rfl, e1, .cons (.ty _) (.cons (.ty _) .nil), ty, kit, _, rfl, iteT ?_⟩
  refine ⟨_, rfl, _, rfl, a, xs, rfl, hs.same S1, lo, (xs.length : Int), rfl, rfl, _, rfl, ?_⟩
  rw [decide_eq_true h1]
  refine iteT ⟨_, rfl, (xs.length : Int), hi, rfl, rfl, ?_⟩
  show Q (.bl (decide ((xs.length : Int) ≤ hi))) H1
  rw [decide_eq_true h2]
  exact k _ S1
/-- a list or a tuple of so many things that all fit -/
def spListOf (K : PySem.W.Frag) (f0 : Addr) (spf : Sp) : Sp := fun vs H Q _ => ∃ (a : Addr) (xs : List V) (lo hi : Int), vs = [.ref f0, .ref a, .int lo, .int hi] ∧ Sq K H a xs ∧ lo ≤ (xs.length : Int) ∧ (xs.length : Int) ≤ hi ∧ xs.length ≤ 1000 ∧
  (∀ v ∈ xs, ∀ (H1 : Hp) (Q1 : VK), Same H H1 → (∀ H2, Same H1 H2 → Q1 (.bl true) H2) → spf [v] H1 Q1 E0) ∧ ∀ H', Same H H' → Q (.bl true) H'
theorem d_listOf {f0 : Addr} {spf : Sp} {kf : Nat} (T : Txt mg) (A : At K mg "is_list_of" sIsListOf) (dl : Def P w K mg base "is_list" 1 ["thing", "least", "most"] (spList K))
    (F : FnR P w K mg base CX0 kf f0 spf) (hk : PySem.W.keepIn K (.ref f0) = true) : Def P w K mg base "is_list_of" (kf + 2) ["fits", "thing", "least", "most"] (spListOf K f0 spf) := by
  refine mkDef A scIsListOf (fun _ _ _ _ _ _ us hl => match us, hl with | [_, _, _, _], _ => rfl) (fun vs H Q E ⟨_, _, _, _, e, _⟩ => by rw [e]; rfl)
    (fun f cdv A out s H vs Q E hr h => ?_)
  obtain ⟨a, xs, lo, hi, rfl, hs, h1, h2, hn, hf, k⟩ := h
  refine ⟨_, (pss_one (ps_ret (pe_and (pe_d dl hr (by omega) (by rfl) (pa_cons (pv 1) (pa_cons (pv 2) (pa_cons (pv 3) pa_nil)))) (pe_one (pe_callB (cr_all rfl) (by rfl) T.all PyProof.Rows.boot_all (pa_cons (pe_lc (own := [("part", 4)]) (g := gName 4) (tt := tYes) rfl scIsListOf.nd (pi_sq (pv 1))
        (blkOk_by (own := [("part", 4)]) (N := ["fits", "thing", "least", "most", "part"]) (sc := defScope sIsListOf) (by decide +kernel))
        (fun _ _ _ _ _ => (pg_name (i := 4) scIsListOf.nd rfl (.inl rfl))) (fun _ _ _ _ _ => pts_nil)
        (fun _ _ _ _ _ => (ItX.pe_callV (i := 0) F (hr.mono (by omega)) hk pass0 (by rfl) (by first | exact Or.inr (Or.inl rfl) | exact Or.inr (Or.inr rfl)) (pa_cons (pv 4) pa_nil)))) pa_nil)))))), ?_⟩
  refine ⟨_, rfl, _, rfl, _, rfl, a, xs, lo, hi, rfl, hs, h1, h2, fun H1 S1 => ?_⟩
  refine ⟨_, rfl, iteT ?_⟩
  refine ⟨_, rfl, a, xs, rfl, hs.same S1, fun J G hG wk D hD => ?_⟩
  refine lc_acc wk hD (by omega) (fun i acc H => acc = (List.replicate i true).map V.bl) rfl hG ?_ ?_
  · rintro i v H2 H3 acc hi S2 eD hl2 rfl ⟨rfl, hx⟩ Fy Fn hy1 _
    refine ⟨rfl, ?_⟩
    unfold tYes
    refine iteT ?_
    refine ⟨rfl, _, rfl, hf v (List.mem_of_getElem? hx) _ _ (S1.trans S2) fun H4 S4 => hy1 _ _ S4 (reps_succ i)⟩
  rintro H2 acc S2 eD rfl
  refine ⟨D, _, rfl, SqL.of eD, ?_⟩
  rw [reps_all]
  exact k _ (S1.trans S2)
end
end V51

/-! Dict and set comprehensions over any walk, all else staying. -/
namespace Pw
open PySem PySem.Spec PyProof.Rows L2
section
variable {J : It} {n : Nat} {G : Hp → Prop} {Y : Nat → Hp → V → Hp → Prop} {g : TG} {tt : L2.TT} {tk tv te : TE} {vs : List Nat} {σ : L2.St} {H1 : Hp} {D : Addr} {Qd : Hp → Prop}
theorem dc_it (w : Walk J n G Y) (Pv : Nat → Hp → Prop) (h0 : Pv 0 (upd H1 D (.dK []))) (hG : ∀ i H, i ≤ n → Pv i H → G H)
    (hs : ∀ i x H H', i < n → Pv i H → Y i H x H' → g x (wipe σ vs) H' fun σ2 H2 => wipe σ2 vs = wipe σ vs ∧ tt σ2 H2 fun b H3 => if b = true then tk σ2 H3 fun y H4 => tv σ2 H4 fun z H5 =>
      ∃ kvs k, y = kV k ∧ H5 D = some (.dK kvs) ∧ kvs.length < sizeLine ∧ Pv (i + 1) (upd H5 D (.dK (putK kvs k z))) else Pv (i + 1) H3)
    (hd : ∀ H, Pv n H → Qd H) : ∃ W : Nat → Nat → Hp → Prop, (∃ m, W 0 m (upd H1 D (.dK []))) ∧ ∀ i m H, W i m H → (J.stop i H ∧ Qd H) ∨ (J.go i H ∧ ∃ Nx : Hp → Prop, (∀ H', Nx H' → ∃ m', m' < m ∧ W (i + 1) m' H') ∧
      ∀ x H', J.yld i H x H' → g x (wipe σ vs) H' fun σ2 H2 => wipe σ2 vs = wipe σ vs ∧ tt σ2 H2 fun b H3 => if b = true then tk σ2 H3 fun y H4 => tv σ2 H4 fun z H5 =>
        ∃ kvs k, y = kV k ∧ H5 D = some (.dK kvs) ∧ kvs.length < sizeLine ∧ Nx (upd H5 D (.dK (putK kvs k z))) else Nx H3) := by
  refine ⟨fun i m H => i ≤ n ∧ m = n - i ∧ Pv i H, ⟨n, Nat.zero_le _, rfl, h0⟩, ?_⟩
  rintro i m H ⟨hi, rfl, p⟩
  by_cases h : i = n
  · subst h
    exact .inl ⟨w.stops H (hG _ _ (Nat.le_refl _) p), hd H p⟩
  · exact .inr ⟨w.goes i H (by omega) (hG i H hi p), Pv (i + 1), fun H' p' => ⟨n - (i + 1), by omega, by omega, rfl, p'⟩, fun x H' y => hs i x H H' (by omega) p (w.yields i H x H' (by omega) (hG i H hi p) y)⟩
theorem putK_len (l : List (Key × V)) (k : Key) (z : V) : (putK l k z).length ≤ l.length + 1 := by
  unfold putK
  split <;> simp
theorem dc_acc (w : Walk J n G Y) (hD : H1 D = none) (hn : n ≤ 1000000) (R : Nat → List (Key × V) → Hp → Prop) (r0 : R 0 [] H1) (hG : ∀ H, Same H1 H → G H)
    (hs : ∀ i x H H' acc, i < n → Same H1 H → H D = some (.dK acc) → acc.length ≤ i → R i acc (wo H D) → Y i H x H' → ∀ (Fy : V → V → Hp → Prop) (Fn : Hp → Prop),
      (∀ k z H5, Same H H5 → R (i + 1) (putK acc k z) (wo H5 D) → Fy (kV k) z H5) → (∀ H3, Same H H3 → R (i + 1) acc (wo H3 D) → Fn H3) →
      g x (wipe σ vs) H' fun σ2 H2 => wipe σ2 vs = wipe σ vs ∧ tt σ2 H2 fun b H3 => if b = true then tk σ2 H3 fun y H4 => tv σ2 H4 fun z H5 => Fy y z H5 else Fn H3)
    (hd : ∀ H acc, Same H1 H → H D = some (.dK acc) → R n acc (wo H D) → Qd H) :
    ∃ W : Nat → Nat → Hp → Prop, (∃ m, W 0 m (upd H1 D (.dK []))) ∧ ∀ i m H, W i m H → (J.stop i H ∧ Qd H) ∨ (J.go i H ∧ ∃ Nx : Hp → Prop, (∀ H', Nx H' → ∃ m', m' < m ∧ W (i + 1) m' H') ∧
      ∀ x H', J.yld i H x H' → g x (wipe σ vs) H' fun σ2 H2 => wipe σ2 vs = wipe σ vs ∧ tt σ2 H2 fun b H3 => if b = true then tk σ2 H3 fun y H4 => tv σ2 H4 fun z H5 =>
        ∃ kvs k, y = kV k ∧ H5 D = some (.dK kvs) ∧ kvs.length < sizeLine ∧ Nx (upd H5 D (.dK (putK kvs k z))) else Nx H3) := by
  have line : 1000000 < sizeLine := by decide
  refine dc_it w (fun i H => Same H1 H ∧ ∃ acc, H D = some (.dK acc) ∧ acc.length ≤ i ∧ R i acc (wo H D))
    ⟨Same.laid hD, [], upd_same, Nat.le_refl _, by rw [wo_upd, wo_none hD]; exact r0⟩ (fun i H _ h => hG H h.1) ?_ ?_
  · rintro i x H H' hi ⟨S, acc, e, hl, r⟩ y
    refine hs i x H H' acc hi S e hl r y (fun y z H5 => ∃ kvs k, y = kV k ∧ H5 D = some (.dK kvs) ∧ kvs.length < sizeLine ∧ (Same H1 (upd H5 D (.dK (putK kvs k z))) ∧ ∃ acc, upd H5 D (.dK (putK kvs k z)) D = some (.dK acc) ∧ acc.length ≤ i + 1 ∧ R (i + 1) acc (wo (upd H5 D (.dK (putK kvs k z))) D))) _ (fun k z H5 S5 r5 => ?_) fun H3 S3 r3 => ?_
    · refine ⟨acc, k, rfl, S5 _ _ e, Nat.lt_of_le_of_lt hl (Nat.lt_of_lt_of_le hi (Nat.le_trans hn (Nat.le_of_lt line))), Same.wo_upd (S.trans S5) hD, _, upd_same, ?_, ?_⟩
      · have := putK_len acc k z
        omega
      · rw [wo_upd]
        exact r5
    · exact ⟨S.trans S3, acc, S3 _ _ e, by omega, r3⟩
  · rintro H ⟨S, acc, e, _, r⟩
    exact hd H acc S e r
theorem sc_it {P : Program} {wd : World} (w : Walk J n G Y) (Pv : Nat → Hp → Prop) (h0 : Pv 0 (upd H1 D (SetK P wd D (fun _ => false) 0))) (hG : ∀ i H, i ≤ n → Pv i H → G H)
    (hs : ∀ i x H H', i < n → Pv i H → Y i H x H' → g x (wipe σ vs) H' fun σ2 H2 => wipe σ2 vs = wipe σ vs ∧ tt σ2 H2 fun b H3 => if b = true then te σ2 H3 fun y H4 =>
      ∃ (k : Key) (S : Key → Bool) (n : Nat), y = kV k ∧ H4 D = some (SetK P wd D S n) ∧ n + 1 < scanBound ∧ Pv (i + 1) (upd H4 D (SetK P wd D (fun j => S j || decide (j = k)) (if S k = true then n else n + 1))) else Pv (i + 1) H3)
    (hd : ∀ H, Pv n H → Qd H) : ∃ W : Nat → Nat → Hp → Prop, (∃ m, W 0 m (upd H1 D (SetK P wd D (fun _ => false) 0))) ∧ ∀ i m H, W i m H → (J.stop i H ∧ Qd H) ∨ (J.go i H ∧ ∃ Nx : Hp → Prop, (∀ H', Nx H' → ∃ m', m' < m ∧ W (i + 1) m' H') ∧
      ∀ x H', J.yld i H x H' → g x (wipe σ vs) H' fun σ2 H2 => wipe σ2 vs = wipe σ vs ∧ tt σ2 H2 fun b H3 => if b = true then te σ2 H3 fun y H4 =>
        ∃ (k : Key) (S : Key → Bool) (n : Nat), y = kV k ∧ H4 D = some (SetK P wd D S n) ∧ n + 1 < scanBound ∧ Nx (upd H4 D (SetK P wd D (fun j => S j || decide (j = k)) (if S k = true then n else n + 1))) else Nx H3) := by
  refine ⟨fun i m H => i ≤ n ∧ m = n - i ∧ Pv i H, ⟨n, Nat.zero_le _, rfl, h0⟩, ?_⟩
  rintro i m H ⟨hi, rfl, p⟩
  by_cases h : i = n
  · subst h
    exact .inl ⟨w.stops H (hG _ _ (Nat.le_refl _) p), hd H p⟩
  · exact .inr ⟨w.goes i H (by omega) (hG i H hi p), Pv (i + 1), fun H' p' => ⟨n - (i + 1), by omega, by omega, rfl, p'⟩, fun x H' y => hs i x H H' (by omega) p (w.yields i H x H' (by omega) (hG i H hi p) y)⟩
end
end Pw

namespace V51
open PySem PySem.Spec PyProof.Rows L2 Pw
theorem inV_str (x : Str) : ∀ ns : List Str, inV (.str x) (ns.map V.str) = decide (x ∈ ns)
  | [] => rfl
  | n :: ns => by
    have ih := inV_str x ns
    unfold inV at ih ⊢
    rw [List.map_cons, List.any_cons, ih]
    by_cases h : n = x
    · subst h
      simp [eqV]
    · simp [eqV, h, Ne.symm h]
theorem flat_strs (ns : List Str) : (ns.map V.str).all flatV = true := List.all_eq_true.mpr fun y hy => by
  simp only [List.mem_map] at hy
  obtain ⟨z, _, rfl⟩ := hy
  rfl
theorem cut_to (xs : List V) (i : Nat) : cutV xs none (some (i : Int)) = xs.take i := by
  unfold cutV
  have e1 : HT.sIx xs.length 0 none = 0 := rfl
  rw [e1, HT.sIx_nat, List.drop_zero, Nat.sub_zero]
  by_cases h : i ≤ xs.length
  · rw [Nat.min_eq_left h]
  · rw [Nat.min_eq_right (by omega), List.take_length, List.take_of_length_le (by omega)]
theorem nodup_take {ns : List Str} (nd : ns.Nodup) {i : Nat} {x : Str} (e : ns[i]? = some x) : x ∉ ns.take i := by
  intro h
  obtain ⟨j, hj, e'⟩ := List.getElem_of_mem h
  rw [List.getElem_take] at e'
  obtain ⟨hi, ei⟩ := List.getElem?_eq_some_iff.mp e
  rw [List.length_take] at hj
  exact (List.pairwise_iff_getElem.mp nd) j i (by omega) hi (by omega) (by rw [e', ei])
/-- the entries of a dict by name -/
def kvs {α : Type} (nm : α → Str) : List α → List V → List (Key × V)
  | r :: rs, v :: vs => (.inr (nm r), v) :: kvs nm rs vs
  | _, _ => []
theorem kvs_append {α : Type} (nm : α → Str) : ∀ {rs : List α} {vs : List V} {rs' : List α} {vs' : List V}, rs.length = vs.length → kvs nm (rs ++ rs') (vs ++ vs') = kvs nm rs vs ++ kvs nm rs' vs'
  | [], [], _, _, _ => rfl
  | [], _ :: _, _, _, h => by cases h
  | _ :: _, [], _, _, h => by cases h
  | r :: rs, v :: vs, rs', vs', h => by
    show _ :: kvs nm (rs ++ rs') (vs ++ vs') = _ :: (kvs nm rs vs ++ kvs nm rs' vs')
    rw [kvs_append nm (by simpa using h)]
theorem kvs_keys {α : Type} (nm : α → Str) : ∀ {rs : List α} {vs : List V}, rs.length = vs.length → (kvs nm rs vs).map Prod.fst = rs.map fun r => Sum.inr (nm r)
  | [], [], _ => rfl
  | [], _ :: _, h => by cases h
  | _ :: _, [], h => by cases h
  | r :: rs, v :: vs, h => by
    show _ :: (kvs nm rs vs).map Prod.fst = _ :: _
    rw [kvs_keys nm (by simpa using h)]
theorem putK_new {kvs : List (Key × V)} {k : Key} {v : V} (h : k ∉ kvs.map Prod.fst) : putK kvs k v = kvs ++ [(k, v)] := by
  unfold putK
  rw [if_neg]
  intro z
  obtain ⟨p, hp, e⟩ := List.any_eq_true.mp z
  exact h (List.mem_map.mpr ⟨p, hp, of_decide_eq_true e⟩)
section
variable {P : Program} {w : World} {K : PySem.W.Frag} {mg : Str → Option Value} {base : Heap}
def spPointS : Sp := fun vs H Q _ => ∃ p pt, vs = [.ref p] ∧ H p = some (.tup (fP pt)) ∧ GoodP pt ∧ ∀ H', Same H H' → Q (.bl true) H'
theorem d_pointS (A : At K mg "is_point_shape" sIsPointShape) (dt : Def P w K mg base "is_tuple" 1 ["thing", "many"] (spTupN K)) (dn : Def P w K mg base "is_name" 1 ["thing"] (spName K))
    (d1 : Def P w K mg base "is_one_of" 1 ["thing", "words"] (spOne K)) : Def P w K mg base "is_point_shape" 2 ["thing"] spPointS := by
  refine mkDef A scIsPointShape (fun _ _ _ _ _ _ us hl => match us, hl with | [_], _ => rfl) (fun vs H Q E ⟨_, _, e, _⟩ => by rw [e]; rfl)
    (fun f cdv A out s H vs Q E hr h => ?_)
  obtain ⟨q, pt, rfl, e, g, k⟩ := h
  refine ⟨_, (pss_cons (ps_if (pt_not (pt_val (pe_d dt hr (by decide) (by rfl) (pa_cons (pv 0) (pa_cons pe_int pa_nil)))))
      (pss_one (ps_ret pe_bl))
      pss_nil)
    (pss_cons (ps_asg (pv 0) (pg_tup (by rfl) (pgs_cons (pg_name (i := 1) scIsPointShape.nd rfl (.inl rfl)) (pgs_cons (pg_name (i := 2) scIsPointShape.nd rfl (.inl rfl)) (pgs_cons (pg_name (i := 3) scIsPointShape.nd rfl (.inl rfl)) pgs_nil)))))
    (pss_one (ps_ret (pe_and (pe_d dn hr (by decide) (by rfl) (pa_cons (pv 1) pa_nil)) (pe_and (pe_d dn hr (by decide) (by rfl) (pa_cons (pv 2) pa_nil)) (pe_one (pe_d d1 hr (by decide) (by rfl) (pa_cons (pv 3) (pa_cons (pe_tup (pa_cons pe_str (pa_cons pe_str pa_nil))) pa_nil)))))))))), ?_⟩
  have eT : tupNB H (.ref q) 3 = true := by simp only [tupNB, e]; rfl
  refine ⟨_, rfl, .ref q, _, 3, rfl, .tup e, true, congrArg V.bl eT, iteF ?_⟩
  refine ⟨_, rfl, q, _, rfl, SqT.of e, rfl, _, _, rfl, _, _, rfl, _, _, rfl, rfl, ?_⟩
  refine ⟨_, rfl, .str pt.nm, _, rfl, .str _, g.nm.sh, fun H1 S1 => ⟨true, congrArg V.bl g.nm.b, iteT ?_⟩⟩
  refine ⟨_, rfl, .str pt.pl, _, rfl, .str _, g.pl.sh, fun H2 S2 => ⟨true, congrArg V.bl g.pl.b, iteT ?_⟩⟩
  refine ⟨_, rfl, by show 2 ≤ sizeLine; decide, fun p np => ?_⟩
  refine ⟨.str (kd pt.sw), _, p, ["level", "switch"], rfl, .str _, upd_same, ?_⟩
  rw [kd_one]
  exact k _ (S1.trans (S2.trans (Same.laid np)))
/-- names, each once -/
def spOnce (K : PySem.W.Frag) : Sp := fun vs H Q _ => ∃ (a : Addr) (ns : List Str), vs = [.ref a] ∧ SqL K H a (ns.map V.str) ∧ ns.Nodup ∧ ns.length ≤ 1000 ∧ ∀ H', Same H H' → Q .non H'
theorem d_once (T : Txt mg) (A : At K mg "_check_each_once" sCheckEachOnce) : Def P w K mg base "_check_each_once" 1 ["names"] (spOnce K) := by
  refine mkDef A scCheckEachOnce (fun _ _ _ _ _ _ us hl => match us, hl with | [_], _ => rfl) (fun vs H Q E ⟨_, _, e, _⟩ => by rw [e]; rfl)
    (fun f cdv A out s H vs Q E hr h => ?_)
  obtain ⟨a, ns, rfl, hs, nd, hl, k⟩ := h
  refine ⟨_, (pss_one (ps_for PassesOwn.never rfl (pi_enum (by rfl) T.enumerate (pa_cons (pv 0) pa_nil)) (pg_tup (by rfl) (pgs_cons (pg_name (i := 1) scCheckEachOnce.nd rfl (.inl rfl)) (pgs_cons (pg_name (i := 2) scCheckEachOnce.nd rfl (.inl rfl)) pgs_nil)))
      (pss_one (ps_if (pt_cmpR op_in_seq (pv 2) (pe_slice sl_list (pv 0) po_none (po_some (pv 1))) (by rfl))
        (pss_one ps_never)
        pss_nil)))), ?_⟩
  refine ⟨_, rfl, a, _, rfl, hs, ?_⟩
  refine for_it (walk_enum (K := K) (a := a) (xs := ns.map V.str)) (fun i σ G => ∃ v1 v2 : Option V, σ = [some (.ref a), v1, v2] ∧ Same H G) ⟨none, none, rfl, Same.refl _⟩
    (fun i σ G _ ⟨_, _, _, S⟩ => Same.seq S hs) ?_ (fun σ G ⟨_, _, _, S⟩ => k G S)
  rintro i v σ G0 G hi ⟨v1, v2, rfl, S⟩ hy
  rw [List.length_map] at hi
  obtain ⟨q, x, y, rfl, nq, rfl, ex, ey⟩ := hy
  cases ex
  replace ey : (ns.map V.str)[i]? = some y := ey
  rw [List.getElem?_map] at ey
  obtain ⟨nm, en, rfl⟩ := Option.map_eq_some_iff.mp ey
  have S1 := S.trans (Same.laid (o := HO.tup [V.int (i : Int), .str nm]) nq)
  refine ⟨q, _, rfl, SqT.of upd_same, rfl, _, _, rfl, _, _, rfl, rfl, ?_⟩
  generalize upd G0 q (.tup [V.int (i : Int), .str nm]) = G at *
  refine ⟨_, rfl, _, rfl, _, rfl, (i : Int), rfl, a, _, rfl, Same.seq S1 hs, fun p np => ?_⟩
  rw [cut_to, ← List.map_take]
  refine ⟨p, _, rfl, .inl (SqL.of upd_same), rfl, flat_strs _, _, rfl, ?_⟩
  rw [inV_str, decide_eq_false (nodup_take nd en)]
  exact iteF ⟨_, _, rfl, S1.trans (Same.laid np)⟩
/-- things by their names -/
def spByName {α : Type} (K : PySem.W.Frag) (f : α → List V) (nm : α → Str) : Sp := fun vs H Q _ => ∃ (a : Addr) (xs : List V) (rs : List α), vs = [.ref a] ∧ Sq K H a xs ∧ Al f H xs rs ∧ (∀ r, ∃ tl, f r = .str (nm r) :: tl) ∧ (rs.map nm).Nodup ∧ rs.length ≤ 1000 ∧
  ∀ D H', Same H H' → H D = none → H' D = some (.dK (kvs nm rs xs)) → Q (.ref D) H'
theorem d_byName {α : Type} {f : α → List V} {nm : α → Str} (A : At K mg "by_name" sByName) : Def P w K mg base "by_name" 1 ["rows"] (spByName K f nm) := by
  refine mkDef A scByName (fun _ _ _ _ _ _ us hl => match us, hl with | [_], _ => rfl) (fun vs H Q E ⟨_, _, _, e, _⟩ => by rw [e]; rfl)
    (fun f' cdv A out s H vs Q E hr h => ?_)
  obtain ⟨a, xs, rs, rfl, hs, al, hf, nd, hl, k⟩ := h
  refine ⟨_, (pss_one (ps_ret (pe_dc (own := [("row", 1)]) (g := gName 1) (tt := tYes) rfl scByName.nd (pi_sq (pv 0))
        (blkOk_by (own := [("row", 1)]) (N := ["rows", "row"]) (sc := defScope sByName) (by decide +kernel))
        (fun _ _ _ _ _ => (pg_name (i := 1) scByName.nd rfl (.inl rfl))) (fun _ _ _ _ _ => pts_nil)
        (fun _ _ _ _ _ => (pe_ix (r := rIxT K) ix_tup (pv 1) pe_int (fun _ _ => rfl))) (fun _ _ _ _ _ => (pv 1))))), ?_⟩
  refine ⟨_, rfl, a, xs, rfl, hs, fun J G hG wk D hD => ?_⟩
  have hlen := al.length
  refine dc_acc wk hD (by omega) (fun i acc H => acc = kvs nm (rs.take i) (xs.take i)) rfl hG ?_ ?_
  · rintro i v H2 H3 acc hi S2 eD hl2 rfl ⟨rfl, hx⟩ Fy Fn hy1 _
    obtain ⟨p, r, rfl, hr', ep⟩ := (al.same S2).get hx
    refine ⟨rfl, ?_⟩
    unfold tYes
    refine iteT ?_
    obtain ⟨tl, ef⟩ := hf r
    rw [ef] at ep
    refine ⟨_, rfl, p, _, 0, .str (nm r), rfl, rfl, SqT.of ep, (by show atI _ ((0 : Nat) : Int) = _; exact atI_nat (by rfl)), ?_⟩
    refine ⟨_, rfl, hy1 (.inr (nm r)) _ _ (Same.refl _) ?_⟩
    have e1 : rs.take (i + 1) = rs.take i ++ [r] := by rw [List.take_add_one, hr']; rfl
    have e2 : xs.take (i + 1) = xs.take i ++ [.ref p] := by rw [List.take_add_one, hx]; rfl
    have e3 : (rs.take i).length = (xs.take i).length := by rw [List.length_take, List.length_take, hlen]
    rw [e1, e2, kvs_append nm e3, putK_new]
    · rfl
    · rw [kvs_keys nm e3]
      intro z
      obtain ⟨r', hr2, er⟩ := List.mem_map.mp z
      have en : (rs.map nm)[i]? = some (nm r) := by rw [List.getElem?_map, hr']; rfl
      refine nodup_take nd en ?_
      rw [← List.map_take]
      exact List.mem_map.mpr ⟨r', hr2, Sum.inr.inj er⟩
  · rintro H2 acc S2 eD rfl
    rw [List.take_of_length_le (by omega), List.take_length] at eD
    exact k D H2 S2 hD eD
end
end V51

namespace V51
open PySem PySem.Spec PyProof.Rows L2 Pw
section
variable {P : Program} {w : World} {K : PySem.W.Frag} {mg : Str → Option Value} {base : Heap}
def spPoints (K : PySem.W.Frag) : Sp := fun vs H Q _ => ∃ (a : Addr) (xs : List V) (ps : List Pt), vs = [.ref a] ∧ Sq K H a xs ∧ Al fP H xs ps ∧ GoodPs ps ∧ ∀ H', Same H H' → Q .non H'
theorem d_points (T : Txt mg) (A : At K mg "check_points" sCheckPoints) (aLO : At K mg "is_list_of" sIsListOf) (dl : Def P w K mg base "is_list" 1 ["thing", "least", "most"] (spList K))
    (dP : Def P w K mg base "is_point_shape" 2 ["thing"] spPointS) (dO : Def P w K mg base "_check_each_once" 1 ["names"] (spOnce K)) :
    Def P w K mg base "check_points" 5 ["points"] (spPoints K) := by
  obtain ⟨f0, fd0, hm0, hk0, hb0, F0⟩ := dP.ex
  have dLO := d_listOf T aLO dl (F0.raw hb0 .nil) hk0
  refine mkDef A scCheckPoints (fun _ _ _ _ _ _ us hl => match us, hl with | [_], _ => rfl) (fun vs H Q E ⟨_, _, _, e, _⟩ => by rw [e]; rfl)
    (fun f cdv A out s H vs Q E hr h => ?_)
  obtain ⟨a, xs, ps, rfl, hs, al, g, k⟩ := h
  refine ⟨_, (pss_cons (ps_if (pt_not (pt_val (pe_d dLO hr (by decide) (by rfl) (pa_cons (pe_glob (v := V.ref f0) (by rfl) hm0 rfl) (pa_cons (pv 0) (pa_cons pe_int (pa_cons (pe_gi T.c_MOST_POINTS) pa_nil)))))))
      (pss_one ps_never)
      pss_nil)
    (pss_cons (ps_expr (pe_d dO hr (by decide) (by rfl) (pa_cons (pe_lc (own := [("name", 2), ("_", 3)]) (g := (gTup K 3 (gCons (gName 2) (gCons (gName 3) (gCons (gName 3) gNil))))) (tt := tYes) rfl scCheckPoints.nd (pi_sq (pv 0))
        (blkOk_by (own := [("name", 2), ("_", 3)]) (N := ["points", "many", "name", "_", "place"]) (sc := defScope sCheckPoints) (by decide +kernel))
        (fun _ _ _ _ _ => (pg_tup (by rfl) (pgs_cons (pg_name (i := 2) scCheckPoints.nd rfl (.inl rfl)) (pgs_cons (pg_name (i := 3) scCheckPoints.nd rfl (.inl rfl)) (pgs_cons (pg_name (i := 3) scCheckPoints.nd rfl (.inl rfl)) pgs_nil))))) (fun _ _ _ _ _ => pts_nil)
        (fun _ _ _ _ _ => (pv 2))) pa_nil)))
    (pss_cons (ps_set (i := 1) scCheckPoints.nd rfl (.inl rfl) (pe_callB call_lenSK (by rfl) T.len PySem.boot_len (pa_cons (pe_scK (own := [("_", 3), ("place", 4)]) (g := (gTup K 3 (gCons (gName 3) (gCons (gName 4) (gCons (gName 3) gNil))))) (tt := tYes) rfl scCheckPoints.nd (pi_sq (pv 0))
        (blkOk_by (own := [("_", 3), ("place", 4)]) (N := ["points", "many", "name", "_", "place"]) (sc := defScope sCheckPoints) (by decide +kernel))
        (fun _ _ _ _ _ => (pg_tup (by rfl) (pgs_cons (pg_name (i := 3) scCheckPoints.nd rfl (.inl rfl)) (pgs_cons (pg_name (i := 4) scCheckPoints.nd rfl (.inl rfl)) (pgs_cons (pg_name (i := 3) scCheckPoints.nd rfl (.inl rfl)) pgs_nil))))) (fun _ _ _ _ _ => pts_nil)
        (fun _ _ _ _ _ => (pv 4))) pa_nil)))
    (pss_one (ps_if (pt_cmpR op_gt (pv 1) (pe_gi T.c_MOST_PLACES) (nomark _))
      (pss_one ps_never)
      pss_nil))))), ?_⟩
  have hlen := al.length
  have h1 := g.pos
  have h8 := g.len
  refine ⟨_, rfl, a, xs, 1, 8, rfl, hs, by omega, by omega, by omega, fun v hv H1 Q1 S1 q1 => ?_, fun H1 S1 => ?_⟩
  · obtain ⟨i, hi, ei⟩ := List.getElem_of_mem hv
    obtain ⟨p, pt, rfl, hpt, ep⟩ := (al.same S1).get (List.getElem?_eq_some_iff.mpr ⟨hi, ei⟩)
    exact ⟨p, pt, rfl, ep, g.all pt (List.mem_of_getElem? hpt), q1⟩
  refine ⟨_, rfl, iteF ?_⟩
  -- the names
  refine ⟨_, rfl, a, xs, rfl, hs.same S1, fun J G hG wk D hD => ?_⟩
  refine lc_acc wk hD (by omega) (fun i acc H => acc = ((ps.take i).map (·.nm)).map V.str) rfl hG ?_ ?_
  · rintro i v H2 H3 acc hi S2 eD hl2 rfl ⟨rfl, hx⟩ Fy Fn hy1 _
    obtain ⟨p, pt, rfl, hpt, ep⟩ := (al.same (S1.trans S2)).get hx
    refine ⟨p, _, rfl, SqT.of ep, rfl, _, _, rfl, _, _, rfl, _, _, rfl, rfl, ?_⟩
    refine ⟨rfl, ?_⟩
    unfold tYes
    refine iteT ⟨_, rfl, hy1 _ _ (Same.refl _) ?_⟩
    rw [List.take_add_one, hpt, List.map_append, List.map_append]
    rfl
  rintro H2 acc S2 eD rfl
  rw [List.take_of_length_le (by omega)] at eD
  refine ⟨D, _, rfl, SqL.of eD, g.nd, by rw [List.length_map]; omega, fun H3 S3 => ?_⟩
  have S13 := S1.trans (S2.trans S3)
  -- the places
  obtain ⟨ws, hws, hin⟩ := g.few
  refine ⟨_, rfl, a, xs, rfl, hs.same S13, fun J G hG wk D2 hD2 => ?_⟩
  refine sc_it wk (fun i H => Same H3 H ∧ ∃ (S : Key → Bool) (us : List Str), H D2 = some (SetK P w D2 S us.length) ∧ us.Nodup ∧ (∀ u, S (.inr u) = true ↔ u ∈ us) ∧ ∀ u ∈ us, u ∈ ws) ?_ (fun i H _ h => hG H h.1) ?_ ?_
  · exact ⟨Same.laid hD2, _, [], upd_same, List.nodup_nil, fun u => by simp, fun u h => by cases h⟩
  · rintro i v H4 H5 hi ⟨S4, S, us, eD2, nd, hS, hu⟩ ⟨rfl, hx⟩
    obtain ⟨p, pt, rfl, hpt, ep⟩ := (al.same (S13.trans S4)).get hx
    refine ⟨p, _, rfl, SqT.of ep, rfl, _, _, rfl, _, _, rfl, _, _, rfl, rfl, ?_⟩
    refine ⟨rfl, ?_⟩
    unfold tYes
    have hus : us.length ≤ 3 := Nat.le_trans (List.Nodup.length_le_of_subset nd hu) hws
    have hsb : us.length + 1 < scanBound := by show us.length + 1 < 4096; omega
    refine iteT ⟨_, rfl, .inr pt.pl, S, us.length, rfl, eD2, hsb, Same.wo_upd S4 hD2, (fun j => S j || decide (j = .inr pt.pl)), if S (.inr pt.pl) = true then us else us ++ [pt.pl], ?_, ?_, ?_, ?_⟩
    · have en : (if S (.inr pt.pl) = true then us.length else us.length + 1) = (if S (.inr pt.pl) = true then us else us ++ [pt.pl]).length := by split <;> simp
      rw [upd_same]
      exact congrArg (fun n => some (SetK P w D2 (fun j => S j || decide (j = .inr pt.pl)) n)) en
    · split
      · exact nd
      · rename_i hn
        have : pt.pl ∉ us := fun z => hn ((hS _).mpr z)
        exact List.nodup_append.mpr ⟨nd, by simp, fun a ha b hb => by
          rw [List.mem_singleton.mp hb]
          intro z
          rw [z] at ha
          exact this ha⟩
    · intro u
      show (S (.inr u) || decide ((Sum.inr u : Key) = .inr pt.pl)) = true ↔ _
      rw [Bool.or_eq_true, decide_eq_true_eq, hS]
      split
      · rename_i hy
        refine ⟨fun z => z.elim id fun z => ?_, .inl⟩
        rw [Sum.inr.inj z]
        exact (hS _).mp hy
      · rw [List.mem_append, List.mem_singleton]
        exact or_congr Iff.rfl ⟨fun z => Sum.inr.inj z, fun z => by rw [z]⟩
    · intro u h
      have hp := hin pt (List.mem_of_getElem? hpt)
      split at h
      · exact hu u h
      · rcases List.mem_append.mp h with z | z
        · exact hu u z
        · rw [List.mem_singleton.mp z]; exact hp
  rintro H4 ⟨S4, S, us, eD2, nd, hS, hu⟩
  refine ⟨D2, S, us.length, rfl, eD2, ?_⟩
  have hus : us.length ≤ 3 := Nat.le_trans (List.Nodup.length_le_of_subset nd hu) hws
  refine ⟨_, rfl, (us.length : Int), 3, rfl, rfl, _, rfl, ?_⟩
  rw [decide_eq_false (show ¬ (us.length : Int) > 3 by omega)]
  exact iteF (k _ (S13.trans S4))
end
end V51

/-! Methods that let own errors out. -/
namespace Pw
open PySem PySem.Spec PyProof.Rows L2
section
variable (P : Program) (w : World) (K : PySem.W.Frag) (mg : Str → Option Value) (base : Heap)
/-- the method m of the class at C keeps the promise sp, errors too -/
structure DefME (C : Addr) (m : Str) (k : Nat) (ps : List Str) (sp : Sp) : Prop where
  ex : ∃ f fd, Meth K C m f ∧ Binds K fd ps [] ∧ FnOk P w K mg base (L2.CX P w) k f fd ps sp
end
section
variable {P : Program} {w : World} {K : PySem.W.Frag} {mg : Str → Option Value} {base : Heap}
theorem mkDefME {C : Addr} {m q : Str} {st : Stmt} {N ps : List Str} {k : Nat} {sp : Sp} (A : AtMt K C m q st) (S : FnScope N ps (defScope st))
    (hb : ∀ (kV doc pm : Value) (an : Option Addr) (cdv ct : Value) (us : List Value), us.length = ps.length →
      bindArgs (PySem.W.fnOf m q (defArgs st) (defBody st) (defScope st) .none kV doc pm an cdv ct) ⟨us, []⟩ = pure (ps.zip us))
    (len : ∀ vs H Q E, sp vs H Q E → vs.length = ps.length)
    (body : ∀ (f : Addr) (cdv : Value) (A : Around) (out : List Env) (s : Shared) (H : Hp) (vs : List V) (Q : VK) (E : XK),
      Room k (A.deeper (envOfC q (defScope st) s.heap.objs.size f cdv)) → sp vs H Q E →
      ∃ t, PSs (cxOf (L2.CX P w) P w K mg base N q (defScope st) f cdv A out s H E) (defBody st) t ∧
        t { nx := fun _ H' => Q .non H', rt := Q } (start N vs) H) : DefME P w K mg base C m (k + 1) ps sp := by
  obtain ⟨f, fd, F, M⟩ := A.ex
  exact ⟨f, fd, M, F.binds hb, F.okX S len (body f)⟩
end
section
variable {X : Cx} {m : Str} {C : Addr} {k j : Nat} {ps : List Str} {sp : Sp} {W : WX} {o : Expr} {pos apos : Pos} {e : Expr} {es : List Expr} {ta : TE} {t : TA}
/-- x.m(..), errors let out -/
def tMethE (C : Addr) (m : Str) (sp : Sp) (W : WX) (ta : TE) (t : TA) : TE := fun σ H Q => ta σ H fun x H1 => ∃ a dx fs, x = .ref a ∧ H1 a = some (.ins C dx fs) ∧ fs.lookup m = none ∧
  t σ H1 fun vs H2 => sp (x :: vs) H2 Q (WE W σ)
theorem pe_mmE {pl : Sem Bool} (he : PE X o ta) (c : Cls X.K C) (D : DefME X.prog X.w X.K X.mg X.base C m k ps sp) (tk : Takes X W) (hr : Room j X.A) (hk : k ≤ j) (ha : PA X (e :: es) t)
    (hst : starEach (e :: es) X.env = (false, eval e X.env) :: starEach es X.env := by rfl) (hpl : (backTo pos (starEach es X.env)).any (·.1) = false := by rfl)
    (ht : eval (.Call (.Attribute o m apos) (e :: es) [] pos) X.env = (do
      let ov ← eval o X.env
      standAt apos.atName
      let (f, first) ← holding [ov] (getMethod ov m pl)
      callWith pos f first (backTo pos (starEach (e :: es) X.env)) (backToKw pos (keywordEach [] X.env))) := by rfl) :
    PE X (.Call (.Attribute o m apos) (e :: es) [] pos) (tMethE C m sp W ta t) := by
  obtain ⟨f, fd, M, b, F⟩ := D.ex
  refine ⟨fun pins s σ H Q I h => PySem.W.methodCall_KW (pl := pl) (thn (he.run pins s σ H _ I h) fun u s1 ⟨x, H1, I1, rx, a, dx, fs, ex, ea, l, q⟩ => ?_) ht⟩
  subst ex
  obtain rfl : u = Value.ref a := rx
  exact getmeth_ok I1 ea c M l (PySem.W.callWith_K (first := [.ref a]) (h₀ := X.base) I.ok.mod.kin M.kp
    (thn (ha.run pos pins s1 σ H1 _ I1 q) fun us s2 ⟨vs, H2, I2, r, q2⟩ => ⟨I2.kIn, run_fnSD (us := .ref a :: us) (vs := .ref a :: vs) F (hr.mono hk) b .nil (passAt tk σ) I2 (.cons rfl r) (by
      rw [List.append_nil]
      exact q2)⟩) hst hpl)
end
end Pw

/-! What the head finds of a class's methods. -/
namespace Pw
open PySem PySem.Spec PyProof.Rows L2
section
variable {K : PySem.W.Frag}
theorem atMtOf {x m q : Str} {st : Stmt} (g : (He.Fa.meth x m).ok K = true) (F : ∃ fd, FunD K m q (defArgs st) (defBody st) (defScope st) [] [] (He.ma K (He.ga K x) m) fd) : AtMt K (He.ga K x) m q st :=
  let ⟨fd, F⟩ := F
  ⟨_, fd, funOf F, He.meth_ok g⟩
theorem iniOf {x q : Str} {st : Stmt} (F : ∃ fd, FunD K "__init__" q (defArgs st) (defBody st) (defScope st) [] [] (He.ma K (He.ga K x) "__init__") fd) : ∃ fd, Fun K "__init__" q st (He.ma K (He.ga K x) "__init__") fd :=
  let ⟨fd, F⟩ := F
  ⟨fd, funOf F⟩
end
end Pw

/-! Making an instance by an own __init__ with keyword-only defaults: some told, the rest left out. -/
namespace Pw
open PySem PySem.Spec PyProof.Rows L2
theorem kw_vals {K : PySem.W.Frag} {D : Addr} : ∀ {ms : List (Str × V)}, (∀ q ∈ ms, ∃ u, PySem.W.nsIn K D q.1 = some (some u) ∧ RelV q.2 u) →
    ∃ mv, Vals (ms.map (·.2)) mv ∧ mv.length = ms.length ∧ ∀ q ∈ (ms.map (·.1)).zip mv, PySem.W.nsIn K D q.1 = some (some q.2)
  | [], _ => ⟨[], .nil, rfl, fun q h => by cases h⟩
  | m :: ms, h => by
    obtain ⟨u, e, r⟩ := h m (by simp)
    obtain ⟨mv, v, l, k⟩ := kw_vals (ms := ms) fun q hq => h q (by simp [hq])
    refine ⟨u :: mv, .cons r v, by simp [l], fun q hq => ?_⟩
    simp only [List.map_cons, List.zip_cons_cons, List.mem_cons] at hq
    rcases hq with rfl | hq
    · exact e
    · exact k q hq
theorem kbn_of {K : PySem.W.Frag} {x qual : Str} {params : Arguments} {body : List Stmt} {scope : Scope} {kws ms : List (Str × V)} {f : Addr} {fd : FuncData} {ps ks : List Str} {n : Nat}
    (F : FunD K x qual params body scope [] kws f fd) (g : {α : Type} → List α → List α → List α → List α) (hk : kws ≠ []) (hms : ∀ q ∈ ms, q ∈ kws)
    (hg : ∀ {vs mz zs : List V} {us mv ws : List Value}, Vals vs us → Vals mz mv → Vals zs ws → Vals (g vs mz zs) (g us mv ws))
    (hb : ∀ (D : Addr) (doc pm : Value) (an : Option Addr) (cdv ct : Value) (us mv ws : List Value), us.length = n → mv.length = ms.length → ws.length = ks.length →
      KwChain D ((ms.map (·.1)).zip mv) (bindArgs (PySem.W.fnOf x qual params body scope .none (.ref D) doc pm an cdv ct) ⟨us, ks.zip ws⟩) (ps.zip (g us mv ws))) :
    ∃ mv, KBn K fd ps n ks (fun us ws => g us mv ws) (fun vs zs => g vs (ms.map (·.2)) zs) := by
  obtain ⟨oc, od, dV, kV, doc, pm, an, cdv, ct, osl, rfl, lk, hcd, hD, hK⟩ := F.ex
  rcases hD with ⟨_, rfl⟩ | ⟨e, _⟩
  · rcases hK with e | ⟨D, rfl, hK⟩
    · exact absurd e hk
    · obtain ⟨mv, v, l, h⟩ := kw_vals (K := K) (D := D) (ms := ms) fun q hq => hK q (hms q hq)
      refine ⟨mv, ⟨fun s us ws X l1 l2 => ?_, fun hv hz => hg hv v hz⟩⟩
      intro M A E Q q
      exact KwChain.looks X (fun q hq => h q hq) (hb D doc pm an cdv ct us mv ws l1 l l2) A Q E s (fun _ _ e => e) q
  · exact absurd rfl e
section
variable (P : Program) (w : World) (K : PySem.W.Frag) (mg : Str → Option Value) (base : Heap)
/-- under its name x the class at C stands; made of n things and the keywords ks by an __init__ that keeps sp -/
structure MadeK (x : Str) (C : Addr) (k : Nat) (ps : List Str) (n : Nat) (ks : List Str) (gV : List V → List V → List V) (sp : Sp) : Prop where
  ex : ∃ f fd g, mg x = some (.ref C) ∧ Mk K C f ∧ KBn K fd ps (n + 1) ks g gV ∧ FnOk P w K mg base CX0 k f fd ps sp
end
section
variable {P : Program} {w : World} {K : PySem.W.Frag} {mg : Str → Option Value} {base : Heap}
theorem mkFnI {m q : Str} {st : Stmt} {kws : List (Str × V)} {f : Addr} {fd : FuncData} {N ps : List Str} {k : Nat} {sp : Sp}
    (F : FunD K m q (defArgs st) (defBody st) (defScope st) [] kws f fd) (S : FnScope N ps (defScope st))
    (len : ∀ vs H Q E, sp vs H Q E → vs.length = ps.length)
    (body : ∀ (f : Addr) (cdv : Value) (A : Around) (out : List Env) (s : Shared) (H : Hp) (vs : List V) (Q : VK) (E : XK),
      Room k (A.deeper (envOfC q (defScope st) s.heap.objs.size f cdv)) → sp vs H Q E →
      ∃ t, PSs (cxOf CX0 P w K mg base N q (defScope st) f cdv A out s H E).nox (defBody st) t ∧
        t { nx := fun _ H' => Q .non H', rt := Q } (start N vs) H) : FnOk P w K mg base CX0 (k + 1) f fd ps sp :=
  F.ok S len fun cdv A out s H vs Q E hr hs =>
    let ⟨t, h, q⟩ := body f cdv A out s H vs Q E hr hs
    ⟨t, h.nox, q⟩
end
section
variable {X : Cx} {x : Str} {C : Addr} {k j n : Nat} {ps ks : List Str} {sp : Sp} {p pos : Pos} {e : Expr} {es : List Expr} {t tk : TA} {gV : List V → List V → List V} {kws : List Keyword}
theorem pe_mk (D : MadeK X.prog X.w X.K X.mg X.base x C k ps n ks gV sp) (hr : Room j X.A) (hk : k + 1 ≤ j) (hg : Gl X x) (ha : PA X (e :: es) t) (hkw : PK X kws tk)
    (hall : (backToKw pos (keywordEach kws X.env)).all (·.1.isSome) = true := by rfl) (hks : (backToKw pos (keywordEach kws X.env)).filterMap (·.1) = ks := by rfl)
    (hdb : (x == ("__debug__" : Str)) = false := by decide)
    (he : starEach (e :: es) X.env = (false, eval e X.env) :: starEach es X.env := by rfl)
    (hpl : ((backTo pos (starEach (e :: es) X.env)).any (·.1) || (backToKw pos (keywordEach kws X.env)).any (·.1.isNone)) = false := by rfl) :
    PE X (.Call (.Name x p) (e :: es) kws pos) (tMakeK C n ks.length sp gV E0 t tk) := by
  obtain ⟨f, fd, g, m, M, b, F⟩ := D.ex
  exact pe_makeK M F (hr.mono hk) hg m b pass0 ha hkw hall hks hdb he hpl
end
end Pw

namespace V51
open PySem PySem.Spec PyProof.Rows L2 Pw
/-- a walk over nothing -/
theorem for_none {J : It} {n : Nat} {G : Hp → Prop} {Y : Nat → Hp → V → Hp → Prop} (w : Walk J n G Y) (hn : n = 0) {g : TG} {tb : TS} {D : Ends} {σ : L2.St} {H : Hp} (hG : G H) (k : D.nx σ H) :
    ∃ W : Nat → Nat → L2.St → Hp → Prop, (∃ m, W 0 m σ H) ∧ ∀ i m σ H, W i m σ H → J.stop i H ∧ D.nx σ H ∨ J.go i H ∧ ∃ N : L2.St → Hp → Prop, (∀ σ' H', N σ' H' → ∃ m', m' < m ∧ W (i + 1) m' σ' H') ∧
      ∀ x H', J.yld i H x H' → g x σ H' fun σ2 H2 => tb { nx := N, rt := D.rt, bk := D.nx, ct := N } σ2 H2 := by
  subst hn
  refine for_it w (fun i σ' H' => σ' = σ ∧ H' = H) ⟨rfl, rfl⟩ (fun i σ' H' _ h => h.2 ▸ hG) (fun i x σ' H' H'' hi => absurd hi (by omega)) fun σ' H' h => ?_
  rw [h.1, h.2]
  exact k
section
variable {P : Program} {w : World} {K : PySem.W.Frag} {mg : Str → Option Value} {base : Heap}
def no : Sp := fun _ _ _ _ => False
theorem At.fnr {x : Str} {st : Stmt} (A : At K mg x st) : ∃ f, mg x = some (.ref f) ∧ PySem.W.keepIn K (.ref f) = true ∧ FnR P w K mg base CX0 1 f no := by
  obtain ⟨f, fd, F, m⟩ := A.ex
  exact ⟨f, m, F.kp, fun A out s H us vs Q E _ _ _ h => h.elim⟩
/-- nothing at all, and something else -/
def spNone (K : PySem.W.Frag) : Sp := fun vs H Q _ => ∃ (a : Addr) (x : V), vs = [.ref a, x] ∧ Sq K H a [] ∧ ∀ H', Same H H' → Q .non H'
def spNone2 (K : PySem.W.Frag) : Sp := fun vs H Q _ => ∃ (a d : Addr), vs = [.ref a, .ref d] ∧ Sq K H a [] ∧ H d = some (.dK []) ∧ ∀ H', Same H H' → Q .non H'
theorem d_rules0 (T : Txt mg) (A : At K mg "check_rules" sCheckRules) (aS : At K mg "is_rule_shape" sIsRuleShape) (aLO : At K mg "is_list_of" sIsListOf) (dl : Def P w K mg base "is_list" 1 ["thing", "least", "most"] (spList K)) :
    Def P w K mg base "check_rules" 5 ["rules", "points"] (spNone K) := by
  obtain ⟨f0, hm0, hk0, F0⟩ := At.fnr (P := P) (w := w) (base := base) aS
  have dLO := d_listOf T aLO dl F0 hk0
  refine mkDef A scCheckRules (fun _ _ _ _ _ _ us hl => match us, hl with | [_, _], _ => rfl) (fun vs H Q E ⟨_, _, e, _⟩ => by rw [e]; rfl)
    (fun f cdv A out s H vs Q E hr h => ?_)
  obtain ⟨a, x, rfl, hs, k⟩ := h
  have hu : (A.deeper (envOfC "check_rules" (defScope sCheckRules) s.heap.objs.size f cdv)).units + 1 < cLine := hu_of hr
  refine ⟨_, (pss_cons (ps_if (pt_not (pt_val (pe_d dLO hr (by decide) (by rfl) (pa_cons (pe_glob (v := V.ref f0) (by rfl) hm0 rfl) (pa_cons (pv 0) (pa_cons pe_int (pa_cons (pe_gi T.c_MOST_RULES) pa_nil)))))))
      (pss_one ps_never)
      pss_nil)
    (pss_cons (ps_set (i := 2) scCheckRules.nd rfl (.inl rfl) (pe_lst pa_nil))
    (pss_one (ps_for PassesOwn.never rfl (pi_sq (pv 0)) (pg_name (i := 3) scCheckRules.nd rfl (.inl rfl))
      (pss_cons (ps_par (i := 4) (j := 5) rfl scCheckRules.nd rfl rfl (by decide) rfl rfl (pa_cons (pe_ix (r := rIxT K) ix_tup (pv 3) pe_int (fun _ _ => rfl)) (pa_cons (pe_ix (r := rIxT K) ix_tup (pv 3) pe_int (fun _ _ => rfl)) pa_nil)) rfl)
      (pss_cons (ps_if (pt_cmpR op_in_seq (pv 4) (pv 2) (by rfl))
        (pss_one ps_never)
        pss_nil)
      (pss_cons (ps_if (pt_cmp (pc_dnotin hu (pv 5) (pv 1)))
        (pss_one ps_never)
        pss_nil)
      (pss_one (ps_expr (pe_bm PySem.F.plainAttrs_list PySem.F.slot_list_append PySem.F.type_list_append mt_append (pv 2) (pa_cons (pv 4) pa_nil))))))))))), ?_⟩
  refine ⟨_, rfl, a, [], 0, 6, rfl, hs, by decide, by decide, by decide, (fun v hv => by cases hv), fun H1 S1 => ?_⟩
  refine ⟨_, rfl, iteF ?_⟩
  refine ⟨by show 0 ≤ sizeLine; decide, fun L nL => ?_⟩
  have S2 := S1.trans (Same.laid (o := HO.lst []) nL)
  generalize upd H1 L (.lst []) = H2 at *
  refine ⟨_, rfl, a, [], rfl, hs.same S2, fun J G hG wk => ?_⟩
  exact for_none wk rfl (hG _ (Same.refl _)) (k _ S2)
theorem d_causes0 (T : Txt mg) (A : At K mg "check_causes" sCheckCauses) (aS : At K mg "is_cause_shape" sIsCauseShape) (aL : At K mg "_leads_to_itself" sLeadsToItself) (aLO : At K mg "is_list_of" sIsListOf) (dl : Def P w K mg base "is_list" 1 ["thing", "least", "most"] (spList K)) :
    Def P w K mg base "check_causes" 5 ["causes", "rules"] (spNone2 K) := by
  obtain ⟨f0, hm0, hk0, F0⟩ := At.fnr (P := P) (w := w) (base := base) aS
  have dLO := d_listOf T aLO dl F0 hk0
  have dLd : Def P w K mg base "_leads_to_itself" 1 ["name", "causes"] no := At.any aL (fun _ _ _ _ _ _ us hl => match us, hl with | [_, _], _ => rfl) 1 no fun _ _ _ _ h => h
  refine mkDef A scCheckCauses (fun _ _ _ _ _ _ us hl => match us, hl with | [_, _], _ => rfl) (fun vs H Q E ⟨_, _, e, _⟩ => by rw [e]; rfl)
    (fun f cdv A out s H vs Q E hr h => ?_)
  obtain ⟨a, d, rfl, hs, ed, k⟩ := h
  have hu : (A.deeper (envOfC "check_causes" (defScope sCheckCauses) s.heap.objs.size f cdv)).units + 1 < cLine := hu_of hr
  refine ⟨_, (pss_cons (ps_if (pt_not (pt_val (pe_d dLO hr (by decide) (by rfl) (pa_cons (pe_glob (v := V.ref f0) (by rfl) hm0 rfl) (pa_cons (pv 0) (pa_cons pe_int (pa_cons (pe_gi T.c_MOST_CAUSES) pa_nil)))))))
      (pss_one ps_never)
      pss_nil)
    (pss_cons (ps_set (i := 2) scCheckCauses.nd rfl (.inl rfl) (pe_lst pa_nil))
    (pss_cons (ps_for PassesOwn.never rfl (pi_sq (pv 0)) (pg_tup (by rfl) (pgs_cons (pg_name (i := 3) scCheckCauses.nd rfl (.inl rfl)) (pgs_cons (pg_name (i := 4) scCheckCauses.nd rfl (.inl rfl)) (pgs_cons (pg_name (i := 5) scCheckCauses.nd rfl (.inl rfl)) pgs_nil))))
      (pss_cons (ps_for PassesOwn.never rfl (pi_tup (pe_tup (pa_cons (pv 3) (pa_cons (pv 4) pa_nil)))) (pg_name (i := 6) scCheckCauses.nd rfl (.inl rfl))
        (pss_one (ps_if (pt_cmp (pc_dnotin hu (pv 6) (pv 1)))
          (pss_one ps_never)
          pss_nil)))
      (pss_cons (ps_if (pt_cmpR op_in_seq (pe_tup (pa_cons (pv 3) (pa_cons (pv 4) pa_nil))) (pv 2) (by rfl))
        (pss_one ps_never)
        pss_nil)
      (pss_one (ps_expr (pe_bm PySem.F.plainAttrs_list PySem.F.slot_list_append PySem.F.type_list_append mt_append (pv 2) (pa_cons (pe_tup (pa_cons (pv 3) (pa_cons (pv 4) pa_nil))) pa_nil)))))))
    (pss_one (ps_lock (ps_for PassesOwn.never rfl (pi_keys (pv 1)) (pg_name (i := 6) scCheckCauses.nd rfl (.inl rfl))
      (pss_one (ps_if (pt_val (pe_d dLd hr (by decide) (by rfl) (pa_cons (pv 6) (pa_cons (pv 0) pa_nil))))
        (pss_one ps_never)
        pss_nil)))))))), ?_⟩
  refine ⟨_, rfl, a, [], 0, 8, rfl, hs, by decide, by decide, by decide, (fun v hv => by cases hv), fun H1 S1 => ?_⟩
  refine ⟨_, rfl, iteF ?_⟩
  refine ⟨by show 0 ≤ sizeLine; decide, fun L nL => ?_⟩
  have S2 := S1.trans (Same.laid (o := HO.lst []) nL)
  generalize upd H1 L (.lst []) = H2 at *
  refine ⟨_, rfl, a, [], rfl, hs.same S2, fun J G hG wk => ?_⟩
  refine for_none wk rfl (hG _ (Same.refl _)) ?_
  dsimp only [gName]
  have ed2 := S2 _ _ ed
  refine ⟨d, _, ed2, trivial, fun od => ?_⟩
  have ed3 : upd H2 d (.frz od (.dK [])) d = some (.frz od (.dK [])) := upd_same
  have Sr : ∀ G, G = upd H2 d (.frz od (.dK [])) → Same H (upd G d (.dK [])) := by
    rintro G rfl
    rw [upd_upd]
    intro c o e
    by_cases hc : c = d
    · subst hc
      rw [upd_same]
      have := S2 _ _ e
      rw [ed2] at this
      exact this
    · rw [upd_ne hc]
      exact S2 _ _ e
  generalize eH3 : upd H2 d (.frz od (.dK [])) = H3 at *
  refine ⟨_, rfl, d, od, rfl, .inl ⟨[], ed3, ?_⟩⟩
  exact for_none walk_keys rfl ed3 ⟨ed3, k _ (Sr _ rfl)⟩
theorem d_commands0 (T : Txt mg) (A : At K mg "check_commands" sCheckCommands) (aS : At K mg "is_command_shape" sIsCommandShape) (aW : At K mg "is_worth_of" sIsWorthOf) (aC : At K mg "_check_locks" sCheckLocks) (aLO : At K mg "is_list_of" sIsListOf) (dl : Def P w K mg base "is_list" 1 ["thing", "least", "most"] (spList K)) :
    Def P w K mg base "check_commands" 5 ["commands", "points"] (spNone K) := by
  obtain ⟨f0, hm0, hk0, F0⟩ := At.fnr (P := P) (w := w) (base := base) aS
  have dLO := d_listOf T aLO dl F0 hk0
  have dWo : Def P w K mg base "is_worth_of" 1 ["point", "thing"] no := At.any aW (fun _ _ _ _ _ _ us hl => match us, hl with | [_, _], _ => rfl) 1 no fun _ _ _ _ h => h
  have dCl : Def P w K mg base "_check_locks" 1 ["locks", "place", "points"] no := At.any aC (fun _ _ _ _ _ _ us hl => match us, hl with | [_, _, _], _ => rfl) 1 no fun _ _ _ _ h => h
  refine mkDef A scCheckCommands (fun _ _ _ _ _ _ us hl => match us, hl with | [_, _], _ => rfl) (fun vs H Q E ⟨_, _, e, _⟩ => by rw [e]; rfl)
    (fun f cdv A out s H vs Q E hr h => ?_)
  obtain ⟨a, x, rfl, hs, k⟩ := h
  have hu : (A.deeper (envOfC "check_commands" (defScope sCheckCommands) s.heap.objs.size f cdv)).units + 1 < cLine := hu_of hr
  refine ⟨_, (pss_cons (ps_if (pt_not (pt_val (pe_d dLO hr (by decide) (by rfl) (pa_cons (pe_glob (v := V.ref f0) (by rfl) hm0 rfl) (pa_cons (pv 0) (pa_cons pe_int (pa_cons (pe_gi T.c_MOST_COMMANDS) pa_nil)))))))
      (pss_one ps_never)
      pss_nil)
    (pss_cons (ps_set (i := 2) scCheckCommands.nd rfl (.inl rfl) (pe_lst pa_nil))
    (pss_one (ps_for PassesOwn.never rfl (pi_sq (pv 0)) (pg_tup (by rfl) (pgs_cons (pg_name (i := 3) scCheckCommands.nd rfl (.inl rfl)) (pgs_cons (pg_name (i := 4) scCheckCommands.nd rfl (.inl rfl)) (pgs_cons (pg_name (i := 5) scCheckCommands.nd rfl (.inl rfl)) (pgs_cons (pg_name (i := 6) scCheckCommands.nd rfl (.inl rfl)) pgs_nil)))))
      (pss_cons (ps_if (pt_cmpR op_in_seq (pv 3) (pv 2) (by rfl))
        (pss_one ps_never)
        pss_nil)
      (pss_cons (ps_if (pt_cmp (pc_dnotin hu (pv 4) (pv 1)))
        (pss_one ps_never)
        pss_nil)
      (pss_cons (ps_if (pt_not (pt_val (pe_d dWo hr (by decide) (by rfl) (pa_cons (pe_dget hu (pv 1) (pv 4) (fun _ _ => rfl)) (pa_cons (pv 5) pa_nil)))))
        (pss_one ps_never)
        pss_nil)
      (pss_cons (ps_expr (pe_d dCl hr (by decide) (by rfl) (pa_cons (pv 6) (pa_cons (pe_ix (r := rIxT K) ix_tup (pe_dget hu (pv 1) (pv 4) (fun _ _ => rfl)) pe_int (fun _ _ => rfl)) (pa_cons (pv 1) pa_nil)))))
      (pss_one (ps_expr (pe_bm PySem.F.plainAttrs_list PySem.F.slot_list_append PySem.F.type_list_append mt_append (pv 2) (pa_cons (pv 3) pa_nil)))))))))))), ?_⟩
  refine ⟨_, rfl, a, [], 0, 4, rfl, hs, by decide, by decide, by decide, (fun v hv => by cases hv), fun H1 S1 => ?_⟩
  refine ⟨_, rfl, iteF ?_⟩
  refine ⟨by show 0 ≤ sizeLine; decide, fun L nL => ?_⟩
  have S2 := S1.trans (Same.laid (o := HO.lst []) nL)
  generalize upd H1 L (.lst []) = H2 at *
  refine ⟨_, rfl, a, [], rfl, hs.same S2, fun J G hG wk => ?_⟩
  exact for_none wk rfl (hG _ (Same.refl _)) (k _ S2)
theorem d_relations0 (T : Txt mg) (A : At K mg "check_relations" sCheckRelations) (aS : At K mg "is_relation_shape" sIsRelationShape) (aR : At K mg "points_of_relation" sPointsOfRelation) (aO : At K mg "_check_each_once" sCheckEachOnce) (aLO : At K mg "is_list_of" sIsListOf) (dl : Def P w K mg base "is_list" 1 ["thing", "least", "most"] (spList K)) :
    Def P w K mg base "check_relations" 5 ["relations", "points"] (spNone K) := by
  obtain ⟨f0, hm0, hk0, F0⟩ := At.fnr (P := P) (w := w) (base := base) aS
  have dLO := d_listOf T aLO dl F0 hk0
  have dPr : Def P w K mg base "points_of_relation" 1 ["relation"] no := At.any aR (fun _ _ _ _ _ _ us hl => match us, hl with | [_], _ => rfl) 1 no fun _ _ _ _ h => h
  have dO : Def P w K mg base "_check_each_once" 1 ["names"] no := At.any aO (fun _ _ _ _ _ _ us hl => match us, hl with | [_], _ => rfl) 1 no fun _ _ _ _ h => h
  refine mkDef A scCheckRelations (fun _ _ _ _ _ _ us hl => match us, hl with | [_, _], _ => rfl) (fun vs H Q E ⟨_, _, e, _⟩ => by rw [e]; rfl)
    (fun f cdv A out s H vs Q E hr h => ?_)
  obtain ⟨a, x, rfl, hs, k⟩ := h
  have hu : (A.deeper (envOfC "check_relations" (defScope sCheckRelations) s.heap.objs.size f cdv)).units + 1 < cLine := hu_of hr
  refine ⟨_, (pss_cons (ps_if (pt_not (pt_val (pe_d dLO hr (by decide) (by rfl) (pa_cons (pe_glob (v := V.ref f0) (by rfl) hm0 rfl) (pa_cons (pv 0) (pa_cons pe_int (pa_cons (pe_gi T.c_MOST_RELATIONS) pa_nil)))))))
      (pss_one ps_never)
      pss_nil)
    (pss_one (ps_for PassesOwn.never rfl (pi_sq (pv 0)) (pg_name (i := 2) scCheckRelations.nd rfl (.inl rfl))
      (pss_cons (ps_set (i := 3) scCheckRelations.nd rfl (.inl rfl) (pe_d dPr hr (by decide) (by rfl) (pa_cons (pv 2) pa_nil)))
      (pss_cons (ps_for PassesOwn.never rfl (pi_list (pv 3)) (pg_name (i := 4) scCheckRelations.nd rfl (.inl rfl))
        (pss_one (ps_if (pt_cmp (pc_dnotin hu (pv 4) (pv 1)))
          (pss_one ps_never)
          pss_nil)))
      (pss_cons (ps_expr (pe_d dO hr (by decide) (by rfl) (pa_cons (pv 3) pa_nil)))
      (pss_one (ps_if (PW.pt (pw_and (pt_cmpR op_eq (pe_ix (r := rIxT K) ix_tup (pv 2) pe_int (fun _ _ => rfl)) pe_str (nomark _)) (pw_and1 (pt_cmpR op_ne (pe_ix (r := rIxT K) ix_tup (pe_dget hu (pv 1) (pe_ix ix_list (pv 3) pe_int (fun _ _ => rfl)) (fun _ _ => rfl)) pe_int (fun _ _ => rfl)) pe_str (nomark _)))))
        (pss_one ps_never)
        pss_nil)))))))), ?_⟩
  refine ⟨_, rfl, a, [], 0, 5, rfl, hs, by decide, by decide, by decide, (fun v hv => by cases hv), fun H1 S1 => ?_⟩
  refine ⟨_, rfl, iteF ?_⟩
  refine ⟨_, rfl, a, [], rfl, hs.same S1, fun J G hG wk => ?_⟩
  exact for_none wk rfl (hG _ (Same.refl _)) (k _ S1)
end
end V51

namespace V51
open PySem PySem.Spec PyProof.Rows L2 Pw
/-- all stays but at p -/
def FrX (p : Addr) (H H' : Hp) : Prop := ∀ b o, b ≠ p → H b = some o → H' b = some o
section
variable {p : Addr} {H H' H2 : Hp} {C dx : Addr} {fs : List (Str × V)} {K : PySem.W.Frag} {a : Addr} {xs : List V}
theorem FrX.refl : FrX p H H := fun _ _ _ e => e
theorem FrX.of (S : Same H H') : FrX p H H' := fun b o _ e => S b o e
theorem FrX.trans (a : FrX p H H') (b : FrX p H' H2) : FrX p H H2 := fun c o n e => b c o n (a c o n e)
theorem FrX.put {o : HO} : FrX p H (upd H p o) := fun b u n e => (upd_ne n).trans e
theorem FrX.rd (F : FrX p H H') (ep : H p = some (.ins C dx fs)) {u : HO} (hu : ∀ o, u ≠ .ins C dx fs ∧ (HO.frz o u) ≠ .ins C dx fs) (h : Rd H a u) : Rd H' a u := by
  rcases h with e | ⟨o, e⟩
  · exact .inl (F a _ (fun z => by rw [z, ep] at e; exact (hu ⟨.none, .none, .dict #[] , #[]⟩).1 (Option.some.inj e).symm) e)
  · exact .inr ⟨o, F a _ (fun z => by rw [z, ep] at e; exact (hu o).2 (Option.some.inj e).symm) e⟩
theorem FrX.sqT (F : FrX p H H') (ep : H p = some (.ins C dx fs)) (h : SqT K H a xs) : SqT K H' a xs :=
  h.imp (fun r => F.rd ep (fun o => ⟨(fun z => by cases z), (fun z => by cases z)⟩) r) id
theorem FrX.sqL (F : FrX p H H') (ep : H p = some (.ins C dx fs)) (h : SqL K H a xs) : SqL K H' a xs :=
  h.imp (fun r => F.rd ep (fun o => ⟨(fun z => by cases z), (fun z => by cases z)⟩) r) id
theorem FrX.sq (F : FrX p H H') (ep : H p = some (.ins C dx fs)) (h : Sq K H a xs) : Sq K H' a xs := h.imp (F.sqL ep) (F.sqT ep)
theorem FrX.al {α : Type} {f : α → List V} {rs : List α} (F : FrX p H H') (ep : H p = some (.ins C dx fs)) (h : Al f H xs rs) : Al f H' xs rs :=
  h.imp fun q ys e => F q _ (fun z => by rw [z, ep] at e; cases e) e
theorem FrX.dk (F : FrX p H H') (ep : H p = some (.ins C dx fs)) {d : Addr} {kvs : List (Key × V)} (h : H d = some (.dK kvs)) : H' d = some (.dK kvs) :=
  F d _ (fun z => by rw [z, ep] at h; cases h) h
end
/-- tuple() of a list or a tuple -/
theorem tup_of {K : PySem.W.Frag} {H : Hp} {a : Addr} {xs : List V} {Q : VK} (h : Sq K H a xs) (k : ∀ t H', Same H H' → SqT K H' t xs → Q (.ref t) H') :
    ∃ p ys, [V.ref a] = [V.ref p] ∧ ((SqL K H p ys ∧ ∀ l, H l = none → Q (.ref l) (upd H l (.tup ys))) ∨ (SqT K H p ys ∧ Q (.ref p) H)) := by
  rcases h with h | h
  · exact ⟨a, xs, rfl, .inl ⟨h, fun l nl => k l _ (Same.laid nl) (SqT.of upd_same)⟩⟩
  · exact ⟨a, xs, rfl, .inr ⟨h, k a _ (Same.refl _) h⟩⟩
def rTupOf (K : PySem.W.Frag) : List V → Hp → VK → Prop := fun xs H Q => ∃ a ys, xs = [V.ref a] ∧ Sq K H a ys ∧ ∀ t H', Same H H' → SqT K H' t ys → Q (.ref t) H'
theorem call_tupOf {X : Cx} : CallR X (.type "tuple") (rTupOf X.K) := by
  intro pins s σ H xs us Q I r h
  obtain ⟨a, ys, rfl, h, k⟩ := h
  exact call_tuple_of pins s σ H _ us Q I r (tup_of (Q := Q) h k)
def wof (tp dp tr dr tc tm dm tl : Addr) : List (Str × V) := [("_points", .ref tp), ("_point_by_name", .ref dp), ("_rules", .ref tr), ("_rule_by_name", .ref dr), ("_causes", .ref tc), ("_commands", .ref tm), ("_command_by_name", .ref dm), ("_relations", .ref tl)]
/-- works: what they are made of -/
structure Wks where
  xs : List V
  ks : List (Key × V)
  xr : List V
  kr : List (Key × V)
  xc : List V
  xm : List V
  km : List (Key × V)
  xl : List V
structure WoAt (K : PySem.W.Frag) (C : Addr) (H : Hp) (p : Addr) (W : Wks) : Prop where
  ex : ∃ dx tp dp tr dr tc tm dm tl, H p = some (.ins C dx (wof tp dp tr dr tc tm dm tl)) ∧ SqT K H tp W.xs ∧ H dp = some (.dK W.ks) ∧ SqT K H tr W.xr ∧ H dr = some (.dK W.kr) ∧
    SqT K H tc W.xc ∧ SqT K H tm W.xm ∧ H dm = some (.dK W.km) ∧ SqT K H tl W.xl
theorem WoAt.same {K : PySem.W.Frag} {C : Addr} {H H' : Hp} {p : Addr} {W : Wks} (h : WoAt K C H p W) (S : Same H H') : WoAt K C H' p W :=
  let ⟨dx, tp, dp, tr, dr, tc, tm, dm, tl, e0, e1, e2, e3, e4, e5, e6, e7, e8⟩ := h.ex
  have sq : ∀ {a xs}, SqT K H a xs → SqT K H' a xs := fun h => h.imp (fun r => Rd_same S r) id
  ⟨dx, tp, dp, tr, dr, tc, tm, dm, tl, S _ _ e0, sq e1, S _ _ e2, sq e3, S _ _ e4, sq e5, sq e6, S _ _ e7, sq e8⟩
/-- of the class -/
structure WoC (K : PySem.W.Frag) (C : Addr) : Prop where
  cl : Cls K C
  nPo : NoAttr K C "_points"
  nPd : NoAttr K C "_point_by_name"
  nRu : NoAttr K C "_rules"
  nRd : NoAttr K C "_rule_by_name"
  nCa : NoAttr K C "_causes"
  nCo : NoAttr K C "_commands"
  nCd : NoAttr K C "_command_by_name"
  nRe : NoAttr K C "_relations"
section
variable {P : Program} {w : World} {K : PySem.W.Frag} {mg : Str → Option Value} {base : Heap} {C : Addr}
/-- a check asked of a and d at any heap behind H -/
def Chk (p : Addr) (H : Hp) (sp : Sp) (a : Addr) (ks : List (Key × V)) : Prop := ∀ (d : Addr) (H1 : Hp) (Q1 : VK), FrX p H H1 → H1 d = some (.dK ks) → (∀ H2, Same H1 H2 → Q1 .non H2) → sp [.ref a, .ref d] H1 Q1 E0
def spInitW {αR αM : Type} (K : PySem.W.Frag) (C : Addr) (fR : αR → List V) (nR : αR → Str) (fM : αM → List V) (nM : αM → Str) (spR spC spM spL : Sp) : Sp := fun vs H Q _ =>
  ∃ (p a r c m l dx : Addr) (xs xr xc xm xl : List V) (ps : List Pt) (rr : List αR) (rm : List αM), vs = [.ref p, .ref a, .ref r, .ref c, .ref m, .ref l] ∧ H p = some (.ins C dx []) ∧
  Sq K H a xs ∧ Al fP H xs ps ∧ GoodPs ps ∧ Sq K H r xr ∧ Al fR H xr rr ∧ (rr.map nR).Nodup ∧ rr.length ≤ 1000 ∧ Sq K H c xc ∧ Sq K H m xm ∧ Al fM H xm rm ∧ (rm.map nM).Nodup ∧ rm.length ≤ 1000 ∧ Sq K H l xl ∧
  Chk p H spR r (kvs Pt.nm ps xs) ∧ Chk p H spC c (kvs nR rr xr) ∧ Chk p H spM m (kvs Pt.nm ps xs) ∧ Chk p H spL l (kvs Pt.nm ps xs) ∧
  ∀ H', WoAt K C H' p ⟨xs, kvs Pt.nm ps xs, xr, kvs nR rr xr, xc, xm, kvs nM rm xm, xl⟩ → FrX p H H' → Q .non H'
end
end V51

set_option maxHeartbeats 8000000
namespace V51
open PySem PySem.Spec PyProof.Rows L2 Pw
section
variable {P : Program} {w : World} {K : PySem.W.Frag} {mg : Str → Option Value} {base : Heap} {C : Addr}
theorem ok_initW {αR αM : Type} {fR : αR → List V} {nR : αR → Str} {fM : αM → List V} {nM : αM → Str} {spR spC spM spL : Sp} {f0 : Addr} {fd : FuncData} {kws : List (Str × V)} (T : Txt mg) (W : WoC K C)
    (F : FunD K "__init__" "Works.__init__" (defArgs mWorks_Init) (defBody mWorks_Init) (defScope mWorks_Init) [] kws f0 fd)
    (dP : Def P w K mg base "check_points" 5 ["points"] (spPoints K)) (dN : ∀ {α : Type} (f : α → List V) (nm : α → Str), Def P w K mg base "by_name" 1 ["rows"] (spByName K f nm))
    (dR : Def P w K mg base "check_rules" 5 ["rules", "points"] spR) (dC : Def P w K mg base "check_causes" 5 ["causes", "rules"] spC)
    (dM : Def P w K mg base "check_commands" 5 ["commands", "points"] spM) {kl : Nat} (hkl : kl ≤ 7) (dL : Def P w K mg base "check_relations" kl ["relations", "points"] spL)
    (hR : ∀ r, ∃ tl, fR r = .str (nR r) :: tl) (hM : ∀ r, ∃ tl, fM r = .str (nM r) :: tl) :
    FnOk P w K mg base CX0 8 f0 fd ["self", "points", "rules", "causes", "commands", "relations"] (spInitW K C fR nR fM nM spR spC spM spL) := by
  refine mkFnI F scmWorks_Init (fun vs H Q E ⟨_, _, _, _, _, _, _, _, _, _, _, _, _, _, _, e, _⟩ => by rw [e]; rfl)
    (fun f cdv A out s H vs Q E hr h => ?_)
  obtain ⟨p, a, r, c, m, l, dx, xs, xr, xc, xm, xl, ps, rr, rm, rfl, ep, hs, al, g, hr1, alr, ndr, lnr, hc, hm, alm, ndm, lnm, hl, cR, cC, cM, cL, k⟩ := h
  refine ⟨_, (pss_cons (ps_expr (pe_d dP hr (by decide) (by rfl) (pa_cons (pv 1) pa_nil)))
    (pss_cons (ps_fld (pv 0) (pe_callTy call_tupOf (by rfl) T.tuple (by decide +kernel) (pa_cons (pv 1) pa_nil)) rfl)
    (pss_cons (ps_fld (pv 0) (pe_d (dN fP Pt.nm) hr (by decide) (by rfl) (pa_cons (pv 1) pa_nil)) rfl)
    (pss_cons (ps_expr (pe_d dR hr (by decide) (by rfl) (pa_cons (pv 2) (pa_cons (pe_fld (pv 0) rfl) pa_nil))))
    (pss_cons (ps_fld (pv 0) (pe_callTy call_tupOf (by rfl) T.tuple (by decide +kernel) (pa_cons (pv 2) pa_nil)) rfl)
    (pss_cons (ps_fld (pv 0) (pe_d (dN fR nR) hr (by decide) (by rfl) (pa_cons (pv 2) pa_nil)) rfl)
    (pss_cons (ps_expr (pe_d dC hr (by decide) (by rfl) (pa_cons (pv 3) (pa_cons (pe_fld (pv 0) rfl) pa_nil))))
    (pss_cons (ps_fld (pv 0) (pe_callTy call_tupOf (by rfl) T.tuple (by decide +kernel) (pa_cons (pv 3) pa_nil)) rfl)
    (pss_cons (ps_expr (pe_d dM hr (by decide) (by rfl) (pa_cons (pv 4) (pa_cons (pe_fld (pv 0) rfl) pa_nil))))
    (pss_cons (ps_fld (pv 0) (pe_callTy call_tupOf (by rfl) T.tuple (by decide +kernel) (pa_cons (pv 4) pa_nil)) rfl)
    (pss_cons (ps_fld (pv 0) (pe_d (dN fM nM) hr (by decide) (by rfl) (pa_cons (pv 4) pa_nil)) rfl)
    (pss_cons (ps_expr (pe_d dL hr hkl (by rfl) (pa_cons (pv 5) (pa_cons (pe_fld (pv 0) rfl) pa_nil))))
    (pss_one (ps_fld (pv 0) (pe_callTy call_tupOf (by rfl) T.tuple (by decide +kernel) (pa_cons (pv 5) pa_nil)) rfl)))))))))))))), ?_⟩
  -- a store
  have put : ∀ {G : Hp} {fs fs' : List (Str × V)} {y : Str} {v : V}, G p = some (.ins C dx fs) → putF y v fs = fs' → ∀ G', G' = upd G p (.ins C dx (putF y v fs)) → G' p = some (.ins C dx fs') ∧ FrX p G G' := by
    rintro G fs fs' y v e e2 G' rfl
    exact ⟨by rw [upd_same, e2], FrX.put⟩
  refine ⟨_, rfl, a, xs, ps, rfl, hs, al, g, fun G1 S1 => ?_⟩
  have E1 := S1 _ _ ep
  have F1 : FrX p H G1 := .of S1
  -- _points
  refine ⟨_, rfl, a, xs, rfl, F1.sq ep hs, fun tp G2 S2 h1 => ?_⟩
  have E2 := S2 _ _ E1
  refine ⟨_, rfl, p, C, dx, _, rfl, E2, W.cl, W.nPo, by show 0 < 1000; decide, ?_⟩
  obtain ⟨E3, X3⟩ := put E2 (y := "_points") (v := .ref tp) (fs' := [("_points", .ref tp)]) rfl _ rfl
  generalize upd G2 p (.ins C dx (putF "_points" (.ref tp) [])) = G3 at *
  have F3 : FrX p H G3 := F1.trans ((FrX.of S2).trans X3)
  have h1 := X3.sqT E2 h1
  -- _point_by_name
  refine ⟨_, rfl, a, xs, ps, rfl, F3.sq ep hs, F3.al ep al, (fun r => ⟨_, rfl⟩), g.nd, (by have := g.len; omega), fun dp G4 S4 _ h2 => ?_⟩
  have E4 := S4 _ _ E3
  refine ⟨_, rfl, p, C, dx, _, rfl, E4, W.cl, W.nPd, by show 1 < 1000; decide, ?_⟩
  obtain ⟨E5, X5⟩ := put E4 (y := "_point_by_name") (v := .ref dp) (fs' := [("_points", .ref tp), ("_point_by_name", .ref dp)]) (by rw [put_ne (by decide +kernel)]; rfl) _ rfl
  generalize upd G4 p (.ins C dx (putF "_point_by_name" (.ref dp) [("_points", .ref tp)])) = G5 at *
  have Y5 : FrX p G3 G5 := (FrX.of S4).trans X5
  have F5 := F3.trans Y5
  have h1 := Y5.sqT E3 h1
  have h2 := X5.dk E4 h2
  -- rules
  refine ⟨_, rfl, _, rfl, p, C, dx, _, _, rfl, E5, W.cl, W.nPd, (lk_ne (by decide +kernel)).trans lk_eq, ?_⟩
  refine cR dp G5 _ F5 h2 fun G6 S6 => ?_
  have E6 := S6 _ _ E5
  have F6 := F5.trans (FrX.of S6)
  refine ⟨_, rfl, r, xr, rfl, F6.sq ep hr1, fun tr G7 S7 h3 => ?_⟩
  have E7 := S7 _ _ E6
  refine ⟨_, rfl, p, C, dx, _, rfl, E7, W.cl, W.nRu, by show 2 < 1000; decide, ?_⟩
  obtain ⟨E8, X8⟩ := put E7 (y := "_rules") (v := .ref tr) (fs' := [("_points", .ref tp), ("_point_by_name", .ref dp), ("_rules", .ref tr)]) (by rw [put_ne (by decide +kernel), put_ne (by decide +kernel)]; rfl) _ rfl
  generalize upd G7 p (.ins C dx (putF "_rules" (.ref tr) [("_points", .ref tp), ("_point_by_name", .ref dp)])) = G8 at *
  have Y8 : FrX p G5 G8 := (FrX.of (S6.trans S7)).trans X8
  have F8 := F5.trans Y8
  have h1 := Y8.sqT E5 h1
  have h2 := Y8.dk E5 h2
  have h3 := X8.sqT E7 h3
  refine ⟨_, rfl, r, xr, rr, rfl, F8.sq ep hr1, F8.al ep alr, hR, ndr, lnr, fun dr G9 S9 _ h4 => ?_⟩
  have E9 := S9 _ _ E8
  refine ⟨_, rfl, p, C, dx, _, rfl, E9, W.cl, W.nRd, by show 3 < 1000; decide, ?_⟩
  obtain ⟨E10, X10⟩ := put E9 (y := "_rule_by_name") (v := .ref dr) (fs' := [("_points", .ref tp), ("_point_by_name", .ref dp), ("_rules", .ref tr), ("_rule_by_name", .ref dr)]) (by rw [put_ne (by decide +kernel), put_ne (by decide +kernel), put_ne (by decide +kernel)]; rfl) _ rfl
  generalize upd G9 p (.ins C dx (putF "_rule_by_name" (.ref dr) [("_points", .ref tp), ("_point_by_name", .ref dp), ("_rules", .ref tr)])) = G10 at *
  have Y10 : FrX p G8 G10 := (FrX.of S9).trans X10
  have F10 := F8.trans Y10
  have h1 := Y10.sqT E8 h1
  have h2 := Y10.dk E8 h2
  have h3 := Y10.sqT E8 h3
  have h4 := X10.dk E9 h4
  -- causes
  refine ⟨_, rfl, _, rfl, p, C, dx, _, _, rfl, E10, W.cl, W.nRd, (lk_ne (by decide +kernel)).trans ((lk_ne (by decide +kernel)).trans ((lk_ne (by decide +kernel)).trans lk_eq)), ?_⟩
  refine cC dr G10 _ F10 h4 fun G11 S11 => ?_
  have E11 := S11 _ _ E10
  have F11 := F10.trans (FrX.of S11)
  refine ⟨_, rfl, c, xc, rfl, F11.sq ep hc, fun tc G12 S12 h5 => ?_⟩
  have E12 := S12 _ _ E11
  refine ⟨_, rfl, p, C, dx, _, rfl, E12, W.cl, W.nCa, by show 4 < 1000; decide, ?_⟩
  obtain ⟨E13, X13⟩ := put E12 (y := "_causes") (v := .ref tc) (fs' := [("_points", .ref tp), ("_point_by_name", .ref dp), ("_rules", .ref tr), ("_rule_by_name", .ref dr), ("_causes", .ref tc)]) (by rw [put_ne (by decide +kernel), put_ne (by decide +kernel), put_ne (by decide +kernel), put_ne (by decide +kernel)]; rfl) _ rfl
  generalize upd G12 p (.ins C dx (putF "_causes" (.ref tc) [("_points", .ref tp), ("_point_by_name", .ref dp), ("_rules", .ref tr), ("_rule_by_name", .ref dr)])) = G13 at *
  have Y13 : FrX p G10 G13 := (FrX.of (S11.trans S12)).trans X13
  have F13 := F10.trans Y13
  have h1 := Y13.sqT E10 h1
  have h2 := Y13.dk E10 h2
  have h3 := Y13.sqT E10 h3
  have h4 := Y13.dk E10 h4
  have h5 := X13.sqT E12 h5
  -- commands
  refine ⟨_, rfl, _, rfl, p, C, dx, _, _, rfl, E13, W.cl, W.nPd, (lk_ne (by decide +kernel)).trans lk_eq, ?_⟩
  refine cM dp G13 _ F13 h2 fun G14 S14 => ?_
  have E14 := S14 _ _ E13
  have F14 := F13.trans (FrX.of S14)
  refine ⟨_, rfl, m, xm, rfl, F14.sq ep hm, fun tm G15 S15 h6 => ?_⟩
  have E15 := S15 _ _ E14
  refine ⟨_, rfl, p, C, dx, _, rfl, E15, W.cl, W.nCo, by show 5 < 1000; decide, ?_⟩
  obtain ⟨E16, X16⟩ := put E15 (y := "_commands") (v := .ref tm) (fs' := [("_points", .ref tp), ("_point_by_name", .ref dp), ("_rules", .ref tr), ("_rule_by_name", .ref dr), ("_causes", .ref tc), ("_commands", .ref tm)]) (by rw [put_ne (by decide +kernel), put_ne (by decide +kernel), put_ne (by decide +kernel), put_ne (by decide +kernel), put_ne (by decide +kernel)]; rfl) _ rfl
  generalize upd G15 p (.ins C dx (putF "_commands" (.ref tm) [("_points", .ref tp), ("_point_by_name", .ref dp), ("_rules", .ref tr), ("_rule_by_name", .ref dr), ("_causes", .ref tc)])) = G16 at *
  have Y16 : FrX p G13 G16 := (FrX.of (S14.trans S15)).trans X16
  have F16 := F13.trans Y16
  have h1 := Y16.sqT E13 h1
  have h2 := Y16.dk E13 h2
  have h3 := Y16.sqT E13 h3
  have h4 := Y16.dk E13 h4
  have h5 := Y16.sqT E13 h5
  have h6 := X16.sqT E15 h6
  refine ⟨_, rfl, m, xm, rm, rfl, F16.sq ep hm, F16.al ep alm, hM, ndm, lnm, fun dm G17 S17 _ h7 => ?_⟩
  have E17 := S17 _ _ E16
  refine ⟨_, rfl, p, C, dx, _, rfl, E17, W.cl, W.nCd, by show 6 < 1000; decide, ?_⟩
  obtain ⟨E18, X18⟩ := put E17 (y := "_command_by_name") (v := .ref dm) (fs' := [("_points", .ref tp), ("_point_by_name", .ref dp), ("_rules", .ref tr), ("_rule_by_name", .ref dr), ("_causes", .ref tc), ("_commands", .ref tm), ("_command_by_name", .ref dm)]) (by rw [put_ne (by decide +kernel), put_ne (by decide +kernel), put_ne (by decide +kernel), put_ne (by decide +kernel), put_ne (by decide +kernel), put_ne (by decide +kernel)]; rfl) _ rfl
  generalize upd G17 p (.ins C dx (putF "_command_by_name" (.ref dm) [("_points", .ref tp), ("_point_by_name", .ref dp), ("_rules", .ref tr), ("_rule_by_name", .ref dr), ("_causes", .ref tc), ("_commands", .ref tm)])) = G18 at *
  have Y18 : FrX p G16 G18 := (FrX.of S17).trans X18
  have F18 := F16.trans Y18
  have h1 := Y18.sqT E16 h1
  have h2 := Y18.dk E16 h2
  have h3 := Y18.sqT E16 h3
  have h4 := Y18.dk E16 h4
  have h5 := Y18.sqT E16 h5
  have h6 := Y18.sqT E16 h6
  have h7 := X18.dk E17 h7
  -- relations
  refine ⟨_, rfl, _, rfl, p, C, dx, _, _, rfl, E18, W.cl, W.nPd, (lk_ne (by decide +kernel)).trans lk_eq, ?_⟩
  refine cL dp G18 _ F18 h2 fun G19 S19 => ?_
  have E19 := S19 _ _ E18
  have F19 := F18.trans (FrX.of S19)
  refine ⟨_, rfl, l, xl, rfl, F19.sq ep hl, fun tl G20 S20 h8 => ?_⟩
  have E20 := S20 _ _ E19
  refine ⟨_, rfl, p, C, dx, _, rfl, E20, W.cl, W.nRe, by show 7 < 1000; decide, ?_⟩
  obtain ⟨E21, X21⟩ := put E20 (y := "_relations") (v := .ref tl) (fs' := wof tp dp tr dr tc tm dm tl) (by rw [put_ne (by decide +kernel), put_ne (by decide +kernel), put_ne (by decide +kernel), put_ne (by decide +kernel), put_ne (by decide +kernel), put_ne (by decide +kernel), put_ne (by decide +kernel)]; rfl) _ rfl
  generalize upd G20 p _ = G21 at *
  have Y21 : FrX p G18 G21 := (FrX.of (S19.trans S20)).trans X21
  have F21 := F18.trans Y21
  exact k _ ⟨dx, tp, dp, tr, dr, tc, tm, dm, tl, E21, Y21.sqT E18 h1, Y21.dk E18 h2, Y21.sqT E18 h3, Y21.dk E18 h4, Y21.sqT E18 h5, Y21.sqT E18 h6, Y21.dk E18 h7, X21.sqT E20 h8⟩ F21
end
end V51

namespace V51
open PySem PySem.Spec PyProof.Rows L2 Pw
theorem kvs_get {α : Type} (nm : α → Str) : ∀ {rs : List α} {vs : List V} {i : Nat} {r : α} {v : V}, (rs.map nm).Nodup → rs[i]? = some r → vs[i]? = some v → valV (kvs nm rs vs) (.inr (nm r)) = some v
  | [], _, _, _, _, _, h, _ => by simp at h
  | _ :: _, [], _, _, _, _, _, h => by simp at h
  | a :: rs, x :: vs, 0, r, v, nd, h1, h2 => by
    simp only [List.getElem?_cons_zero, Option.some.injEq] at h1 h2
    subst h1 h2
    show valV ((Sum.inr (nm a), x) :: kvs nm rs vs) _ = _
    unfold valV
    rw [List.find?_cons, decide_eq_true rfl]
    rfl
  | a :: rs, x :: vs, i + 1, r, v, nd, h1, h2 => by
    simp only [List.getElem?_cons_succ] at h1 h2
    have nd' := List.nodup_cons.mp nd
    have ne : (Sum.inr (nm a) : Key) ≠ .inr (nm r) := fun z => nd'.1 (by rw [Sum.inr.inj z]; exact List.mem_map.mpr ⟨r, List.mem_of_getElem? h1, rfl⟩)
    have ih := kvs_get nm nd'.2 h1 h2
    show valV ((Sum.inr (nm a), x) :: kvs nm rs vs) _ = _
    unfold valV at ih ⊢
    rw [List.find?_cons, decide_eq_false ne]
    exact ih
theorem kvs_no {α : Type} (nm : α → Str) {rs : List α} {vs : List V} {x : Str} (hl : rs.length = vs.length) (h : x ∉ rs.map nm) : valV (kvs nm rs vs) (.inr x) = none := by
  unfold valV
  rw [Option.map_eq_none_iff, List.find?_eq_none]
  intro p hp e
  have e' : p.1 = .inr x := of_decide_eq_true e
  have : p.1 ∈ (kvs nm rs vs).map Prod.fst := List.mem_map.mpr ⟨p, hp, rfl⟩
  rw [kvs_keys nm hl, e'] at this
  obtain ⟨r, hr, er⟩ := List.mem_map.mp this
  exact h (List.mem_map.mpr ⟨r, hr, Sum.inr.inj er⟩)
theorem wof_no {m : Str} {tp dp tr dr tc tm dm tl : Addr} (h1 : (m == ("_points" : Str)) = false) (h2 : (m == ("_point_by_name" : Str)) = false) (h3 : (m == ("_rules" : Str)) = false) (h4 : (m == ("_rule_by_name" : Str)) = false)
    (h5 : (m == ("_causes" : Str)) = false) (h6 : (m == ("_commands" : Str)) = false) (h7 : (m == ("_command_by_name" : Str)) = false) (h8 : (m == ("_relations" : Str)) = false) : (wof tp dp tr dr tc tm dm tl).lookup m = none := by
  unfold wof
  rw [lk_ne h1, lk_ne h2, lk_ne h3, lk_ne h4, lk_ne h5, lk_ne h6, lk_ne h7, lk_ne h8]
  rfl
/-- works of such points -/
structure WoP (K : PySem.W.Frag) (C : Addr) (H : Hp) (p : Addr) (W : Wks) (ps : List Pt) : Prop where
  wo : WoAt K C H p W
  ks : W.ks = kvs Pt.nm ps W.xs
  al : Al fP H W.xs ps
  g : GoodPs ps
theorem WoP.same {K : PySem.W.Frag} {C : Addr} {H H' : Hp} {p : Addr} {W : Wks} {ps : List Pt} (h : WoP K C H p W ps) (S : Same H H') : WoP K C H' p W ps := ⟨h.wo.same S, h.ks, h.al.same S, h.g⟩
/-- of the class: what isinstance asks -/
structure WoQ (K : PySem.W.Frag) (C : Addr) : Prop where
  c1 : PySem.W.findIn K (.ref C) "__class__" = some (some (.builtin "object.__class__"))
  c2 : PySem.W.specialIn K (.builtin "object.__class__") "__get__" = some (some (.builtin "getset_descriptor.__get__"))
  c3 : PySem.W.takesIn K (.builtin "object.__class__") = some true
  mo : PySem.W.mroIn K C (.type "object") = some true
  kit : PySem.W.kitOne K (.ref C) (.ref C) = some true
def hiP (pt : Pt) : Int := if pt.sw = true then 1 else 63
section
variable {P : Program} {w : World} {K : PySem.W.Frag} {mg : Str → Option Value} {base : Heap} {C : Addr}
def spWorthOf (K : PySem.W.Frag) : Sp := fun vs H Q _ => ∃ (q : Addr) (pt : Pt) (x : V) (t : Value), vs = [.ref q, x] ∧ H q = some (.tup (fP pt)) ∧ Ty K H x t ∧ Q (.bl (wholeB x 0 (hiP pt))) H
theorem d_worthOf (T : Txt mg) (A : At K mg "is_worth_of" sIsWorthOf) (dw : Def P w K mg base "is_whole" 3 ["thing", "low", "high"] (spWhole K)) : Def P w K mg base "is_worth_of" 4 ["point", "thing"] (spWorthOf K) := by
  refine mkDef A scIsWorthOf (fun _ _ _ _ _ _ us hl => match us, hl with | [_, _], _ => rfl) (fun vs H Q E ⟨_, _, _, _, e, _⟩ => by rw [e]; rfl)
    (fun f cdv A out s H vs Q E hr h => ?_)
  obtain ⟨q, pt, x, t, rfl, e, ty, k⟩ := h
  refine ⟨_, (pss_one (ps_ret (pe_d dw hr (by decide) (by rfl) (pa_cons (pv 1) (pa_cons pe_int (pa_cons (pe_ifExp (pt_cmpR op_eq (pe_ix (r := rIxT K) ix_tup (pv 0) pe_int (fun _ _ => rfl)) pe_str (nomark _)) (pe_gi T.cMOST_LEVEL) pe_int) pa_nil)))))), ?_⟩
  refine ⟨_, rfl, _, rfl, q, _, 2, .str (kd pt.sw), rfl, rfl, SqT.of e, rfl, rfl, _, rfl, ?_⟩
  rw [kd_level]
  unfold hiP at k
  cases hsw : pt.sw with
  | true =>
    rw [hsw] at k
    exact iteF ⟨x, t, 0, 1, rfl, ty, k⟩
  | false =>
    rw [hsw] at k
    exact iteT ⟨x, t, 0, 63, rfl, ty, k⟩
def spPts (C : Addr) (K : PySem.W.Frag) : Sp := fun vs H Q _ => ∃ p W ps, vs = [.ref p] ∧ WoP K C H p W ps ∧ ∀ l H', Same H H' → H l = none → H' l = some (.lst W.xs) → Q (.ref l) H'
theorem d_pts (T : Txt mg) (Wc : WoC K C) (A : AtMt K C "points" "Works.points" mWorks_Points) : DefM P w K mg base C "points" 1 ["self"] (spPts C K) := by
  refine mkDefM A scmWorks_Points (fun _ _ _ _ _ _ us hl => match us, hl with | [_], _ => rfl) (fun vs H Q E ⟨_, _, _, e, _⟩ => by rw [e]; rfl)
    (fun f cdv A out s H vs Q E hr h => ?_)
  obtain ⟨p, W, ps, rfl, hw, k⟩ := h
  obtain ⟨dx, tp, dp, tr, dr, tc, tm, dm, tl, e0, e1, e2, _⟩ := hw.wo.ex
  refine ⟨_, (pss_one (ps_ret (pe_callTy call_list_of (by rfl) T.list (by decide +kernel) (pa_cons (pe_fld (pv 0) rfl) pa_nil)))), ?_⟩
  refine ⟨_, rfl, p, C, dx, _, _, rfl, e0, Wc.cl, Wc.nPo, lk_eq, tp, W.xs, rfl, .inr e1, fun l nl => ?_⟩
  exact k l _ (Same.laid nl) nl upd_same
def spHasP (C : Addr) (K : PySem.W.Frag) : Sp := fun vs H Q _ => ∃ p W ps nm, vs = [.ref p, .str nm] ∧ WoP K C H p W ps ∧ OkName nm ∧ ∀ H', Same H H' → Q (.bl (decide (nm ∈ ps.map Pt.nm))) H'
theorem d_hasP (Wc : WoC K C) (A : AtMt K C "has_point" "Works.has_point" mWorks_HasPoint) (dn : Def P w K mg base "is_name" 1 ["thing"] (spName K)) :
    DefM P w K mg base C "has_point" 2 ["self", "thing"] (spHasP C K) := by
  refine mkDefM A scmWorks_HasPoint (fun _ _ _ _ _ _ us hl => match us, hl with | [_, _], _ => rfl) (fun vs H Q E ⟨_, _, _, _, e, _⟩ => by rw [e]; rfl)
    (fun f cdv A out s H vs Q E hr h => ?_)
  obtain ⟨p, W, ps, nm, rfl, hw, on, k⟩ := h
  have hu : (A.deeper (envOfC "Works.has_point" (defScope mWorks_HasPoint) s.heap.objs.size f cdv)).units + 1 < cLine := hu_of hr
  refine ⟨_, (pss_one (ps_ret (pe_and (pe_d dn hr (by decide) (by rfl) (pa_cons (pv 1) pa_nil)) (pe_one (pe_cmp (pc_din hu (pv 1) (pe_fld (pv 0) rfl)) rfl))))), ?_⟩
  refine ⟨_, rfl, .str nm, _, rfl, .str _, on.sh, fun H1 S1 => ⟨true, congrArg V.bl on.b, iteT ?_⟩⟩
  have hw1 := hw.same S1
  obtain ⟨dx, tp, dp, tr, dr, tc, tm, dm, tl, e0, e1, e2, _⟩ := hw1.wo.ex
  have hl := hw.al.length.symm
  rw [hw.ks] at e2
  refine ⟨_, rfl, _, rfl, p, C, dx, _, _, rfl, e0, Wc.cl, Wc.nPd, (lk_ne (by decide +kernel)).trans lk_eq, dp, _, rfl, .inl ⟨_, .inr nm, .inl e2, rfl, rfl⟩, ?_⟩
  by_cases hm : nm ∈ ps.map Pt.nm
  · obtain ⟨pt, hpt, rfl⟩ := List.mem_map.mp hm
    obtain ⟨i, hi, ei⟩ := List.getElem_of_mem hpt
    obtain ⟨q, hq, _⟩ := hw1.al.at (List.getElem?_eq_some_iff.mpr ⟨hi, ei⟩)
    rw [kvs_get Pt.nm hw.g.nd (List.getElem?_eq_some_iff.mpr ⟨hi, ei⟩) hq]
    rw [decide_eq_true hm] at k
    exact k _ S1
  · rw [kvs_no Pt.nm hl hm]
    rw [decide_eq_false hm] at k
    exact k _ S1
def spPoint (C : Addr) (K : PySem.W.Frag) : Sp := fun vs H Q _ => ∃ p W ps pt, vs = [.ref p, .str (Pt.nm pt)] ∧ WoP K C H p W ps ∧ pt ∈ ps ∧ ∀ q H', Same H H' → H' q = some (.tup (fP pt)) → Q (.ref q) H'
theorem d_point (Wc : WoC K C) (A : AtMt K C "point" "Works.point" mWorks_Point) (dh : DefM P w K mg base C "has_point" 2 ["self", "thing"] (spHasP C K)) :
    DefM P w K mg base C "point" 3 ["self", "name"] (spPoint C K) := by
  refine mkDefM A scmWorks_Point (fun _ _ _ _ _ _ us hl => match us, hl with | [_, _], _ => rfl) (fun vs H Q E ⟨_, _, _, _, e, _⟩ => by rw [e]; rfl)
    (fun f cdv A out s H vs Q E hr h => ?_)
  obtain ⟨p, W, ps, pt, rfl, hw, hpt, k⟩ := h
  have hu : (A.deeper (envOfC "Works.point" (defScope mWorks_Point) s.heap.objs.size f cdv)).units + 1 < cLine := hu_of hr
  refine ⟨_, (pss_cons (ps_if (pt_not (pt_val (pe_mm (pv 0) Wc.cl dh hr (by decide) (pa_cons (pv 1) pa_nil))))
      (pss_one ps_never)
      pss_nil)
    (pss_one (ps_ret (pe_dget hu (pe_fld (pv 0) rfl) (pv 1) (fun _ _ => rfl))))), ?_⟩
  obtain ⟨dx, tp, dp, tr, dr, tc, tm, dm, tl, e0, _⟩ := hw.wo.ex
  refine ⟨_, rfl, p, dx, _, rfl, e0, wof_no (by decide +kernel) (by decide +kernel) (by decide +kernel) (by decide +kernel) (by decide +kernel) (by decide +kernel) (by decide +kernel) (by decide +kernel), _, rfl, p, W, ps, pt.nm, rfl, hw, (hw.g.all pt hpt).nm, fun H1 S1 => ?_⟩
  rw [decide_eq_true (List.mem_map.mpr ⟨pt, hpt, rfl⟩)]
  refine ⟨_, rfl, iteF ?_⟩
  have hw1 := hw.same S1
  obtain ⟨dx, tp, dp, tr, dr, tc, tm, dm, tl, e0, e1, e2, _⟩ := hw1.wo.ex
  rw [hw.ks] at e2
  obtain ⟨i, hi, ei⟩ := List.getElem_of_mem hpt
  have ei' := List.getElem?_eq_some_iff.mpr ⟨hi, ei⟩
  obtain ⟨q, hq, eq⟩ := hw1.al.at ei'
  refine ⟨_, rfl, p, C, dx, _, _, rfl, e0, Wc.cl, Wc.nPd, (lk_ne (by decide +kernel)).trans lk_eq, _, rfl, dp, .ref q, rfl, .inl ⟨_, .inr pt.nm, .inl e2, rfl, (kvs_get Pt.nm hw.g.nd ei' hq).symm⟩, ?_⟩
  exact k q _ S1 eq
def spIsWorth (C : Addr) (K : PySem.W.Frag) : Sp := fun vs H Q _ => ∃ p W ps pt x t, vs = [.ref p, .str (Pt.nm pt), x] ∧ WoP K C H p W ps ∧ pt ∈ ps ∧ (∀ H', Ty K H' x t) ∧ ∀ H', Same H H' → Q (.bl (wholeB x 0 (hiP pt))) H'
theorem d_isWorth (Wc : WoC K C) (A : AtMt K C "is_worth" "Works.is_worth" mWorks_IsWorth) (dp : DefM P w K mg base C "point" 3 ["self", "name"] (spPoint C K)) (dw : Def P w K mg base "is_worth_of" 4 ["point", "thing"] (spWorthOf K)) :
    DefM P w K mg base C "is_worth" 5 ["self", "point", "thing"] (spIsWorth C K) := by
  refine mkDefM A scmWorks_IsWorth (fun _ _ _ _ _ _ us hl => match us, hl with | [_, _, _], _ => rfl) (fun vs H Q E ⟨_, _, _, _, _, _, e, _⟩ => by rw [e]; rfl)
    (fun f cdv A out s H vs Q E hr h => ?_)
  obtain ⟨p, W, ps, pt, x, t, rfl, hw, hpt, ty, k⟩ := h
  refine ⟨_, (pss_one (ps_ret (pe_d dw hr (by decide) (by rfl) (pa_cons (pe_mm (pv 0) Wc.cl dp hr (by decide) (pa_cons (pv 1) pa_nil)) (pa_cons (pv 2) pa_nil))))), ?_⟩
  obtain ⟨dx, tp, dp', tr, dr, tc, tm, dm, tl, e0, _⟩ := hw.wo.ex
  refine ⟨_, rfl, p, dx, _, rfl, e0, wof_no (by decide +kernel) (by decide +kernel) (by decide +kernel) (by decide +kernel) (by decide +kernel) (by decide +kernel) (by decide +kernel) (by decide +kernel), _, rfl, p, W, ps, pt, rfl, hw, hpt, fun q H1 S1 eq => ?_⟩
  exact ⟨_, rfl, q, pt, x, t, rfl, eq, ty H1, k H1 S1⟩
def spWorksC (C : Addr) (K : PySem.W.Frag) : Sp := fun vs H Q _ => ∃ p W, vs = [.ref p] ∧ WoAt K C H p W ∧ Q .non H
theorem d_worksC (T : Txt mg) (Wc : WoC K C) (Wq : WoQ K C) (hC : mg "Works" = some (.ref C)) (A : At K mg "check_works" sCheckWorks) : Def P w K mg base "check_works" 1 ["thing"] (spWorksC C K) := by
  refine mkDef A scCheckWorks (fun _ _ _ _ _ _ us hl => match us, hl with | [_], _ => rfl) (fun vs H Q E ⟨_, _, e, _⟩ => by rw [e]; rfl)
    (fun f cdv A out s H vs Q E hr h => ?_)
  obtain ⟨p, W, rfl, hw, k⟩ := h
  obtain ⟨dx, tp, dp, tr, dr, tc, tm, dm, tl, e0, _⟩ := hw.ex
  refine ⟨_, (pss_one (ps_if (pt_not (pt_val (pe_callB call_isa (by rfl) T.isinstance PyProof.Rows.boot_isinstance (pa_cons (pv 0) (pa_cons (pe_glob (v := V.ref C) (by rfl) hC rfl) pa_nil)))))
      (pss_one ps_never)
      pss_nil)), ?_⟩
  exact ⟨_, rfl, .ref p, .ref C, .ref C, .ref C, true, rfl, .own C, .base (.base (.ins e0 Wc.cl Wq.c1 Wq.c2 Wq.c3 Wq.mo)), Wq.kit, _, rfl, iteF k⟩
end
end V51

namespace V51
open PySem PySem.Spec PyProof.Rows L2 Pw
/-- a box of draws -/
def BoxAt (H : Hp) (p : Addr) (n : Nat) : Prop := ∃ b0 b1 b2 : Int, H p = some (.lst [.int b0, .int b1, .int b2]) ∧
  0 ≤ b1 ∧ b1 < 2147483629 ∧ 0 ≤ b2 ∧ b2 ≤ n
theorem BoxAt.up {H : Hp} {p : Addr} {n m : Nat} (h : BoxAt H p n) (l : n ≤ m) : BoxAt H p m := by
  obtain ⟨b0, b1, b2, e, h1, h2, h3, h4⟩ := h
  exact ⟨b0, b1, b2, e, h1, h2, h3, by omega⟩
theorem BoxAt.keep {H H' : Hp} {p : Addr} {n : Nat} (h : BoxAt H p n) (S : Same H H') : BoxAt H' p n := by
  obtain ⟨b0, b1, b2, e, r⟩ := h
  exact ⟨b0, b1, b2, S _ _ e, r⟩
theorem BoxAt.laid {H : Hp} {p q : Addr} {n : Nat} {o : HO} (h : BoxAt H p n) (nq : H q = none) : BoxAt (upd H q o) p n := h.keep (Same.laid nq)
theorem BoxAt.ne {H : Hp} {p q : Addr} {n : Nat} (h : BoxAt H p n) (nq : H q = none) : q ≠ p := by
  obtain ⟨b0, b1, b2, e, r⟩ := h
  exact (ne_of_none e nq).symm
theorem menu {xs : List V} {i : Int} (h0 : 0 ≤ i) (h1 : i < (xs.length : Int)) : ∃ v, v ∈ xs ∧ atI xs i = some v := by
  obtain ⟨j, rfl⟩ := Int.eq_ofNat_of_zero_le h0
  have hj : j < xs.length := by omega
  exact ⟨xs[j], List.getElem_mem hj, atI_nat (by simp [hj])⟩

section
variable {P : Program} {w : World} {K : PySem.W.Frag} {mg : Str → Option Value} {base : Heap}
def spCell (K : PySem.W.Frag) : Sp := fun vs H Q _ => ∃ (a : Addr) (ns : List Int) (k : Int), vs = [.ref a, .int k] ∧ SqL K H a (ns.map V.int) ∧ ns.length ≤ 63 ∧
  0 ≤ k ∧ k ≤ 100 ∧ ∀ c, Q (.int c) H
theorem d_cell (T : Txt mg) (A : At K mg "_law_cell" sLawCell) : Def P w K mg base "_law_cell" 1 ["_law_script", "_law_k"] (spCell K) := by
  refine mkDef A scLawCell (fun _ _ _ _ _ _ us hl => match us, hl with | [_, _], _ => rfl) (fun vs H Q E ⟨a, ns, k, e, _⟩ => by rw [e]; rfl)
    (fun f cdv A out s H vs Q E hr h => ?_)
  obtain ⟨a, ns, i, rfl, hS, hl, h0, h1, k⟩ := h
  refine ⟨_, (pss_cons (ps_if (pt_cmpR op_lt (pv 1) (pe_callB call_len_seq (by rfl) T.len PySem.boot_len (pa_cons (pv 0) pa_nil)) (nomark _))
      (pss_one (ps_ret (pe_ix ix_list (pv 0) (pv 1) (fun _ _ => rfl))))
      pss_nil)
    (pss_one (ps_ret (pe_op op_add (pe_op op_mul pe_int (pv 1)) pe_int)))), ?_⟩
  refine ⟨_, rfl, _, rfl, a, ns.map V.int, rfl, .inl hS, i, _, rfl, rfl, _, rfl, ?_⟩
  refine ite2 (fun hlt => ?_) (fun _ => ?_)
  · have hlt' : i < ((ns.map V.int).length : Int) := of_decide_eq_true hlt
    rw [List.length_map] at hlt'
    obtain ⟨j, rfl⟩ := Int.eq_ofNat_of_zero_le h0
    have hj : j < ns.length := by omega
    refine ⟨_, rfl, _, rfl, a, ns.map V.int, (j : Int), .int ns[j], rfl, rfl, hS, ?_, k _⟩
    exact atI_nat (by simp [hj])
  · exact ⟨_, rfl, _, _, rfl, rfl, .inl ⟨by decide, by decide⟩, _, _, rfl, rfl, k _⟩

def spBox (K : PySem.W.Frag) : Sp := fun vs H Q _ => ∃ c, vs = [.int c] ∧
  ∀ p H', H p = none → Same H H' → BoxAt H' p 0 → Q (.ref p) H'
theorem d_box (T : Txt mg) (A : At K mg "_law_box" sLawBox) : Def P w K mg base "_law_box" 1 ["_law_cell_here"] (spBox K) := by
  refine mkDef A scLawBox (fun _ _ _ _ _ _ us hl => match us, hl with | [_], _ => rfl) (fun vs H Q E ⟨c, e, _⟩ => by rw [e]; rfl)
    (fun f cdv A out s H vs Q E hr h => ?_)
  obtain ⟨c, rfl, k⟩ := h
  refine ⟨_, (pss_one (ps_ret (pe_lst (pa_cons (pe_callB (call_max2 rfl) (by rfl) T.max PyProof.Rows.boot_max (pa_cons pe_int (pa_cons (pe_op op_sub (pv 0) (pe_op op_pow pe_int pe_int)) pa_nil))) (pa_cons (pe_op op_mod (pv 0) pe_int) (pa_cons pe_int pa_nil)))))), ?_⟩
  refine ⟨_, rfl, 10, 18, rfl, rfl, ⟨by decide, by decide, by decide⟩, _, _, rfl, rfl, 0, _, rfl, _, rfl, _, _, rfl, rfl, (by decide : (0 : Int) < 2147483629), (by show 3 ≤ sizeLine; decide), fun p hp => ?_⟩
  refine k p _ hp (Same.laid hp) ⟨_, _, _, upd_same, ?_, ?_, by decide, by decide⟩
  · exact Int.emod_nonneg _ (by decide)
  · have := Int.emod_lt_of_pos c (by decide : (0 : Int) < 2147483629)
    omega

def spTake (K : PySem.W.Frag) : Sp := fun vs H Q _ => ∃ p m n, vs = [.ref p, .int m] ∧ BoxAt H p n ∧ n ≤ 1000000 ∧ 0 < m ∧ m < 2 ^ 200 ∧
  ∀ i H', 0 ≤ i → i < m → BoxAt H' p (n + 1) → But p H H' → Q (.int i) H'
theorem d_take (A : At K mg "_law_take" sLawTake) : Def P w K mg base "_law_take" 1 ["_law_box_here", "_law_many"] (spTake K) := by
  refine mkDef A scLawTake (fun _ _ _ _ _ _ us hl => match us, hl with | [_, _], _ => rfl) (fun vs H Q E ⟨p, m, n, e, _⟩ => by rw [e]; rfl)
    (fun f cdv A out s H vs Q E hr h => ?_)
  obtain ⟨p, m, n, rfl, ⟨b0, b1, b2, hp, h1, h2, h3, h4⟩, hn, m0, mb, k⟩ := h
  have mb' : m.natAbs < 2 ^ 200 := by omega
  have at0 : atI [V.int b0, .int b1, .int b2] 0 = some (.int b0) := rfl
  have at1 : atI [V.int b0, .int b1, .int b2] 1 = some (.int b1) := rfl
  have at2 : atI [V.int b0, .int b1, .int b2] 2 = some (.int b2) := rfl
  refine ⟨_, (pss_cons (ps_if (pt_cmpR op_gt (pe_ix ix_list (pv 0) pe_int (fun _ _ => rfl)) pe_int (nomark _))
      (pss_cons (ps_set (i := 2) scLawTake.nd rfl (.inl rfl) (pe_op op_mod (pe_ix ix_list (pv 0) pe_int (fun _ _ => rfl)) (pv 1)))
      (pss_cons (ps_asg (pe_op op_fdivW (pe_ix ix_list (pv 0) pe_int (fun _ _ => rfl)) (pv 1)) (pg_sub (pv 0) pe_int set_list))
      (pss_one (ps_ret (pv 2)))))
      pss_nil)
    (pss_cons (ps_asg (pe_op op_add (pe_ix ix_list (pv 0) pe_int (fun _ _ => rfl)) pe_int) (pg_sub (pv 0) pe_int set_list))
    (pss_cons (ps_set (i := 3) scLawTake.nd rfl (.inl rfl) (pe_op op_mod (pe_op op_pow (pe_op op_add (pe_op op_add (pe_ix ix_list (pv 0) pe_int (fun _ _ => rfl)) (pe_op op_mul pe_int (pe_ix ix_list (pv 0) pe_int (fun _ _ => rfl)))) pe_int) pe_int) pe_int))
    (pss_cons (ps_set (i := 3) scLawTake.nd rfl (.inl rfl) (pe_op op_mod (pe_op op_pow (pe_op op_add (pv 3) (pe_op op_mul pe_int (pe_ix ix_list (pv 0) pe_int (fun _ _ => rfl)))) pe_int) pe_int))
    (pss_one (ps_ret (pe_op op_mod (pe_op op_fdiv (pv 3) pe_int) (pv 1)))))))), ?_⟩
  refine ⟨_, rfl, p, _, 0, _, rfl, rfl, SqL.of hp, at0, b0, 0, rfl, rfl, _, rfl, ?_⟩
  refine ite2 (fun hgt => ?_) (fun _ => ?_)
  · refine ⟨_, rfl, p, _, 0, _, rfl, rfl, SqL.of hp, at0, _, rfl, b0, m, rfl, rfl, m0, ?_⟩
    refine ⟨_, rfl, p, _, 0, _, rfl, rfl, SqL.of hp, at0, _, rfl, b0, m, rfl, rfl, wide_div m0 mb' (by decide) (by decide), ?_⟩
    refine ⟨_, rfl, p, _, 0, 0, rfl, rfl, hp, rfl, ?_⟩
    refine ⟨_, rfl, ?_⟩
    exact k _ _ (Int.emod_nonneg _ (by omega)) (Int.emod_lt_of_pos _ m0) ⟨_, b1, b2, upd_same, h1, h2, h3, by omega⟩ But.set
  · refine ⟨_, rfl, p, _, 2, _, rfl, rfl, SqL.of hp, at2, _, _, rfl, rfl, ?_⟩
    refine ⟨_, rfl, p, _, 2, 2, rfl, rfl, hp, rfl, ?_⟩
    have hp2 : upd H p (.lst [V.int b0, .int b1, .int (b2 + 1)]) p = some (.lst [V.int b0, .int b1, .int (b2 + 1)]) := upd_same
    have bt1 : atI [V.int b0, .int b1, .int (b2 + 1)] 1 = some (.int b1) := rfl
    have bt2 : atI [V.int b0, .int b1, .int (b2 + 1)] 2 = some (.int (b2 + 1)) := rfl
    refine ⟨_, rfl, p, _, 1, _, rfl, rfl, SqL.of hp2, bt1, _, rfl, p, _, 2, _, rfl, rfl, SqL.of hp2, bt2, _, _, rfl, rfl, .inl ⟨by decide, by decide⟩, _, _, rfl, rfl, _, _, rfl, rfl, 
      _, _, rfl, rfl, ⟨by decide, by decide, by omega⟩, _, _, rfl, rfl, (by decide : (0 : Int) < 2147483647), ?_⟩
    have e1 := Int.emod_nonneg ((b1 + 67867967 * (b2 + 1) + 53) ^ (5 : Int).toNat) (by decide : (2147483647 : Int) ≠ 0)
    have e2 := Int.emod_lt_of_pos ((b1 + 67867967 * (b2 + 1) + 53) ^ (5 : Int).toNat) (by decide : (0 : Int) < 2147483647)
    refine ⟨_, rfl, _, rfl, p, _, 2, _, rfl, rfl, SqL.of hp2, bt2, _, _, rfl, rfl, .inl ⟨by decide, by decide⟩, _, _, rfl, rfl, 
      _, _, rfl, rfl, ⟨by decide, by decide, ?_⟩, _, _, rfl, rfl, (by decide : (0 : Int) < 2147483587), ?_⟩
    · generalize (b1 + 67867967 * (b2 + 1) + 53) ^ (5 : Int).toNat % 2147483647 = z at e1 e2
      omega
    · refine ⟨_, rfl, _, _, rfl, rfl, ⟨by decide, by decide⟩, _, rfl, _, _, rfl, rfl, m0, ?_⟩
      exact k _ _ (Int.emod_nonneg _ (by omega)) (Int.emod_lt_of_pos _ m0) ⟨b0, b1, b2 + 1, upd_same, h1, h2, by omega, by omega⟩ But.set
end
end V51

/-! Texts by the list of their signs. -/
namespace Pw
open PySem PySem.Spec PyProof.Rows L2
def tx (cs : List Nat) : Str := ⟨cs.toArray⟩
theorem tx_cps (cs : List Nat) : (tx cs).cps.toList = cs := by simp [tx]
theorem tx_inj {a b : List Nat} (h : tx a = tx b) : a = b := by
  have := congrArg (fun s : Str => s.cps.toList) h
  simpa [tx] using this
theorem tx_of (s : Str) : s = tx s.cps.toList := by
  cases s
  simp [tx]
theorem tx_len (cs : List Nat) : (tx cs).length = cs.length := by
  show cs.toArray.size = _
  simp
theorem tx_add (a b : List Nat) : tx a ++ tx b = tx (a ++ b) := by
  show Str.mk (a.toArray ++ b.toArray) = Str.mk (a ++ b).toArray
  simp
theorem cut_tx (cs : List Nat) (lo hi : Option Int) : cutS (tx cs) lo hi = tx ((cs.drop (HT.sIx cs.length 0 lo)).take (HT.sIx cs.length cs.length hi - HT.sIx cs.length 0 lo)) := by
  unfold cutS
  rw [tx_len, tx_cps]
  rfl
theorem cut_tx_to (cs : List Nat) (i : Nat) : cutS (tx cs) none (some (i : Int)) = tx (cs.take i) := by
  rw [cut_tx]
  have e1 : HT.sIx cs.length 0 none = 0 := rfl
  rw [e1, HT.sIx_nat, List.drop_zero, Nat.sub_zero]
  by_cases h : i ≤ cs.length
  · rw [Nat.min_eq_left h]
  · rw [Nat.min_eq_right (by omega), List.take_length, List.take_of_length_le (by omega)]
theorem cut_tx_in (cs : List Nat) (i j : Nat) (hi : i ≤ cs.length) : cutS (tx cs) (some (i : Int)) (some (j : Int)) = tx ((cs.take j).drop i) := by
  rw [cut_tx, HT.sIx_nat, HT.sIx_nat, Nat.min_eq_left hi]
  congr 1
  rw [List.drop_take]
  by_cases h : j ≤ cs.length
  · rw [Nat.min_eq_left h]
  · rw [Nat.min_eq_right (by omega), List.take_of_length_le (by rw [List.length_drop]; omega), List.take_of_length_le (by rw [List.length_drop]; omega)]
theorem join_go : ∀ (css : List (List Nat)) (acc : Array Nat), List.foldl (fun (acc : Array Nat) (p : Str) => acc ++ (tx []).cps ++ p.cps) acc (css.map tx) = acc ++ css.flatten.toArray
  | [], acc => by simp
  | c :: css, acc => by
    rw [List.map_cons, List.foldl_cons, join_go css]
    simp [tx]
theorem join_tx (css : List (List Nat)) : Txt.join (tx []) (css.map tx) = tx css.flatten := by
  show Str.mk _ = Str.mk _
  cases css with
  | nil => rfl
  | cons c css =>
    show Str.mk (List.foldl _ (tx c).cps (css.map tx)) = _
    rw [join_go css]
    simp [tx]
theorem flat_ones : ∀ cs : List Nat, (cs.map fun c => [c]).flatten = cs
  | [] => rfl
  | c :: cs => by rw [List.map_cons, List.flatten_cons, flat_ones cs]; rfl
theorem join_ones (cs : List Nat) : Txt.join (tx []) (cs.map fun c => tx [c]) = tx cs := by
  rw [show (cs.map fun c => tx [c]) = (cs.map fun c => [c]).map tx by rw [List.map_map]; rfl, join_tx, flat_ones]
theorem sum_ones (cs : List Nat) : ((cs.map fun c => tx [c]).map fun s : Str => s.length).sum = cs.length := by
  induction cs with
  | nil => rfl
  | cons c cs ih =>
    simp only [List.map_cons, List.sum_cons, ih, tx_len, List.length_cons, List.length_nil]
    omega
def GoodN (cs : List Nat) : Prop := (1 ≤ cs.length ∧ cs.length ≤ 8) ∧ ∀ c ∈ cs, 97 ≤ c ∧ c ≤ 122
theorem nodup_map_range {α : Type} {m : Nat} {g : Nat → α} (h : ∀ i j, i < j → j < m → g i ≠ g j) : ((List.range m).map g).Nodup := by
  refine List.pairwise_map.mpr ?_
  have h2 : (List.range m).Pairwise (fun a b => a < b ∧ b < m) := by
    refine List.Pairwise.imp_of_mem (fun {a b} ha hb hab => ⟨hab, List.mem_range.mp hb⟩) List.pairwise_lt_range
  exact h2.imp fun {a b} h' => h a b h'.1 h'.2
theorem take_range_succ {α : Type} (g : Nat → α) (i : Nat) : (List.range (i + 1)).map g = (List.range i).map g ++ [g i] := by
  rw [List.range_succ, List.map_append]
  rfl
end Pw

set_option maxHeartbeats 8000000
namespace V51
open PySem PySem.Spec PyProof.Rows L2 Pw
def wds : List (List Nat) := [[104, 101, 114, 101], [115, 105, 108, 101, 110, 116], [103, 111, 110, 101], [99, 97, 114, 100], [112, 105, 101, 99, 101], [119, 111, 114, 100], [115, 97, 119], [116, 117, 114, 110], [108, 101, 102, 116], [98, 97, 99, 107], [98, 111, 114, 110], [108, 101, 115, 115], [97]]
theorem wds_split : Txt.split "here silent gone card piece word saw turn left back born less a" " " = wds.map tx := by decide +kernel
theorem wds_nodup : wds.Nodup := by decide
theorem wds_good : ∀ c ∈ wds, GoodN c := by
  have : wds.all (fun cs => decide (1 ≤ cs.length ∧ cs.length ≤ 8) && cs.all fun c => decide (97 ≤ c ∧ c ≤ 122)) = true := by decide
  intro c hc
  have h := List.all_eq_true.mp this c hc
  simp only [Bool.and_eq_true, decide_eq_true_eq, List.all_eq_true] at h
  exact ⟨h.1, h.2⟩
def abc : Str := "abcdefghijklmnopqrstuvwxyz"
theorem abc_at : ∀ i : Nat, i < 26 → abc.cps[i]? = some (97 + i) := by decide +kernel
theorem abc_len : abc.length = 26 := by decide +kernel
theorem emp : ("" : Str) = tx [] := by decide +kernel
theorem okN {cs : List Nat} (h : GoodN cs) : OkName (tx cs) := by
  refine ⟨?_, fun z e => ?_⟩
  · show (decide (1 ≤ (tx cs).length ∧ (tx cs).length ≤ 8) && (tx cs).cps.toList.all fun c => decide (97 ≤ c ∧ c ≤ 122)) = true
    rw [tx_len, tx_cps, decide_eq_true h.1, Bool.true_and, List.all_eq_true]
    exact fun c hc => decide_eq_true (h.2 c hc)
  · cases e
    rw [tx_len, tx_cps]
    exact ⟨by have := h.1.2; omega, fun c hc => by have := h.2 c hc; omega⟩
theorem But.ne_new {p q : Addr} {H : Hp} {n : Nat} (h : BoxAt H p n) (nq : H q = none) : q ≠ p := h.ne nq
theorem But.none_of {p q : Addr} {H H' : Hp} (B : But p H H') (n : H' q = none) (hq : q ≠ p) : H q = none := by
  cases z : H q with
  | none => rfl
  | some o => rw [B.at hq z] at n; cases n
theorem But.wo_upd {p D : Addr} {H H' : Hp} {o : HO} (B : But p H H') (n : H D = none) : But p H (upd H' D o) := But.of fun b u nb e => (upd_ne (ne_of_none e n)).trans (B.at nb e)
theorem BoxAt.set {p D : Addr} {H : Hp} {n : Nat} {o : HO} (h : BoxAt H p n) (ne : D ≠ p) : BoxAt (upd H D o) p n := by
  obtain ⟨b0, b1, b2, e, r⟩ := h
  exact ⟨b0, b1, b2, (upd_ne (Ne.symm ne)).trans e, r⟩
theorem tx_inj_map {css : List (List Nat)} (h : css.Nodup) : (css.map tx).Nodup := List.pairwise_map.mpr (h.imp fun n z => n (tx_inj z))
section
variable {P : Program} {w : World} {K : PySem.W.Frag} {mg : Str → Option Value} {base : Heap}
def spNames (K : PySem.W.Frag) : Sp := fun vs H Q _ => ∃ p m n, vs = [.ref p, .int m] ∧ 0 ≤ m ∧ m ≤ 8 ∧ BoxAt H p n ∧ n ≤ 900000 ∧
  ∀ a H' (css : List (List Nat)), H a = none → a ≠ p → BoxAt H' p (n + 20) → But p H H' → H' a = some (.lst ((css.map tx).map V.str)) → (css.length : Int) = m → css.Nodup → (∀ c ∈ css, GoodN c) → Q (.ref a) H'
theorem d_names (T : Txt mg) (A : At K mg "_law_names" sLawNames) (dt : Def P w K mg base "_law_take" 1 ["_law_box_here", "_law_many"] (spTake K)) :
    Def P w K mg base "_law_names" 2 ["_law_box_here", "_law_many"] (spNames K) := by
  refine mkDef A scLawNames (fun _ _ _ _ _ _ us hl => match us, hl with | [_, _], _ => rfl) (fun vs H Q E ⟨_, _, _, e, _⟩ => by rw [e]; rfl)
    (fun f cdv A out s H vs Q E hr h => ?_)
  obtain ⟨p, m, n, rfl, m0, m8, hb, hn, k⟩ := h
  refine ⟨_, (pss_cons (ps_set (i := 2) scLawNames.nd rfl (.inr rfl) pe_str)
    (pss_cons (ps_set (i := 3) scLawNames.nd rfl (.inr rfl) (pe_split pe_str pe_str))
    (pss_cons (ps_set (i := 4) scLawNames.nd rfl (.inl rfl) (pe_d dt hr (by decide) (by rfl) (pa_cons (pv 0) (pa_cons pe_int pa_nil))))
    (pss_cons (ps_set (i := 5) scLawNames.nd rfl (.inr rfl) (pe_d dt hr (by decide) (by rfl) (pa_cons (pv 0) (pa_cons pe_int pa_nil))))
    (pss_cons (ps_if (pt_cmpR op_eq (pv 4) pe_int (nomark _))
      (pss_one (ps_ret (pe_lc (own := [("_law_k", 9)]) (g := gName 9) (tt := tYes) rfl scLawNames.nd (pi_range1 (by rfl) T.range (pa_cons (pv 1) pa_nil))
        (blkOk_by (own := [("_law_k", 9)]) (N := ["_law_box_here", "_law_many", "_law_letters", "_law_words", "_law_way", "_law_first", "_law_stem", "_law_at", "_law_heads", "_law_k", "_law_head"]) (sc := defScope sLawNames) (by decide +kernel))
        (fun _ _ _ _ _ => (pg_name (i := 9) scLawNames.nd rfl (.inl rfl))) (fun _ _ _ _ _ => pts_nil)
        (fun _ _ _ _ _ => (pe_ix (r := rIxL K) ix_list (pv 3) (pe_op op_mod (pe_op op_add (pv 5) (pe_op op_mul pe_int (pv 9))) pe_int) (fun _ _ => rfl))))))
      pss_nil)
    (pss_cons (ps_set (i := 6) scLawNames.nd rfl (.inr rfl) (pe_join pe_str (pe_lc (own := [("_law_k", 9)]) (g := gName 9) (tt := tYes) rfl scLawNames.nd (pi_range1 (by rfl) T.range (pa_cons pe_int pa_nil))
        (blkOk_by (own := [("_law_k", 9)]) (N := ["_law_box_here", "_law_many", "_law_letters", "_law_words", "_law_way", "_law_first", "_law_stem", "_law_at", "_law_heads", "_law_k", "_law_head"]) (sc := defScope sLawNames) (by decide +kernel))
        (fun _ _ _ _ _ => (pg_name (i := 9) scLawNames.nd rfl (.inl rfl))) (fun _ _ _ _ _ => pts_nil)
        (fun _ _ _ _ _ => (pe_item_str (pv 2) (pe_d dt hr (by decide) (by rfl) (pa_cons (pv 0) (pa_cons pe_int pa_nil))) (fun _ _ => rfl))))))
    (pss_cons (ps_if (PW.pt (pw_and (pt_cmpR op_eq (pv 4) pe_int (nomark _)) (pw_and1 (pt_cmpR op_lt (pv 1) pe_int (nomark _)))))
      (pss_one (ps_ret (pe_lc (own := [("_law_k", 9)]) (g := gName 9) (tt := tYes) rfl scLawNames.nd (pi_range1 (by rfl) T.range (pa_cons (pv 1) pa_nil))
        (blkOk_by (own := [("_law_k", 9)]) (N := ["_law_box_here", "_law_many", "_law_letters", "_law_words", "_law_way", "_law_first", "_law_stem", "_law_at", "_law_heads", "_law_k", "_law_head"]) (sc := defScope sLawNames) (by decide +kernel))
        (fun _ _ _ _ _ => (pg_name (i := 9) scLawNames.nd rfl (.inl rfl))) (fun _ _ _ _ _ => pts_nil)
        (fun _ _ _ _ _ => (pe_slice sl_str (pv 6) po_none (po_some (pe_op op_add pe_int (pe_op op_mod (pe_op op_add (pv 5) (pe_op op_mul pe_int (pv 9))) pe_int))))))))
      pss_nil)
    (pss_cons (ps_set (i := 7) scLawNames.nd rfl (.inr rfl) (pe_d dt hr (by decide) (by rfl) (pa_cons (pv 0) (pa_cons pe_int pa_nil))))
    (pss_cons (ps_setLc (i := 8) (own := [("_law_k", 9)]) (g := gName 9) (tt := tYes) rfl scLawNames.nd rfl rfl (sw_true rfl rfl rfl (by decide +kernel)) (pi_range1 (by rfl) T.range (pa_cons (pv 1) pa_nil))
        (blkOk_by (own := [("_law_k", 9)]) (N := ["_law_box_here", "_law_many", "_law_letters", "_law_words", "_law_way", "_law_first", "_law_stem", "_law_at", "_law_heads", "_law_k", "_law_head"]) (sc := defScope sLawNames) (by decide +kernel))
        (fun _ _ _ _ _ => (pg_name (i := 9) scLawNames.nd rfl (.inl rfl))) (fun _ _ _ _ _ => pts_nil)
        (fun _ _ _ _ _ => (pe_item_str (pv 2) (pe_op op_mod (pe_op op_add (pv 5) (pe_op op_mul pe_int (pv 9))) pe_int) (fun _ _ => rfl))))
    (pss_one (ps_ret (pe_lc (own := [("_law_k", 9), ("_law_head", 10)]) (g := (gTup K 2 (gCons (gName 9) (gCons (gName 10) gNil)))) (tt := tYes) rfl scLawNames.nd (pi_enum (by rfl) T.enumerate (pa_cons (pv 8) pa_nil))
        (blkOk_by (own := [("_law_k", 9), ("_law_head", 10)]) (N := ["_law_box_here", "_law_many", "_law_letters", "_law_words", "_law_way", "_law_first", "_law_stem", "_law_at", "_law_heads", "_law_k", "_law_head"]) (sc := defScope sLawNames) (by decide +kernel))
        (fun _ _ _ _ _ => (pg_tup (by rfl) (pgs_cons (pg_name (i := 9) scLawNames.nd rfl (.inl rfl)) (pgs_cons (pg_name (i := 10) scLawNames.nd rfl (.inl rfl)) pgs_nil)))) (fun _ _ _ _ _ => pts_nil)
        (fun _ _ _ _ _ => (pe_op op_add_str (pe_op op_add_str (pe_slice sl_str (pv 6) po_none (po_some (pv 7))) (pv 10)) (pe_slice sl_str (pv 6) (po_some (pv 7)) (po_some (pe_op op_sub pe_int (pe_op op_mod (pv 9) pe_int)))))))))))))))))), ?_⟩
  have md : ∀ (x m : Int), 0 < m → 0 ≤ x % m ∧ x % m < m := fun x m hm => ⟨Int.emod_nonneg _ (by omega), Int.emod_lt_of_pos _ hm⟩
  -- the words
  dsimp only [gName]
  refine ⟨⟨_, rfl⟩, _, _, rfl, rfl, by decide +kernel, by decide +kernel, fun W nW => ?_⟩
  have WP := hb.ne nW
  have S1 := Same.laid (o := HO.lst ((wds.map tx).map V.str)) nW
  rw [wds_split]
  have eW : upd H W (.lst ((wds.map tx).map V.str)) W = some (.lst ((wds.map tx).map V.str)) := upd_same
  have hb1 := hb.laid (o := HO.lst ((wds.map tx).map V.str)) nW
  generalize upd H W (.lst ((wds.map tx).map V.str)) = H1 at *
  refine ⟨_, rfl, p, 4, n, rfl, hb1, by omega, by decide, by decide, fun way H2 a2 b2 hb2 B2 => ?_⟩
  refine ⟨_, rfl, p, 26, n + 1, rfl, hb2, by omega, by decide, by decide, fun fi H3 a3 b3 hb3 B3 => ?_⟩
  have B13 := B2.trans B3
  have BH3 : But p H H3 := (Same.but S1).trans B13
  have eW3 := B13.at WP eW
  dsimp only [gName]
  obtain ⟨mm, rfl⟩ := Int.eq_ofNat_of_zero_le m0
  refine ⟨_, rfl, rfl, _, rfl, ?_⟩
  refine ite2 (fun _ => ?_) (fun _ => ?_)
  · -- words
    refine ⟨_, rfl, (mm : Int), rfl, by omega, by omega, fun D nD => ?_⟩
    have DP := hb3.ne nD
    refine lc_acc (walk_range (lo := 0) (n := mm)) nD (by omega) (fun i acc G => acc = (((List.range i).map fun j : Nat => wds.getD ((fi + 5 * (j : Int)) % 13).toNat []).map tx).map V.str) rfl (fun _ _ => trivial) ?_ ?_
    · rintro i v G0 G acc hi S eD hl rfl ⟨rfl, rfl⟩ Fy Fn hy1 _
      refine ⟨rfl, ?_⟩
      unfold tYes
      refine iteT ?_
      have hm := md (fi + 5 * (0 + (i : Int))) 13 (by decide)
      refine ⟨_, rfl, _, rfl, _, rfl, 5, 0 + (i : Int), rfl, rfl, .inl ⟨by decide, by decide⟩, fi, 5 * (0 + (i : Int)), rfl, rfl, fi + 5 * (0 + (i : Int)), 13, rfl, rfl, (by decide : (0 : Int) < 13), ?_⟩
      obtain ⟨j, hj⟩ := Int.eq_ofNat_of_zero_le hm.1
      have hj13 : j < 13 := by omega
      refine ⟨W, _, _, .str (tx (wds.getD j [])), rfl, rfl, SqL.of (S _ _ eW3), by rw [hj]; exact atI_nat (by rw [List.getElem?_map, List.getElem?_map, List.getElem?_eq_getElem (show j < wds.length from hj13)]; simp [List.getD_eq_getElem?_getD, List.getElem?_eq_getElem (show j < wds.length from hj13)]), ?_⟩
      refine hy1 _ _ (Same.refl _) ?_
      rw [take_range_succ, List.map_append, List.map_append]
      have : ((fi + 5 * (i : Int)) % 13).toNat = j := by
        rw [Int.zero_add] at hj
        omega
      rw [List.map_cons, List.map_cons, this]
      rfl
    · rintro G acc S eD rfl
      have hg : ∀ j : Nat, ∃ i : Nat, i < 13 ∧ ((fi + 5 * (j : Int)) % 13).toNat = i ∧ ((i : Int)) = (fi + 5 * (j : Int)) % 13 := fun j => by
        have hm := md (fi + 5 * (j : Int)) 13 (by decide)
        exact ⟨((fi + 5 * (j : Int)) % 13).toNat, by omega, rfl, by omega⟩
      refine k D G _ (But.none_of BH3 nD DP) DP (hb3.keep S |>.up (by omega)) (BH3.trans (Same.but S)) eD (by simp) (nodup_map_range fun i j hij hj => ?_) (fun c hc => ?_)
      · obtain ⟨i1, l1, e1, q1⟩ := hg i
        obtain ⟨j1, l2, e2, q2⟩ := hg j
        rw [e1, e2, List.getD_eq_getElem?_getD, List.getD_eq_getElem?_getD, List.getElem?_eq_getElem (show i1 < wds.length from l1), List.getElem?_eq_getElem (show j1 < wds.length from l2)]
        intro z
        have hne : i1 ≠ j1 := by omega
        rcases Nat.lt_or_gt_of_ne hne with h | h
        · exact (List.pairwise_iff_getElem.mp wds_nodup) i1 j1 l1 l2 h z
        · exact (List.pairwise_iff_getElem.mp wds_nodup) j1 i1 l2 l1 h z.symm
      · obtain ⟨j, _, rfl⟩ := List.mem_map.mp hc
        obtain ⟨j1, l2, e2, _⟩ := hg j
        rw [e2, List.getD_eq_getElem?_getD, List.getElem?_eq_getElem (show j1 < wds.length from l2)]
        exact wds_good _ (List.getElem_mem _)
  -- the stem
  refine ⟨⟨_, rfl⟩, 7, rfl, by decide, by decide, fun D nD => ?_⟩
  have DP := hb3.ne nD
  refine lc_it (walk_range (lo := 0) (n := 7)) (fun i G => But p H3 G ∧ BoxAt G p (n + 2 + i) ∧ ∃ cs : List Nat, G D = some (.lst ((cs.map fun c => tx [c]).map V.str)) ∧ cs.length = i ∧ ∀ c ∈ cs, 97 ≤ c ∧ c ≤ 122) ?_ (fun _ _ _ _ => trivial) ?_ ?_
  · exact ⟨But.laid nD, hb3.laid nD, [], upd_same, rfl, fun c h => by cases h⟩
  · rintro i v G0 G hi ⟨BG, hbG, cs, eD, hcl, hcs⟩ ⟨rfl, rfl⟩
    refine ⟨rfl, ?_⟩
    unfold tYes
    refine iteT ?_
    refine ⟨_, rfl, _, rfl, p, 26, _, rfl, hbG, by omega, by decide, by decide, fun j G1 a4 b4 hb4 B4 => ?_⟩
    obtain ⟨jj, rfl⟩ := Int.eq_ofNat_of_zero_le a4
    have hj : jj < 26 := by omega
    refine ⟨abc, (jj : Int), 97 + jj, rfl, rfl, a4, by omega, by rw [abc_len]; omega, by rw [Int.toNat_natCast]; exact abc_at jj hj, ?_⟩
    have eD4 := B4.at DP eD
    have lt := (show cs.length ≤ 7 by omega)
    refine ⟨_, eD4, by rw [List.length_map, List.length_map]; exact Nat.lt_of_le_of_lt lt (by decide), But.wo_upd (BG.trans B4) nD, (BoxAt.set hb4 DP).up (by omega), cs ++ [97 + jj], ?_, by rw [List.length_append, hcl]; rfl, fun c hc => ?_⟩
    · rw [upd_same, List.map_append, List.map_append]
      rfl
    · rcases List.mem_append.mp hc with h | h
      · exact hcs c h
      · rw [List.mem_singleton.mp h]
        exact ⟨by omega, by omega⟩
  rintro G ⟨BG, hbG, cs, eD, hcl, hcs⟩
  have B4 := BH3.trans BG
  have eWG := BG.at WP eW3
  refine ⟨_, D, cs.map fun c => tx [c], rfl, rfl, .inl (SqL.of eD), ?_, ?_⟩
  · rw [sum_ones, List.length_map, hcl]
    exact Nat.le_trans (show 7 + 7 * ("" : Str).length ≤ 7 by decide +kernel) (by decide)
  have ej : Txt.join "" (cs.map fun c => tx [c]) = tx cs := by
    rw [emp, Pw.join_ones]
  rw [ej]
  dsimp only [gName]
  -- prefixes
  refine seq_join (A := tIfS _ _ _) (fun σ' Y => σ' = [some (.ref p), some (.int (mm : Int)), some (.str abc), some (.ref W), some (.int way), some (.int fi), some (.str (tx cs)), none, none, none, none] ∧ Y = G) (fun N' hN => ?_) ?_
  · refine ⟨_, rfl, rfl, _, rfl, ?_⟩
    refine ite2 (fun _ => ?_) (fun _ => hN _ _ ⟨rfl, rfl⟩)
    refine ⟨_, rfl, (mm : Int), 7 + 1, rfl, rfl, _, rfl, ?_⟩
    refine ite2 (fun h8 => ?_) (fun _ => hN _ _ ⟨rfl, rfl⟩)
    have h8' : mm < 8 := by have := of_decide_eq_true h8; omega
    clear hN
    refine ⟨_, rfl, (mm : Int), rfl, by omega, by omega, fun D2 nD2 => ?_⟩
    have DP2 := hbG.ne nD2
    have hk : ∀ j : Nat, ∃ l : Nat, l ≤ 7 ∧ 1 ≤ l ∧ (1 + (fi + 3 * (j : Int)) % 7).toNat = l ∧ (l : Int) = 1 + (fi + 3 * (j : Int)) % 7 := fun j => by
      have hm := md (fi + 3 * (j : Int)) 7 (by decide)
      exact ⟨(1 + (fi + 3 * (j : Int)) % 7).toNat, by omega, by omega, rfl, by omega⟩
    refine lc_acc (walk_range (lo := 0) (n := mm)) nD2 (by omega) (fun i acc G => acc = (((List.range i).map fun j : Nat => cs.take (1 + (fi + 3 * (j : Int)) % 7).toNat).map tx).map V.str) rfl (fun _ _ => trivial) ?_ ?_
    · rintro i v G0 G1 acc hi S eD hl rfl ⟨rfl, rfl⟩ Fy Fn hy1 _
      refine ⟨rfl, ?_⟩
      unfold tYes
      refine iteT ?_
      obtain ⟨l, l7, l1, e1, e2⟩ := hk i
      refine ⟨_, rfl, _, rfl, _, rfl, 3, 0 + (i : Int), rfl, rfl, .inl ⟨by decide, by decide⟩, fi, 3 * (0 + (i : Int)), rfl, rfl, fi + 3 * (0 + (i : Int)), 7, rfl, rfl, (by decide : (0 : Int) < 7), 1, (fi + 3 * (0 + (i : Int))) % 7, rfl, rfl, _, rfl, tx cs, rfl, by rw [tx_len, hcl]; decide, ?_⟩
      rw [Int.zero_add, ← e2, cut_tx_to]
      refine hy1 _ _ (Same.refl _) ?_
      rw [take_range_succ, List.map_append, List.map_append, List.map_cons, List.map_cons, e1]
      rfl
    · rintro G1 acc S eD rfl
      refine k D2 G1 _ (But.none_of B4 nD2 DP2) DP2 (hbG.keep S |>.up (by omega)) (B4.trans (Same.but S)) eD (by simp) (nodup_map_range fun i j hij hj => ?_) (fun c hc => ?_)
      · obtain ⟨l, l7, l1, e1, e2⟩ := hk i
        obtain ⟨l', l7', l1', e1', e2'⟩ := hk j
        rw [e1, e1']
        intro z
        have := congrArg List.length z
        rw [List.length_take, List.length_take, hcl] at this
        omega
      · obtain ⟨j, _, rfl⟩ := List.mem_map.mp hc
        obtain ⟨l, l7, l1, e1, e2⟩ := hk j
        rw [e1]
        refine ⟨⟨?_, ?_⟩, fun c hc => hcs c (List.mem_of_mem_take hc)⟩
        · rw [List.length_take, hcl]; omega
        · rw [List.length_take, hcl]; omega
  rintro σ' Y ⟨rfl, rfl⟩
  -- the place
  refine ⟨_, rfl, p, 7, _, rfl, hbG, by omega, by decide, by decide, fun at_ H5 a5 b5 hb5 B5 => ?_⟩
  dsimp only [gName]
  obtain ⟨ai, rfl⟩ := Int.eq_ofNat_of_zero_le a5
  have ha6 : ai ≤ 6 := by omega
  have BH5 := B4.trans B5
  -- the heads
  refine ⟨_, rfl, (mm : Int), rfl, by omega, by omega, fun D2 nD2 => ?_⟩
  have DP2 := hb5.ne nD2
  have hk : ∀ j : Nat, ∃ l : Nat, l < 26 ∧ ((fi + 7 * (j : Int)) % 26).toNat = l ∧ (l : Int) = (fi + 7 * (j : Int)) % 26 := fun j => by
    have hm := md (fi + 7 * (j : Int)) 26 (by decide)
    exact ⟨((fi + 7 * (j : Int)) % 26).toNat, by omega, rfl, by omega⟩
  refine lc_acc (walk_range (lo := 0) (n := mm)) nD2 (by omega) (fun i acc G => acc = ((List.range i).map fun j : Nat => tx [97 + ((fi + 7 * (j : Int)) % 26).toNat]).map V.str) rfl (fun _ _ => trivial) ?_ ?_
  · rintro i v G0 G1 acc hi S eD hl rfl ⟨rfl, rfl⟩ Fy Fn hy1 _
    refine ⟨rfl, ?_⟩
    unfold tYes
    refine iteT ?_
    obtain ⟨l, l26, e1, e2⟩ := hk i
    refine ⟨_, rfl, _, rfl, _, rfl, 7, 0 + (i : Int), rfl, rfl, .inl ⟨by decide, by decide⟩, fi, 7 * (0 + (i : Int)), rfl, rfl, fi + 7 * (0 + (i : Int)), 26, rfl, rfl, (by decide : (0 : Int) < 26), ?_⟩
    have e3 : (fi + 7 * (0 + (i : Int))) % 26 = (l : Int) := by rw [Int.zero_add]; exact e2.symm
    refine ⟨abc, (fi + 7 * (0 + (i : Int))) % 26, 97 + l, rfl, rfl, by rw [e3]; omega, by rw [e3]; omega, by rw [e3, abc_len]; omega, by rw [e3, Int.toNat_natCast]; exact abc_at l l26, ?_⟩
    refine hy1 _ _ (Same.refl _) ?_
    rw [take_range_succ, List.map_append, List.map_cons, e1]
    rfl
  rintro H6 acc S6 eD2 rfl
  dsimp only [gName]
  have hb6 := hb5.keep S6
  have BH6 := BH5.trans (Same.but S6 (p := p))
  have lh : (((List.range mm).map fun j : Nat => tx [97 + ((fi + 7 * (j : Int)) % 26).toNat]).map V.str).length = mm := by simp
  -- together
  refine ⟨_, rfl, D2, _, rfl, SqL.of eD2, fun D3 nD3 => ?_⟩
  have DP3 := hb6.ne nD3
  refine lc_acc (walk_enum (K := K) (a := D2) (xs := ((List.range mm).map fun j : Nat => tx [97 + ((fi + 7 * (j : Int)) % 26).toNat]).map V.str)) nD3 (by omega)
    (fun i acc G => acc = (((List.range i).map fun j : Nat => cs.take ai ++ [97 + ((fi + 7 * (j : Int)) % 26).toNat] ++ (cs.take (6 - j % 3)).drop ai).map tx).map V.str) rfl (fun H' S => SqL.of (S _ _ eD2)) ?_ ?_
  · rintro i v G0 G1 acc hi S eD hl rfl hy Fy Fn hy1 _
    rw [lh] at hi
    obtain ⟨q, x, y, rfl, nq, rfl, ex, ey⟩ := hy
    cases ex
    replace ey : (((List.range mm).map fun j : Nat => tx [97 + ((fi + 7 * (j : Int)) % 26).toNat]).map V.str)[i]? = some y := ey
    rw [List.getElem?_map, List.getElem?_map, List.getElem?_range hi] at ey
    cases ey
    have Sq1 := Same.laid (o := HO.tup [V.int (i : Int), .str (tx [97 + ((fi + 7 * (i : Int)) % 26).toNat])]) nq
    refine ⟨q, _, rfl, SqT.of upd_same, rfl, _, _, rfl, _, _, rfl, rfl, ?_⟩
    generalize upd G0 q (.tup [V.int (i : Int), .str (tx [97 + ((fi + 7 * (i : Int)) % 26).toNat])]) = G2 at *
    refine ⟨rfl, ?_⟩
    unfold tYes
    refine iteT ?_
    have z1 : (tx cs).length ≤ sizeLine := by rw [tx_len, hcl]; decide
    refine ⟨_, rfl, _, rfl, (ai : Int), rfl, tx cs, rfl, z1, ?_⟩
    rw [cut_tx_to]
    refine ⟨_, rfl, _, _, rfl, rfl, ?_, ?_⟩
    · rw [tx_len, tx_len, List.length_take]
      exact Nat.le_trans (show min ai cs.length + 1 ≤ 100 by omega) (by decide)
    rw [tx_add]
    refine ⟨_, rfl, _, rfl, (ai : Int), rfl, _, rfl, (i : Int), 3, rfl, rfl, (by decide : (0 : Int) < 3), 6, (i : Int) % 3, rfl, rfl, 6 - (i : Int) % 3, rfl, tx cs, rfl, z1, ?_⟩
    have e63 : (6 : Int) - (i : Int) % 3 = ((6 - i % 3 : Nat) : Int) := by omega
    rw [e63, cut_tx_in cs ai _ (by omega)]
    refine ⟨_, _, rfl, rfl, ?_, ?_⟩
    · rw [tx_len, tx_len, List.length_append, List.length_take, List.length_drop, List.length_take]
      exact Nat.le_trans (show min ai cs.length + [97 + ((fi + 7 * (i : Int)) % 26).toNat].length + (min (6 - i % 3) cs.length - ai) ≤ 100 by simp only [List.length_cons, List.length_nil]; omega) (by decide)
    rw [tx_add]
    refine hy1 _ _ Sq1 ?_
    rw [take_range_succ, List.map_append, List.map_append, List.map_cons, List.map_cons]
    rfl
  · rintro H7 acc S7 eD3 rfl
    rw [lh] at eD3
    have lt : (cs.take ai).length = ai := by rw [List.length_take]; omega
    refine k D3 H7 _ (But.none_of BH6 nD3 DP3) DP3 (hb6.keep S7 |>.up (by omega)) (BH6.trans (Same.but S7)) eD3 (by simp) (nodup_map_range fun i j hij hj => ?_) (fun c hc => ?_)
    · obtain ⟨l, l26, e1, e2⟩ := hk i
      obtain ⟨l', l26', e1', e2'⟩ := hk j
      rw [e1, e1']
      intro z
      have hh : ∀ l : Nat, ∀ r : List Nat, (cs.take ai ++ [97 + l] ++ r)[ai]? = some (97 + l) := fun l r => by
        rw [List.append_assoc, List.getElem?_append_right (by omega), lt, Nat.sub_self]
        rfl
      have := congrArg (fun x : List Nat => x[ai]?) z
      simp only [hh, Option.some.injEq] at this
      omega
    · obtain ⟨j, _, rfl⟩ := List.mem_map.mp hc
      obtain ⟨l, l26, e1, e2⟩ := hk j
      rw [e1]
      refine ⟨?_, fun c hc => ?_⟩
      · rw [List.length_append, List.length_append, lt, List.length_drop, List.length_take, List.length_singleton]
        omega
      · rcases List.mem_append.mp hc with hc | hc
        · rcases List.mem_append.mp hc with hc | hc
          · exact hcs c (List.mem_of_mem_take hc)
          · rw [List.mem_singleton.mp hc]
            omega
        · exact hcs c (List.mem_of_mem_take (List.mem_of_mem_drop hc))
end
end V51

set_option maxHeartbeats 8000000
namespace V51
open PySem PySem.Spec PyProof.Rows L2 Pw
theorem BoxAt.lst {H : Hp} {p : Addr} {n : Nat} (h : BoxAt H p n) : ∃ vs, H p = some (.lst vs) := by
  obtain ⟨b0, b1, b2, e, _⟩ := h
  exact ⟨_, e⟩
theorem Al.but {α : Type} {f : α → List V} {H H' : Hp} {p : Addr} {n : Nat} {vs : List V} {rs : List α} (h : Al f H vs rs) (hb : BoxAt H p n) (B : But p H H') : Al f H' vs rs := by
  obtain ⟨ws, e⟩ := hb.lst
  exact h.imp fun q xs eq => B.at (fun z => by rw [z, e] at eq; cases eq) eq
theorem Al.off {α : Type} {f : α → List V} {H : Hp} {D : Addr} {o : HO} {us vs : List V} {rs : List α} (h : Al f H vs rs) (e : H D = some (.lst us)) : Al f (upd H D o) vs rs :=
  h.imp fun q xs eq => (upd_ne (fun z => by rw [z, e] at eq; cases eq)).trans eq
theorem LT.but {α : Type} {f : α → List V} {H H' : Hp} {p a : Addr} {n : Nat} {rs : List α} (h : LT f H a rs) (hb : BoxAt H p n) (na : a ≠ p) (B : But p H H') : LT f H' a rs := by
  obtain ⟨vs, e, al⟩ := h.ex
  exact ⟨vs, B.at na e, Al.but al hb B⟩
theorem menuM {xs : List V} {i : Int} (h0 : 0 ≤ i) (h1 : i < (xs.length : Int)) : ∃ v, v ∈ xs ∧ atI xs i = some v := menu h0 h1
def p3 : List Str := ["pa", "place", "q"]
theorem p3_ok : ∀ s ∈ p3, OkName s := by
  intro s hs
  simp only [p3, List.mem_cons, List.not_mem_nil, or_false] at hs
  rcases hs with rfl | rfl | rfl
  · exact ⟨by decide +kernel, fun z e => by cases e; decide +kernel⟩
  · exact ⟨by decide +kernel, fun z e => by cases e; decide +kernel⟩
  · exact ⟨by decide +kernel, fun z e => by cases e; decide +kernel⟩
theorem lt_push {α : Type} {f : α → List V} {G : Hp} {D q : Addr} {vs : List V} {l : List α} {x : α} (eD : G D = some (.lst vs)) (al : Al f G vs l) (nq : G q = none) :
    LT f (upd (upd G q (.tup (f x))) D (.lst (vs ++ [.ref q]))) D (l ++ [x]) := by
  have qD : q ≠ D := fun z => by rw [z, eD] at nq; cases nq
  refine ⟨_, upd_same, ?_⟩
  refine Al.snoc (al.imp fun p xs e => ?_) ((upd_ne qD).trans upd_same)
  have pD : p ≠ D := fun z => by rw [z, eD] at e; cases e
  exact (upd_ne pD).trans ((upd_ne (ne_of_none e nq)).trans e)
section
variable {P : Program} {w : World} {K : PySem.W.Frag} {mg : Str → Option Value} {base : Heap}
def spPtsL (K : PySem.W.Frag) : Sp := fun vs H Q _ => ∃ p a lv n css, vs = [.ref p, .ref a, .int lv] ∧ BoxAt H p n ∧ n ≤ 900000 ∧ a ≠ p ∧ H a = some (.lst (((css : List (List Nat)).map tx).map V.str)) ∧ css.Nodup ∧ (∀ c ∈ css, GoodN c) ∧ 1 ≤ css.length ∧ css.length ≤ 8 ∧
  ∀ b H' ps, H b = none → b ≠ p → BoxAt H' p (n + 50) → But p H H' → LT fP H' b ps → GoodPs ps → ps.length = css.length → Q (.ref b) H'
theorem d_ptsL (T : Txt mg) (A : At K mg "_law_points" sLawPoints) (dt : Def P w K mg base "_law_take" 1 ["_law_box_here", "_law_many"] (spTake K)) :
    Def P w K mg base "_law_points" 2 ["_law_box_here", "_law_names_here", "_law_levels"] (spPtsL K) := by
  refine mkDef A scLawPoints (fun _ _ _ _ _ _ us hl => match us, hl with | [_, _, _], _ => rfl) (fun vs H Q E ⟨_, _, _, _, _, e, _⟩ => by rw [e]; rfl)
    (fun f cdv A out s H vs Q E hr h => ?_)
  obtain ⟨p, a, lv, n, css, rfl, hb, hn, ap, ea, nd, good, l1, l8, k⟩ := h
  refine ⟨_, (pss_cons (ps_set (i := 3) scLawPoints.nd rfl (.inl rfl) (pe_slice sl_list (pe_lst (pa_cons pe_str (pa_cons pe_str (pa_cons pe_str pa_nil)))) po_none (po_some (pe_op op_add pe_int (pe_d dt hr (by decide) (by rfl) (pa_cons (pv 0) (pa_cons pe_int pa_nil)))))))
    (pss_cons (ps_set (i := 4) scLawPoints.nd rfl (.inl rfl) (pe_lst pa_nil))
    (pss_cons (ps_for PassesOwn.never rfl (pi_list (pv 1)) (pg_name (i := 5) scLawPoints.nd rfl (.inl rfl))
      (pss_cons (ps_set (i := 6) scLawPoints.nd rfl (.inl rfl) (pe_ix ix_list (pe_lst (pa_cons pe_str (pa_cons pe_str (pa_cons pe_str pa_nil)))) (pe_d dt hr (by decide) (by rfl) (pa_cons (pv 0) (pa_cons pe_int pa_nil))) (fun _ _ => rfl)))
      (pss_cons (ps_if (pt_cmpR op_ge (pe_callB call_len_seq (by rfl) T.len PySem.boot_len (pa_cons (pe_lc (own := [("_law_one", 7)]) (g := gName 7) rfl scLawPoints.nd (pi_list (pv 4))
        (blkOk_by (own := [("_law_one", 7)]) (N := ["_law_box_here", "_law_names_here", "_law_levels", "_law_places", "_law_found", "_law_name", "_law_kind", "_law_one"]) (sc := defScope sLawPoints) (by decide +kernel))
        (fun _ _ _ _ _ => (pg_name (i := 7) scLawPoints.nd rfl (.inl rfl))) (fun _ _ _ _ _ => (pts_one (pt_cmpR op_eq (pe_ix (r := rIxT K) ix_tup (pv 7) pe_int (fun _ _ => rfl)) pe_str (nomark _))))
        (fun _ _ _ _ _ => (pv 7))) pa_nil)) (pv 2) (nomark _))
        (pss_one (ps_set (i := 6) scLawPoints.nd rfl (.inl rfl) pe_str))
        pss_nil)
      (pss_one (ps_expr (pe_bm PySem.F.plainAttrs_list PySem.F.slot_list_append PySem.F.type_list_append mt_append (pv 4) (pa_cons (pe_tup (pa_cons (pv 5) (pa_cons (pe_ix ix_list (pv 3) (pe_d dt hr (by decide) (by rfl) (pa_cons (pv 0) (pa_cons (pe_callB call_len_seq (by rfl) T.len PySem.boot_len (pa_cons (pv 3) pa_nil)) pa_nil))) (fun _ _ => rfl)) (pa_cons (pv 6) pa_nil)))) pa_nil)))))))
    (pss_one (ps_ret (pv 4)))))), ?_⟩
  -- the places
  refine ⟨by show 3 ≤ sizeLine; decide, fun L0 n0 => ?_⟩
  have L0p := hb.ne n0
  have e0 : upd H L0 (.lst [.str "pa", .str "place", .str "q"]) L0 = some (.lst (p3.map V.str)) := upd_same
  have S0 := Same.laid (o := HO.lst [.str "pa", .str "place", .str "q"]) n0
  generalize upd H L0 (.lst [.str "pa", .str "place", .str "q"]) = H0 at *
  refine ⟨_, rfl, p, 3, n, rfl, hb.keep S0, by omega, by decide, by decide, fun j1 H1 a1 b1 hb1 B1 => ?_⟩
  have e1 := B1.at L0p e0
  refine ⟨1, j1, rfl, rfl, 1 + j1, rfl, L0, _, rfl, SqL.of e1, fun L2 n2 => ?_⟩
  have L2p := hb1.ne n2
  obtain ⟨jj, ejj⟩ := Int.eq_ofNat_of_zero_le (show 0 ≤ 1 + j1 by omega)
  rw [ejj, cut_to]
  have e2 : upd H1 L2 (.lst ((p3.map V.str).take jj)) L2 = some (.lst ((p3.take jj).map V.str)) := by rw [upd_same, List.map_take]
  have S2 := Same.laid (o := HO.lst ((p3.map V.str).take jj)) n2
  generalize upd H1 L2 (.lst ((p3.map V.str).take jj)) = H2 at *
  have pl1 : 1 ≤ (p3.take jj).length := by rw [List.length_take]; show 1 ≤ min jj 3; omega
  have pl3 : (p3.take jj).length ≤ 3 := by rw [List.length_take]; show min jj 3 ≤ 3; omega
  refine ⟨by show 0 ≤ sizeLine; decide, fun F nF => ?_⟩
  have hb2 := hb1.keep S2
  have Fp := hb2.ne nF
  have BH2 : But p H H2 := (Same.but S0).trans (B1.trans (Same.but S2))
  have nFH := But.none_of BH2 nF Fp
  have S3 := Same.laid (o := HO.lst []) nF
  have FL2 : L2 ≠ F := ne_of_none e2 nF
  have ea2 := BH2.at ap ea
  refine ⟨_, rfl, a, rfl, ⟨_, SqL.of (S3 _ _ ea2)⟩, ?_⟩
  have aF : a ≠ F := ne_of_none ea2 nF
  refine for_it (walk_list (K := K) (a := a) (xs := (css.map tx).map V.str)) (fun i σ X => ∃ (v5 v6 v7 : Option V) (ps : List Pt), σ = [some (.ref p), some (.ref a), some (.int lv), some (.ref L2), some (.ref F), v5, v6, v7] ∧
      BoxAt X p (n + 1 + 2 * i) ∧ But p H X ∧ X L2 = some (.lst ((p3.take jj).map V.str)) ∧ LT fP X F ps ∧ ps.map (·.nm) = (css.take i).map tx ∧ ∀ q ∈ ps, q.pl ∈ p3.take jj) ?_
    (fun i σ X _ ⟨_, _, _, _, _, _, B, _⟩ => SqL.of (B.at ap ea)) ?_ ?_
  · exact ⟨none, none, none, [], rfl, (hb2.keep S3).up (by omega), BH2.trans (Same.but S3), S3 _ _ e2, ⟨[], upd_same, .nil⟩, rfl, fun q h => by cases h⟩
  · rintro i v σ X0 X hi ⟨v5, v6, v7, ps, rfl, hbX, BX, eX2, hF, enm, hpl⟩ ⟨rfl, hx⟩
    rw [List.length_map, List.length_map] at hi
    rw [List.getElem?_map, List.getElem?_map, List.getElem?_eq_getElem hi] at hx
    cases hx
    have pl : ps.length = i := by
      have := congrArg List.length enm
      simpa [Nat.min_eq_left (Nat.le_of_lt hi)] using this
    dsimp only [gName]
    refine ⟨by show 3 ≤ sizeLine; decide, fun q nq => ?_⟩
    have Sq1 := Same.laid (o := HO.lst [.str "level", .str "level", .str "switch"]) nq
    have eq1 : upd X q (.lst [.str "level", .str "level", .str "switch"]) q = some (.lst [.str "level", .str "level", .str "switch"]) := upd_same
    have qp := hbX.ne nq
    generalize upd X q (.lst [.str "level", .str "level", .str "switch"]) = X1 at *
    refine ⟨_, rfl, p, 3, _, rfl, hbX.keep Sq1, by omega, by decide, by decide, fun j X2 ja jb hbX2 BX2 => ?_⟩
    have eq2 := BX2.at qp eq1
    obtain ⟨y0, hy0, aty⟩ := menu (xs := [V.str "level", .str "level", .str "switch"]) ja (by simpa using jb)
    refine ⟨q, _, j, y0, rfl, rfl, SqL.of eq2, aty, ?_⟩
    dsimp only [gName]
    have BX2' := (Same.but Sq1 (p := p)).trans BX2
    have hF2 : LT fP X2 F ps := LT.but hF hbX Fp BX2'
    have eL2 := BX2'.at L2p eX2
    obtain ⟨sw, ey⟩ : ∃ sw, y0 = .str (kd sw) := by
      simp only [List.mem_cons, List.not_mem_nil, or_false] at hy0
      rcases hy0 with rfl | rfl | rfl
      · exact ⟨false, rfl⟩
      · exact ⟨false, rfl⟩
      · exact ⟨true, rfl⟩
    subst ey
    -- the levels so far
    refine seq_join (A := tIfS _ _ _) (fun σ' Y => ∃ (v7 : Option V) (sw : Bool), σ' = [some (.ref p), some (.ref a), some (.int lv), some (.ref L2), some (.ref F), some (.str (tx css[i])), some (.str (kd sw)), v7] ∧ Same X2 Y) (fun N' hN => ?_) ?_
    · obtain ⟨vF, eF, alF⟩ := hF2.ex
      refine ⟨_, rfl, F, rfl, ⟨_, SqL.of eF⟩, fun D nD => ?_⟩
      refine lc_acc (walk_list (K := K) (a := F) (xs := vF)) nD (by rw [alF.length]; omega) (fun i acc _ => True) trivial (fun H' S => SqL.of (S _ _ eF)) ?_ ?_
      · rintro i1 v Y2 Y3 acc hi S2 eD2 hl2 _ ⟨rfl, hx⟩ Fy Fn hy1 hy2
        obtain ⟨q3, x, rfl, hx', eq3⟩ := (alF.same S2).get hx
        refine ⟨rfl, ?_⟩
        refine ⟨_, rfl, q3, fP x, 2, .str (kd x.sw), rfl, rfl, SqT.of eq3, rfl, rfl, _, rfl, ?_⟩
        refine ite2 (fun _ => ?_) (fun _ => ?_)
        · exact ⟨_, rfl, hy1 _ _ (Same.refl _) trivial⟩
        · exact hy2 _ (Same.refl _) trivial
      rintro Y2 acc S2 eD2' _
      refine ⟨D, acc, rfl, .inl (SqL.of eD2'), _, rfl, _, _, rfl, rfl, _, rfl, ?_⟩
      refine ite2 (fun _ => ?_) (fun _ => ?_)
      · exact hN _ _ ⟨_, true, rfl, S2⟩
      · exact hN _ _ ⟨_, sw, rfl, S2⟩
    clear sw aty hy0
    rintro σ' Y ⟨v7', sw, rfl, SY⟩
    have hbY := hbX2.keep SY
    have hFY := hF2.same SY
    have eLY := SY _ _ eL2
    obtain ⟨vF, eF, alF⟩ := hFY.ex
    have BHY : But p H Y := BX.trans (BX2'.trans (Same.but SY))
    have bud : n + 1 + 2 * i + 1 ≤ 1000000 := by omega
    refine ⟨_, rfl, .inl ⟨rfl, _, SqL.of eF⟩, _, rfl, _, rfl, _, rfl, _, rfl, L2, _, rfl, .inl (SqL.of eLY), p, _, _, rfl, hbX2.keep SY, bud, ?_, ?_, fun c Z ca cb hbZ BZ => ?_⟩
    · rw [List.length_map]
      omega
    · rw [List.length_map]
      exact Int.lt_of_le_of_lt (show ((p3.take jj).length : Int) ≤ 3 by omega) (by decide)
    rw [List.length_map] at cb
    obtain ⟨ci, rfl⟩ := Int.eq_ofNat_of_zero_le ca
    have hci : ci < (p3.take jj).length := by omega
    refine ⟨L2, _, (ci : Int), .str (p3.take jj)[ci], rfl, rfl, SqL.of (BZ.at L2p eLY), atI_nat (by rw [List.getElem?_map, List.getElem?_eq_getElem hci]; rfl), _, rfl, by show 3 ≤ sizeLine; decide, fun r nr => ?_⟩
    have eFZ := BZ.at Fp eF
    have rF : r ≠ F := fun z => by rw [z, eFZ] at nr; cases nr
    have hbY := hbX2.keep SY
    refine ⟨F, vF, .ref r, rfl, rfl, (upd_ne rF.symm).trans eFZ, by rw [alF.length]; exact Nat.lt_of_le_of_lt (show ps.length ≤ 8 by omega) (by decide), ?_⟩
    have BZ' := BHY.trans (BZ.trans (But.laid (o := HO.tup (fP ⟨tx css[i], (p3.take jj)[ci], sw⟩)) nr))
    have tk : css.take (i + 1) = css.take i ++ [css[i]] := by rw [List.take_add_one, List.getElem?_eq_getElem hi]; rfl
    refine ⟨_, _, _, ps ++ [(⟨tx css[i], (p3.take jj)[ci], sw⟩ : Pt)], rfl, ((hbZ.laid nr).set Fp).up (by omega), But.wo_upd BZ' nFH, ?_, lt_push (f := fP) (x := (⟨tx css[i], (p3.take jj)[ci], sw⟩ : Pt)) eFZ (Al.but alF hbY BZ) nr, ?_, fun q hq => ?_⟩
    · exact (upd_ne FL2).trans (Same.laid nr _ _ (BZ.at L2p eLY))
    · rw [List.map_append, enm, tk, List.map_append]
      rfl
    · rcases List.mem_append.mp hq with h | h
      · exact hpl q h
      · rw [List.mem_singleton.mp h]
        exact List.getElem_mem hci
  · rintro σ X ⟨v5, v6, v7, ps, rfl, hbX, BX, eX2, hF, enm, hpl⟩
    rw [List.length_map, List.length_map, List.take_length] at enm
    have pl : ps.length = css.length := by
      have := congrArg List.length enm
      simpa using this
    refine ⟨_, rfl, k F X ps nFH Fp ((hbX.up (by rw [List.length_map, List.length_map]; omega))) BX hF ?_ pl⟩
    refine ⟨fun q hq => ⟨?_, p3_ok _ (List.mem_of_mem_take (hpl q hq))⟩, by rw [enm]; exact tx_inj_map nd, ⟨p3.take jj, pl3, hpl⟩, by omega, by omega⟩
    have : q.nm ∈ css.map tx := enm ▸ List.mem_map.mpr ⟨q, hq, rfl⟩
    obtain ⟨c, hc, e⟩ := List.mem_map.mp this
    exact e ▸ okN (good c hc)
end
end V51

set_option maxHeartbeats 8000000
namespace V51
open PySem PySem.Spec PyProof.Rows L2 Pw
/-- methods of built-in types within a comprehension -/
theorem pe_toK {X : Cx} {K : PySem.W.Frag} {e : Expr} {to : TE} {t : TA} {T : String} {r : V → List V → Hp → VK → Prop} (hK : X.K = K) (h : PE X e (tBM X.K T r to t)) : PE X e (tBM K T r to t) := hK ▸ h
theorem erase_perm {l : List V} : ∀ {i : Nat} (h : i < l.length), (l[i] :: l.eraseIdx i).Perm l := by
  induction l with
  | nil => intro i h; cases h
  | cons x l ih =>
    intro i h
    cases i with
    | zero => exact .refl _
    | succ i =>
      have h' : i < l.length := Nat.lt_of_succ_lt_succ h
      exact (List.Perm.swap _ _ _).trans ((ih h').cons x)
theorem pop_perm {ys ls xs : List V} {j : Nat} {y : V} (h : (ys ++ ls).Perm xs) (e : ls[j]? = some y) : ((ys ++ [y]) ++ ls.eraseIdx j).Perm xs := by
  obtain ⟨hj, rfl⟩ := List.getElem?_eq_some_iff.mp e
  refine List.Perm.trans ?_ h
  rw [List.append_assoc]
  exact List.Perm.append_left ys (erase_perm hj)
section
variable {P : Program} {w : World} {K : PySem.W.Frag} {mg : Str → Option Value} {base : Heap}
def spMixed (K : PySem.W.Frag) : Sp := fun vs H Q _ => ∃ p a n xs, vs = [.ref p, .ref a] ∧ BoxAt H p n ∧ n ≤ 900000 ∧ a ≠ p ∧ H a = some (.lst xs) ∧ xs.length ≤ 50 ∧
  ∀ b H' ys, H b = none → b ≠ p → BoxAt H' p (n + xs.length) → But p H H' → H' b = some (.lst ys) → ys.Perm xs → Q (.ref b) H'
theorem d_mixed (T : Txt mg) (A : At K mg "_law_mixed" sLawMixed) (dt : Def P w K mg base "_law_take" 1 ["_law_box_here", "_law_many"] (spTake K)) :
    Def P w K mg base "_law_mixed" 2 ["_law_box_here", "_law_some"] (spMixed K) := by
  refine mkDef A scLawMixed (fun _ _ _ _ _ _ us hl => match us, hl with | [_, _], _ => rfl) (fun vs H Q E ⟨_, _, _, _, e, _⟩ => by rw [e]; rfl)
    (fun f cdv A out s H vs Q E hr h => ?_)
  obtain ⟨p, a, n, xs, rfl, hb, hn, ap, ea, l50, k⟩ := h
  refine ⟨_, (pss_cons (ps_set (i := 2) scLawMixed.nd rfl (.inr rfl) (pe_callTy call_list_of (by rfl) T.list (by decide +kernel) (pa_cons (pv 1) pa_nil)))
    (pss_one (ps_ret (pe_lc (own := [("_law_k", 3)]) (g := gName 3) (tt := tYes) rfl scLawMixed.nd (pi_range1 (by rfl) T.range (pa_cons (pe_callB (r := rLn K) call_len_seq (by rfl) T.len PySem.boot_len (pa_cons (pv 1) pa_nil)) pa_nil))
        (blkOk_by (own := [("_law_k", 3)]) (N := ["_law_box_here", "_law_some", "_law_left", "_law_k"]) (sc := defScope sLawMixed) (by decide +kernel))
        (fun _ _ _ _ _ => (pg_name (i := 3) scLawMixed.nd rfl (.inl rfl))) (fun _ _ _ _ _ => pts_nil)
        (fun _ _ _ _ _ => (pe_toK (K := K) rfl (pe_bm PySem.F.plainAttrs_list PySem.F.slot_list_pop PySem.F.type_list_pop mt_popAt (pv 2) (pa_cons (pe_d dt hr (by decide) (by rfl) (pa_cons (pv 0) (pa_cons (pe_callB (r := rLn K) call_len_seq (by rfl) T.len PySem.boot_len (pa_cons (pv 2) pa_nil)) pa_nil))) pa_nil)))))))), ?_⟩
  refine ⟨_, rfl, a, xs, rfl, .inl (SqL.of ea), fun F nF => ?_⟩
  have Fp := hb.ne nF
  have aF : a ≠ F := ne_of_none ea nF
  have S1 := Same.laid (o := HO.lst xs) nF
  have eF : upd H F (.lst xs) F = some (.lst xs) := upd_same
  have hb1 := hb.keep S1
  have ea1 := S1 _ _ ea
  generalize upd H F (.lst xs) = H1 at *
  dsimp only [gName]
  refine ⟨_, rfl, a, xs, rfl, .inl (SqL.of ea1), (xs.length : Int), rfl, by omega, by omega, fun D nD => ?_⟩
  have DP := hb1.ne nD
  have FD : F ≠ D := ne_of_none eF nD
  have nDH : H D = none := Same.no S1 nD
  refine lc_it (walk_range (lo := 0) (n := xs.length)) (fun i G => But p H G ∧ BoxAt G p (n + i) ∧ ∃ ys ls : List V, G D = some (.lst ys) ∧ G F = some (.lst ls) ∧ ys.length = i ∧ (ys ++ ls).Perm xs) ?_ (fun _ _ _ _ => trivial) ?_ ?_
  · exact ⟨(Same.but S1).trans (But.laid nD), hb1.laid nD, [], xs, upd_same, (upd_ne FD).trans eF, rfl, .refl _⟩
  · rintro i v G0 G hi ⟨BG, hbG, ys, ls, eD, eFG, hl, hp⟩ ⟨rfl, rfl⟩
    refine ⟨rfl, ?_⟩
    unfold tYes
    refine iteT ?_
    have hll : ys.length + ls.length = xs.length := by rw [← List.length_append]; exact hp.length_eq
    refine ⟨_, rfl, .inl ⟨rfl, _, SqL.of eFG⟩, _, rfl, _, rfl, F, ls, rfl, .inl (SqL.of eFG), p, _, _, rfl, hbG, by omega, by omega, Int.lt_of_le_of_lt (show (ls.length : Int) ≤ 50 by omega) (by decide), fun j G1 a4 b4 hb4 B4 => ?_⟩
    obtain ⟨jj, rfl⟩ := Int.eq_ofNat_of_zero_le a4
    have hj : jj < ls.length := by omega
    have eF4 := B4.at Fp eFG
    have eD4 := B4.at DP eD
    refine ⟨F, ls, (jj : Int), jj, ls[jj], rfl, rfl, eF4, by omega, by omega, ?_, List.getElem?_eq_getElem hj, ?_⟩
    · unfold seqIndex?
      have h0 : ¬ ((jj : Int) < 0) := by omega
      simp only [if_neg h0]
      rw [if_pos (by simp; omega)]
      simp
    have l : ys.length < 50 := by omega
    refine ⟨ys, (upd_ne FD.symm).trans eD4, Nat.lt_of_lt_of_le l (by decide), But.wo_upd (But.wo_upd (BG.trans B4) nF) nDH, ((hb4.set Fp).set DP).up (by omega), ys ++ [ls[jj]], ls.eraseIdx jj, upd_same, (upd_ne FD).trans upd_same, by rw [List.length_append, hl]; rfl, pop_perm hp (List.getElem?_eq_getElem hj)⟩
  rintro G ⟨BG, hbG, ys, ls, eD, eFG, hl, hp⟩
  have hll : ys.length + ls.length = xs.length := by rw [← List.length_append]; exact hp.length_eq
  have l0 : ls = [] := List.eq_nil_of_length_eq_zero (by omega)
  subst l0
  rw [List.append_nil] at hp
  exact k D G ys nDH DP hbG BG eD hp
end
end V51

set_option maxHeartbeats 8000000
namespace V51
open PySem PySem.Spec PyProof.Rows L2 Pw
/-! ### relations -/
inductive Rel where
  | same (a b : Str)
  | gate (a b : Str)
  | sum (a : Str) (ns : List Str)
def Rel.nms : Rel → List Str
  | .same a b => [a, b]
  | .gate a b => [a, b]
  | .sum a ns => a :: ns
def Rel.fst : Rel → Str
  | .same a _ => a
  | .gate a _ => a
  | .sum a _ => a
/-- how a relation stands -/
inductive RelAt (H : Hp) (q : Addr) : Rel → Prop where
  | same {a b : Str} (e : H q = some (.tup [.str "same", .str a, .str b])) : RelAt H q (.same a b)
  | gate {a b : Str} (e : H q = some (.tup [.str "gate", .str a, .str b])) : RelAt H q (.gate a b)
  | sum {a : Str} {ns : List Str} {t : Addr} (e : H q = some (.tup [.str "sum", .str a, .ref t])) (et : H t = some (.tup (ns.map V.str))) : RelAt H q (.sum a ns)
theorem RelAt.imp {H H' : Hp} {q : Addr} {r : Rel} (h : RelAt H q r) (S : ∀ b xs, H b = some (.tup xs) → H' b = some (.tup xs)) : RelAt H' q r := by
  cases h with
  | same e => exact .same (S _ _ e)
  | gate e => exact .gate (S _ _ e)
  | sum e et => exact .sum (S _ _ e) (S _ _ et)
theorem RelAt.same' {H H' : Hp} {q : Addr} {r : Rel} (h : RelAt H q r) (S : Same H H') : RelAt H' q r := h.imp fun b xs e => S _ _ e
inductive AlR (H : Hp) : List V → List Rel → Prop where
  | nil : AlR H [] []
  | cons {q : Addr} {r : Rel} {vs : List V} {rs : List Rel} (h : RelAt H q r) (t : AlR H vs rs) : AlR H (.ref q :: vs) (r :: rs)
theorem AlR.imp {H H' : Hp} {vs : List V} {rs : List Rel} (h : AlR H vs rs) (S : ∀ b xs, H b = some (.tup xs) → H' b = some (.tup xs)) : AlR H' vs rs := by
  induction h with
  | nil => exact .nil
  | cons h _ ih => exact .cons (h.imp S) ih
theorem AlR.same {H H' : Hp} {vs : List V} {rs : List Rel} (h : AlR H vs rs) (S : Same H H') : AlR H' vs rs := h.imp fun b xs e => S _ _ e
theorem AlR.length {H : Hp} {vs : List V} {rs : List Rel} (h : AlR H vs rs) : vs.length = rs.length := by
  induction h with
  | nil => rfl
  | cons _ _ ih => simp [ih]
theorem AlR.get {H : Hp} {vs : List V} {rs : List Rel} (h : AlR H vs rs) : ∀ {i : Nat} {v : V}, vs[i]? = some v → ∃ q r, v = .ref q ∧ rs[i]? = some r ∧ RelAt H q r := by
  induction h with
  | nil => intro i v e; simp at e
  | @cons q r vs rs h t ih =>
    intro i v e
    cases i with
    | zero => simp only [List.getElem?_cons_zero, Option.some.injEq] at e; exact ⟨q, r, e.symm, rfl, h⟩
    | succ i => simp only [List.getElem?_cons_succ] at e; obtain ⟨q', r', e1, e2, e3⟩ := ih e; exact ⟨q', r', e1, by simpa using e2, e3⟩
theorem AlR.snoc {H : Hp} {vs : List V} {rs : List Rel} {q : Addr} {r : Rel} (h : AlR H vs rs) (e : RelAt H q r) : AlR H (vs ++ [.ref q]) (rs ++ [r]) := by
  induction h with
  | nil => exact .cons e .nil
  | cons h _ ih => exact .cons h ih
theorem AlR.take {H : Hp} {vs : List V} {rs : List Rel} (h : AlR H vs rs) : ∀ n : Nat, AlR H (vs.take n) (rs.take n) := by
  induction h with
  | nil => intro n; simp only [List.take_nil]; exact .nil
  | cons h _ ih =>
    intro n
    cases n with
    | zero => exact .nil
    | succ n => exact .cons h (ih n)
structure GoodRel (ps : List Pt) (r : Rel) : Prop where
  inn : ∀ s ∈ r.nms, s ∈ ps.map (·.nm)
  nd : r.nms.Nodup
  few : r.nms.length ≤ 4
  parts : 2 ≤ r.nms.length
  valve : ∀ a b, r = .gate a b → ∃ pt ∈ ps, pt.nm = b ∧ pt.sw = true
theorem GoodRel.ok {ps : List Pt} {r : Rel} (g : GoodRel ps r) (gp : GoodPs ps) : ∀ s ∈ r.nms, OkName s := fun s hs => by
  obtain ⟨pt, hpt, e⟩ := List.mem_map.mp (g.inn s hs)
  exact e ▸ (gp.all pt hpt).nm
section
variable {P : Program} {w : World} {K : PySem.W.Frag} {mg : Str → Option Value} {base : Heap}
def spPtsRel (K : PySem.W.Frag) : Sp := fun vs H Q _ => ∃ q r, vs = [.ref q] ∧ RelAt H q r ∧ r.nms.length ≤ 1000 ∧ ∀ l H', Same H H' → H l = none → H' l = some (.lst (r.nms.map V.str)) → Q (.ref l) H'
theorem d_ptsRel (T : Txt mg) (A : At K mg "points_of_relation" sPointsOfRelation) : Def P w K mg base "points_of_relation" 1 ["relation"] (spPtsRel K) := by
  refine mkDef A scPointsOfRelation (fun _ _ _ _ _ _ us hl => match us, hl with | [_], _ => rfl) (fun vs H Q E ⟨_, _, e, _⟩ => by rw [e]; rfl)
    (fun f cdv A out s H vs Q E hr h => ?_)
  obtain ⟨q, r, rfl, hq, hl, k⟩ := h
  refine ⟨_, (pss_cons (ps_asg (pv 0) (pg_tup (by rfl) (pgs_cons (pg_name (i := 1) scPointsOfRelation.nd rfl (.inl rfl)) (pgs_cons (pg_name (i := 2) scPointsOfRelation.nd rfl (.inl rfl)) (pgs_cons (pg_name (i := 3) scPointsOfRelation.nd rfl (.inl rfl)) pgs_nil)))))
    (pss_one (ps_ret (pe_ifExp (pt_cmpR op_eq (pv 1) pe_str (nomark _)) (pe_lst (pa_cons (pv 2) (StX.pa_star (pv 3) pa_nil))) (pe_lst (pa_cons (pv 2) (pa_cons (pv 3) pa_nil))))))), ?_⟩
  have small : r.nms.length ≤ sizeLine := Nat.le_trans hl (by decide)
  cases hq with
  | same e =>
    refine ⟨_, rfl, q, _, rfl, SqT.of e, rfl, _, _, rfl, _, _, rfl, _, _, rfl, rfl, ?_⟩
    refine ⟨_, rfl, rfl, _, rfl, ?_⟩
    refine ite2 (fun h => absurd (of_decide_eq_true h) (by decide)) (fun _ => ?_)
    exact ⟨_, rfl, _, rfl, by show 2 ≤ sizeLine; decide, fun l nl => k l _ (Same.laid nl) nl upd_same⟩
  | gate e =>
    refine ⟨_, rfl, q, _, rfl, SqT.of e, rfl, _, _, rfl, _, _, rfl, _, _, rfl, rfl, ?_⟩
    refine ⟨_, rfl, rfl, _, rfl, ?_⟩
    refine ite2 (fun h => absurd (of_decide_eq_true h) (by decide)) (fun _ => ?_)
    exact ⟨_, rfl, _, rfl, by show 2 ≤ sizeLine; decide, fun l nl => k l _ (Same.laid nl) nl upd_same⟩
  | @sum a ns t e et =>
    refine ⟨_, rfl, q, _, rfl, SqT.of e, rfl, _, _, rfl, _, _, rfl, _, _, rfl, rfl, ?_⟩
    refine ⟨_, rfl, rfl, _, rfl, ?_⟩
    refine ite2 (fun _ => ?_) (fun h => absurd (decide_eq_true rfl) h)
    refine ⟨_, rfl, _, rfl, t, ns.map V.str, rfl, .inl (SqT.of et), ?_⟩
    refine ⟨?_, fun l nl => k l _ (Same.laid nl) nl (upd_same.trans (by rw [List.append_nil]; rfl))⟩
    show (V.str a :: (ns.map V.str ++ [])).length ≤ sizeLine
    rw [List.append_nil, List.length_cons, List.length_map]
    exact small
/-- a relation's shape -/
def spRelS : Sp := fun vs H Q _ => ∃ q r ps, vs = [.ref q] ∧ RelAt H q r ∧ GoodRel ps r ∧ GoodPs ps ∧ ∀ H', Same H H' → Q (.bl true) H'
theorem d_relS (T : Txt mg) (A : At K mg "is_relation_shape" sIsRelationShape) (dt : Def P w K mg base "is_tuple" 1 ["thing", "many"] (spTupN K)) (dn : Def P w K mg base "is_name" 1 ["thing"] (spName K))
    (d1 : Def P w K mg base "is_one_of" 1 ["thing", "words"] (spOne K)) (aLO : At K mg "is_list_of" sIsListOf) (dl : Def P w K mg base "is_list" 1 ["thing", "least", "most"] (spList K)) :
    Def P w K mg base "is_relation_shape" 4 ["thing"] spRelS := by
  obtain ⟨f0, fd0, hm0, hk0, hb0, F0⟩ := dn.ex
  have dLO := d_listOf T aLO dl (F0.raw hb0 .nil) hk0
  refine mkDef A scIsRelationShape (fun _ _ _ _ _ _ us hl => match us, hl with | [_], _ => rfl) (fun vs H Q E ⟨_, _, _, e, _⟩ => by rw [e]; rfl)
    (fun f cdv A out s H vs Q E hr h => ?_)
  obtain ⟨q, r, ps, rfl, hq, g, gp, k⟩ := h
  refine ⟨_, (pss_cons (ps_if (pt_not (pt_val (pe_d dt hr (by decide) (by rfl) (pa_cons (pv 0) (pa_cons pe_int pa_nil)))))
      (pss_one (ps_ret pe_bl))
      pss_nil)
    (pss_cons (ps_asg (pv 0) (pg_tup (by rfl) (pgs_cons (pg_name (i := 1) scIsRelationShape.nd rfl (.inl rfl)) (pgs_cons (pg_name (i := 2) scIsRelationShape.nd rfl (.inl rfl)) (pgs_cons (pg_name (i := 3) scIsRelationShape.nd rfl (.inl rfl)) pgs_nil)))))
    (pss_cons (ps_if (pt_not (pt_val (pe_d dn hr (by decide) (by rfl) (pa_cons (pv 2) pa_nil))))
      (pss_one (ps_ret pe_bl))
      pss_nil)
    (pss_cons (ps_if (pt_cmpR op_eq (pv 1) pe_str (nomark _))
      (pss_one (ps_ret (pe_and (pe_is T.isinstance (by rfl) (pv 3) T.tuple (by rfl) (Tn := "tuple") (by decide +kernel)) (pe_one (pe_d dLO hr (by decide) (by rfl) (pa_cons (pe_glob (v := V.ref f0) (by rfl) hm0 rfl) (pa_cons (pv 3) (pa_cons pe_int (pa_cons (pe_gi T.c_MOST_PARTS) pa_nil)))))))))
      pss_nil)
    (pss_one (ps_ret (pe_and (pe_d d1 hr (by decide) (by rfl) (pa_cons (pv 1) (pa_cons (pe_tup (pa_cons pe_str (pa_cons pe_str pa_nil))) pa_nil))) (pe_one (pe_d dn hr (by decide) (by rfl) (pa_cons (pv 3) pa_nil)))))))))), ?_⟩
  have on := g.ok gp
  have g4 := g.few
  have g2 := g.parts
  cases hq with
  | @same a b e =>
    have oa := on a (by simp [Rel.nms])
    have ob := on b (by simp [Rel.nms])
    have eT : tupNB H (.ref q) 3 = true := by simp only [tupNB, e]; rfl
    refine ⟨_, rfl, .ref q, _, 3, rfl, .tup e, true, congrArg V.bl eT, iteF ?_⟩
    refine ⟨_, rfl, q, _, rfl, SqT.of e, rfl, _, _, rfl, _, _, rfl, _, _, rfl, rfl, ?_⟩
    refine ⟨_, rfl, .str a, _, rfl, .str _, oa.sh, fun H1 S1 => ⟨true, congrArg V.bl oa.b, iteF ?_⟩⟩
    refine ⟨_, rfl, rfl, _, rfl, ?_⟩
    refine ite2 (fun h => absurd (of_decide_eq_true h) (by decide)) (fun _ => ?_)
    refine ⟨_, rfl, by show 2 ≤ sizeLine; decide, fun p np => ?_⟩
    refine ⟨.str "same", _, p, ["same", "gate"], rfl, .str _, upd_same, ?_⟩
    refine ⟨true, congrArg V.bl (by decide +kernel), iteT ?_⟩
    refine ⟨_, rfl, .str b, _, rfl, .str _, ob.sh, fun H2 S2 => ?_⟩
    rw [ob.b]
    exact k _ (S1.trans ((Same.laid np).trans S2))
  | @gate a b e =>
    have oa := on a (by simp [Rel.nms])
    have ob := on b (by simp [Rel.nms])
    have eT : tupNB H (.ref q) 3 = true := by simp only [tupNB, e]; rfl
    refine ⟨_, rfl, .ref q, _, 3, rfl, .tup e, true, congrArg V.bl eT, iteF ?_⟩
    refine ⟨_, rfl, q, _, rfl, SqT.of e, rfl, _, _, rfl, _, _, rfl, _, _, rfl, rfl, ?_⟩
    refine ⟨_, rfl, .str a, _, rfl, .str _, oa.sh, fun H1 S1 => ⟨true, congrArg V.bl oa.b, iteF ?_⟩⟩
    refine ⟨_, rfl, rfl, _, rfl, ?_⟩
    refine ite2 (fun h => absurd (of_decide_eq_true h) (by decide)) (fun _ => ?_)
    refine ⟨_, rfl, by show 2 ≤ sizeLine; decide, fun p np => ?_⟩
    refine ⟨.str "gate", _, p, ["same", "gate"], rfl, .str _, upd_same, ?_⟩
    refine ⟨true, congrArg V.bl (by decide +kernel), iteT ?_⟩
    refine ⟨_, rfl, .str b, _, rfl, .str _, ob.sh, fun H2 S2 => ?_⟩
    rw [ob.b]
    exact k _ (S1.trans ((Same.laid np).trans S2))
  | @sum a ns t e et =>
    have oa := on a (by simp [Rel.nms])
    have eT : tupNB H (.ref q) 3 = true := by simp only [tupNB, e]; rfl
    have hn : 1 ≤ ns.length ∧ ns.length ≤ 3 := by
      have e1 : (Rel.sum a ns).nms.length = ns.length + 1 := rfl
      omega
    refine ⟨_, rfl, .ref q, _, 3, rfl, .tup e, true, congrArg V.bl eT, iteF ?_⟩
    refine ⟨_, rfl, q, _, rfl, SqT.of e, rfl, _, _, rfl, _, _, rfl, _, _, rfl, rfl, ?_⟩
    refine ⟨_, rfl, .str a, _, rfl, .str _, oa.sh, fun H1 S1 => ⟨true, congrArg V.bl oa.b, iteF ?_⟩⟩
    refine ⟨_, rfl, rfl, _, rfl, ?_⟩
    refine ite2 (fun _ => ?_) (fun h => absurd (decide_eq_true rfl) h)
    have et1 := S1 _ _ et
    refine ⟨_, rfl, .ref t, .ty "tuple", .type "tuple", .type "tuple", true, rfl, .ty _, .base (.base (.tup et1)), kit_ty (by decide +kernel), true, rfl, iteT ?_⟩
    refine ⟨_, rfl, t, ns.map V.str, 1, 3, rfl, .inr (SqT.of et1), ?_, ?_, ?_, fun v hv H3 Q1 S3 q1 => ?_, fun H2 S2 => k _ (S1.trans S2)⟩
    · rw [List.length_map]; omega
    · rw [List.length_map]; omega
    · rw [List.length_map]; omega
    · obtain ⟨s0, hs0, rfl⟩ := List.mem_map.mp hv
      have o0 := on s0 (by simp [Rel.nms, hs0])
      refine ⟨.str s0, _, rfl, .str _, o0.sh, fun H4 S4 => ?_⟩
      rw [o0.b]
      exact q1 _ S4
end
end V51

set_option maxHeartbeats 8000000
namespace V51
open PySem PySem.Spec PyProof.Rows L2 Pw
theorem pt_in {K : PySem.W.Frag} {H : Hp} {d : Addr} {xp : List V} {ps : List Pt} {nm : Str} (ed : H d = some (.dK (kvs Pt.nm ps xp))) (al : Al fP H xp ps) (nd : (ps.map Pt.nm).Nodup) (h : nm ∈ ps.map Pt.nm) :
    ∃ pt q, pt ∈ ps ∧ pt.nm = nm ∧ H q = some (.tup (fP pt)) ∧ valV (kvs Pt.nm ps xp) (.inr nm) = some (.ref q) := by
  obtain ⟨pt, hpt, rfl⟩ := List.mem_map.mp h
  obtain ⟨i, hi, ei⟩ := List.getElem_of_mem hpt
  have ei' := List.getElem?_eq_some_iff.mpr ⟨hi, ei⟩
  obtain ⟨q, hq, eq⟩ := al.at ei'
  exact ⟨pt, q, hpt, rfl, eq, kvs_get Pt.nm nd ei' hq⟩
theorem name_one {ps : List Pt} (nd : (ps.map Pt.nm).Nodup) {p q : Pt} (hp : p ∈ ps) (hq : q ∈ ps) (e : p.nm = q.nm) : p = q := by
  obtain ⟨i, hi, rfl⟩ := List.getElem_of_mem hp
  obtain ⟨j, hj, rfl⟩ := List.getElem_of_mem hq
  have : i = j := by
    rcases Nat.lt_trichotomy i j with h | h | h
    · have := (List.pairwise_iff_getElem.mp nd) i j (by simpa using hi) (by simpa using hj) h
      simp only [List.getElem_map] at this
      exact absurd e this
    · exact h
    · have := (List.pairwise_iff_getElem.mp nd) j i (by simpa using hj) (by simpa using hi) h
      simp only [List.getElem_map] at this
      exact absurd e.symm this
  subst this
  rfl
section
variable {P : Program} {w : World} {K : PySem.W.Frag} {mg : Str → Option Value} {base : Heap}
def spRels (K : PySem.W.Frag) : Sp := fun vs H Q _ => ∃ a d xs rs ps xp, vs = [.ref a, .ref d] ∧ Sq K H a xs ∧ AlR H xs rs ∧ (∀ r ∈ rs, GoodRel ps r) ∧ GoodPs ps ∧ rs.length ≤ 5 ∧ H d = some (.dK (kvs Pt.nm ps xp)) ∧ Al fP H xp ps ∧
  ∀ H', Same H H' → Q .non H'
theorem d_rels (T : Txt mg) (A : At K mg "check_relations" sCheckRelations) (aLO : At K mg "is_list_of" sIsListOf) (dl : Def P w K mg base "is_list" 1 ["thing", "least", "most"] (spList K))
    (dS : Def P w K mg base "is_relation_shape" 4 ["thing"] spRelS) (dR : Def P w K mg base "points_of_relation" 1 ["relation"] (spPtsRel K)) (dO : Def P w K mg base "_check_each_once" 1 ["names"] (spOnce K)) :
    Def P w K mg base "check_relations" 7 ["relations", "points"] (spRels K) := by
  obtain ⟨f0, fd0, hm0, hk0, hb0, F0⟩ := dS.ex
  have dLO := d_listOf T aLO dl (F0.raw hb0 .nil) hk0
  refine mkDef A scCheckRelations (fun _ _ _ _ _ _ us hl => match us, hl with | [_, _], _ => rfl) (fun vs H Q E ⟨_, _, _, _, _, _, e, _⟩ => by rw [e]; rfl)
    (fun f cdv A out s H vs Q E hr h => ?_)
  obtain ⟨a, d, xs, rs, ps, xp, rfl, hs, al, g, gp, l5, ed, alp, k⟩ := h
  have hu : (A.deeper (envOfC "check_relations" (defScope sCheckRelations) s.heap.objs.size f cdv)).units + 1 < cLine := hu_of hr
  refine ⟨_, (pss_cons (ps_if (pt_not (pt_val (pe_d dLO hr (by decide) (by rfl) (pa_cons (pe_glob (v := V.ref f0) (by rfl) hm0 rfl) (pa_cons (pv 0) (pa_cons pe_int (pa_cons (pe_gi T.c_MOST_RELATIONS) pa_nil)))))))
      (pss_one ps_never)
      pss_nil)
    (pss_one (ps_for PassesOwn.never rfl (pi_sq (pv 0)) (pg_name (i := 2) scCheckRelations.nd rfl (.inl rfl))
      (pss_cons (ps_set (i := 3) scCheckRelations.nd rfl (.inl rfl) (pe_d dR hr (by decide) (by rfl) (pa_cons (pv 2) pa_nil)))
      (pss_cons (ps_for PassesOwn.never rfl (pi_list (pv 3)) (pg_name (i := 4) scCheckRelations.nd rfl (.inl rfl))
        (pss_one (ps_if (pt_cmp (pc_dnotin hu (pv 4) (pv 1)) rfl)
          (pss_one ps_never)
          pss_nil)))
      (pss_cons (ps_expr (pe_d dO hr (by decide) (by rfl) (pa_cons (pv 3) pa_nil)))
      (pss_one (ps_if (PW.pt (pw_and (pt_cmpR op_eq (pe_ix (r := rIxT K) ix_tup (pv 2) pe_int (fun _ _ => rfl)) pe_str (nomark _)) (pw_and1 (pt_cmpR op_ne (pe_ix (r := rIxT K) ix_tup (pe_dget hu (pv 1) (pe_ix ix_list (pv 3) pe_int (fun _ _ => rfl)) (fun _ _ => rfl)) pe_int (fun _ _ => rfl)) pe_str (nomark _)))))
        (pss_one ps_never)
        pss_nil)))))))), ?_⟩
  have hlen := al.length
  refine ⟨_, rfl, a, xs, 0, 5, rfl, hs, by omega, by omega, by omega, fun v hv H1 Q1 S1 q1 => ?_, fun H1 S1 => ?_⟩
  · obtain ⟨i, hi, ei⟩ := List.getElem_of_mem hv
    obtain ⟨q, r, rfl, hr', eq⟩ := (al.same S1).get (List.getElem?_eq_some_iff.mpr ⟨hi, ei⟩)
    exact ⟨q, r, ps, rfl, eq, g r (List.mem_of_getElem? hr'), gp, q1⟩
  refine ⟨_, rfl, iteF ?_⟩
  dsimp only [gName]
  refine ⟨_, rfl, a, xs, rfl, hs.same S1, fun J Gd hG wk => ?_⟩
  refine for_it wk (fun i σ G => (∃ v2 v3 v4 : Option V, σ = [some (.ref a), some (.ref d), v2, v3, v4]) ∧ Same H1 G) ⟨⟨_, _, _, rfl⟩, Same.refl _⟩ (fun i σ G _ h => hG _ h.2) ?_ (fun σ G h => k G (S1.trans h.2))
  rintro i v σ G0 G hi ⟨⟨v2, v3, v4, rfl⟩, S⟩ ⟨rfl, hx⟩
  have SG := S1.trans S
  obtain ⟨q, r, rfl, hr', eq⟩ := (al.same SG).get hx
  have gr := g r (List.mem_of_getElem? hr')
  have nl := gr.few
  dsimp only [gName]
  refine ⟨_, rfl, q, r, rfl, eq, by omega, fun l G1 SG1 nl1 el => ?_⟩
  dsimp only [gName]
  have S2 := SG.trans SG1
  refine ⟨_, rfl, l, rfl, ⟨_, SqL.of el⟩, ?_⟩
  refine for_it (walk_list (K := K) (a := l) (xs := r.nms.map V.str)) (fun j σ G => (∃ v4 : Option V, σ = [some (.ref a), some (.ref d), some (.ref q), some (.ref l), v4]) ∧ G = G1) ⟨⟨_, rfl⟩, rfl⟩ (fun j σ G _ h => by rw [h.2]; exact SqL.of el) ?_ ?_
  · rintro j v σ G2 G3 hj ⟨⟨v4, rfl⟩, rfl⟩ ⟨rfl, hx2⟩
    rw [List.getElem?_map] at hx2
    obtain ⟨nm, en, rfl⟩ := Option.map_eq_some_iff.mp hx2
    obtain ⟨pt, q2, _, _, _, ev⟩ := pt_in (K := K) (S2 _ _ ed) (alp.same S2) gp.nd (gr.inn nm (List.mem_of_getElem? en))
    refine ⟨_, rfl, _, rfl, d, some (.ref q2), rfl, .inl ⟨_, .inr nm, .inl (S2 _ _ ed), rfl, ev.symm⟩, _, rfl, iteF ⟨⟨_, rfl⟩, rfl⟩⟩
  rintro σ G2 ⟨⟨v4, rfl⟩, rfl⟩
  refine ⟨_, rfl, l, r.nms, rfl, SqL.of el, gr.nd, by omega, fun G3 S3 => ?_⟩
  have S4 := S2.trans S3
  have fin : ∀ v4 : Option V, (∃ v2 v3 v4' : Option V, [some (.ref a), some (.ref d), some (.ref q), some (.ref l), v4] = [some (.ref a), some (.ref d), v2, v3, v4']) ∧ Same H1 G3 := fun v4 => ⟨⟨_, _, _, rfl⟩, S.trans (SG1.trans S3)⟩
  cases eq with
  | same e =>
    refine ⟨_, rfl, q, _, 0, .str "same", rfl, rfl, SqT.of ((SG1.trans S3) _ _ e), rfl, rfl, _, rfl, ?_⟩
    refine ite2 (fun h => absurd (of_decide_eq_true h) (by decide)) (fun _ => iteF (fin _))
  | sum e et =>
    refine ⟨_, rfl, q, _, 0, .str "sum", rfl, rfl, SqT.of ((SG1.trans S3) _ _ e), rfl, rfl, _, rfl, ?_⟩
    refine ite2 (fun h => absurd (of_decide_eq_true h) (by decide)) (fun _ => iteF (fin _))
  | @gate n1 n2 e =>
    refine ⟨_, rfl, q, _, 0, .str "gate", rfl, rfl, SqT.of ((SG1.trans S3) _ _ e), rfl, rfl, _, rfl, ?_⟩
    refine ite2 (fun _ => ?_) (fun h => absurd (decide_eq_true rfl) h)
    obtain ⟨pt, q2, hpt, en, ept, ev⟩ := pt_in (K := K) (S4 _ _ ed) (alp.same S4) gp.nd (gr.inn n2 (by simp [Rel.nms]))
    obtain ⟨pt', hpt', en', sw⟩ := gr.valve n1 n2 rfl
    obtain rfl : pt = pt' := name_one gp.nd hpt hpt' (en.trans en'.symm)
    refine ⟨_, rfl, _, rfl, l, _, 1, .str n2, rfl, rfl, SqL.of (S3 _ _ el), rfl, d, .ref q2, rfl, .inl ⟨_, .inr n2, .inl (S4 _ _ ed), rfl, ev.symm⟩, q2, _, 2, .str (kd pt.sw), rfl, rfl, SqT.of ept, rfl, rfl, _, rfl, ?_⟩
    refine ite2 (fun h => absurd h (by rw [sw]; decide +kernel)) (fun _ => fin _)
end
end V51

set_option maxHeartbeats 8000000
namespace V51
open PySem PySem.Spec PyProof.Rows L2 Pw
/-! ### pictures, and whether a relation holds -/
def picK (l : List (Str × Int)) : List (Key × V) := l.map fun p => (.inr p.1, .int p.2)
def wg (l : List (Str × Int)) (n : Str) : Option Int := (l.find? fun p => decide (p.1 = n)).map (·.2)
def wo_ (l : List (Str × Int)) (n : Str) : Int := (wg l n).getD 0
theorem valV_pic (n : Str) : ∀ l : List (Str × Int), valV (picK l) (.inr n) = (wg l n).map V.int
  | [] => rfl
  | p :: l => by
    have ih := valV_pic n l
    unfold valV wg picK at ih ⊢
    rw [List.map_cons, List.find?_cons, List.find?_cons]
    by_cases e : p.1 = n
    · rw [decide_eq_true e, decide_eq_true (congrArg Sum.inr e)]
      rfl
    · rw [decide_eq_false e, decide_eq_false (fun z => e (Sum.inr.inj z))]
      exact ih
def tell (l : List (Str × Int)) : Rel → Bool
  | .same a b => decide (wo_ l a = wo_ l b)
  | .gate a b => decide (wo_ l b ≠ 0) || decide (wo_ l a = 0)
  | .sum a ns => decide (wo_ l a = (ns.map (wo_ l)).sum)
def hold (l : List (Str × Int)) (r : Rel) : Option Bool := if (r.nms.all fun n => (wg l n).isSome) = true then some (tell l r) else none
def hV : Option Bool → V
  | none => .non
  | some b => .bl b
theorem wg_some {l : List (Str × Int)} {n : Str} (h : (wg l n).isSome = true) : wg l n = some (wo_ l n) := by
  unfold wo_
  cases e : wg l n with
  | none => rw [e] at h; cases h
  | some x => rfl
theorem dec_int (x y : Int) : decide (V.int x = V.int y) = decide (x = y) := by
  by_cases h : x = y
  · rw [decide_eq_true h, decide_eq_true (congrArg V.int h)]
  · rw [decide_eq_false h, decide_eq_false fun z => h (V.int.inj z)]
theorem dec_ne (x : Int) : (!decide (V.int x = V.int 0)) = decide (x ≠ 0) := by
  rw [dec_int]
  by_cases h : x = 0 <;> simp [h]
section
variable {P : Program} {w : World} {K : PySem.W.Frag} {mg : Str → Option Value} {base : Heap} {C : Addr}
def spRl (C : Addr) (K : PySem.W.Frag) : Sp := fun vs H Q _ => ∃ p W, vs = [.ref p] ∧ WoAt K C H p W ∧ ∀ l H', Same H H' → H l = none → H' l = some (.lst W.xl) → Q (.ref l) H'
theorem d_rl (T : Txt mg) (Wc : WoC K C) (A : AtMt K C "relations" "Works.relations" mWorks_Relations) : DefM P w K mg base C "relations" 1 ["self"] (spRl C K) := by
  refine mkDefM A scmWorks_Relations (fun _ _ _ _ _ _ us hl => match us, hl with | [_], _ => rfl) (fun vs H Q E ⟨_, _, e, _⟩ => by rw [e]; rfl)
    (fun f cdv A out s H vs Q E hr h => ?_)
  obtain ⟨p, W, rfl, hw, k⟩ := h
  obtain ⟨dx, tp, dp, tr, dr, tc, tm, dm, tl, e0, e1, e2, e3, e4, e5, e6, e7, e8⟩ := hw.ex
  refine ⟨_, (pss_one (ps_ret (pe_callTy call_list_of (by rfl) T.list (by decide +kernel) (pa_cons (pe_fld (pv 0) rfl) pa_nil)))), ?_⟩
  refine ⟨_, rfl, p, C, dx, _, _, rfl, e0, Wc.cl, Wc.nRe, (lk_ne (by decide +kernel)).trans ((lk_ne (by decide +kernel)).trans ((lk_ne (by decide +kernel)).trans ((lk_ne (by decide +kernel)).trans ((lk_ne (by decide +kernel)).trans ((lk_ne (by decide +kernel)).trans ((lk_ne (by decide +kernel)).trans lk_eq)))))), tl, W.xl, rfl, .inr e8, fun l nl => ?_⟩
  exact k l _ (Same.laid nl) nl upd_same
def spHolds (K : PySem.W.Frag) : Sp := fun vs H Q _ => ∃ q d r l, vs = [.ref q, .ref d] ∧ RelAt H q r ∧ r.nms.length ≤ 4 ∧ H d = some (.dK (picK l)) ∧ ∀ H', Same H H' → Q (hV (hold l r)) H'
theorem d_holds (T : Txt mg) (A : At K mg "relation_holds" sRelationHolds) (dR : Def P w K mg base "points_of_relation" 1 ["relation"] (spPtsRel K)) :
    Def P w K mg base "relation_holds" 2 ["relation", "worths"] (spHolds K) := by
  refine mkDef A scRelationHolds (fun _ _ _ _ _ _ us hl => match us, hl with | [_, _], _ => rfl) (fun vs H Q E ⟨_, _, _, _, e, _⟩ => by rw [e]; rfl)
    (fun f cdv A out s H vs Q E hr h => ?_)
  obtain ⟨q, d, r, l, rfl, hq, n4, ed, k⟩ := h
  have hu : (A.deeper (envOfC "relation_holds" (defScope sRelationHolds) s.heap.objs.size f cdv)).units + 1 < cLine := hu_of hr
  refine ⟨_, (pss_cons (ps_for PassesOwn.never rfl (pi_list (pe_d dR hr (by decide) (by rfl) (pa_cons (pv 0) pa_nil))) (pg_name (i := 2) scRelationHolds.nd rfl (.inl rfl))
      (pss_one (ps_if (pt_cmp (pc_dnotin hu (pv 2) (pv 1)) rfl)
        (pss_one (ps_ret pe_non))
        pss_nil)))
    (pss_cons (ps_asg (pv 0) (pg_tup (by rfl) (pgs_cons (pg_name (i := 3) scRelationHolds.nd rfl (.inl rfl)) (pgs_cons (pg_name (i := 4) scRelationHolds.nd rfl (.inl rfl)) (pgs_cons (pg_name (i := 5) scRelationHolds.nd rfl (.inl rfl)) pgs_nil)))))
    (pss_cons (ps_if (pt_cmpR op_eq (pv 3) pe_str (nomark _))
      (pss_one (ps_ret (pe_cmpR op_eq (pe_dget hu (pv 1) (pv 4) (fun _ _ => rfl)) (pe_dget hu (pv 1) (pv 5) (fun _ _ => rfl)) (nomark _))))
      pss_nil)
    (pss_cons (ps_if (pt_cmpR op_eq (pv 3) pe_str (nomark _))
      (pss_one (ps_ret (pe_cmpR op_eq (pe_dget hu (pv 1) (pv 4) (fun _ _ => rfl)) (pe_callB (cr_sum rfl) (by rfl) T.sum PyProof.Rows.boot_sum (pa_cons (pe_lc (own := [("name", 2)]) (g := gName 2) (tt := tYes) rfl scRelationHolds.nd (pi_sq (pv 5))
        (blkOk_by (own := [("name", 2)]) (N := ["relation", "worths", "name", "word", "first", "rest"]) (sc := defScope sRelationHolds) (by decide +kernel))
        (fun _ _ _ _ _ => (pg_name (i := 2) scRelationHolds.nd rfl (.inl rfl))) (fun _ _ _ _ _ => pts_nil)
        (fun _ _ _ _ _ => (pe_dget hu (pv 1) (pv 2) (fun _ _ => rfl)))) pa_nil)) (nomark _))))
      pss_nil)
    (pss_one (ps_ret (pe_or (pe_cmpR op_ne (pe_dget hu (pv 1) (pv 5) (fun _ _ => rfl)) pe_int (nomark _)) (pe_one (pe_cmpR op_eq (pe_dget hu (pv 1) (pv 4) (fun _ _ => rfl)) pe_int (nomark _)))))))))), ?_⟩
  dsimp only [gName]
  refine ⟨_, rfl, q, r, rfl, hq, by omega, fun a H1 S1 na ea => ?_⟩
  refine ⟨a, rfl, ⟨_, SqL.of ea⟩, ?_⟩
  refine for_it (walk_list (K := K) (a := a) (xs := r.nms.map V.str)) (fun j σ G => (∃ v2 : Option V, σ = [some (.ref q), some (.ref d), v2, none, none, none]) ∧ G = H1 ∧ ((r.nms.take j).all fun n => (wg l n).isSome) = true) ⟨⟨_, rfl⟩, rfl, rfl⟩ (fun j σ G _ h => by rw [h.2.1]; exact SqL.of ea) ?_ ?_
  · rintro j v σ G2 G3 hj ⟨⟨v2, rfl⟩, rfl, hall⟩ ⟨rfl, hx2⟩
    rw [List.getElem?_map] at hx2
    obtain ⟨nm, en, rfl⟩ := Option.map_eq_some_iff.mp hx2
    refine ⟨_, rfl, _, rfl, d, (wg l nm).map V.int, rfl, .inl ⟨_, .inr nm, .inl (S1 _ _ ed), rfl, (valV_pic nm l).symm⟩, _, rfl, ?_⟩
    cases hw : wg l nm with
    | none =>
      refine iteT ?_
      have h0 : hold l r = none := by
        unfold hold
        rw [if_neg]
        intro z
        have := List.all_eq_true.mp z nm (List.mem_of_getElem? en)
        rw [hw] at this
        cases this
      have := k _ S1
      rw [h0] at this
      exact this
    | some x =>
      refine iteF ⟨⟨_, rfl⟩, rfl, ?_⟩
      rw [List.take_add_one, en, List.all_append, hall]
      simp [hw]
  rintro σ G2 ⟨⟨v2, rfl⟩, rfl, hall⟩
  rw [List.length_map, List.take_length] at hall
  have hh : hold l r = some (tell l r) := by unfold hold; rw [if_pos hall]
  rw [hh] at k
  have ed1 := S1 _ _ ed
  have get : ∀ n ∈ r.nms, ∀ G, Same G2 G → DGet G d (.str n) (some (.int (wo_ l n))) := fun n hn G SG => by
    have hs := List.all_eq_true.mp hall n hn
    have e1 := valV_pic n l
    rw [wg_some hs] at e1
    exact .inl ⟨_, .inr n, .inl (SG _ _ ed1), rfl, e1.symm⟩
  cases hq with
  | @same a b e =>
    refine ⟨_, rfl, q, _, rfl, SqT.of (S1 _ _ e), rfl, _, _, rfl, _, _, rfl, _, _, rfl, rfl, ?_⟩
    refine ⟨_, rfl, rfl, _, rfl, ?_⟩
    refine ite2 (fun _ => ?_) (fun h => absurd (decide_eq_true rfl) h)
    refine ⟨_, rfl, _, rfl, d, _, rfl, get a (by simp [Rel.nms]) _ (Same.refl _), _, rfl, _, rfl, d, _, rfl, get b (by simp [Rel.nms]) _ (Same.refl _), rfl, ?_⟩
    show Q (.bl (decide (V.int (wo_ l a) = V.int (wo_ l b)))) G2
    rw [dec_int]
    exact k _ S1
  | @gate a b e =>
    refine ⟨_, rfl, q, _, rfl, SqT.of (S1 _ _ e), rfl, _, _, rfl, _, _, rfl, _, _, rfl, rfl, ?_⟩
    refine ⟨_, rfl, rfl, _, rfl, ?_⟩
    refine ite2 (fun h => absurd (of_decide_eq_true h) (by decide)) (fun _ => ?_)
    refine ⟨_, rfl, rfl, _, rfl, ?_⟩
    refine ite2 (fun h => absurd (of_decide_eq_true h) (by decide)) (fun _ => ?_)
    have k1 := k _ S1
    refine ⟨_, rfl, _, rfl, d, _, rfl, get b (by simp [Rel.nms]) _ (Same.refl _), rfl, decide (wo_ l b ≠ 0), ?_, ?_⟩
    · exact congrArg V.bl (dec_ne _)
    by_cases hb : wo_ l b = 0
    · rw [decide_eq_false (not_not_intro hb)]
      refine iteF ⟨_, rfl, _, rfl, d, _, rfl, get a (by simp [Rel.nms]) _ (Same.refl _), rfl, ?_⟩
      show Q (.bl (decide (V.int (wo_ l a) = V.int 0))) G2
      rw [dec_int]
      have e3 : tell l (.gate a b) = decide (wo_ l a = 0) := by
        show (decide (wo_ l b ≠ 0) || decide (wo_ l a = 0)) = _
        rw [decide_eq_false (not_not_intro hb), Bool.false_or]
      rw [e3] at k1
      exact k1
    · rw [decide_eq_true hb]
      refine iteT ?_
      have e3 : tell l (.gate a b) = true := by
        show (decide (wo_ l b ≠ 0) || decide (wo_ l a = 0)) = _
        rw [decide_eq_true hb, Bool.true_or]
      rw [e3] at k1
      exact k1
  | @sum a ns t e et =>
    refine ⟨_, rfl, q, _, rfl, SqT.of (S1 _ _ e), rfl, _, _, rfl, _, _, rfl, _, _, rfl, rfl, ?_⟩
    refine ⟨_, rfl, rfl, _, rfl, ?_⟩
    refine ite2 (fun h => absurd (of_decide_eq_true h) (by decide)) (fun _ => ?_)
    refine ⟨_, rfl, rfl, _, rfl, ?_⟩
    refine ite2 (fun _ => ?_) (fun h => absurd (decide_eq_true rfl) h)
    have n3 : ns.length ≤ 3 := by
      have : (Rel.sum a ns).nms.length = ns.length + 1 := rfl
      omega
    refine ⟨_, rfl, _, rfl, d, _, rfl, get a (by simp [Rel.nms]) _ (Same.refl _), ?_⟩
    refine ⟨_, rfl, t, ns.map V.str, rfl, .inr (SqT.of (S1 _ _ et)), fun J Gd hG wk D nD => ?_⟩
    refine lc_acc wk nD (by rw [List.length_map]; omega) (fun i acc _ => acc = ((ns.take i).map (wo_ l)).map V.int) rfl hG ?_ ?_
    · rintro i v H2 H3 acc hi S2 eD hl2 rfl ⟨rfl, hx⟩ Fy Fn hy1 _
      rw [List.getElem?_map] at hx
      obtain ⟨nm, en, rfl⟩ := Option.map_eq_some_iff.mp hx
      refine ⟨rfl, ?_⟩
      unfold tYes
      refine iteT ?_
      refine ⟨_, rfl, _, rfl, d, _, rfl, get nm (by simp [Rel.nms, List.mem_of_getElem? en]) _ S2, ?_⟩
      refine hy1 _ _ (Same.refl _) ?_
      rw [List.take_add_one, en, List.map_append, List.map_append]
      rfl
    rintro H2 acc S2 eD rfl
    rw [List.length_map, List.take_length] at eD
    refine ⟨D, _, rfl, SqL.of eD, rfl, ?_⟩
    show Q (.bl (decide (V.int (wo_ l a) = V.int ((ns.map (wo_ l)).sum)))) H2
    rw [dec_int]
    exact k _ (S1.trans S2)
end
end V51

set_option maxHeartbeats 8000000
namespace V51
open PySem PySem.Spec PyProof.Rows L2 Pw
/-- None, True or False held against True or False by `is` -/
theorem op_isB {X : Cx} : OpR X (compareOp CmpOp.Is) fun x y H Q => ∃ (o : Option Bool) (b : Bool), x = hV o ∧ y = V.bl b ∧ Q (V.bl (decide (o = some b))) H := by
  intro pins s σ H x y a b Q I rx ry h
  obtain ⟨o, c, rfl, rfl, q⟩ := h
  cases o with
  | some d =>
    refine op_is_bl pins s σ H _ _ _ _ Q I rx ry ⟨d, c, rfl, rfl, ?_⟩
    have e : decide (some d = some c) = decide (d = c) := by cases d <;> cases c <;> rfl
    rw [← e]
    exact q
  | none =>
    obtain rfl : a = Value.none := rx
    obtain rfl : b = Value.bool c := ry
    have e : compareOp CmpOp.Is Value.none (Value.bool c) = pure (Value.bool false) := rfl
    rw [e]
    exact wpAny_pure ⟨.bl false, H, I, rfl, q⟩
theorem Same.wo_back {H G : Hp} {d : Addr} {o : HO} (S : Same (wo H d) (wo G d)) (e : H d = some o) : Same H (upd G d o) := fun c u ec => by
  by_cases h : c = d
  · subst h
    rw [upd_same, ← e]
    exact ec
  · rw [upd_ne h]
    exact wo_same _ _ (S c u (wo_of h ec))
structure GoodPic (ps : List Pt) (l : List (Str × Int)) : Prop where
  nd : (l.map Prod.fst).Nodup
  all : ∀ q ∈ l, ∃ pt ∈ ps, pt.nm = q.1 ∧ 0 ≤ q.2 ∧ q.2 ≤ hiP pt
  len : l.length ≤ 8
/-- numbers of relations that don't hold -/
def brk (l : List (Str × Int)) (rs : List Rel) : List Int := ((List.range rs.length).filter fun i => decide ((rs[i]?).bind (hold l) = some false)).map fun i : Nat => (i : Int)
theorem brk_step (l : List (Str × Int)) (rs : List Rel) {i : Nat} {r : Rel} (e : rs[i]? = some r) :
    ((List.range (i + 1)).filter fun i => decide ((rs[i]?).bind (hold l) = some false)).map (fun i : Nat => (i : Int)) =
      ((List.range i).filter fun i => decide ((rs[i]?).bind (hold l) = some false)).map (fun i : Nat => (i : Int)) ++ if hold l r = some false then [(i : Int)] else [] := by
  rw [List.range_succ, List.filter_append, List.map_append]
  congr 1
  rw [List.filter_cons, e]
  by_cases h : hold l r = some false
  · rw [if_pos h]
    simp [h]
  · rw [if_neg h]
    simp [h]
section
variable {P : Program} {w : World} {K : PySem.W.Frag} {mg : Str → Option Value} {base : Heap} {C : Addr}
structure PicAt (K : PySem.W.Frag) (C : Addr) (H : Hp) (p d : Addr) (W : Wks) (ps : List Pt) (l : List (Str × Int)) : Prop where
  wk : WoP K C (wo H d) p W ps
  ed : H d = some (.dK (picK l))
  g : GoodPic ps l
theorem PicAt.same {H H' : Hp} {p d : Addr} {W : Wks} {ps : List Pt} {l : List (Str × Int)} (h : PicAt K C H p d W ps l) (S : Same H H') : PicAt K C H' p d W ps l :=
  ⟨h.wk.same (Same.wo S), S _ _ h.ed, h.g⟩
def spCPic (C : Addr) (K : PySem.W.Frag) : Sp := fun vs H Q _ => ∃ p d W ps l, vs = [.ref p, .ref d] ∧ PicAt K C H p d W ps l ∧ ∀ H', Same H H' → Q .non H'
theorem d_cPic (T : Txt mg) (Wc : WoC K C) (A : At K mg "_check_picture" sCheckPicture) (dc : Def P w K mg base "check_works" 1 ["thing"] (spWorksC C K)) (dp : DefM P w K mg base C "has_point" 2 ["self", "thing"] (spHasP C K))
    (dw : DefM P w K mg base C "is_worth" 5 ["self", "point", "thing"] (spIsWorth C K)) : Def P w K mg base "_check_picture" 6 ["works", "thing"] (spCPic C K) := by
  refine mkDef A scCheckPicture (fun _ _ _ _ _ _ us hl => match us, hl with | [_, _], _ => rfl) (fun vs H Q E ⟨_, _, _, _, _, e, _⟩ => by rw [e]; rfl)
    (fun f cdv A out s H vs Q E hr h => ?_)
  obtain ⟨p, d, W, ps, l, rfl, hh, k⟩ := h
  have hu : (A.deeper (envOfC "_check_picture" (defScope sCheckPicture) s.heap.objs.size f cdv)).units + 1 < cLine := hu_of hr
  refine ⟨_, (pss_cons (ps_expr (pe_d dc hr (by decide) (by rfl) (pa_cons (pv 0) pa_nil)))
    (pss_cons (ps_if (pt_not (pt_val (pe_is T.isinstance (by rfl) (pv 1) T.dict (by rfl) (Tn := "dict") (by decide +kernel))))
      (pss_one ps_never)
      pss_nil)
    (pss_one (ps_lock (ps_for PassesOwn.never rfl (pi_keys (pv 1)) (pg_name (i := 2) scCheckPicture.nd rfl (.inl rfl))
      (pss_one (ps_if (pt_not (PW.pt (pw_and (pt_val (pe_mm (pv 0) Wc.cl dp hr (by decide) (pa_cons (pv 2) pa_nil))) (pw_and1 (pt_val (pe_mm (pv 0) Wc.cl dw hr (by decide) (pa_cons (pv 2) (pa_cons (pe_dget hu (pv 1) (pv 2) (fun _ _ => rfl)) pa_nil))))))))
        (pss_one ps_never)
        pss_nil))))))), ?_⟩
  refine ⟨_, rfl, p, W, rfl, hh.wk.wo.same wo_same, ?_⟩
  refine ⟨_, rfl, .ref d, .ty "dict", .type "dict", .type "dict", true, rfl, .ty _, .base (.base (.dK hh.ed)), kit_ty (by decide +kernel), _, rfl, iteF ?_⟩
  refine ⟨d, _, hh.ed, trivial, fun od => ?_⟩
  have ed : upd H d (.frz od (.dK (picK l))) d = some (.frz od (.dK (picK l))) := upd_same
  have S0 : Same (wo H d) (wo (upd H d (.frz od (.dK (picK l)))) d) := by rw [wo_upd]; exact Same.refl _
  generalize upd H d (.frz od (.dK (picK l))) = H0 at *
  refine ⟨_, rfl, d, od, rfl, .inl ⟨picK l, ed, ?_⟩⟩
  refine for_it (walk_keys (d := d) (o := od) (kvs := picK l)) (fun i σ G => (∃ v2 : Option V, σ = [some (.ref p), some (.ref d), v2]) ∧ Same (wo H d) (wo G d) ∧ G d = some (.frz od (.dK (picK l)))) ⟨⟨none, rfl⟩, S0, ed⟩ (fun i σ G _ h => h.2.2) ?_ ?_
  · rintro i v σ G0 G hi ⟨⟨v2, rfl⟩, S, eG⟩ ⟨rfl, kk, vv, hkv, rfl⟩
    unfold picK at hkv
    rw [List.getElem?_map] at hkv
    obtain ⟨q, hq, eq⟩ := Option.map_eq_some_iff.mp hkv
    cases eq
    obtain ⟨pt, hpt, en, x0, x1⟩ := hh.g.all q (List.mem_of_getElem? hq)
    have hw := (hh.wk.same S).same wo_same
    obtain ⟨dx, tp, dp', tr, dr, tc, tm, dm, tl, e0, _⟩ := hw.wo.ex
    refine ⟨_, rfl, p, dx, _, rfl, e0, wof_no (by decide +kernel) (by decide +kernel) (by decide +kernel) (by decide +kernel) (by decide +kernel) (by decide +kernel) (by decide +kernel) (by decide +kernel), _, rfl, p, W, ps, q.1, rfl, hw, en ▸ (hh.wk.g.all pt hpt).nm, fun G1 S1 => ?_⟩
    rw [decide_eq_true (List.mem_map.mpr ⟨pt, hpt, en⟩)]
    refine ⟨_, rfl, iteT ?_⟩
    have SG1 := S.trans (Same.wo S1)
    have eG1 := S1 _ _ eG
    have hw1 := hw.same S1
    obtain ⟨dx, tp, dp', tr, dr, tc, tm, dm, tl, e0, _⟩ := hw1.wo.ex
    obtain ⟨x', hx', hxq⟩ : ∃ x', valV (picK l) (.inr q.1) = some (.int x') ∧ x' = q.2 := by
      rw [valV_pic]
      obtain ⟨q', hf, en'⟩ : ∃ q', (l.find? fun p => decide (p.1 = q.1)) = some q' ∧ q'.1 = q.1 := by
        cases hf : l.find? fun p => decide (p.1 = q.1) with
        | none => exact absurd (decide_eq_true rfl) (List.find?_eq_none.mp hf q (List.mem_of_getElem? hq))
        | some q' => exact ⟨q', rfl, of_decide_eq_true (List.find?_some (p := fun p : Str × Int => decide (p.1 = q.1)) hf)⟩
      have hm := List.mem_of_find?_eq_some hf
      obtain ⟨j, hj, ej⟩ := List.getElem_of_mem hm
      obtain ⟨hi2, ei2⟩ := List.getElem?_eq_some_iff.mp hq
      have : i = j := by
        have nd := hh.g.nd
        rcases Nat.lt_trichotomy i j with h | h | h
        · have := (List.pairwise_iff_getElem.mp nd) i j (by simpa using hi2) (by simpa using hj) h
          simp only [List.getElem_map] at this
          rw [ei2, ej] at this
          exact absurd en'.symm this
        · exact h
        · have := (List.pairwise_iff_getElem.mp nd) j i (by simpa using hj) (by simpa using hi2) h
          simp only [List.getElem_map] at this
          rw [ei2, ej] at this
          exact absurd en' this
      subst this
      refine ⟨q'.2, by unfold wg; rw [hf]; rfl, ?_⟩
      rw [← ej, ei2]
    subst hxq
    refine ⟨_, rfl, p, dx, _, rfl, e0, wof_no (by decide +kernel) (by decide +kernel) (by decide +kernel) (by decide +kernel) (by decide +kernel) (by decide +kernel) (by decide +kernel) (by decide +kernel), _, rfl, _, rfl, _, rfl, d, .int q.2, rfl, .inl ⟨picK l, .inr q.1, .inr ⟨od, eG1⟩, rfl, hx'.symm⟩, ?_⟩
    refine ⟨p, W, ps, pt, .int q.2, _, by rw [en]; rfl, hw1, hpt, fun _ => .int _, fun G2 S2 => ?_⟩
    rw [whole_in x0 x1]
    exact ⟨_, rfl, iteF ⟨⟨_, rfl⟩, SG1.trans (Same.wo S2), S2 _ _ eG1⟩⟩
  · rintro σ G ⟨⟨v2, rfl⟩, S, eG⟩
    exact ⟨eG, k _ (Same.wo_back S hh.ed)⟩
def spBrkIn (K : PySem.W.Frag) : Sp := fun vs H Q _ => ∃ a d xs rs l ps, vs = [.ref a, .ref d] ∧ H a = some (.lst xs) ∧ AlR H xs rs ∧ (∀ r ∈ rs, GoodRel ps r) ∧ rs.length ≤ 1000 ∧ H d = some (.dK (picK l)) ∧
  ∀ b H', Same H H' → H b = none → H' b = some (.lst ((brk l rs).map V.int)) → Q (.ref b) H'
theorem d_brkIn (T : Txt mg) (A : At K mg "_broken_in" sBrokenIn) (dh : Def P w K mg base "relation_holds" 2 ["relation", "worths"] (spHolds K)) :
    Def P w K mg base "_broken_in" 3 ["relations", "picture"] (spBrkIn K) := by
  refine mkDef A scBrokenIn (fun _ _ _ _ _ _ us hl => match us, hl with | [_, _], _ => rfl) (fun vs H Q E ⟨_, _, _, _, _, _, e, _⟩ => by rw [e]; rfl)
    (fun f cdv A out s H vs Q E hr h => ?_)
  obtain ⟨a, d, xs, rs, l, ps, rfl, ea, al, g, ln, ed, k⟩ := h
  refine ⟨_, (pss_one (ps_ret (pe_lc (own := [("at", 2), ("relation", 3)]) (g := (gTup K 2 (gCons (gName 2) (gCons (gName 3) gNil)))) rfl scBrokenIn.nd (pi_enum (by rfl) T.enumerate (pa_cons (pv 0) pa_nil))
        (blkOk_by (own := [("at", 2), ("relation", 3)]) (N := ["relations", "picture", "at", "relation"]) (sc := defScope sBrokenIn) (by decide +kernel))
        (fun _ _ _ _ _ => (pg_tup (by rfl) (pgs_cons (pg_name (i := 2) scBrokenIn.nd rfl (.inl rfl)) (pgs_cons (pg_name (i := 3) scBrokenIn.nd rfl (.inl rfl)) pgs_nil)))) (fun _ _ _ _ _ => (pts_one (pt_cmpR op_isB (pe_d dh hr (by decide) (by rfl) (pa_cons (pv 3) (pa_cons (pv 1) pa_nil))) pe_bl (nomark _))))
        (fun _ _ _ _ _ => (pv 2))))), ?_⟩
  have hlen := al.length
  refine ⟨_, rfl, a, xs, rfl, SqL.of ea, fun D nD => ?_⟩
  refine lc_acc (walk_enum (K := K) (a := a) (xs := xs)) nD (by omega) (fun i acc G => acc = (((List.range i).filter fun i => decide ((rs[i]?).bind (hold l) = some false)).map fun i : Nat => (i : Int)).map V.int) rfl (fun H' S => SqL.of (S _ _ ea)) ?_ ?_
  · rintro i v G0 G1 acc hi S eD hl rfl hy Fy Fn hy1 hy2
    obtain ⟨q1, x, y, rfl, nq1, rfl, ex, ey⟩ := hy
    cases ex
    obtain ⟨q2, r, rfl, hr', er⟩ := al.get ey
    have gr := g r (List.mem_of_getElem? hr')
    have U := Same.laid (o := HO.tup [V.int (i : Int), .ref q2]) nq1
    refine ⟨q1, _, rfl, SqT.of upd_same, rfl, _, _, rfl, _, _, rfl, rfl, ?_⟩
    generalize upd G0 q1 (.tup [V.int (i : Int), .ref q2]) = G2 at *
    refine ⟨rfl, ?_⟩
    refine ⟨_, rfl, _, rfl, q2, d, r, l, rfl, er.same' (S.trans U), gr.few, (S.trans U) _ _ ed, fun G3 S3 => ?_⟩
    refine ⟨hold l r, false, rfl, rfl, _, rfl, ?_⟩
    rw [brk_step l rs hr'] at hy1 hy2
    by_cases h : hold l r = some false
    · rw [decide_eq_true h]
      refine iteT ⟨_, rfl, hy1 _ _ (U.trans S3) ?_⟩
      rw [if_pos h, List.map_append]
      rfl
    · rw [decide_eq_false h]
      refine iteF (hy2 _ (U.trans S3) ?_)
      rw [if_neg h, List.append_nil]
  · rintro G acc S eD rfl
    rw [hlen] at eD
    exact k D G S nD eD
def spBroken (C : Addr) (K : PySem.W.Frag) : Sp := fun vs H Q _ => ∃ p d W ps l rs, vs = [.ref p, .ref d] ∧ PicAt K C H p d W ps l ∧ AlR H W.xl rs ∧ (∀ r ∈ rs, GoodRel ps r) ∧ rs.length ≤ 5 ∧
  ∀ b H', Same H H' → H b = none → H' b = some (.lst ((brk l rs).map V.int)) → Q (.ref b) H'
theorem d_broken (Wc : WoC K C) (A : At K mg "broken" sBroken) (dc : Def P w K mg base "_check_picture" 6 ["works", "thing"] (spCPic C K)) (dr : DefM P w K mg base C "relations" 1 ["self"] (spRl C K))
    (db : Def P w K mg base "_broken_in" 3 ["relations", "picture"] (spBrkIn K)) : Def P w K mg base "broken" 7 ["works", "picture"] (spBroken C K) := by
  refine mkDef A scBroken (fun _ _ _ _ _ _ us hl => match us, hl with | [_, _], _ => rfl) (fun vs H Q E ⟨_, _, _, _, _, _, e, _⟩ => by rw [e]; rfl)
    (fun f cdv A out s H vs Q E hr h => ?_)
  obtain ⟨p, d, W, ps, l, rs, rfl, hh, al, g, l5, k⟩ := h
  refine ⟨_, (pss_cons (ps_expr (pe_d dc hr (by decide) (by rfl) (pa_cons (pv 0) (pa_cons (pv 1) pa_nil))))
    (pss_one (ps_ret (pe_d db hr (by decide) (by rfl) (pa_cons (pe_mm0 (pv 0) Wc.cl dr hr (by decide)) (pa_cons (pv 1) pa_nil)))))), ?_⟩
  refine ⟨_, rfl, _, rfl, p, d, W, ps, l, rfl, hh, fun H1 S1 => ?_⟩
  have hw := (hh.same S1).wk.same wo_same
  obtain ⟨dx, tp, dp', tr, dr', tc, tm, dm, tl, e0, _⟩ := hw.wo.ex
  refine ⟨_, rfl, p, dx, _, rfl, e0, wof_no (by decide +kernel) (by decide +kernel) (by decide +kernel) (by decide +kernel) (by decide +kernel) (by decide +kernel) (by decide +kernel) (by decide +kernel), p, W, rfl, hw.wo, fun a H2 S2 na ea => ?_⟩
  have S12 := S1.trans S2
  exact ⟨_, rfl, a, d, W.xl, rs, l, ps, rfl, ea, al.same S12, g, by omega, S12 _ _ hh.ed, fun b H3 S3 nb eb => k b H3 (S12.trans S3) (Same.no S12 nb) eb⟩
end
end V51

set_option maxHeartbeats 8000000
namespace V51
open PySem PySem.Spec PyProof.Rows L2 Pw
theorem canLay_strs : ∀ ys : List Str, (∀ y ∈ ys, PyData.strOk y = true) → PyData.canLayAll0 (ys.map .str) = true
  | [], _ => by simp only [List.map_nil, PyData.canLayAll0]
  | y :: r, h => by
    have h1 := h y List.mem_cons_self
    simp only [List.map_cons, PyData.canLayAll0, PyData.canLay0, canLay_strs r (fun z hz => h z (List.mem_cons_of_mem _ hz)), h1, Bool.and_self]
theorem depth_strs : ∀ ys : List Str, PyData.depthAll (ys.map .str) = 0
  | [] => by simp only [List.map_nil, PyData.depthAll]
  | y :: r => by simp only [List.map_cons, PyData.depthAll, PyData.depth, depth_strs r, Nat.max_self]
theorem shaped_strs (ys : List Str) (h : ∀ y ∈ ys, PyData.strOk y = true) : SeqAt.shaped (.list (ys.map .str)) = true := by
  unfold SeqAt.shaped
  simp only [PyData.canLay0, PyData.depth, canLay_strs ys h, depth_strs]
  rfl
theorem eqv_strs (ys : List Str) : PyData.eqv (.list (ys.map .str)) (.list []) = ys.isEmpty := by
  cases ys <;> simp [PyData.eqv, PyData.eqvAll]
theorem dp_strs {K : PySem.W.Frag} {H : Hp} : ∀ ys : List Str, DpAll K H (ys.map V.str) (ys.map .str)
  | [] => .nil
  | y :: r => .cons (.str y) (dp_strs r)
theorem ne_nil {K : PySem.W.Frag} {H : Hp} {Q : VK} {D q : Addr} {ys : List Str} (hD : H D = some (.lst (ys.map V.str)))
    (hq : H q = some (.lst [])) (ho : ∀ y ∈ ys, PyData.strOk y = true) (h : Q (.bl !ys.isEmpty) H) : rNeD K (.ref D) (.ref q) H Q :=
  ⟨.list (ys.map .str), .list [], .lst (SqL.of hD) (dp_strs ys), .lst (xs := []) (SqL.of hq) .nil, shaped_strs ys ho, rfl, by
    rw [eqv_strs]
    exact h⟩
theorem okS {s : Str} (h : OkName s) : PyData.strOk s = true := by
  have h2 := (h.sh s rfl).2
  unfold PyData.strOk
  rw [Array.all_eq_true']
  intro c hc
  have := h2 c (by simpa using hc)
  exact decide_eq_true (by omega)
theorem filt_one : ∀ {ps : List Pt} {pt : Pt}, (ps.map Pt.nm).Nodup → pt ∈ ps → (ps.filter fun x => decide (x.nm = pt.nm)) = [pt]
  | [], _, _, h => by cases h
  | p :: ps, pt, nd, h => by
    have nd' := List.nodup_cons.mp (show (p.nm :: ps.map Pt.nm).Nodup from nd)
    rw [List.filter_cons]
    rcases List.mem_cons.mp h with rfl | h
    · rw [decide_eq_true rfl, if_pos rfl]
      have : (ps.filter fun x => decide (x.nm = pt.nm)) = [] := by
        refine List.filter_eq_nil_iff.mpr fun x hx z => nd'.1 ?_
        rw [← of_decide_eq_true z]
        exact List.mem_map.mpr ⟨x, hx, rfl⟩
      rw [this]
    · have hne : p.nm ≠ pt.nm := fun z => nd'.1 (by rw [z]; exact List.mem_map.mpr ⟨pt, h, rfl⟩)
      rw [decide_eq_false hne]
      exact filt_one nd'.2 h
section
variable {P : Program} {w : World} {K : PySem.W.Frag} {mg : Str → Option Value} {base : Heap} {C : Addr}
def spIn1 (K : PySem.W.Frag) : Sp := fun vs H Q _ => ∃ q r, vs = [.ref q] ∧ RelAt H q r ∧ r.nms.length ≤ 1000 ∧ ∀ l H', Same H H' → H l = none → H' l = some (.lst (r.nms.map V.str)) → Q (.ref l) H'
theorem d_lin (T : Txt mg) (A : At K mg "_law_in" sLawIn) : Def P w K mg base "_law_in" 1 ["_law_bond"] (spIn1 K) := by
  refine mkDef A scLawIn (fun _ _ _ _ _ _ us hl => match us, hl with | [_], _ => rfl) (fun vs H Q E ⟨_, _, e, _⟩ => by rw [e]; rfl)
    (fun f cdv A out s H vs Q E hr h => ?_)
  obtain ⟨q, r, rfl, hq, hl, k⟩ := h
  refine ⟨_, (pss_one (ps_ret (pe_op op_cat (pe_lst (pa_cons (pe_ix ix_tup (pv 0) pe_int (fun _ _ => rfl)) pa_nil)) (pe_ifExp (pt_cmpR op_eq (pe_ix ix_tup (pv 0) pe_int (fun _ _ => rfl)) pe_str (nomark _)) (pe_callTy call_list_of (by rfl) T.list (by decide +kernel) (pa_cons (pe_ix ix_tup (pv 0) pe_int (fun _ _ => rfl)) pa_nil)) (pe_lst (pa_cons (pe_ix ix_tup (pv 0) pe_int (fun _ _ => rfl)) pa_nil)))))), ?_⟩
  have small : r.nms.length ≤ sizeLine := Nat.le_trans hl (by decide)
  have fin : ∀ (G : Hp) (l1 l2 : Addr) (a : Str) (ns : List Str), r.nms = a :: ns → Same H G → G l1 = some (.lst [.str a]) → G l2 = some (.lst (ns.map V.str)) → rCat (.ref l1) (.ref l2) G Q := fun G l1 l2 a ns en S e1 e2 => by
    refine ⟨l1, l2, _, _, rfl, rfl, e1, e2, ?_, fun p np => k p _ (S.trans (Same.laid np)) (Same.no S np) (by rw [upd_same, en]; rfl)⟩
    rw [en, List.length_cons] at small
    rw [List.length_singleton, List.length_map]
    omega
  cases hq with
  | @same a b e =>
    refine ⟨_, rfl, q, _, 1, .str a, rfl, rfl, SqT.of e, rfl, by show 1 ≤ sizeLine; decide, fun l1 n1 => ?_⟩
    have S1 := Same.laid (o := HO.lst [.str a]) n1
    have e1 : upd H l1 (.lst [.str a]) l1 = some (.lst [.str a]) := upd_same
    generalize upd H l1 (.lst [.str a]) = H1 at *
    refine ⟨_, rfl, q, _, 0, .str "same", rfl, rfl, SqT.of (S1 _ _ e), rfl, rfl, _, rfl, ?_⟩
    refine ite2 (fun h => absurd (of_decide_eq_true h) (by decide)) (fun _ => ?_)
    refine ⟨_, rfl, q, _, 2, .str b, rfl, rfl, SqT.of (S1 _ _ e), rfl, by show 1 ≤ sizeLine; decide, fun l2 n2 => ?_⟩
    exact fin _ l1 l2 a [b] rfl (S1.trans (Same.laid n2)) (Same.laid n2 _ _ e1) upd_same
  | @gate a b e =>
    refine ⟨_, rfl, q, _, 1, .str a, rfl, rfl, SqT.of e, rfl, by show 1 ≤ sizeLine; decide, fun l1 n1 => ?_⟩
    have S1 := Same.laid (o := HO.lst [.str a]) n1
    have e1 : upd H l1 (.lst [.str a]) l1 = some (.lst [.str a]) := upd_same
    generalize upd H l1 (.lst [.str a]) = H1 at *
    refine ⟨_, rfl, q, _, 0, .str "gate", rfl, rfl, SqT.of (S1 _ _ e), rfl, rfl, _, rfl, ?_⟩
    refine ite2 (fun h => absurd (of_decide_eq_true h) (by decide)) (fun _ => ?_)
    refine ⟨_, rfl, q, _, 2, .str b, rfl, rfl, SqT.of (S1 _ _ e), rfl, by show 1 ≤ sizeLine; decide, fun l2 n2 => ?_⟩
    exact fin _ l1 l2 a [b] rfl (S1.trans (Same.laid n2)) (Same.laid n2 _ _ e1) upd_same
  | @sum a ns t e et =>
    refine ⟨_, rfl, q, _, 1, .str a, rfl, rfl, SqT.of e, rfl, by show 1 ≤ sizeLine; decide, fun l1 n1 => ?_⟩
    have S1 := Same.laid (o := HO.lst [.str a]) n1
    have e1 : upd H l1 (.lst [.str a]) l1 = some (.lst [.str a]) := upd_same
    generalize upd H l1 (.lst [.str a]) = H1 at *
    refine ⟨_, rfl, q, _, 0, .str "sum", rfl, rfl, SqT.of (S1 _ _ e), rfl, rfl, _, rfl, ?_⟩
    refine ite2 (fun _ => ?_) (fun h => absurd (decide_eq_true rfl) h)
    refine ⟨_, rfl, q, _, 2, .ref t, rfl, rfl, SqT.of (S1 _ _ e), rfl, t, _, rfl, .inr (SqT.of (S1 _ _ et)), fun l2 n2 => ?_⟩
    exact fin _ l1 l2 a ns rfl (S1.trans (Same.laid n2)) (Same.laid n2 _ _ e1) upd_same
def spMost (K : PySem.W.Frag) : Sp := fun vs H Q _ => ∃ a ps pt, vs = [.ref a, .str (Pt.nm pt)] ∧ LT fP H a ps ∧ GoodPs ps ∧ pt ∈ ps ∧ ∀ H', Same H H' → Q (.int (hiP pt)) H'
theorem d_most (T : Txt mg) (A : At K mg "_law_most" sLawMost) : Def P w K mg base "_law_most" 1 ["_law_points_here", "_law_name"] (spMost K) := by
  refine mkDef A scLawMost (fun _ _ _ _ _ _ us hl => match us, hl with | [_, _], _ => rfl) (fun vs H Q E ⟨_, _, _, e, _⟩ => by rw [e]; rfl)
    (fun f cdv A out s H vs Q E hr h => ?_)
  obtain ⟨a, ps, pt, rfl, hps, gp, hpt, k⟩ := h
  refine ⟨_, (pss_one (ps_ret (pe_ix ix_list (pe_lc (own := [("_law_point", 2)]) (g := gName 2) rfl scLawMost.nd (pi_list (pv 0))
        (blkOk_by (own := [("_law_point", 2)]) (N := ["_law_points_here", "_law_name", "_law_point"]) (sc := defScope sLawMost) (by decide +kernel))
        (fun _ _ _ _ _ => (pg_name (i := 2) scLawMost.nd rfl (.inl rfl))) (fun _ _ _ _ _ => (pts_one (pt_cmpR op_eq (pe_ix (r := rIxT K) ix_tup (pv 2) pe_int (fun _ _ => rfl)) (pv 1) (nomark _))))
        (fun _ _ _ _ _ => (pe_ifExp (pt_cmpR op_eq (pe_ix (r := rIxT K) ix_tup (pv 2) pe_int (fun _ _ => rfl)) pe_str (nomark _)) pe_int pe_int))) pe_int (fun _ _ => rfl)))), ?_⟩
  obtain ⟨vs, ea, al⟩ := hps.ex
  have hlen := al.length
  have l8 := gp.len
  refine ⟨_, rfl, a, rfl, ⟨_, SqL.of ea⟩, fun D nD => ?_⟩
  refine lc_acc (walk_list (K := K) (a := a) (xs := vs)) nD (by omega) (fun i acc _ => acc = (((ps.take i).filter fun x => decide (x.nm = pt.nm)).map hiP).map V.int) rfl (fun H' S => SqL.of (S _ _ ea)) ?_ ?_
  · rintro i v G0 G acc hi S eD hl rfl ⟨rfl, hx⟩ Fy Fn hy1 hy2
    obtain ⟨q, x, rfl, hx', eq⟩ := (al.same S).get hx
    have et : ps.take (i + 1) = ps.take i ++ [x] := by rw [List.take_add_one, hx']; rfl
    rw [et, List.filter_append, List.map_append, List.map_append] at hy1 hy2
    refine ⟨rfl, ?_⟩
    refine ⟨_, rfl, q, fP x, 0, .str x.nm, rfl, rfl, SqT.of eq, rfl, _, rfl, rfl, _, rfl, ?_⟩
    have eb : decide (V.str x.nm = V.str pt.nm) = decide (x.nm = pt.nm) := by
      by_cases h : x.nm = pt.nm
      · rw [decide_eq_true h, decide_eq_true (congrArg V.str h)]
      · rw [decide_eq_false h, decide_eq_false fun z => h (V.str.inj z)]
    rw [eb]
    by_cases h : x.nm = pt.nm
    · rw [decide_eq_true h]
      refine iteT ?_
      refine ⟨_, rfl, q, fP x, 2, .str (kd x.sw), rfl, rfl, SqT.of eq, rfl, rfl, _, rfl, ?_⟩
      rw [kd_level]
      have fx : List.filter (fun y => decide (y.nm = pt.nm)) [x] = [x] := by rw [List.filter_cons, decide_eq_true h]; rfl
      rw [fx] at hy1
      cases hsw : x.sw with
      | true =>
        refine iteF (hy1 _ _ (Same.refl _) ?_)
        have : hiP x = 1 := by unfold hiP; rw [if_pos hsw]
        simp [this]
      | false =>
        refine iteT (hy1 _ _ (Same.refl _) ?_)
        have : hiP x = 63 := by unfold hiP; rw [if_neg (by rw [hsw]; decide)]
        simp [this]
    · rw [decide_eq_false h]
      refine iteF (hy2 _ (Same.refl _) ?_)
      rw [List.filter_cons, decide_eq_false h]
      simp
  · rintro G acc S eD rfl
    rw [List.take_of_length_le (by omega)] at eD
    have fe : (ps.filter fun x => decide (x.nm = pt.nm)) = [pt] := by
      exact filt_one gp.nd hpt
    rw [fe] at eD
    exact ⟨D, _, 0, _, rfl, rfl, SqL.of eD, rfl, k _ S⟩
end
end V51

set_option maxHeartbeats 8000000
namespace V51
open PySem PySem.Spec PyProof.Rows L2 Pw
section
variable {P : Program} {w : World} {K : PySem.W.Frag} {mg : Str → Option Value} {base : Heap} {C : Addr}
def spLHolds (K : PySem.W.Frag) : Sp := fun vs H Q _ => ∃ q d r l ps, vs = [.ref q, .ref d] ∧ RelAt H q r ∧ GoodRel ps r ∧ GoodPs ps ∧ H d = some (.dK (picK l)) ∧ GoodPic ps l ∧ ∀ H', Same H H' → Q (hV (hold l r)) H'
theorem d_lholds (T : Txt mg) (A : At K mg "_law_holds" sLawHolds) (dI : Def P w K mg base "_law_in" 1 ["_law_bond"] (spIn1 K)) :
    Def P w K mg base "_law_holds" 2 ["_law_bond", "_law_worths"] (spLHolds K) := by
  refine mkDef A scLawHolds (fun _ _ _ _ _ _ us hl => match us, hl with | [_, _], _ => rfl) (fun vs H Q E ⟨_, _, _, _, _, e, _⟩ => by rw [e]; rfl)
    (fun f cdv A out s H vs Q E hr h => ?_)
  obtain ⟨q, d, r, l, ps, rfl, hq, g, gp, ed, gl, k⟩ := h
  have hu : (A.deeper (envOfC "_law_holds" (defScope sLawHolds) s.heap.objs.size f cdv)).units + 1 < cLine := hu_of hr
  refine ⟨_, (pss_cons (ps_par (i := 2) (j := 3) rfl scLawHolds.nd rfl rfl (by decide) rfl rfl (pa_cons (pe_ix ix_tup (pv 0) pe_int (fun _ _ => rfl)) (pa_cons (pe_slice sl_list (pe_d dI hr (by decide) (by rfl) (pa_cons (pv 0) pa_nil)) (po_some pe_int) po_none) pa_nil)) rfl)
    (pss_cons (ps_if (pt_cmpR (op_neD hr.units) (pe_lc (own := [("_law_name", 4)]) (g := gName 4) rfl scLawHolds.nd (pi_list (pe_op op_cat (pe_lst (pa_cons (pv 2) pa_nil)) (pv 3)))
        (blkOk_by (own := [("_law_name", 4)]) (N := ["_law_bond", "_law_worths", "_law_first", "_law_others", "_law_name"]) (sc := defScope sLawHolds) (by decide +kernel))
        (fun _ _ _ _ _ => (pg_name (i := 4) scLawHolds.nd rfl (.inl rfl))) (fun _ _ _ _ _ => (pts_one (pt_cmp (pc_dnotin hu (pv 4) (pv 1)) rfl)))
        (fun _ _ _ _ _ => (pv 4))) (pe_lst pa_nil) (nomark _))
      (pss_one (ps_ret pe_non))
      pss_nil)
    (pss_cons (ps_if (pt_cmpR op_eq (pe_ix ix_tup (pv 0) pe_int (fun _ _ => rfl)) pe_str (nomark _))
      (pss_one (ps_ret (pe_or (pe_cmpR op_eq (pe_dget hu (pv 1) (pe_ix ix_list (pv 3) pe_int (fun _ _ => rfl)) (fun _ _ => rfl)) pe_int (nomark _)) (pe_one (pe_cmpR op_eq (pe_dget hu (pv 1) (pv 2) (fun _ _ => rfl)) pe_int (nomark _))))))
      pss_nil)
    (pss_one (ps_ret (pe_cmpR op_eq (pe_dget hu (pv 1) (pv 2) (fun _ _ => rfl)) (pe_callB (cr_sum rfl) (by rfl) T.sum PyProof.Rows.boot_sum (pa_cons (pe_lc (own := [("_law_name", 4)]) (g := gName 4) (tt := tYes) rfl scLawHolds.nd (pi_list (pv 3))
        (blkOk_by (own := [("_law_name", 4)]) (N := ["_law_bond", "_law_worths", "_law_first", "_law_others", "_law_name"]) (sc := defScope sLawHolds) (by decide +kernel))
        (fun _ _ _ _ _ => (pg_name (i := 4) scLawHolds.nd rfl (.inl rfl))) (fun _ _ _ _ _ => pts_nil)
        (fun _ _ _ _ _ => (pe_dget hu (pv 1) (pv 4) (fun _ _ => rfl)))) pa_nil)) (nomark _))))))), ?_⟩
  have n4 := g.few
  obtain ⟨a, ot, en, et0⟩ : ∃ a ot, r.nms = a :: ot ∧ ∃ w0 x, H q = some (.tup [.str w0, .str a, x]) ∧ ((∃ b1 b2, r = .gate b1 b2) ↔ w0 = "gate") := by
    cases hq with
    | same e => exact ⟨_, _, rfl, _, _, e, Iff.intro (fun h => by obtain ⟨_, _, h⟩ := h; cases h) (fun h => absurd h (by decide +kernel))⟩
    | gate e => exact ⟨_, _, rfl, _, _, e, Iff.intro (fun _ => rfl) (fun _ => ⟨_, _, rfl⟩)⟩
    | sum e et => exact ⟨_, _, rfl, _, _, e, Iff.intro (fun h => by obtain ⟨_, _, h⟩ := h; cases h) (fun h => absurd h (by decide +kernel))⟩
  obtain ⟨w0, x0, eq, hgate⟩ := et0
  refine ⟨_, rfl, q, _, 1, .str a, rfl, rfl, SqT.of eq, rfl, ?_⟩
  refine ⟨_, rfl, q, r, rfl, hq, by omega, fun l1 H1 S1 n1 e1 => ?_⟩
  refine ⟨1, rfl, l1, _, rfl, SqL.of e1, fun l2 n2 => ?_⟩
  rw [cut1, show (r.nms.map V.str).drop 1 = ot.map V.str by rw [en]; rfl]
  have S2 := Same.laid (o := HO.lst (ot.map V.str)) n2
  have e2 : upd H1 l2 (.lst (ot.map V.str)) l2 = some (.lst (ot.map V.str)) := upd_same
  generalize upd H1 l2 (.lst (ot.map V.str)) = H2 at *
  have S12 := S1.trans S2
  refine ⟨_, _, rfl, ?_⟩
  have ol : ot.length ≤ 3 := by
    have := congrArg List.length en
    rw [List.length_cons] at this
    omega
  -- those that aren't there
  refine ⟨_, rfl, by show 1 ≤ sizeLine; decide, fun l3 n3 => ?_⟩
  have S3 := Same.laid (o := HO.lst [.str a]) n3
  have e3 : upd H2 l3 (.lst [.str a]) l3 = some (.lst [.str a]) := upd_same
  generalize upd H2 l3 (.lst [.str a]) = H3 at *
  refine ⟨_, rfl, l3, l2, _, _, rfl, rfl, e3, S3 _ _ e2, ?_, fun l4 n4' => ?_⟩
  · rw [List.length_map]
    exact Nat.le_trans (show 1 + ot.length ≤ 4 by omega) (by decide)
  have e4' : ([V.str a] ++ ot.map V.str) = r.nms.map V.str := by rw [en]; rfl
  rw [e4']
  have S4 := Same.laid (o := HO.lst (r.nms.map V.str)) n4'
  have e4 : upd H3 l4 (.lst (r.nms.map V.str)) l4 = some (.lst (r.nms.map V.str)) := upd_same
  generalize upd H3 l4 (.lst (r.nms.map V.str)) = H4 at *
  have S14 := S12.trans (S3.trans S4)
  refine ⟨l4, rfl, ⟨_, SqL.of e4⟩, fun D nD => ?_⟩
  refine lc_acc (walk_list (K := K) (a := l4) (xs := r.nms.map V.str)) nD (by rw [List.length_map]; omega) (fun i acc _ => acc = ((r.nms.take i).filter fun n => (wg l n).isNone).map V.str) rfl (fun H' S => SqL.of (S _ _ e4)) ?_ ?_
  · rintro i v G0 G acc hi S eD hl rfl ⟨rfl, hx⟩ Fy Fn hy1 hy2
    rw [List.getElem?_map] at hx
    obtain ⟨nm, enm, rfl⟩ := Option.map_eq_some_iff.mp hx
    have et : r.nms.take (i + 1) = r.nms.take i ++ [nm] := by rw [List.take_add_one, enm]; rfl
    rw [et, List.filter_append, List.map_append] at hy1 hy2
    refine ⟨rfl, ?_⟩
    refine ⟨_, rfl, _, rfl, d, (wg l nm).map V.int, rfl, .inl ⟨_, .inr nm, .inl ((S14.trans S) _ _ ed), rfl, (valV_pic nm l).symm⟩, _, rfl, ?_⟩
    cases hw : wg l nm with
    | none =>
      refine iteT ⟨_, rfl, hy1 _ _ (Same.refl _) ?_⟩
      simp [hw]
    | some x =>
      refine iteF (hy2 _ (Same.refl _) ?_)
      simp [hw]
  rintro H5 acc S5 eD rfl
  rw [List.length_map, List.take_length] at eD
  refine ⟨by show 0 ≤ sizeLine; decide, fun z nz => ?_⟩
  have S6 := Same.laid (o := HO.lst []) nz
  have ez : upd H5 z (.lst []) z = some (.lst []) := upd_same
  have eD6 := S6 _ _ eD
  generalize upd H5 z (.lst []) = H6 at *
  have S56 := S5.trans S6
  have S16 := S14.trans S56
  refine ne_nil eD6 ez (fun y hy => okS (g.ok gp y (List.mem_filter.mp hy).1)) ⟨_, rfl, ?_⟩
  have ed6 := S16 _ _ ed
  by_cases hall : (r.nms.all fun n => (wg l n).isSome) = true
  · have h0 : (r.nms.filter fun n => (wg l n).isNone) = [] := List.filter_eq_nil_iff.mpr fun n hn => by
      have := List.all_eq_true.mp hall n hn
      cases hw : wg l n with
      | none => rw [hw] at this; cases this
      | some x => simp
    rw [h0]
    refine iteF ?_
    have hh : hold l r = some (tell l r) := by unfold hold; rw [if_pos hall]
    rw [hh] at k
    have get : ∀ n ∈ r.nms, ∀ G, Same H6 G → DGet G d (.str n) (some (.int (wo_ l n))) := fun n hn G SG => by
      have hs := List.all_eq_true.mp hall n hn
      have e1 := valV_pic n l
      rw [wg_some hs] at e1
      exact .inl ⟨_, .inr n, .inl (SG _ _ ed6), rfl, e1.symm⟩
    have ain : a ∈ r.nms := by rw [en]; exact List.mem_cons_self
    have oin : ∀ n ∈ ot, n ∈ r.nms := fun n hn => by rw [en]; exact List.mem_cons_of_mem _ hn
    have e26 : H6 l2 = some (.lst (ot.map V.str)) := S56 _ _ (S4 _ _ (S3 _ _ e2))
    refine ⟨_, rfl, q, _, 0, .str w0, rfl, rfl, SqT.of (S16 _ _ eq), rfl, rfl, _, rfl, ?_⟩
    refine ite2 (fun h => ?_) (fun h => ?_)
    · have hw0 : w0 = "gate" := V.str.inj (of_decide_eq_true h)
      obtain ⟨b1, b2, rfl⟩ := hgate.mpr hw0
      obtain ⟨rfl, rfl⟩ : b1 = a ∧ [b2] = ot := by
        have : [b1, b2] = a :: ot := en
        injection this with h1 h2
        exact ⟨h1, h2⟩
      obtain ⟨pt, hpt, ept, sw⟩ := g.valve b1 b2 rfl
      have v01 : wo_ l b2 = 0 ∨ wo_ l b2 = 1 := by
        have hs := List.all_eq_true.mp hall b2 (by simp [Rel.nms])
        unfold wo_ wg at *
        cases hf : l.find? fun p => decide (p.1 = b2) with
        | none => exact .inl rfl
        | some q' =>
          obtain ⟨pt', hpt', e', x0, x1⟩ := gl.all q' (List.mem_of_find?_eq_some hf)
          have e'' : q'.1 = b2 := of_decide_eq_true (List.find?_some (p := fun p : Str × Int => decide (p.1 = b2)) hf)
          obtain rfl : pt' = pt := name_one gp.nd hpt' hpt (e'.trans (e''.trans ept.symm))
          unfold hiP at x1
          rw [if_pos sw] at x1
          show q'.2 = 0 ∨ q'.2 = 1
          omega
      refine ⟨_, rfl, _, rfl, l2, _, 0, .str b2, rfl, rfl, SqL.of e26, rfl, d, _, rfl, get b2 (by simp [Rel.nms]) _ (Same.refl _), rfl, decide (wo_ l b2 = 1), congrArg V.bl (dec_int _ _), ?_⟩
      have e5 : tell l (.gate b1 b2) = (decide (wo_ l b2 = 1) || decide (wo_ l b1 = 0)) := by
        show (decide (wo_ l b2 ≠ 0) || decide (wo_ l b1 = 0)) = _
        rcases v01 with h | h <;> rw [h] <;> rfl
      rw [e5] at k
      have k1 := k _ S16
      by_cases hb : wo_ l b2 = 1
      · rw [decide_eq_true hb] at k1 ⊢
        exact iteT k1
      · rw [decide_eq_false hb] at k1 ⊢
        refine iteF ⟨_, rfl, _, rfl, d, _, rfl, get b1 (by simp [Rel.nms]) _ (Same.refl _), rfl, ?_⟩
        show Q (.bl (decide (V.int (wo_ l b1) = V.int 0))) H6
        rw [dec_int]
        exact k1
    · have e5 : tell l r = decide (wo_ l a = (ot.map (wo_ l)).sum) := by
        cases r with
        | gate b1 b2 => exact absurd (decide_eq_true (congrArg V.str (hgate.mp ⟨b1, b2, rfl⟩))) h
        | same b1 b2 =>
          injection (show [b1, b2] = a :: ot from en) with h1 h2
          subst h1 h2
          show decide (wo_ l b1 = wo_ l b2) = decide (wo_ l b1 = wo_ l b2 + 0)
          rw [Int.add_zero]
        | sum b1 ns =>
          injection (show b1 :: ns = a :: ot from en) with h1 h2
          subst h1 h2
          rfl
      rw [e5] at k
      refine ⟨_, rfl, _, rfl, d, _, rfl, get a ain _ (Same.refl _), ?_⟩
      refine ⟨_, rfl, l2, rfl, ⟨_, SqL.of e26⟩, fun D2 nD2 => ?_⟩
      refine lc_acc (walk_list (K := K) (a := l2) (xs := ot.map V.str)) nD2 (by rw [List.length_map]; omega) (fun i acc _ => acc = ((ot.take i).map (wo_ l)).map V.int) rfl (fun H' S => SqL.of (S _ _ e26)) ?_ ?_
      · rintro i v G0 G acc hi S eD hl rfl ⟨rfl, hx⟩ Fy Fn hy1 _
        rw [List.getElem?_map] at hx
        obtain ⟨nm, enm, rfl⟩ := Option.map_eq_some_iff.mp hx
        refine ⟨rfl, ?_⟩
        unfold tYes
        refine iteT ?_
        refine ⟨_, rfl, _, rfl, d, _, rfl, get nm (oin nm (List.mem_of_getElem? enm)) _ S, ?_⟩
        refine hy1 _ _ (Same.refl _) ?_
        rw [List.take_add_one, enm, List.map_append, List.map_append]
        rfl
      rintro H7 acc S7 eD2 rfl
      rw [List.length_map, List.take_length] at eD2
      refine ⟨D2, _, rfl, SqL.of eD2, rfl, ?_⟩
      show Q (.bl (decide (V.int (wo_ l a) = V.int ((ot.map (wo_ l)).sum)))) H7
      rw [dec_int]
      exact k _ (S16.trans S7)
  · have hh : hold l r = none := by unfold hold; rw [if_neg hall]
    rw [hh] at k
    have hne : (r.nms.filter fun n => (wg l n).isNone) ≠ [] := fun z => hall (List.all_eq_true.mpr fun n hn => by
      have := List.filter_eq_nil_iff.mp z n hn
      cases hw : wg l n with
      | none => rw [hw] at this; exact absurd rfl this
      | some x => rfl)
    rw [show (!(r.nms.filter fun n => (wg l n).isNone).isEmpty) = true by simpa using hne]
    exact iteT (k _ S16)
end
end V51

set_option maxHeartbeats 8000000
namespace V51
open PySem PySem.Spec PyProof.Rows L2 Pw
theorem cut_1k (xs : List V) (k : Nat) : cutV xs (some 1) (some ((k + 2 : Nat) : Int)) = (xs.take (k + 2)).drop 1 := by
  unfold cutV
  have e1 : HT.sIx xs.length 0 (some 1) = min 1 xs.length := HT.sIx_nat _ _ 1
  rw [e1, HT.sIx_nat, List.drop_take]
  by_cases h : 1 ≤ xs.length
  · rw [Nat.min_eq_left h]
    by_cases h2 : k + 2 ≤ xs.length
    · rw [Nat.min_eq_left h2]
    · rw [Nat.min_eq_right (by omega), List.take_of_length_le (by rw [List.length_drop]; omega), List.take_of_length_le (by rw [List.length_drop]; omega)]
  · have : xs = [] := List.eq_nil_of_length_eq_zero (by omega)
    subst this
    simp
theorem kd_switch (b : Bool) : decide (V.str (kd b) = V.str "switch") = b := by cases b <;> decide +kernel
def unS : V → Str
  | .str s => s
  | _ => ""
theorem perm_strs {ys : List V} {ns : List Str} (h : ys.Perm (ns.map V.str)) : ∃ os : List Str, ys = os.map V.str ∧ os.Perm ns := by
  refine ⟨ys.map unS, ?_, ?_⟩
  · rw [List.map_map]
    refine (List.map_id _).symm.trans (List.map_congr_left fun y hy => ?_)
    obtain ⟨s, _, rfl⟩ := List.mem_map.mp (h.mem_iff.mp hy)
    rfl
  · have := h.map unS
    rw [List.map_map] at this
    have e : ns.map (unS ∘ V.str) = ns := (List.map_congr_left fun s _ => rfl).trans (List.map_id _)
    rw [e] at this
    exact this
theorem AlR.but {H H' : Hp} {p : Addr} {n : Nat} {vs : List V} {rs : List Rel} (h : AlR H vs rs) (hb : BoxAt H p n) (B : But p H H') : AlR H' vs rs := by
  obtain ⟨ws, e⟩ := hb.lst
  exact h.imp fun q xs eq => B.at (fun z => by rw [z, e] at eq; cases eq) eq
theorem rel_push {G G1 : Hp} {F q : Addr} {vs : List V} {rs : List Rel} {r : Rel} (al : AlR G vs rs) (S : Same G G1) (eF : G1 F = some (.lst vs)) (hq : RelAt G1 q r) :
    AlR (upd G1 F (.lst (vs ++ [.ref q]))) (vs ++ [.ref q]) (rs ++ [r]) := by
  have off : ∀ b xs, G1 b = some (.tup xs) → upd G1 F (.lst (vs ++ [.ref q])) b = some (.tup xs) := fun b xs e => (upd_ne (fun z => by rw [z, eF] at e; cases e)).trans e
  exact ((al.same S).imp off).snoc (hq.imp off)
section
variable {P : Program} {w : World} {K : PySem.W.Frag} {mg : Str → Option Value} {base : Heap} {C : Addr}
def spLBrk (K : PySem.W.Frag) : Sp := fun vs H Q _ => ∃ a d xs rs l ps, vs = [.ref a, .ref d] ∧ H a = some (.lst xs) ∧ AlR H xs rs ∧ (∀ r ∈ rs, GoodRel ps r) ∧ GoodPs ps ∧ rs.length ≤ 1000 ∧ H d = some (.dK (picK l)) ∧ GoodPic ps l ∧
  ∀ b H', Same H H' → H b = none → H' b = some (.lst ((brk l rs).map V.int)) → Q (.ref b) H'
theorem d_lbrk (T : Txt mg) (A : At K mg "_law_broken" sLawBroken) (dh : Def P w K mg base "_law_holds" 2 ["_law_bond", "_law_worths"] (spLHolds K)) :
    Def P w K mg base "_law_broken" 3 ["_law_bonds_here", "_law_worths"] (spLBrk K) := by
  refine mkDef A scLawBroken (fun _ _ _ _ _ _ us hl => match us, hl with | [_, _], _ => rfl) (fun vs H Q E ⟨_, _, _, _, _, _, e, _⟩ => by rw [e]; rfl)
    (fun f cdv A out s H vs Q E hr h => ?_)
  obtain ⟨a, d, xs, rs, l, ps, rfl, ea, al, g, gp, ln, ed, gl, k⟩ := h
  refine ⟨_, (pss_one (ps_ret (pe_lc (own := [("_law_at", 2), ("_law_bond", 3)]) (g := (gTup K 2 (gCons (gName 2) (gCons (gName 3) gNil)))) rfl scLawBroken.nd (pi_enum (by rfl) T.enumerate (pa_cons (pv 0) pa_nil))
        (blkOk_by (own := [("_law_at", 2), ("_law_bond", 3)]) (N := ["_law_bonds_here", "_law_worths", "_law_at", "_law_bond"]) (sc := defScope sLawBroken) (by decide +kernel))
        (fun _ _ _ _ _ => (pg_tup (by rfl) (pgs_cons (pg_name (i := 2) scLawBroken.nd rfl (.inl rfl)) (pgs_cons (pg_name (i := 3) scLawBroken.nd rfl (.inl rfl)) pgs_nil)))) (fun _ _ _ _ _ => (pts_one (pt_cmpR op_isB (pe_d dh hr (by decide) (by rfl) (pa_cons (pv 3) (pa_cons (pv 1) pa_nil))) pe_bl (nomark _))))
        (fun _ _ _ _ _ => (pv 2))))), ?_⟩
  have hlen := al.length
  refine ⟨_, rfl, a, xs, rfl, SqL.of ea, fun D nD => ?_⟩
  refine lc_acc (walk_enum (K := K) (a := a) (xs := xs)) nD (by omega) (fun i acc G => acc = (((List.range i).filter fun i => decide ((rs[i]?).bind (hold l) = some false)).map fun i : Nat => (i : Int)).map V.int) rfl (fun H' S => SqL.of (S _ _ ea)) ?_ ?_
  · rintro i v G0 G1 acc hi S eD hl rfl hy Fy Fn hy1 hy2
    obtain ⟨q1, x, y, rfl, nq1, rfl, ex, ey⟩ := hy
    cases ex
    obtain ⟨q2, r, rfl, hr', er⟩ := al.get ey
    have gr := g r (List.mem_of_getElem? hr')
    have U := Same.laid (o := HO.tup [V.int (i : Int), .ref q2]) nq1
    refine ⟨q1, _, rfl, SqT.of upd_same, rfl, _, _, rfl, _, _, rfl, rfl, ?_⟩
    generalize upd G0 q1 (.tup [V.int (i : Int), .ref q2]) = G2 at *
    refine ⟨rfl, ?_⟩
    refine ⟨_, rfl, _, rfl, q2, d, r, l, ps, rfl, er.same' (S.trans U), gr, gp, (S.trans U) _ _ ed, gl, fun G3 S3 => ?_⟩
    refine ⟨hold l r, false, rfl, rfl, _, rfl, ?_⟩
    rw [brk_step l rs hr'] at hy1 hy2
    by_cases h : hold l r = some false
    · rw [decide_eq_true h]
      refine iteT ⟨_, rfl, hy1 _ _ (U.trans S3) ?_⟩
      rw [if_pos h, List.map_append]
      rfl
    · rw [decide_eq_false h]
      refine iteF (hy2 _ (U.trans S3) ?_)
      rw [if_neg h, List.append_nil]
  · rintro G acc S eD rfl
    rw [hlen] at eD
    exact k D G S nD eD
def spBonds (K : PySem.W.Frag) : Sp := fun vs H Q _ => ∃ p a n ps, vs = [.ref p, .ref a] ∧ BoxAt H p n ∧ n ≤ 800000 ∧ a ≠ p ∧ LT fP H a ps ∧ GoodPs ps ∧
  ∀ b H' vs rs, H b = none → b ≠ p → BoxAt H' p (n + 60) → But p H H' → H' b = some (.lst vs) → AlR H' vs rs → (∀ r ∈ rs, GoodRel ps r) → rs.length ≤ 5 → Q (.ref b) H'
theorem d_bonds (T : Txt mg) (A : At K mg "_law_bonds" sLawBonds) (dt : Def P w K mg base "_law_take" 1 ["_law_box_here", "_law_many"] (spTake K)) (dm : Def P w K mg base "_law_mixed" 2 ["_law_box_here", "_law_some"] (spMixed K)) :
    Def P w K mg base "_law_bonds" 3 ["_law_box_here", "_law_points_here"] (spBonds K) := by
  refine mkDef A scLawBonds (fun _ _ _ _ _ _ us hl => match us, hl with | [_, _], _ => rfl) (fun vs H Q E ⟨_, _, _, _, e, _⟩ => by rw [e]; rfl)
    (fun f cdv A out s H vs Q E hr h => ?_)
  obtain ⟨p, a, n, ps, rfl, hb, hn, ap, hps, gp, k⟩ := h
  refine ⟨_, (pss_cons (ps_set (i := 2) scLawBonds.nd rfl (.inl rfl) (pe_lst pa_nil))
    (pss_cons (ps_for PassesOwn.never rfl (pi_range1 (by rfl) T.range (pa_cons (pe_d dt hr (by decide) (by rfl) (pa_cons (pv 0) (pa_cons pe_int pa_nil))) pa_nil)) (pg_name (i := 3) scLawBonds.nd rfl (.inl rfl))
      (pss_cons (ps_set (i := 4) scLawBonds.nd rfl (.inr rfl) (pe_d dm hr (by decide) (by rfl) (pa_cons (pv 0) (pa_cons (pe_lc (own := [("_law_point", 7)]) (g := gName 7) (tt := tYes) rfl scLawBonds.nd (pi_list (pv 1))
        (blkOk_by (own := [("_law_point", 7)]) (N := ["_law_box_here", "_law_points_here", "_law_found", "_law_lap", "_law_order", "_law_valves", "_law_way", "_law_point"]) (sc := defScope sLawBonds) (by decide +kernel))
        (fun _ _ _ _ _ => (pg_name (i := 7) scLawBonds.nd rfl (.inl rfl))) (fun _ _ _ _ _ => pts_nil)
        (fun _ _ _ _ _ => (pe_ix (r := rIxT K) ix_tup (pv 7) pe_int (fun _ _ => rfl)))) pa_nil))))
      (pss_cons (ps_setLc (i := 5) (own := [("_law_point", 7)]) (g := gName 7) rfl scLawBonds.nd rfl rfl (sw_true rfl rfl rfl (by decide +kernel)) (pi_list (pv 1))
        (blkOk_by (own := [("_law_point", 7)]) (N := ["_law_box_here", "_law_points_here", "_law_found", "_law_lap", "_law_order", "_law_valves", "_law_way", "_law_point"]) (sc := defScope sLawBonds) (by decide +kernel))
        (fun _ _ _ _ _ => (pg_name (i := 7) scLawBonds.nd rfl (.inl rfl))) (fun _ _ _ _ _ => (pts_one (PW.pt (pw_and (pt_cmpR op_eq (pe_ix (r := rIxT K) ix_tup (pv 7) pe_int (fun _ _ => rfl)) pe_str (nomark _)) (pw_and1 (pt_cmpR op_ne (pe_ix (r := rIxT K) ix_tup (pv 7) pe_int (fun _ _ => rfl)) (pe_ix (r := rIxL K) ix_list (pv 4) pe_int (fun _ _ => rfl)) (nomark _)))))))
        (fun _ _ _ _ _ => (pe_ix (r := rIxT K) ix_tup (pv 7) pe_int (fun _ _ => rfl))))
      (pss_cons (ps_set (i := 6) scLawBonds.nd rfl (.inl rfl) (pe_d dt hr (by decide) (by rfl) (pa_cons (pv 0) (pa_cons pe_int pa_nil))))
      (pss_cons (ps_if (PW.pt (pw_and (pt_cmpR op_eq (pv 6) pe_int (nomark _)) (pw_and1 (pt_cmpR op_gt (pe_callB call_len_seq (by rfl) T.len PySem.boot_len (pa_cons (pv 4) pa_nil)) pe_int (nomark _)))))
        (pss_one (ps_expr (pe_bm PySem.F.plainAttrs_list PySem.F.slot_list_append PySem.F.type_list_append mt_append (pv 2) (pa_cons (pe_tup (pa_cons pe_str (pa_cons (pe_ix ix_list (pv 4) pe_int (fun _ _ => rfl)) (pa_cons (pe_ix ix_list (pv 4) pe_int (fun _ _ => rfl)) pa_nil)))) pa_nil))))
        pss_nil)
      (pss_cons (ps_if (PW.pt (pw_and (pt_cmpR op_in_seq (pv 6) (pe_tup (pa_cons pe_int (pa_cons pe_int pa_nil))) (by rfl)) (pw_and1 (pt_cmpR op_gt (pe_callB call_len_seq (by rfl) T.len PySem.boot_len (pa_cons (pv 4) pa_nil)) pe_int (nomark _)))))
        (pss_one (ps_expr (pe_bm PySem.F.plainAttrs_list PySem.F.slot_list_append PySem.F.type_list_append mt_append (pv 2) (pa_cons (pe_tup (pa_cons pe_str (pa_cons (pe_ix ix_list (pv 4) pe_int (fun _ _ => rfl)) (pa_cons (pe_callTy call_tuple_of (by rfl) T.tuple (by decide +kernel) (pa_cons (pe_slice sl_list (pv 4) (po_some pe_int) (po_some (pe_op op_add pe_int (pe_d dt hr (by decide) (by rfl) (pa_cons (pv 0) (pa_cons (pe_callB (call_min2 rfl) (by rfl) T.min PyProof.Rows.boot_min (pa_cons pe_int (pa_cons (pe_op op_sub (pe_callB call_len_seq (by rfl) T.len PySem.boot_len (pa_cons (pv 4) pa_nil)) pe_int) pa_nil))) pa_nil)))))) pa_nil)) pa_nil)))) pa_nil))))
        pss_nil)
      (pss_one (ps_if (PW.pt (pw_and (pt_cmpR op_eq (pv 6) pe_int (nomark _)) (pw_and1 (pt_cmpR (op_neD hr.units) (pv 5) (pe_lst pa_nil) (nomark _)))))
        (pss_one (ps_expr (pe_bm PySem.F.plainAttrs_list PySem.F.slot_list_append PySem.F.type_list_append mt_append (pv 2) (pa_cons (pe_tup (pa_cons pe_str (pa_cons (pe_ix ix_list (pv 4) pe_int (fun _ _ => rfl)) (pa_cons (pe_ix ix_list (pv 5) (pe_d dt hr (by decide) (by rfl) (pa_cons (pv 0) (pa_cons (pe_callB call_len_seq (by rfl) T.len PySem.boot_len (pa_cons (pv 5) pa_nil)) pa_nil))) (fun _ _ => rfl)) pa_nil)))) pa_nil))))
        pss_nil))))))))
    (pss_one (ps_ret (pv 2))))), ?_⟩
  obtain ⟨pv', ea, alp⟩ := hps.ex
  have plen := alp.length
  have p8 := gp.len
  have p1 := gp.pos
  refine ⟨by show 0 ≤ sizeLine; decide, fun F nF => ?_⟩
  have Fp := hb.ne nF
  have aF : a ≠ F := ne_of_none ea nF
  have S1 := Same.laid (o := HO.lst []) nF
  have eF : upd H F (.lst []) F = some (.lst []) := upd_same
  generalize upd H F (.lst []) = H1 at *
  refine ⟨_, rfl, p, 6, n, rfl, hb.keep S1, by omega, by decide, by decide, fun m H2 m0 m6 hb2 B2 => ?_⟩
  obtain ⟨mm, rfl⟩ := Int.eq_ofNat_of_zero_le m0
  refine ⟨(mm : Int), rfl, by omega, by omega, ?_⟩
  have BH2 : But p H H2 := (Same.but S1).trans B2
  refine for_it (walk_range (lo := 0) (n := mm)) (fun i σ X => (∃ v3 v4 v5 v6 : Option V, σ = [some (.ref p), some (.ref a), some (.ref F), v3, v4, v5, v6, none]) ∧ BoxAt X p (n + 1 + 11 * i) ∧ But p H X ∧
      ∃ (vs : List V) (rs : List Rel), X F = some (.lst vs) ∧ AlR X vs rs ∧ (∀ r ∈ rs, GoodRel ps r) ∧ rs.length ≤ i) ?_ (fun _ _ _ _ _ => trivial) ?_ ?_
  · exact ⟨⟨_, _, _, _, rfl⟩, hb2, BH2, [], [], B2.at Fp eF, .nil, fun r h => (by cases h), by decide⟩
  · rintro i v σ X0 X hi ⟨⟨v3, v4, v5, v6, rfl⟩, hbX, BX, vs, rs, eFX, alr, gr, rl⟩ ⟨rfl, rfl⟩
    dsimp only [gName]
    have eaX := BX.at ap ea
    have alX : Al fP X pv' ps := Al.but alp hb BX
    -- the order
    refine ⟨_, rfl, _, rfl, a, rfl, ⟨_, SqL.of eaX⟩, fun D nD => ?_⟩
    have Dp := hbX.ne nD
    refine lc_acc (walk_list (K := K) (a := a) (xs := pv')) nD (by omega) (fun i acc _ => acc = ((ps.take i).map Pt.nm).map V.str) rfl (fun H' S => SqL.of (S _ _ eaX)) ?_ ?_
    · rintro i2 v G0 G acc hi S eD hl rfl ⟨rfl, hx⟩ Fy Fn hy1 _
      obtain ⟨q, x, rfl, hx', eq⟩ := (alX.same S).get hx
      refine ⟨rfl, ?_⟩
      unfold tYes
      refine iteT ?_
      refine ⟨_, rfl, q, fP x, 0, .str x.nm, rfl, rfl, SqT.of eq, rfl, ?_⟩
      refine hy1 _ _ (Same.refl _) ?_
      rw [List.take_add_one, hx', List.map_append, List.map_append]
      rfl
    rintro X1 acc S2 eD rfl
    rw [List.take_of_length_le (by omega)] at eD
    refine ⟨p, D, _, _, rfl, hbX.keep S2, by omega, Dp, eD, by rw [List.length_map, List.length_map]; omega, fun O X2 ys nO Op hbO BO eO pe => ?_⟩
    rw [List.length_map, List.length_map] at hbO
    obtain ⟨os, rfl, po⟩ := perm_strs pe
    have ol : os.length = ps.length := by rw [po.length_eq, List.length_map]
    have ond : os.Nodup := po.nodup_iff.mpr gp.nd
    have oin : ∀ s ∈ os, s ∈ ps.map (·.nm) := fun s hs => po.mem_iff.mp hs
    dsimp only [gName]
    have BX2 : But p X X2 := (Same.but S2).trans BO
    obtain ⟨o0, ot, rfl⟩ : ∃ o0 ot, os = o0 :: ot := by
      cases os with
      | nil => rw [List.length_nil] at ol; omega
      | cons o0 ot => exact ⟨o0, ot, rfl⟩
    have eaX2 := BX2.at ap eaX
    have alX2 : Al fP X2 pv' ps := Al.but alX hbX BX2
    have at0 : atI ((o0 :: ot).map V.str) 0 = some (V.str o0) := atI_nat (j := 0) (by rfl)
    -- the valves
    refine ⟨_, rfl, a, rfl, ⟨_, SqL.of eaX2⟩, fun D2 nD2 => ?_⟩
    have D2p := hbO.ne nD2
    refine lc_acc (walk_list (K := K) (a := a) (xs := pv')) nD2 (by omega) (fun i acc _ => acc = (((ps.take i).filter fun x => x.sw && decide (x.nm ≠ o0)).map Pt.nm).map V.str) rfl (fun H' S => SqL.of (S _ _ eaX2)) ?_ ?_
    · rintro i2 v G0 G acc hi S eD hl rfl ⟨rfl, hx⟩ Fy Fn hy1 hy2
      obtain ⟨q, x, rfl, hx', eq⟩ := (alX2.same S).get hx
      have et : ps.take (i2 + 1) = ps.take i2 ++ [x] := by rw [List.take_add_one, hx']; rfl
      rw [et, List.filter_append, List.map_append, List.map_append] at hy1 hy2
      refine ⟨rfl, ?_⟩
      have eO4 : G O = some (.lst ((o0 :: ot).map V.str)) := S _ _ eO
      refine ⟨_, rfl, q, fP x, 2, .str (kd x.sw), rfl, rfl, SqT.of eq, rfl, rfl, _, rfl, ?_⟩
      rw [kd_switch]
      cases hsw : x.sw with
      | false =>
        refine iteF (iteF (hy2 _ (Same.refl _) ?_))
        simp [hsw]
      | true =>
        refine iteT ?_
        refine ⟨_, rfl, q, fP x, 0, .str x.nm, rfl, rfl, SqT.of eq, rfl, _, rfl, O, _, 0, .str o0, rfl, rfl, SqL.of eO4, at0, rfl, _, rfl, ?_⟩
        have eb : (!decide (V.str x.nm = V.str o0)) = decide (x.nm ≠ o0) := by
          by_cases h : x.nm = o0
          · rw [decide_eq_true (congrArg V.str h), decide_eq_false (not_not_intro h)]; rfl
          · rw [decide_eq_false fun z => h (V.str.inj z), decide_eq_true h]; rfl
        rw [eb]
        by_cases h : x.nm = o0
        · rw [decide_eq_false (not_not_intro h)]
          refine iteF (hy2 _ (Same.refl _) ?_)
          simp [hsw, h]
        · rw [decide_eq_true h]
          refine iteT ⟨_, rfl, q, fP x, 0, .str x.nm, rfl, rfl, SqT.of eq, rfl, ?_⟩
          refine hy1 _ _ (Same.refl _) ?_
          simp [hsw, h]
    rintro X3 acc S3 eD2 rfl
    rw [List.take_of_length_le (by omega)] at eD2
    dsimp only [gName]
    generalize hva : (ps.filter fun x => x.sw && decide (x.nm ≠ o0)).map Pt.nm = va at eD2
    have vin : ∀ s ∈ va, s ≠ o0 ∧ ∃ pt ∈ ps, pt.nm = s ∧ pt.sw = true := fun s hs => by
      rw [← hva] at hs
      obtain ⟨pt, hpt, rfl⟩ := List.mem_map.mp hs
      obtain ⟨h1, h2⟩ := List.mem_filter.mp hpt
      rw [Bool.and_eq_true, decide_eq_true_eq] at h2
      exact ⟨h2.2, pt, h1, rfl, h2.1⟩
    have val8 : va.length ≤ 8 := by
      rw [← hva, List.length_map]
      exact Nat.le_trans (List.length_filter_le _ _) gp.len
    have hb3 := hbO.keep S3
    have eO3 := S3 _ _ eO
    have BX3 : But p X X3 := BX2.trans (Same.but S3)
    -- the way
    refine ⟨_, rfl, p, 4, _, rfl, hb3, by omega, by decide, by decide, fun wy X4 w0 w4 hb4 B4 => ?_⟩
    dsimp only [gName]
    have eO4 := B4.at Op eO3
    have eD4 := B4.at D2p eD2
    have BX4 : But p X X4 := BX3.trans B4
    have eF4 := BX4.at Fp eFX
    have al4 : AlR X4 vs rs := alr.but hbX BX4
    have OF : O ≠ F := fun z => by rw [z, S2 _ _ eFX] at nO; cases nO
    have DF : D2 ≠ F := fun z => by rw [z, BX2.at Fp eFX] at nD2; cases nD2
    have o1 : o0 ∈ ps.map (·.nm) := oin o0 List.mem_cons_self
    -- what a relation more makes
    have push : ∀ (G G1 : Hp) (q : Addr) (vs : List V) (rs : List Rel) (r : Rel) (m : Nat), BoxAt G1 p m → But p H G → AlR G vs rs → (∀ r ∈ rs, GoodRel ps r) → G F = some (.lst vs) → G O = some (.lst ((o0 :: ot).map V.str)) → G D2 = some (.lst (va.map V.str)) → rs.length ≤ i →
        Same G G1 → RelAt G1 q r → GoodRel ps r → ∃ us, G1 F = some (.lst us) ∧ us.length < sizeLine ∧ BoxAt (upd G1 F (.lst (us ++ [.ref q]))) p m ∧ But p H (upd G1 F (.lst (us ++ [.ref q]))) ∧ (upd G1 F (.lst (us ++ [.ref q]))) O = some (.lst ((o0 :: ot).map V.str)) ∧ (upd G1 F (.lst (us ++ [.ref q]))) D2 = some (.lst (va.map V.str)) ∧
          ∃ (vs : List V) (rs : List Rel), (upd G1 F (.lst (us ++ [.ref q]))) F = some (.lst vs) ∧ AlR (upd G1 F (.lst (us ++ [.ref q]))) vs rs ∧ (∀ r ∈ rs, GoodRel ps r) ∧ rs.length ≤ i + 1 := by
      intro G G1 q vs rs r m hbm BG al gr eFG eOG eDG rl S hq g
      have eF1 := S _ _ eFG
      have l1 := al.length
      refine ⟨vs, eF1, ?_, hbm.set Fp, But.wo_upd (BG.trans (Same.but S)) nF, (upd_ne OF).trans (S _ _ eOG), (upd_ne DF).trans (S _ _ eDG), _, _, upd_same, rel_push al S eF1 hq, fun x hx => ?_, by rw [List.length_append]; simp; omega⟩
      · rw [l1]
        exact Nat.lt_of_le_of_lt (show rs.length ≤ 5 by omega) (by decide)
      · rcases List.mem_append.mp hx with h | h
        · exact gr x h
        · rw [List.mem_singleton.mp h]
          exact g
    have nd0 := List.nodup_cons.mp ond
    have gsame : ∀ s ∈ ot, GoodRel ps (.same o0 s) := fun s hs => by
      refine ⟨fun x hx => ?_, ?_, by simp [Rel.nms], by simp [Rel.nms], fun a b e => by cases e⟩
      · simp only [Rel.nms, List.mem_cons, List.not_mem_nil, or_false] at hx
        rcases hx with rfl | rfl
        · exact o1
        · exact oin _ (List.mem_cons_of_mem _ hs)
      · show [o0, s].Nodup
        have : o0 ≠ s := fun z => nd0.1 (by rw [z]; exact hs)
        simp [this]
    have ggate : ∀ s ∈ va, GoodRel ps (.gate o0 s) := fun s hs => by
      obtain ⟨hne, pt, hpt, ept, sw⟩ := vin s hs
      refine ⟨fun x hx => ?_, ?_, by simp [Rel.nms], by simp [Rel.nms], fun a b e => by cases e; exact ⟨pt, hpt, ept, sw⟩⟩
      · simp only [Rel.nms, List.mem_cons, List.not_mem_nil, or_false] at hx
        rcases hx with rfl | rfl
        · exact o1
        · exact List.mem_map.mpr ⟨pt, hpt, ept⟩
      · show [o0, s].Nodup
        simp [Ne.symm hne]
    have gsum : ∀ m, 1 ≤ m → m ≤ 3 → m ≤ ot.length → GoodRel ps (.sum o0 (ot.take m)) := fun m h1 h2 h3 => by
      have lm : (ot.take m).length = m := by rw [List.length_take]; omega
      refine ⟨fun x hx => ?_, ?_, by show (o0 :: ot.take m).length ≤ 4; rw [List.length_cons]; omega, by show 2 ≤ (o0 :: ot.take m).length; rw [List.length_cons]; omega, fun a b e => by cases e⟩
      · rcases List.mem_cons.mp (show x ∈ o0 :: ot.take m from hx) with rfl | h
        · exact o1
        · exact oin _ (List.mem_cons_of_mem _ (List.mem_of_mem_take h))
      · show (o0 :: ot.take m).Nodup
        exact List.nodup_cons.mpr ⟨fun h => nd0.1 (List.mem_of_mem_take h), nd0.2.sublist (List.take_sublist _ _)⟩
    -- alike
    refine seq_join (A := tIfS _ _ _) (fun σ' Y => σ' = [some (.ref p), some (.ref a), some (.ref F), some (.int (0 + (i : Int))), some (.ref O), some (.ref D2), some (.int wy), none] ∧ BoxAt Y p (n + 1 + 11 * i + 9) ∧ But p H Y ∧ Y O = some (.lst ((o0 :: ot).map V.str)) ∧ Y D2 = some (.lst (va.map V.str)) ∧
      ∃ (vs : List V) (rs : List Rel), Y F = some (.lst vs) ∧ AlR Y vs rs ∧ (∀ r ∈ rs, GoodRel ps r) ∧ rs.length ≤ i + (if wy = 0 then 1 else 0)) (fun N' hN => ?_) ?_
    · have no1 := hN _ X4 ⟨rfl, hb4.up (by omega), BX.trans BX4, eO4, eD4, vs, rs, eF4, al4, gr, by split <;> omega⟩
      refine ⟨_, rfl, rfl, _, rfl, ?_⟩
      refine ite2 (fun h => ?_) (fun _ => ?_)
      rotate_left
      · exact iteF no1
      have wy0 : wy = 0 := V.int.inj (of_decide_eq_true h)
      refine ⟨_, rfl, O, _, rfl, .inl (SqL.of eO4), _, _, rfl, rfl, _, rfl, ?_⟩
      refine ite2 (fun h2 => ?_) (fun _ => ?_)
      rotate_left
      · exact no1
      obtain ⟨s1, ot', rfl⟩ : ∃ s1 ot', ot = s1 :: ot' := by
        cases ot with
        | nil => exact absurd (of_decide_eq_true h2) (by simp)
        | cons s1 ot' => exact ⟨s1, ot', rfl⟩
      refine ⟨_, rfl, .inl ⟨rfl, _, SqL.of eF4⟩, _, rfl, O, _, 0, .str o0, rfl, rfl, SqL.of eO4, at0, _, rfl, O, _, 1, .str s1, rfl, rfl, SqL.of eO4, atI_nat (j := 1) (by rfl), by show 3 ≤ sizeLine; decide, fun q nq => ?_⟩
      have U := Same.laid (o := HO.tup [.str "same", .str o0, .str s1]) nq
      obtain ⟨us, g1, g2, g3, g4, g5, g6, g7⟩ := push X4 _ q vs rs (.same o0 s1) _ (hb4.keep U) (BX.trans BX4) al4 gr eF4 eO4 eD4 rl U (.same upd_same) (gsame s1 List.mem_cons_self)
      refine ⟨F, us, .ref q, rfl, rfl, g1, g2, hN _ _ ⟨rfl, g3.up (by omega), g4, g5, g6, ?_⟩⟩
      rw [if_pos wy0]
      exact g7
    rintro σ' Y ⟨rfl, hbY, BY, eOY, eDY, vs, rs, eFY, alr, gr, rl⟩
    -- a sum
    refine seq_join (A := tIfS _ _ _) (fun σ' Y => σ' = [some (.ref p), some (.ref a), some (.ref F), some (.int (0 + (i : Int))), some (.ref O), some (.ref D2), some (.int wy), none] ∧ BoxAt Y p (n + 1 + 11 * i + 10) ∧ But p H Y ∧ Y O = some (.lst ((o0 :: ot).map V.str)) ∧ Y D2 = some (.lst (va.map V.str)) ∧
      ∃ (vs : List V) (rs : List Rel), Y F = some (.lst vs) ∧ AlR Y vs rs ∧ (∀ r ∈ rs, GoodRel ps r) ∧ rs.length ≤ i + (if wy ≤ 2 then 1 else 0)) (fun N' hN => ?_) ?_
    · refine ⟨_, rfl, by show 2 ≤ sizeLine; decide, fun tq ntq => ?_⟩
      have U := Same.laid (o := HO.tup [.int 1, .int 2]) ntq
      have etq : upd Y tq (.tup [.int 1, .int 2]) tq = some (.tup [.int 1, .int 2]) := upd_same
      generalize upd Y tq (.tup [.int 1, .int 2]) = Y1 at *
      have hb1' := hbY.keep U
      have BY1 := BY.trans (Same.but U (p := p))
      have eO1 := U _ _ eOY
      have eD1 := U _ _ eDY
      have eF1 := U _ _ eFY
      have al1 := alr.same U
      have no1 := hN _ Y1 ⟨rfl, hb1'.up (by omega), BY1, eO1, eD1, vs, rs, eF1, al1, gr, by split at rl <;> split <;> omega⟩
      refine ⟨tq, _, rfl, .inr (SqT.of etq), rfl, rfl, _, rfl, ?_⟩
      have ein : inV (.int wy) [.int 1, .int 2] = decide (wy = 1 ∨ wy = 2) := by
        by_cases h1 : wy = 1
        · subst h1; rfl
        · by_cases h2 : wy = 2
          · subst h2; rfl
          · rw [decide_eq_false (by omega)]
            simp [inV, eqV, Ne.symm h1, Ne.symm h2]
      rw [ein]
      refine ite2 (fun h => ?_) (fun _ => ?_)
      rotate_left
      · exact iteF no1
      have hwy := of_decide_eq_true h
      have rl' : rs.length ≤ i := by
        rw [if_neg (by omega)] at rl
        exact rl
      refine ⟨_, rfl, O, _, rfl, .inl (SqL.of eO1), _, _, rfl, rfl, _, rfl, ?_⟩
      refine ite2 (fun h2 => ?_) (fun _ => ?_)
      rotate_left
      · exact no1
      have ot1 : 1 ≤ ot.length := by
        have := of_decide_eq_true h2
        rw [List.length_map, List.length_cons] at this
        omega
      refine ⟨_, rfl, .inl ⟨rfl, _, SqL.of eF1⟩, _, rfl, O, _, 0, .str o0, rfl, rfl, SqL.of eO1, at0, ?_⟩
      refine ⟨_, rfl, 1, rfl, _, rfl, _, rfl, O, _, rfl, .inl (SqL.of eO1), _, _, rfl, rfl, 3, _, rfl, ?_⟩
      rw [List.length_map, List.length_cons]
      obtain ⟨mn, emn, mn1, mn3, mnl⟩ : ∃ mn : Int, (if ((ot.length + 1 : Nat) : Int) - 1 < 3 then ((ot.length + 1 : Nat) : Int) - 1 else 3) = mn ∧ 1 ≤ mn ∧ mn ≤ 3 ∧ mn ≤ ot.length := ⟨_, rfl, by split <;> omega, by split <;> omega, by split <;> omega⟩
      rw [emn]
      refine ⟨p, mn, _, rfl, hb1', by omega, by omega, Int.lt_of_le_of_lt mn3 (by decide), fun j5 Y2 a5 b5 hb2' B2' => ?_⟩
      obtain ⟨jj, rfl⟩ := Int.eq_ofNat_of_zero_le a5
      have eO2 := B2'.at Op eO1
      have eF2 := B2'.at Fp eF1
      have eD2' := B2'.at D2p eD1
      have al2 := al1.but hb1' B2'
      refine ⟨2, (jj : Int), rfl, rfl, 2 + (jj : Int), rfl, O, _, rfl, SqL.of eO2, fun l nl => ?_⟩
      rw [show (2 + (jj : Int)) = ((jj + 2 : Nat) : Int) by omega, cut_1k, ← List.map_take, ← List.map_drop, show ((o0 :: ot).take (jj + 2)).drop 1 = ot.take (jj + 1) from rfl]
      have U1 := Same.laid (o := HO.lst ((ot.take (jj + 1)).map V.str)) nl
      have el : upd Y2 l (.lst ((ot.take (jj + 1)).map V.str)) l = some (.lst ((ot.take (jj + 1)).map V.str)) := upd_same
      generalize upd Y2 l (.lst ((ot.take (jj + 1)).map V.str)) = Y3 at *
      refine ⟨l, _, rfl, .inl ⟨SqL.of el, fun t nt => ?_⟩⟩
      have U2 := Same.laid (o := HO.tup ((ot.take (jj + 1)).map V.str)) nt
      have et : upd Y3 t (.tup ((ot.take (jj + 1)).map V.str)) t = some (.tup ((ot.take (jj + 1)).map V.str)) := upd_same
      generalize upd Y3 t (.tup ((ot.take (jj + 1)).map V.str)) = Y4 at *
      refine ⟨by show 3 ≤ sizeLine; decide, fun q nq => ?_⟩
      have U3 := Same.laid (o := HO.tup [.str "sum", .str o0, .ref t]) nq
      have U13 := U1.trans (U2.trans U3)
      obtain ⟨us, g1, g2, g3, g4, g5, g6, g7⟩ := push Y2 _ q vs rs (.sum o0 (ot.take (jj + 1))) _ (hb2'.keep U13) (BY1.trans B2') al2 gr eF2 eO2 eD2' rl' U13 (.sum upd_same (U3 _ _ et)) (gsum (jj + 1) (by omega) (by omega) (by omega))
      refine ⟨F, us, .ref q, rfl, rfl, g1, g2, hN _ _ ⟨rfl, g3.up (by omega), g4, g5, g6, ?_⟩⟩
      rw [if_pos (by omega)]
      exact g7
    rintro σ' Y ⟨rfl, hbY, BY, eOY, eDY, vs, rs, eFY, alr, gr, rl⟩
    -- a gate
    have no1 : ∀ Y1, Same Y Y1 → (∃ v3 v4 v5 v6 : Option V, [some (V.ref p), some (V.ref a), some (V.ref F), some (V.int (0 + (i : Int))), some (V.ref O), some (V.ref D2), some (V.int wy), none] = [some (.ref p), some (.ref a), some (.ref F), v3, v4, v5, v6, none]) ∧ BoxAt Y1 p (n + 1 + 11 * (i + 1)) ∧ But p H Y1 ∧
      ∃ (vs : List V) (rs : List Rel), Y1 F = some (.lst vs) ∧ AlR Y1 vs rs ∧ (∀ r ∈ rs, GoodRel ps r) ∧ rs.length ≤ i + 1 := fun Y1 S => ⟨⟨_, _, _, _, rfl⟩, (hbY.keep S).up (by omega), BY.trans (Same.but S), vs, rs, S _ _ eFY, alr.same S, gr, by split at rl <;> omega⟩
    refine ⟨_, rfl, rfl, _, rfl, ?_⟩
    refine ite2 (fun h => ?_) (fun _ => ?_)
    rotate_left
    · exact iteF (no1 Y (Same.refl _))
    have wy3 : wy = 3 := V.int.inj (of_decide_eq_true h)
    have rl' : rs.length ≤ i := by
      rw [if_neg (by omega)] at rl
      exact rl
    refine ⟨_, rfl, by show 0 ≤ sizeLine; decide, fun z nz => ?_⟩
    have U := Same.laid (o := HO.lst []) nz
    have ez : upd Y z (.lst []) z = some (.lst []) := upd_same
    generalize upd Y z (.lst []) = Y1 at *
    have vok : ∀ y ∈ va, PyData.strOk y = true := fun y hy => by
      obtain ⟨_, pt, hpt, e, _⟩ := vin y hy
      exact okS (e ▸ (gp.all pt hpt).nm)
    refine ne_nil (U _ _ eDY) ez vok ⟨_, rfl, ?_⟩
    cases va with
    | nil => exact iteF (no1 _ U)
    | cons v0 va =>
      refine iteT ?_
      have hb1' := hbY.keep U
      have BY1 := BY.trans (Same.but U (p := p))
      have eO1 := U _ _ eOY
      have eD1 := U _ _ eDY
      have eF1 := U _ _ eFY
      have al1 := alr.same U
      refine ⟨_, rfl, .inl ⟨rfl, _, SqL.of eF1⟩, _, rfl, O, _, 0, .str o0, rfl, rfl, SqL.of eO1, at0, ?_⟩
      refine ⟨_, rfl, _, rfl, _, rfl, D2, _, rfl, .inl (SqL.of eD1), p, _, _, rfl, hb1', by omega, ?_, ?_, fun j5 Y2 a5 b5 hb2' B2' => ?_⟩
      · rw [List.length_map, List.length_cons]; omega
      · rw [List.length_map]
        exact Int.lt_of_le_of_lt (show ((v0 :: va).length : Int) ≤ 8 by omega) (by decide)
      obtain ⟨y0, hy0, aty⟩ := menu (xs := (v0 :: va).map V.str) a5 b5
      obtain ⟨s0, hs0, rfl⟩ := List.mem_map.mp hy0
      have eO2 := B2'.at Op eO1
      have eF2 := B2'.at Fp eF1
      have eD2' := B2'.at D2p eD1
      have al2 := al1.but hb1' B2'
      refine ⟨D2, _, j5, _, rfl, rfl, SqL.of eD2', aty, by show 3 ≤ sizeLine; decide, fun q nq => ?_⟩
      have U3 := Same.laid (o := HO.tup [.str "gate", .str o0, .str s0]) nq
      obtain ⟨us, g1, g2, g3, g4, g5, g6, g7⟩ := push Y2 _ q vs rs (.gate o0 s0) _ (hb2'.keep U3) (BY1.trans B2') al2 gr eF2 eO2 eD2' rl' U3 (.gate upd_same) (ggate s0 hs0)
      exact ⟨F, us, .ref q, rfl, rfl, g1, g2, ⟨_, _, _, _, rfl⟩, g3.up (by omega), g4, g7⟩
  · rintro σ X ⟨⟨v3, v4, v5, v6, rfl⟩, hbX, BX, vs, rs, eFX, alr, gr, rl⟩
    exact ⟨_, rfl, k F X vs rs nF Fp (hbX.up (by omega)) BX eFX alr gr (by omega)⟩
end
end V51

namespace V51
open PySem PySem.Spec PyProof.Rows L2 Pw RT
/-- the last row that is no later than T -/
def rowAt (rs : List R3) (T : Int) : Option R3 := (rs.filter fun r => decide (r.1 ≤ T)).getLast?
theorem row_last {rs : List R3} {T : Int} {k : Nat} {r : R3} (e : rs[k]? = some r) (h : r.1 ≤ T) (aft : ∀ j r', k < j → rs[j]? = some r' → ¬ r'.1 ≤ T) : rowAt rs T = some r := by
  unfold rowAt
  obtain ⟨hk, ek⟩ := List.getElem?_eq_some_iff.mp e
  have es : rs = rs.take k ++ (r :: rs.drop (k + 1)) := by
    rw [← ek, List.getElem_cons_drop, List.take_append_drop]
  have e2 : (rs.drop (k + 1)).filter (fun r => decide (r.1 ≤ T)) = [] := by
    refine List.filter_eq_nil_iff.mpr fun x hx z => ?_
    obtain ⟨j, hj, ej⟩ := List.getElem_of_mem hx
    rw [List.getElem_drop] at ej
    rw [List.length_drop] at hj
    exact aft (k + 1 + j) x (by omega) (List.getElem?_eq_some_iff.mpr ⟨by omega, ej⟩) (of_decide_eq_true z)
  rw [es, List.filter_append, List.filter_cons, decide_eq_true h, if_pos rfl, e2, List.getLast?_concat]
theorem row_none {rs : List R3} {T : Int} (h : ∀ (j : Nat) r, rs[j]? = some r → ¬ r.1 ≤ T) : rowAt rs T = none := by
  unfold rowAt
  rw [List.filter_eq_nil_iff.mpr fun x hx z => ?_]
  · rfl
  · obtain ⟨j, hj, ej⟩ := List.getElem_of_mem hx
    exact h j x (List.getElem?_eq_some_iff.mpr ⟨hj, ej⟩) (of_decide_eq_true z)
theorem walk_revT {K : PySem.W.Frag} {a : Addr} {xs : List V} : Walk (ItvT K a xs.length) xs.length (fun H => SqT K H a xs) fun i H x H' => H' = H ∧ xs[xs.length - 1 - i]? = some x := by
  refine ⟨fun i H hi h => ?_, fun H h => ?_, fun i H x H' hi h y => ⟨y.1, y.2 xs h⟩⟩
  · exact ⟨hi, xs, xs[xs.length - 1 - i]'(by omega), h, List.getElem?_eq_getElem (by omega)⟩
  · exact Nat.le_refl _
section
variable {P : Program} {w : World} {K : PySem.W.Frag} {mg : Str → Option Value} {base : Heap} {C : Addr}
def spRowAt (K : PySem.W.Frag) : Sp := fun vs H Q _ => ∃ (a : Addr) (rs : List R3) (T : Int), vs = [.ref a, .int T] ∧ LS f3 H a rs ∧ (rowAt rs T = none → Q .non H) ∧ (∀ r q, rowAt rs T = some r → H q = some (.tup (f3 r)) → Q (.ref q) H)
theorem d_rowAt (T : Txt mg) (A : At K mg "row_at" sRowAt) : Def P w K mg base "row_at" 1 ["history", "at"] (spRowAt K) := by
  refine mkDef A scRowAt (fun _ _ _ _ _ _ us hl => match us, hl with | [_, _], _ => rfl) (fun vs H Q E ⟨_, _, _, e, _⟩ => by rw [e]; rfl)
    (fun f cdv A out s H vs Q E hr h => ?_)
  obtain ⟨a, rs, T', rfl, hs, k1, k2⟩ := h
  refine ⟨_, (pss_cons (ps_for PassesOwn.never rfl (pi_revA (by rfl) T.reversed (pv 0)) (pg_name (i := 2) scRowAt.nd rfl (.inl rfl))
      (pss_one (ps_if (pt_cmpR op_le (pe_ix (r := rIxT K) ix_tup (pv 2) pe_int (fun _ _ => rfl)) (pv 1) (nomark _))
        (pss_one (ps_ret (pv 2)))
        pss_nil)))
    (pss_one (ps_ret pe_non))), ?_⟩
  rcases hs with hs | ⟨vs, eL, al⟩
  · obtain ⟨vs, eL, al⟩ := hs.ex
    refine ⟨_, rfl, a, vs, rfl, .inl ⟨SqL.of eL, ?_⟩⟩
    refine for_it (walk_rev (K := K) (a := a) (xs := vs)) (fun i σ G => (∃ v2 : Option V, σ = [some (.ref a), some (.int T'), v2]) ∧ G = H ∧ ∀ j r, vs.length - i ≤ j → rs[j]? = some r → ¬ r.1 ≤ T') ?_ (fun i σ G _ h => h.2.1 ▸ SqL.of eL) ?_ ?_
    · refine ⟨⟨none, rfl⟩, rfl, fun j r hj e => ?_⟩
      have h1 := (List.getElem?_eq_some_iff.mp e).1
      have h2 := al.length
      omega
    · rintro i v σ G0 G hi ⟨⟨v2, rfl⟩, rfl, inv⟩ ⟨rfl, hx⟩
      obtain ⟨q, r, rfl, hr', eq⟩ := al.get hx
      refine ⟨_, rfl, q, _, 0, .int r.1, rfl, rfl, SqT.of eq, rfl, _, rfl, r.1, T', rfl, rfl, _, rfl, ?_⟩
      by_cases h : r.1 ≤ T'
      · rw [decide_eq_true h]
        refine iteT ⟨_, rfl, k2 r q (row_last hr' h fun j r' hj e => inv j r' (by omega) e) eq⟩
      · rw [decide_eq_false h]
        refine iteF ⟨⟨_, rfl⟩, rfl, fun j r' hj e => ?_⟩
        by_cases hj2 : j = vs.length - 1 - i
        · subst hj2
          rw [hr'] at e
          cases e
          exact h
        · exact inv j r' (by omega) e
    · rintro σ G ⟨⟨v2, rfl⟩, rfl, inv⟩
      exact k1 (row_none fun j r e => inv j r (by omega) e)
  · refine ⟨_, rfl, a, vs, rfl, .inr ⟨SqT.of eL, ?_⟩⟩
    refine for_it (walk_revT (K := K) (a := a) (xs := vs)) (fun i σ G => (∃ v2 : Option V, σ = [some (.ref a), some (.int T'), v2]) ∧ G = H ∧ ∀ j r, vs.length - i ≤ j → rs[j]? = some r → ¬ r.1 ≤ T') ?_ (fun i σ G _ h => h.2.1 ▸ SqT.of eL) ?_ ?_
    · refine ⟨⟨none, rfl⟩, rfl, fun j r hj e => ?_⟩
      have h1 := (List.getElem?_eq_some_iff.mp e).1
      have h2 := al.length
      omega
    · rintro i v σ G0 G hi ⟨⟨v2, rfl⟩, rfl, inv⟩ ⟨rfl, hx⟩
      obtain ⟨q, r, rfl, hr', eq⟩ := al.get hx
      refine ⟨_, rfl, q, _, 0, .int r.1, rfl, rfl, SqT.of eq, rfl, _, rfl, r.1, T', rfl, rfl, _, rfl, ?_⟩
      by_cases h : r.1 ≤ T'
      · rw [decide_eq_true h]
        refine iteT ⟨_, rfl, k2 r q (row_last hr' h fun j r' hj e => inv j r' (by omega) e) eq⟩
      · rw [decide_eq_false h]
        refine iteF ⟨⟨_, rfl⟩, rfl, fun j r' hj e => ?_⟩
        by_cases hj2 : j = vs.length - 1 - i
        · subst hj2
          rw [hr'] at e
          cases e
          exact h
        · exact inv j r' (by omega) e
    · rintro σ G ⟨⟨v2, rfl⟩, rfl, inv⟩
      exact k1 (row_none fun j r e => inv j r (by omega) e)

end
end V51

set_option maxHeartbeats 8000000
namespace V51
open PySem PySem.Spec PyProof.Rows L2 Pw
/-! ### histories by names -/
inductive HA (G : Hp) : List (Key × V) → List (Str × List R3) → Prop where
  | nil : HA G [] []
  | cons {a : Addr} {nm : Str} {rs : List R3} {kvs : List (Key × V)} {hs : List (Str × List R3)} (h : LS f3 G a rs) (t : HA G kvs hs) : HA G ((.inr nm, .ref a) :: kvs) ((nm, rs) :: hs)
def hget (hs : List (Str × List R3)) (nm : Str) : Option (List R3) := (hs.find? fun h => decide (h.1 = nm)).map (·.2)
section
variable {G G' : Hp} {kvs : List (Key × V)} {hs : List (Str × List R3)}
theorem HA.same (h : HA G kvs hs) (S : Same G G') : HA G' kvs hs := by
  induction h with
  | nil => exact .nil
  | cons h _ ih => exact .cons (h.same S) ih
theorem HA.length (h : HA G kvs hs) : kvs.length = hs.length := by
  induction h with
  | nil => rfl
  | cons h _ ih => simp [ih]
theorem HA.get (h : HA G kvs hs) : ∀ {i : Nat} {k : Key} {v : V}, kvs[i]? = some (k, v) → ∃ nm rs a, k = .inr nm ∧ v = .ref a ∧ hs[i]? = some (nm, rs) ∧ LS f3 G a rs := by
  induction h with
  | nil => intro i k v e; simp at e
  | @cons a nm rs kvs hs h t ih =>
    intro i k v e
    cases i with
    | zero =>
      simp only [List.getElem?_cons_zero, Option.some.injEq, Prod.mk.injEq] at e
      exact ⟨nm, rs, a, e.1.symm, e.2.symm, rfl, h⟩
    | succ i =>
      simp only [List.getElem?_cons_succ] at e
      obtain ⟨nm', rs', a', e1, e2, e3, e4⟩ := ih e
      exact ⟨nm', rs', a', e1, e2, by simpa using e3, e4⟩
theorem HA.val (h : HA G kvs hs) (nm : Str) : (hget hs nm = none ∧ valV kvs (.inr nm) = none) ∨ ∃ rs a, hget hs nm = some rs ∧ valV kvs (.inr nm) = some (.ref a) ∧ LS f3 G a rs := by
  induction h with
  | nil => exact .inl ⟨rfl, rfl⟩
  | @cons a nm' rs kvs hs h t ih =>
    unfold hget valV at ih ⊢
    rw [List.find?_cons, List.find?_cons]
    by_cases e : nm' = nm
    · subst e
      rw [decide_eq_true rfl, decide_eq_true rfl]
      exact .inr ⟨rs, a, rfl, rfl, h⟩
    · rw [decide_eq_false e, decide_eq_false (fun z => e (Sum.inr.inj z))]
      exact ih
end
structure GoodHi (pt : Pt) (rs : List R3) : Prop where
  h : GoodH rs
  len : rs.length ≤ 100
  hi : ∀ r ∈ rs, r.2.1 ≤ hiP pt
def GoodHs (ps : List Pt) (hs : List (Str × List R3)) : Prop := ∀ h ∈ hs, ∃ pt ∈ ps, pt.nm = h.1 ∧ GoodHi pt h.2
section
variable {P : Program} {w : World} {K : PySem.W.Frag} {mg : Str → Option Value} {base : Heap} {C : Addr}
def spHistOf (C : Addr) (K : PySem.W.Frag) : Sp := fun vs H Q _ => ∃ p W ps pt a rs, vs = [.ref p, .str (Pt.nm pt), .ref a] ∧ WoP K C H p W ps ∧ pt ∈ ps ∧ LS f3 H a rs ∧ GoodHi pt rs ∧ ∀ H', Same H H' → Q (.bl true) H'
theorem d_histOf (T : Txt mg) (Wc : WoC K C) (A : At K mg "_is_history_of" sIsHistoryOf) (dh : Def P w K mg base "is_history" 6 ["thing"] spHist) (dw : DefM P w K mg base C "is_worth" 5 ["self", "point", "thing"] (spIsWorth C K)) :
    Def P w K mg base "_is_history_of" 7 ["works", "name", "thing"] (spHistOf C K) := by
  refine mkDef A scIsHistoryOf (fun _ _ _ _ _ _ us hl => match us, hl with | [_, _, _], _ => rfl) (fun vs H Q E ⟨_, _, _, _, _, _, e, _⟩ => by rw [e]; rfl)
    (fun f cdv A out s H vs Q E hr h => ?_)
  obtain ⟨p, W, ps, pt, a, rs, rfl, hw, hpt, hs, g, k⟩ := h
  refine ⟨_, (pss_cons (ps_if (PW.pt (pw_or (pt_not (pt_val (pe_d dh hr (by decide) (by rfl) (pa_cons (pv 2) pa_nil)))) (pw_or1 (pt_cmpR op_gt (pe_callB call_len_seq (by rfl) T.len PySem.boot_len (pa_cons (pv 2) pa_nil)) (pe_gi T.c_MOST_SIGNS) (nomark _)))))
      (pss_one (ps_ret pe_bl))
      pss_nil)
    (pss_one (ps_ret (pe_callB (cr_all rfl) (by rfl) T.all PyProof.Rows.boot_all (pa_cons (pe_lc (own := [("_", 3), ("worth", 4)]) (g := (gTup K 3 (gCons (gName 3) (gCons (gName 4) (gCons (gName 3) gNil))))) (tt := tYes) rfl scIsHistoryOf.nd (pi_sq (pv 2))
        (blkOk_by (own := [("_", 3), ("worth", 4)]) (N := ["works", "name", "thing", "_", "worth"]) (sc := defScope sIsHistoryOf) (by decide +kernel))
        (fun _ _ _ _ _ => (pg_tup (by rfl) (pgs_cons (pg_name (i := 3) scIsHistoryOf.nd rfl (.inl rfl)) (pgs_cons (pg_name (i := 4) scIsHistoryOf.nd rfl (.inl rfl)) (pgs_cons (pg_name (i := 3) scIsHistoryOf.nd rfl (.inl rfl)) pgs_nil))))) (fun _ _ _ _ _ => pts_nil)
        (fun _ _ _ _ _ => (pe_mm (pv 0) Wc.cl dw hr (by decide) (pa_cons (pv 1) (pa_cons (pv 4) pa_nil))))) pa_nil))))), ?_⟩
  refine ⟨_, rfl, a, rs, rfl, hs, g.h, fun H1 S1 => ?_⟩
  refine ⟨_, rfl, iteF ?_⟩
  obtain ⟨vs, sq, al⟩ := LS.sq (K := K) (hs.same S1)
  have hlen := al.length
  have h100 := g.len
  refine ⟨_, rfl, a, vs, rfl, sq, (vs.length : Int), 100, rfl, rfl, _, rfl, ?_⟩
  rw [decide_eq_false (show ¬ (vs.length : Int) > 100 by omega)]
  refine iteF ?_
  refine ⟨_, rfl, a, vs, rfl, sq, fun J G hG wk D hD => ?_⟩
  refine lc_acc wk hD (by omega) (fun i acc H => acc = (List.replicate i true).map V.bl) rfl hG ?_ ?_
  · rintro i v H2 H3 acc hi S2 eD hl2 rfl ⟨rfl, hx⟩ Fy Fn hy1 _
    obtain ⟨q, r, rfl, hr', eq⟩ := (al.same S2).get hx
    refine ⟨q, _, rfl, SqT.of eq, rfl, _, _, rfl, _, _, rfl, _, _, rfl, rfl, ?_⟩
    refine ⟨rfl, ?_⟩
    unfold tYes
    refine iteT ?_
    have hw2 := hw.same (S1.trans S2)
    obtain ⟨dx, tp, dp', tr, dr, tc, tm, dm, tl, e0, _⟩ := hw2.wo.ex
    have hin := List.mem_of_getElem? hr'
    refine ⟨_, rfl, p, dx, _, rfl, e0, wof_no (by decide +kernel) (by decide +kernel) (by decide +kernel) (by decide +kernel) (by decide +kernel) (by decide +kernel) (by decide +kernel) (by decide +kernel), _, rfl, _, rfl, p, W, ps, pt, .int r.2.1, _, rfl, hw2, hpt, fun _ => .int _, fun H4 S4 => ?_⟩
    rw [whole_in (g.h.all r hin).w0 (g.hi r hin)]
    exact hy1 _ _ S4 (reps_succ i)
  rintro H2 acc S2 eD rfl
  refine ⟨D, _, rfl, SqL.of eD, ?_⟩
  rw [reps_all]
  exact k _ (S1.trans S2)
end
end V51

set_option maxHeartbeats 8000000
namespace V51
open PySem PySem.Spec PyProof.Rows L2 Pw
/-- what is shown: of each point, in their order, the last sign that is good -/
def picM (ps : List Pt) (hs : List (Str × List R3)) (T : Int) : List (Str × Int) := ps.filterMap fun pt => match rowAt ((hget hs pt.nm).getD []) T with
  | some r => if r.2.2 = "good" then some (pt.nm, r.2.1) else none
  | none => none
theorem picM_len (ps : List Pt) (hs : List (Str × List R3)) (T : Int) : (picM ps hs T).length ≤ ps.length := List.length_filterMap_le _ _
theorem picM_keys {ps : List Pt} {hs : List (Str × List R3)} {T : Int} {p : Str × Int} (h : p ∈ picM ps hs T) : p.1 ∈ ps.map Pt.nm := by
  unfold picM at h
  obtain ⟨pt, hpt, e⟩ := List.mem_filterMap.mp h
  refine List.mem_map.mpr ⟨pt, hpt, ?_⟩
  split at e
  · split at e
    · cases e; rfl
    · cases e
  · cases e
theorem mark_good {r : R3} (h : GoodR r) : decide (V.str r.2.2 = V.str "good") = decide (r.2.2 = "good") := by
  by_cases e : r.2.2 = "good"
  · rw [decide_eq_true e, decide_eq_true (congrArg V.str e)]
  · rw [decide_eq_false e, decide_eq_false fun z => e (V.str.inj z)]
theorem row_mem {rs : List R3} {T : Int} {r : R3} (h : rowAt rs T = some r) : r ∈ rs := by
  unfold rowAt at h
  exact (List.mem_filter.mp (List.mem_of_getLast? h)).1
section
variable {P : Program} {w : World} {K : PySem.W.Frag} {mg : Str → Option Value} {base : Heap} {C : Addr}
/-- histories handed in; all but the dict itself stands apart from it -/
structure HsAt (K : PySem.W.Frag) (C : Addr) (H : Hp) (p d : Addr) (W : Wks) (ps : List Pt) (kvs : List (Key × V)) (hs : List (Str × List R3)) : Prop where
  wk : WoP K C (wo H d) p W ps
  ed : H d = some (.dK kvs)
  ha : HA (wo H d) kvs hs
  g : GoodHs ps hs
theorem HsAt.same {K : PySem.W.Frag} {C : Addr} {H H' : Hp} {p d : Addr} {W : Wks} {ps : List Pt} {kvs : List (Key × V)} {hs : List (Str × List R3)} (h : HsAt K C H p d W ps kvs hs) (S : Same H H') : HsAt K C H' p d W ps kvs hs :=
  ⟨h.wk.same (Same.wo S), S _ _ h.ed, h.ha.same (Same.wo S), h.g⟩
def spCHist (C : Addr) (K : PySem.W.Frag) : Sp := fun vs H Q _ => ∃ p d W ps kvs hs, vs = [.ref p, .ref d] ∧ HsAt K C H p d W ps kvs hs ∧ ∀ H', Same H H' → Q .non H'
theorem d_cHist (T : Txt mg) (Wc : WoC K C) (A : At K mg "_check_histories" sCheckHistories) (dc : Def P w K mg base "check_works" 1 ["thing"] (spWorksC C K)) (dp : DefM P w K mg base C "has_point" 2 ["self", "thing"] (spHasP C K))
    (dh : Def P w K mg base "_is_history_of" 7 ["works", "name", "thing"] (spHistOf C K)) : Def P w K mg base "_check_histories" 8 ["works", "thing"] (spCHist C K) := by
  refine mkDef A scCheckHistories (fun _ _ _ _ _ _ us hl => match us, hl with | [_, _], _ => rfl) (fun vs H Q E ⟨_, _, _, _, _, _, e, _⟩ => by rw [e]; rfl)
    (fun f cdv A out s H vs Q E hr h => ?_)
  obtain ⟨p, d, W, ps, kvs, hs, rfl, hh, k⟩ := h
  have hu : (A.deeper (envOfC "_check_histories" (defScope sCheckHistories) s.heap.objs.size f cdv)).units + 1 < cLine := hu_of hr
  refine ⟨_, (pss_cons (ps_expr (pe_d dc hr (by decide) (by rfl) (pa_cons (pv 0) pa_nil)))
    (pss_cons (ps_if (pt_not (pt_val (pe_is T.isinstance (by rfl) (pv 1) T.dict (by rfl) (Tn := "dict") (by decide +kernel))))
      (pss_one ps_never)
      pss_nil)
    (pss_one (ps_lock (ps_for PassesOwn.never rfl (pi_keys (pv 1)) (pg_name (i := 2) scCheckHistories.nd rfl (.inl rfl))
      (pss_one (ps_if (pt_not (PW.pt (pw_and (pt_val (pe_mm (pv 0) Wc.cl dp hr (by decide) (pa_cons (pv 2) pa_nil))) (pw_and1 (pt_val (pe_d dh hr (by decide) (by rfl) (pa_cons (pv 0) (pa_cons (pv 2) (pa_cons (pe_dget hu (pv 1) (pv 2) (fun _ _ => rfl)) pa_nil)))))))))
        (pss_one ps_never)
        pss_nil))))))), ?_⟩
  refine ⟨_, rfl, p, W, rfl, hh.wk.wo.same wo_same, ?_⟩
  refine ⟨_, rfl, .ref d, .ty "dict", .type "dict", .type "dict", true, rfl, .ty _, .base (.base (.dK hh.ed)), kit_ty (by decide +kernel), _, rfl, iteF ?_⟩
  refine ⟨d, _, hh.ed, trivial, fun od => ?_⟩
  have ed : upd H d (.frz od (.dK kvs)) d = some (.frz od (.dK kvs)) := upd_same
  have S0 : Same (wo H d) (wo (upd H d (.frz od (.dK kvs))) d) := by rw [wo_upd]; exact Same.refl _
  generalize upd H d (.frz od (.dK kvs)) = H0 at *
  refine ⟨_, rfl, d, od, rfl, .inl ⟨kvs, ed, ?_⟩⟩
  refine for_it (walk_keys (d := d) (o := od) (kvs := kvs)) (fun i σ G => (∃ v2 : Option V, σ = [some (.ref p), some (.ref d), v2]) ∧ Same (wo H d) (wo G d) ∧ G d = some (.frz od (.dK kvs))) ⟨⟨none, rfl⟩, S0, ed⟩ (fun i σ G _ h => h.2.2) ?_ ?_
  · rintro i v σ G0 G hi ⟨⟨v2, rfl⟩, S, eG⟩ ⟨rfl, kk, vv, hkv, rfl⟩
    obtain ⟨nm, rs, a, rfl, rfl, hhs, ls⟩ := (hh.ha.same (hs := hs) S).get hkv
    obtain ⟨pt, hpt, rfl, gh⟩ := hh.g _ (List.mem_of_getElem? hhs)
    have hw := (hh.wk.same S).same wo_same
    obtain ⟨dx, tp, dp', tr, dr, tc, tm, dm, tl, e0, _⟩ := hw.wo.ex
    refine ⟨_, rfl, p, dx, _, rfl, e0, wof_no (by decide +kernel) (by decide +kernel) (by decide +kernel) (by decide +kernel) (by decide +kernel) (by decide +kernel) (by decide +kernel) (by decide +kernel), _, rfl, p, W, ps, pt.nm, rfl, hw, (hh.wk.g.all pt hpt).nm, fun G1 S1 => ?_⟩
    rw [decide_eq_true (List.mem_map.mpr ⟨pt, hpt, rfl⟩)]
    refine ⟨_, rfl, iteT ?_⟩
    have SG1 := S.trans (Same.wo S1)
    have eG1 := S1 _ _ eG
    rcases (hh.ha.same SG1).val pt.nm with ⟨_, hv⟩ | ⟨rs', a', hg', hv, ls'⟩
    · exfalso
      unfold valV at hv
      rw [Option.map_eq_none_iff, List.find?_eq_none] at hv
      exact hv _ (List.mem_of_getElem? hkv) (decide_eq_true rfl)
    · obtain ⟨pt', hpt', en, gh'⟩ : ∃ pt' ∈ ps, pt'.nm = pt.nm ∧ GoodHi pt' rs' := by
        unfold hget at hg'
        obtain ⟨h', hf, rfl⟩ := Option.map_eq_some_iff.mp hg'
        obtain ⟨pt', hp', e', g'⟩ := hh.g _ (List.mem_of_find?_eq_some hf)
        have hd := List.find?_some hf
        exact ⟨pt', hp', e'.trans (of_decide_eq_true hd), g'⟩
      refine ⟨_, rfl, _, rfl, _, rfl, _, rfl, d, .ref a', rfl, .inl ⟨kvs, .inr pt.nm, .inr ⟨od, eG1⟩, rfl, hv.symm⟩, ?_⟩
      refine ⟨p, W, ps, pt', a', rs', by rw [en]; rfl, (hh.wk.same SG1).same wo_same, hpt', ls'.same wo_same, gh', fun G2 S2 => ?_⟩
      exact ⟨_, rfl, iteF ⟨⟨_, rfl⟩, SG1.trans (Same.wo S2), S2 _ _ eG1⟩⟩
  · rintro σ G ⟨⟨v2, rfl⟩, S, eG⟩
    exact ⟨eG, k _ (Same.wo_back S hh.ed)⟩
theorem good_get {ps : List Pt} {hs : List (Str × List R3)} (g : GoodHs ps hs) {nm : Str} {rs : List R3} (h : hget hs nm = some rs) : ∃ pt ∈ ps, GoodHi pt rs := by
  unfold hget at h
  obtain ⟨h', hf, rfl⟩ := Option.map_eq_some_iff.mp h
  obtain ⟨pt', hp', e', g'⟩ := g _ (List.mem_of_find?_eq_some hf)
  exact ⟨pt', hp', g'⟩
def spPicIn (C : Addr) (K : PySem.W.Frag) : Sp := fun vs H Q _ => ∃ p d T W ps kvs hs, vs = [.ref p, .ref d, .int T] ∧ WoP K C H p W ps ∧ H d = some (.dK kvs) ∧ HA H kvs hs ∧ GoodHs ps hs ∧
  ∀ b H', Same H H' → H b = none → H' b = some (.dK (picK (picM ps hs T))) → Q (.ref b) H'
theorem d_picIn (T : Txt mg) (Wc : WoC K C) (A : At K mg "_picture_in" sPictureIn) (dp : DefM P w K mg base C "points" 1 ["self"] (spPts C K)) (dr : Def P w K mg base "row_at" 1 ["history", "at"] (spRowAt K)) :
    Def P w K mg base "_picture_in" 2 ["works", "histories", "time"] (spPicIn C K) := by
  refine mkDef A scPictureIn (fun _ _ _ _ _ _ us hl => match us, hl with | [_, _, _], _ => rfl) (fun vs H Q E ⟨_, _, _, _, _, _, _, e, _⟩ => by rw [e]; rfl)
    (fun f cdv A out s H vs Q E hr h => ?_)
  obtain ⟨p, d, T', W, ps, kvs, hs, rfl, hw, ed, ha, gh, k⟩ := h
  have hu : (A.deeper (envOfC "_picture_in" (defScope sPictureIn) s.heap.objs.size f cdv)).units + 1 < cLine := hu_of hr
  refine ⟨_, (pss_cons (ps_set (i := 3) scPictureIn.nd rfl (.inl rfl) pe_dnewK)
    (pss_cons (ps_for PassesOwn.never rfl (pi_list (pe_mm0 (pv 0) Wc.cl dp hr (by decide))) (pg_tup (by rfl) (pgs_cons (pg_name (i := 4) scPictureIn.nd rfl (.inl rfl)) (pgs_cons (pg_name (i := 5) scPictureIn.nd rfl (.inl rfl)) (pgs_cons (pg_name (i := 5) scPictureIn.nd rfl (.inl rfl)) pgs_nil))))
      (pss_cons (ps_set (i := 6) scPictureIn.nd rfl (.inl rfl) (pe_d dr hr (by decide) (by rfl) (pa_cons (pe_dget2 hu (pv 1) (pv 4) (pe_tup pa_nil) ⟨rfl, rfl, rfl, rfl⟩) (pa_cons (pv 2) pa_nil))))
      (pss_one (ps_if (PW.pt (pw_and (pt_cmpR op_notN (pv 6) pe_non (nomark _)) (pw_and1 (pt_cmpR op_eq (pe_ix (r := rIxT K) ix_tup (pv 6) pe_int (fun _ _ => rfl)) pe_str (nomark _)))))
        (pss_one (ps_dput hu (pv 3) (pv 4) (pe_ix (r := rIxT K) ix_tup (pv 6) pe_int (fun _ _ => rfl)) rfl))
        pss_nil))))
    (pss_one (ps_ret (pv 3))))), ?_⟩
  intro D nD
  have S1 := Same.laid (o := HO.dK []) nD
  have eD : upd H D (.dK []) D = some (.dK []) := upd_same
  have dD : d ≠ D := ne_of_none ed nD
  generalize upd H D (.dK []) = H1 at *
  obtain ⟨dx, tp, dp', tr, dr', tc, tm, dm, tl, e0, _⟩ := (hw.same S1).wo.ex
  dsimp only [gName]
  refine ⟨_, rfl, p, dx, _, rfl, e0, wof_no (by decide +kernel) (by decide +kernel) (by decide +kernel) (by decide +kernel) (by decide +kernel) (by decide +kernel) (by decide +kernel) (by decide +kernel), p, W, ps, rfl, hw.same S1, fun l H2 S2 nl el => ?_⟩
  have lD : l ≠ D := fun z => by rw [z, eD] at nl; cases nl
  have hlen := hw.al.length
  have h8 := hw.g.len
  have S12 := S1.trans S2
  have al2 := hw.al.same S12
  have eD2 := S2 _ _ eD
  refine ⟨l, rfl, ⟨_, SqL.of el⟩, ?_⟩
  refine for_it (walk_list (K := K) (a := l) (xs := W.xs)) (fun i σ G => (∃ v4 v5 v6 : Option V, σ = [some (.ref p), some (.ref d), some (.int T'), some (.ref D), v4, v5, v6]) ∧ Same (wo H2 D) (wo G D) ∧ G D = some (.dK (picK (picM (ps.take i) hs T')))) ?_
    (fun i σ G _ h => SqL.of (wo_same _ _ (h.2.1 _ _ (wo_of lD el)))) ?_ ?_
  · exact ⟨⟨none, none, none, rfl⟩, Same.refl _, eD2⟩
  · rintro i v σ G0 G hi ⟨⟨v4, v5, v6, rfl⟩, S, eG⟩ ⟨rfl, hx⟩
    obtain ⟨q, pt, rfl, hpt, eq⟩ := al2.get hx
    have qD : q ≠ D := fun z => by rw [z, eD2] at eq; cases eq
    have et : ps.take (i + 1) = ps.take i ++ [pt] := by rw [List.take_add_one, hpt]; rfl
    have SHG : Same (wo H D) (wo G D) := (Same.wo S12).trans S
    have eqG := wo_same _ _ (S _ _ (wo_of qD eq))
    have edG : G d = some (.dK kvs) := wo_same _ _ (SHG _ _ (wo_of dD ed))
    have haG : HA G kvs hs := ((ha.same (by rw [wo_none nD]; exact Same.refl _ : Same H (wo H D))).same SHG).same wo_same
    refine ⟨q, _, rfl, SqT.of eqG, rfl, _, _, rfl, _, _, rfl, _, _, rfl, rfl, ?_⟩
    dsimp only [gName]
    -- the history, or nothing
    refine ⟨_, rfl, d, rfl, .inl ⟨_, .inl edG⟩, _, rfl, by show 0 ≤ sizeLine; decide, fun z nz => ?_⟩
    have S3 := Same.laid (o := HO.tup []) nz
    have ez : upd G z (.tup []) z = some (.tup []) := upd_same
    generalize upd G z (.tup []) = G1 at *
    have SG1 : Same (wo H2 D) (wo G1 D) := S.trans (Same.wo S3)
    have eG1 := S3 _ _ eG
    -- what follows
    have nxt : ∀ (x : Option V), picM (ps.take (i + 1)) hs T' = picM (ps.take i) hs T' → (∃ v4 v5 v6 : Option V, [some (.ref p), some (.ref d), some (.int T'), some (.ref D), some (V.str pt.nm), some (V.str (kd pt.sw)), x] = [some (.ref p), some (.ref d), some (.int T'), some (.ref D), v4, v5, v6]) ∧ Same (wo H2 D) (wo G1 D) ∧ G1 D = some (.dK (picK (picM (ps.take (i + 1)) hs T'))) := fun x e => ⟨⟨_, _, _, rfl⟩, SG1, by rw [e]; exact eG1⟩
    have pa : picM (ps.take (i + 1)) hs T' = picM (ps.take i) hs T' ++ picM [pt] hs T' := by
      rw [et]
      unfold picM
      rw [List.filterMap_append]
    obtain ⟨rs, ra, hv, hls, hgd, hrs⟩ : ∃ (rs : List R3) (ra : Addr) , ((valV kvs (.inr pt.nm)).getD (.ref z)) = .ref ra ∧ LS f3 G1 ra rs ∧ (∀ r ∈ rs, GoodR r) ∧ (hget hs pt.nm).getD [] = rs := by
      rcases haG.val pt.nm with ⟨h1, h2⟩ | ⟨rs, a, h1, h2, h3⟩
      · exact ⟨[], z, by rw [h2]; rfl, .inr ⟨[], ez, .nil⟩, (fun r h => by cases h), by rw [h1]; rfl⟩
      · obtain ⟨pt', _, g'⟩ := good_get gh h1
        exact ⟨rs, a, by rw [h2]; rfl, h3.same S3, g'.h.all, by rw [h1]; rfl⟩
    refine ⟨valV kvs (.inr pt.nm), .inl ⟨kvs, .inr pt.nm, .inl (S3 _ _ edG), rfl, rfl⟩, _, rfl, ?_⟩
    rw [hv]
    refine ⟨ra, rs, T', rfl, hls, fun hn => ?_, fun r q2 hr2 eq2 => ?_⟩
    · refine ⟨_, rfl, rfl, ?_⟩
      refine ⟨false, rfl, iteF (iteF (nxt _ ?_))⟩
      rw [pa]
      unfold picM
      rw [List.filterMap_cons, hrs, hn]
      simp
    · refine ⟨_, rfl, rfl, ?_⟩
      refine ⟨true, rfl, iteT ?_⟩
      refine ⟨_, rfl, q2, _, 2, .str r.2.2, rfl, rfl, SqT.of eq2, rfl, rfl, _, rfl, ?_⟩
      rw [mark_good (hgd r (row_mem hr2))]
      by_cases hm : r.2.2 = "good"
      · rw [decide_eq_true hm]
        refine iteT ?_
        refine ⟨_, rfl, q2, _, 1, .int r.2.1, rfl, rfl, SqT.of eq2, rfl, _, rfl, _, rfl, D, _, rfl, DPut.k (k := .inr pt.nm) eG1 ?_, ?_⟩
        · have h1 := picM_len (ps.take i) hs T'
          rw [List.length_take] at h1
          unfold picK
          rw [List.length_map]
          exact Nat.lt_of_le_of_lt (show _ ≤ 8 by omega) (by decide)
        · refine ⟨⟨_, _, _, rfl⟩, by rw [wo_upd]; exact SG1, ?_⟩
          rw [upd_same, putK_new]
          · rw [pa]
            have e2 : picM [pt] hs T' = [(pt.nm, r.2.1)] := by
              unfold picM
              rw [List.filterMap_cons, hrs, hr2]
              simp [hm]
            rw [e2]
            unfold picK
            rw [List.map_append]
            rfl
          · intro hin
            unfold picK at hin
            rw [List.map_map] at hin
            obtain ⟨pr, hpr, epr⟩ := List.mem_map.mp hin
            have := picM_keys hpr
            rw [show pr.1 = pt.nm from Sum.inr.inj epr, List.map_take] at this
            exact nodup_take hw.g.nd (by rw [List.getElem?_map, hpt]; rfl) this
      · rw [decide_eq_false hm]
        refine iteF (nxt _ ?_)
        rw [pa]
        unfold picM
        rw [List.filterMap_cons, hrs, hr2]
        simp [hm]
  · rintro σ G ⟨⟨v4, v5, v6, rfl⟩, S, eG⟩
    rw [List.take_of_length_le (by omega)] at eG
    have SF : Same H G := fun c o e => by
      have cD : c ≠ D := ne_of_none e nD
      exact wo_same _ _ (S _ _ (wo_of cD (S12 _ _ e)))
    exact ⟨_, rfl, k D G SF nD eG⟩
def spPicAt (C : Addr) (K : PySem.W.Frag) : Sp := fun vs H Q _ => ∃ p d T W ps kvs hs, vs = [.ref p, .ref d, .int T] ∧ HsAt K C H p d W ps kvs hs ∧ (0 ≤ T ∧ T ≤ 9999) ∧
  ∀ b H', Same H H' → H b = none → H' b = some (.dK (picK (picM ps hs T))) → Q (.ref b) H'
theorem d_picAt (A : At K mg "picture_at" sPictureAt) (dc : Def P w K mg base "_check_histories" 8 ["works", "thing"] (spCHist C K)) (dt : Def P w K mg base "check_time" 5 ["thing"] (spIn 0 9999))
    (di : Def P w K mg base "_picture_in" 2 ["works", "histories", "time"] (spPicIn C K)) : Def P w K mg base "picture_at" 9 ["works", "histories", "time"] (spPicAt C K) := by
  refine mkDef A scPictureAt (fun _ _ _ _ _ _ us hl => match us, hl with | [_, _, _], _ => rfl) (fun vs H Q E ⟨_, _, _, _, _, _, _, e, _⟩ => by rw [e]; rfl)
    (fun f cdv A out s H vs Q E hr h => ?_)
  obtain ⟨p, d, T', W, ps, kvs, hs, rfl, hh, hT, k⟩ := h
  refine ⟨_, (pss_cons (ps_expr (pe_d dc hr (by decide) (by rfl) (pa_cons (pv 0) (pa_cons (pv 1) pa_nil))))
    (pss_cons (ps_expr (pe_d dt hr (by decide) (by rfl) (pa_cons (pv 2) pa_nil)))
    (pss_one (ps_ret (pe_d di hr (by decide) (by rfl) (pa_cons (pv 0) (pa_cons (pv 1) (pa_cons (pv 2) pa_nil)))))))), ?_⟩
  refine ⟨_, rfl, _, rfl, p, d, W, ps, kvs, hs, rfl, hh, fun H1 S1 => ?_⟩
  have h1 := hh.same S1
  refine ⟨_, rfl, T', rfl, hT.1, hT.2, ?_⟩
  exact ⟨_, rfl, _, rfl, _, rfl, p, d, T', W, ps, kvs, hs, rfl, h1.wk.same wo_same, h1.ed, h1.ha.same wo_same, h1.g, fun b H2 S2 nb eb => k b H2 (S1.trans S2) (Same.no S1 nb) eb⟩
end
end V51

set_option maxHeartbeats 8000000
namespace V51
open PySem PySem.Spec PyProof.Rows L2 Pw
theorem pi_listK {X : Cx} {K : PySem.W.Frag} {tg l : Expr} {tl : TE} (hK : X.K = K) (h : PE X l tl) : PI X tg l (iList K tl) := hK ▸ pi_list h
theorem sl_listK {X : Cx} {K : PySem.W.Frag} (hK : X.K = K) : SlR X (rSlL K) := hK ▸ sl_list
/-- a row drawn -/
structure RowIn (hi tk : Int) (i : Nat) (r : R3) : Prop where
  t0 : 0 ≤ r.1
  t1 : r.1 ≤ tk + i
  w0 : 0 ≤ r.2.1
  w1 : r.2.1 ≤ hi
  m : r.2.2 = "good" ∨ r.2.2 = "odd"
theorem RowIn.up {hi tk : Int} {i j : Nat} {r : R3} (h : RowIn hi tk i r) (l : i ≤ j) : RowIn hi tk j r := ⟨h.t0, by have := h.t1; omega, h.w0, h.w1, h.m⟩
section
variable {P : Program} {w : World} {K : PySem.W.Frag} {mg : Str → Option Value} {base : Heap}
def spHist1 (K : PySem.W.Frag) : Sp := fun vs H Q _ => ∃ p hi tk n, vs = [.ref p, .int hi, .int tk] ∧ BoxAt H p n ∧ n ≤ 900000 ∧ 1 ≤ hi ∧ hi ≤ 63 ∧ 0 ≤ tk ∧ tk ≤ 9970 ∧
  ∀ b H' rs, H b = none → b ≠ p → BoxAt H' p (n + 110) → But p H H' → LT f3 H' b rs → GoodH rs → rs.length ≤ 20 → (∀ r ∈ rs, r.2.1 ≤ hi) → (∀ r ∈ rs, r.1 ≤ tk + 20) → Q (.ref b) H'
theorem d_hist1 (T : Txt mg) (A : At K mg "_law_history" sLawHistory) (dt : Def P w K mg base "_law_take" 1 ["_law_box_here", "_law_many"] (spTake K)) :
    Def P w K mg base "_law_history" 2 ["_law_box_here", "_law_high", "_law_ticks"] (spHist1 K) := by
  refine mkDef A scLawHistory (fun _ _ _ _ _ _ us hl => match us, hl with | [_, _, _], _ => rfl) (fun vs H Q E ⟨_, _, _, _, e, _⟩ => by rw [e]; rfl)
    (fun f cdv A out s H vs Q E hr h => ?_)
  obtain ⟨p, hi, tk, n, rfl, hb, hn, h1, h63, t0, t1, k⟩ := h
  refine ⟨_, (pss_cons (ps_asg (pe_tup (pa_cons (pe_lst pa_nil) (pa_cons pe_int pa_nil))) (pg_tup (by rfl) (pgs_cons (pg_name (i := 3) scLawHistory.nd rfl (.inr rfl)) (pgs_cons (pg_name (i := 4) scLawHistory.nd rfl (.inl rfl)) pgs_nil))))
    (pss_cons (ps_for PassesOwn.never rfl (pi_range1 (by rfl) T.range (pa_cons (pe_ix ix_list (pe_lst (pa_cons pe_int (pa_cons pe_int (pa_cons pe_int (pa_cons pe_int (pa_cons pe_int pa_nil)))))) (pe_d dt hr (by decide) (by rfl) (pa_cons (pv 0) (pa_cons pe_int pa_nil))) (fun _ _ => rfl)) pa_nil)) (pg_name (i := 5) scLawHistory.nd rfl (.inl rfl))
      (pss_cons (ps_set (i := 4) scLawHistory.nd rfl (.inl rfl) (pe_op op_add (pe_op op_add (pv 4) (pe_ix ix_list (pe_lst (pa_cons pe_int (pa_cons pe_int (pa_cons pe_int (pa_cons pe_int (pa_cons (pe_d dt hr (by decide) (by rfl) (pa_cons (pv 0) (pa_cons pe_int pa_nil))) pa_nil)))))) (pe_d dt hr (by decide) (by rfl) (pa_cons (pv 0) (pa_cons pe_int pa_nil))) (fun _ _ => rfl))) (pe_callTy call_int1 (by rfl) T.int (by decide +kernel) (pa_cons (pe_cmpR op_gt (pv 5) pe_int (nomark _)) pa_nil))))
      (pss_cons (ps_set (i := 6) scLawHistory.nd rfl (.inl rfl) (pe_ix ix_list (pe_lst (pa_cons pe_int (pa_cons pe_int (pa_cons (pv 1) (pa_cons (pe_callB (call_min2 rfl) (by rfl) T.min PyProof.Rows.boot_min (pa_cons (pv 1) (pa_cons (pe_d dt hr (by decide) (by rfl) (pa_cons (pv 0) (pa_cons pe_int pa_nil))) pa_nil))) pa_nil))))) (pe_d dt hr (by decide) (by rfl) (pa_cons (pv 0) (pa_cons pe_int pa_nil))) (fun _ _ => rfl)))
      (pss_one (ps_expr (pe_bm PySem.F.plainAttrs_list PySem.F.slot_list_append PySem.F.type_list_append mt_append (pv 3) (pa_cons (pe_tup (pa_cons (pe_callB (call_min2 rfl) (by rfl) T.min PyProof.Rows.boot_min (pa_cons (pv 4) (pa_cons (pe_op op_add (pv 2) (pv 5)) pa_nil))) (pa_cons (pv 6) (pa_cons (pe_ix ix_list (pe_lst (pa_cons pe_str (pa_cons pe_str (pa_cons pe_str (pa_cons pe_str pa_nil))))) (pe_d dt hr (by decide) (by rfl) (pa_cons (pv 0) (pa_cons pe_int pa_nil))) (fun _ _ => rfl)) pa_nil)))) pa_nil)))))))
    (pss_one (ps_ret (pe_lc (own := [("_law_at", 7), ("_law_sign", 8)]) (g := (gTup K 2 (gCons (gName 7) (gCons (gName 8) gNil)))) rfl scLawHistory.nd (pi_enum (by rfl) T.enumerate (pa_cons (pv 3) pa_nil))
        (blkOk_by (own := [("_law_at", 7), ("_law_sign", 8)]) (N := ["_law_box_here", "_law_high", "_law_ticks", "_law_found", "_law_time", "_law_lap", "_law_worth", "_law_at", "_law_sign", "_law_one"]) (sc := defScope sLawHistory) (by decide +kernel))
        (fun _ _ _ _ _ => (pg_tup (by rfl) (pgs_cons (pg_name (i := 7) scLawHistory.nd rfl (.inl rfl)) (pgs_cons (pg_name (i := 8) scLawHistory.nd rfl (.inl rfl)) pgs_nil)))) (fun _ _ _ _ _ => (pts_one (PW.pt (pw_or (pt_cmpR op_eq (pv 7) pe_int (nomark _)) (pw_or1 (pt_cmpR op_gt (pe_ix (r := rIxT K) ix_tup (pv 8) pe_int (fun _ _ => rfl)) (pe_callB (r := rMax K) (cr_max rfl) (by rfl) T.max PyProof.Rows.boot_max (pa_cons (pe_lc (own := [("_law_one", 9)]) (g := gName 9) (tt := tYes) rfl scLawHistory.nd (pi_listK (K := K) rfl (pe_slice (sl_listK (K := K) rfl) (pv 3) po_none (po_some (pv 7))))
        (blkOk_by (own := [("_law_one", 9)]) (N := ["_law_box_here", "_law_high", "_law_ticks", "_law_found", "_law_time", "_law_lap", "_law_worth", "_law_at", "_law_sign", "_law_one"]) (sc := { kind := ScopeKind.function, names := [(".0", NameKind.local), ("_law_at", NameKind.local), ("_law_sign", NameKind.local), ("max", NameKind.globalImplicit), ("_law_found", NameKind.cell)], isGenerator := false, isCoroutine := false }) (by decide +kernel))
        (fun _ _ _ _ _ => (pg_name (i := 9) scLawHistory.nd rfl (.inl rfl))) (fun _ _ _ _ _ => pts_nil)
        (fun _ _ _ _ _ => (pe_ix (r := rIxT K) ix_tup (pv 9) pe_int (fun _ _ => rfl)))) pa_nil)) (nomark _)))))))
        (fun _ _ _ _ _ => (pv 8))))))), ?_⟩
  dsimp only [gName]
  refine ⟨by show 0 ≤ sizeLine; decide, fun F nF => ?_⟩
  have Fp := hb.ne nF
  have S0 := Same.laid (o := HO.lst []) nF
  have eF : upd H F (.lst []) F = some (.lst []) := upd_same
  generalize upd H F (.lst []) = H0 at *
  refine ⟨by show 2 ≤ sizeLine; decide, fun q nq => ?_⟩
  have S1 := Same.laid (o := HO.tup [.ref F, .int 0]) nq
  have eq : upd H0 q (.tup [.ref F, .int 0]) q = some (.tup [.ref F, .int 0]) := upd_same
  have eF1 := S1 _ _ eF
  generalize upd H0 q (.tup [.ref F, .int 0]) = H1 at *
  refine ⟨q, _, rfl, SqT.of eq, rfl, _, _, rfl, _, _, rfl, rfl, ?_⟩
  have S01 := S0.trans S1
  have hb1 := hb.keep S01
  refine ⟨by show 5 ≤ sizeLine; decide, fun L nL => ?_⟩
  have Lp := hb1.ne nL
  have S2 := Same.laid (o := HO.lst [.int 0, .int 1, .int 3, .int 8, .int 20]) nL
  have eL : upd H1 L (.lst [.int 0, .int 1, .int 3, .int 8, .int 20]) L = some (.lst [.int 0, .int 1, .int 3, .int 8, .int 20]) := upd_same
  have eF2 := S2 _ _ eF1
  generalize upd H1 L (.lst [.int 0, .int 1, .int 3, .int 8, .int 20]) = H2 at *
  refine ⟨_, rfl, p, 5, n, rfl, hb1.keep S2, by omega, by decide, by decide, fun j G a2 b2 hbG BG => ?_⟩
  obtain ⟨y0, hy0, aty⟩ := menu (xs := [V.int 0, .int 1, .int 3, .int 8, .int 20]) a2 (by simpa using b2)
  obtain ⟨mm, rfl, m20⟩ : ∃ m : Nat, y0 = .int m ∧ m ≤ 20 := by
    simp only [List.mem_cons, List.not_mem_nil, or_false] at hy0
    rcases hy0 with rfl | rfl | rfl | rfl | rfl
    · exact ⟨0, rfl, by decide⟩
    · exact ⟨1, rfl, by decide⟩
    · exact ⟨3, rfl, by decide⟩
    · exact ⟨8, rfl, by decide⟩
    · exact ⟨20, rfl, by decide⟩
  have eF3 := BG.at Fp eF2
  have BHG : But p H G := (Same.but (S01.trans S2)).trans BG
  refine ⟨L, _, j, _, rfl, rfl, SqL.of (BG.at Lp eL), aty, (mm : Int), rfl, by omega, by omega, ?_⟩
  refine for_it (walk_range (lo := 0) (n := mm)) (fun i σ X => ∃ (t : Int) (v5 v6 : Option V) (rs : List R3), σ = [some (.ref p), some (.int hi), some (.int tk), some (.ref F), some (.int t), v5, v6, none, none, none] ∧
      0 ≤ t ∧ t ≤ 40 * i ∧ BoxAt X p (n + 1 + 5 * i) ∧ But p H X ∧ LT f3 X F rs ∧ rs.length = i ∧ ∀ r ∈ rs, RowIn hi tk i r) ?_ (fun _ _ _ _ _ => trivial) ?_ ?_
  · exact ⟨0, none, none, [], rfl, by omega, by omega, hbG, BHG, ⟨[], eF3, .nil⟩, rfl, fun r h => by cases h⟩
  · rintro i v σ X0 X hi' ⟨t, v5, v6, rs, rfl, ht0, ht1, hbX, BX, hF, hl, hrs⟩ ⟨rfl, rfl⟩
    obtain ⟨vF, eFX, alF⟩ := hF.ex
    dsimp only [gName]
    have i20 : i < 20 := by omega
    -- the time
    refine ⟨_, rfl, _, rfl, p, 30, _, rfl, hbX, by omega, by decide, by decide, fun j1 X1 c1 d1 hb1 B1 => ?_⟩
    refine ⟨by show 5 ≤ sizeLine; decide, fun L1 nL1 => ?_⟩
    have LP1 := hb1.ne nL1
    refine ⟨_, rfl, p, 5, _, rfl, hb1.laid nL1, by omega, by decide, by decide, fun j2 X2 c2 d2 hb2 B2 => ?_⟩
    obtain ⟨y0, hy0, aty⟩ := menu (xs := [V.int 0, .int 1, .int 1, .int 2, .int j1]) c2 (by simpa using d2)
    have eL1 : X2 L1 = some (.lst [V.int 0, .int 1, .int 1, .int 2, .int j1]) := B2.at LP1 upd_same
    obtain ⟨y, rfl, y0', y1'⟩ : ∃ y : Int, y0 = .int y ∧ 0 ≤ y ∧ y ≤ 30 := by
      simp only [List.mem_cons, List.not_mem_nil, or_false] at hy0
      rcases hy0 with rfl | rfl | rfl | rfl | rfl
      · exact ⟨0, rfl, by decide, by decide⟩
      · exact ⟨1, rfl, by decide, by decide⟩
      · exact ⟨1, rfl, by decide, by decide⟩
      · exact ⟨2, rfl, by decide, by decide⟩
      · exact ⟨j1, rfl, c1, by omega⟩
    have BX2 : But p X X2 := B1.trans ((But.laid nL1).trans B2)
    refine ⟨L1, _, j2, .int y, rfl, rfl, SqL.of eL1, aty, _, _, rfl, rfl, ?_⟩
    refine ⟨_, rfl, _, _, rfl, rfl, .inr ⟨_, rfl, ?_⟩⟩
    refine ⟨_, _, rfl, rfl, ?_⟩
    obtain ⟨t', et', t0', t1'⟩ : ∃ t' : Int, t + y + (if decide ((0 : Int) < 0 + (i : Int)) = true then 1 else 0) = t' ∧ 0 ≤ t' ∧ t' ≤ 40 * (i + 1 : Nat) := ⟨_, rfl, by split <;> omega, by split <;> omega⟩
    dsimp only [gName]
    rw [et']
    clear et' aty hy0
    -- the worth
    refine ⟨_, rfl, _, rfl, _, rfl, p, 4, _, rfl, hb2, by omega, by decide, by decide, fun j3 X3 c3 d3 hb3 B3 => ?_⟩
    refine ⟨hi, j3, rfl, ?_⟩
    obtain ⟨u, eu, u0, u1⟩ : ∃ u : Int, (if j3 < hi then j3 else hi) = u ∧ 0 ≤ u ∧ u ≤ hi := ⟨_, rfl, by split <;> omega, by split <;> omega⟩
    rw [eu]
    refine ⟨by show 4 ≤ sizeLine; decide, fun L2 nL2 => ?_⟩
    have LP2 := hb3.ne nL2
    refine ⟨_, rfl, p, 4, _, rfl, hb3.laid nL2, by omega, by decide, by decide, fun j4 X4 c4 d4 hb4 B4 => ?_⟩
    obtain ⟨w0, hw0, atw⟩ := menu (xs := [V.int 0, .int 1, .int hi, .int u]) c4 (by simpa using d4)
    have eL2 : X4 L2 = some (.lst [V.int 0, .int 1, .int hi, .int u]) := B4.at LP2 upd_same
    obtain ⟨wo, rfl, wo0, wo1⟩ : ∃ y : Int, w0 = .int y ∧ 0 ≤ y ∧ y ≤ hi := by
      simp only [List.mem_cons, List.not_mem_nil, or_false] at hw0
      rcases hw0 with rfl | rfl | rfl | rfl
      · exact ⟨0, rfl, by decide, by omega⟩
      · exact ⟨1, rfl, by decide, by omega⟩
      · exact ⟨hi, rfl, by omega, by omega⟩
      · exact ⟨u, rfl, u0, u1⟩
    have BX4 : But p X X4 := BX2.trans (B3.trans ((But.laid nL2).trans B4))
    refine ⟨L2, _, j4, .int wo, rfl, rfl, SqL.of eL2, atw, ?_⟩
    dsimp only [gName]
    clear atw hw0
    -- the row
    have eF4 := BX4.at Fp eFX
    refine ⟨_, rfl, .inl ⟨rfl, _, SqL.of eF4⟩, _, rfl, _, rfl, _, rfl, _, _, rfl, rfl, t', tk + (0 + (i : Int)), rfl, ?_⟩
    obtain ⟨mt, emt, mt0, mt1⟩ : ∃ u : Int, (if tk + (0 + (i : Int)) < t' then tk + (0 + (i : Int)) else t') = u ∧ 0 ≤ u ∧ u ≤ tk + i := ⟨_, rfl, by split <;> omega, by split <;> omega⟩
    rw [emt]
    refine ⟨_, rfl, by show 4 ≤ sizeLine; decide, fun L3 nL3 => ?_⟩
    have LP3 := hb4.ne nL3
    refine ⟨_, rfl, p, 4, _, rfl, hb4.laid nL3, by omega, by decide, by decide, fun j5 X5 c5 d5 hb5 B5 => ?_⟩
    obtain ⟨s0, hs0, ats⟩ := menu (xs := [V.str "good", .str "good", .str "good", .str "odd"]) c5 (by simpa using d5)
    have eL3 : X5 L3 = some (.lst [V.str "good", .str "good", .str "good", .str "odd"]) := B5.at LP3 upd_same
    obtain ⟨m, rfl, mg'⟩ : ∃ m : Str, s0 = .str m ∧ (m = "good" ∨ m = "odd") := by
      simp only [List.mem_cons, List.not_mem_nil, or_false] at hs0
      rcases hs0 with rfl | rfl | rfl | rfl
      · exact ⟨_, rfl, .inl rfl⟩
      · exact ⟨_, rfl, .inl rfl⟩
      · exact ⟨_, rfl, .inl rfl⟩
      · exact ⟨_, rfl, .inr rfl⟩
    have BX5 : But p X X5 := BX4.trans ((But.laid nL3).trans B5)
    refine ⟨L3, _, j5, .str m, rfl, rfl, SqL.of eL3, ats, by show 3 ≤ sizeLine; decide, fun r nr => ?_⟩
    have eF5 := BX5.at Fp eFX
    have rF : r ≠ F := fun z => by rw [z, eF5] at nr; cases nr
    refine ⟨F, vF, .ref r, rfl, rfl, (upd_ne rF.symm).trans eF5, by rw [alF.length]; exact Nat.lt_of_le_of_lt (show rs.length ≤ 20 by omega) (by decide), ?_⟩
    refine ⟨t', _, _, rs ++ [((mt, wo, m) : R3)], rfl, t0', t1', ((hb5.laid nr).set Fp).up (by omega), But.wo_upd (BX.trans (BX5.trans (But.laid nr))) nF, lt_push (f := f3) (x := ((mt, wo, m) : R3)) eF5 (Al.but alF hbX BX5) nr, by rw [List.length_append, hl]; rfl, fun x hx => ?_⟩
    rcases List.mem_append.mp hx with h | h
    · exact (hrs x h).up (by omega)
    · rw [List.mem_singleton.mp h]
      exact ⟨mt0, by show mt ≤ tk + ((i + 1 : Nat) : Int); omega, wo0, wo1, mg'⟩
  rintro σ X ⟨t, v5, v6, rs, rfl, ht0, ht1, hbX, BX, hF, hl, hrs⟩
  obtain ⟨vF, eFX, alF⟩ := hF.ex
  dsimp only [gName]
  have m20' : rs.length ≤ 20 := by omega
  refine ⟨_, rfl, F, vF, rfl, SqL.of eFX, fun D nD => ?_⟩
  have Dp := hbX.ne nD
  have nDH := But.none_of BX nD Dp
  have lv := alF.length
  refine lc_acc (walk_enum (K := K) (a := F) (xs := vF)) nD (by omega)
    (fun i acc G => ∃ ks : List R3, Al f3 G acc ks ∧ (ks.Pairwise fun a b => a.1 < b.1) ∧ (∀ x ∈ ks, x ∈ rs.take i) ∧ ks.length ≤ i) ⟨[], .nil, .nil, (fun x h => by cases h), by decide⟩ (fun H' S => SqL.of (S _ _ eFX)) ?_ ?_
  · rintro i v G0 G1 acc hi' S eD hl2 ⟨ks, alk, pw, sub, kl⟩ hy Fy Fn hy1 hy2
    obtain ⟨q1, x, y, rfl, nq1, rfl, ex, ey⟩ := hy
    cases ex
    obtain ⟨q2, r, rfl, hr', er⟩ := alF.get ey
    have U := Same.laid (o := HO.tup [V.int (i : Int), .ref q2]) nq1
    refine ⟨q1, _, rfl, SqT.of upd_same, rfl, _, _, rfl, _, _, rfl, rfl, ?_⟩
    generalize upd G0 q1 (.tup [V.int (i : Int), .ref q2]) = G2 at *
    have q2D : q2 ≠ D := ne_of_none er nD
    have tk1 : rs.take (i + 1) = rs.take i ++ [r] := by rw [List.take_add_one, hr']; rfl
    have fin : ∀ H4, Same G0 H4 → (∀ x ∈ ks, x.1 < r.1) → ∃ ks' : List R3, Al f3 (Pw.wo H4 D) (acc ++ [.ref q2]) ks' ∧ (ks'.Pairwise fun a b => a.1 < b.1) ∧ (∀ x ∈ ks', x ∈ rs.take (i + 1)) ∧ ks'.length ≤ i + 1 := fun H4 S4 lt => by
      refine ⟨ks ++ [r], Al.snoc (alk.same (Same.wo S4)) (wo_of q2D (S4 _ _ (S _ _ er))), ?_, fun x hx => ?_, by rw [List.length_append]; simp; omega⟩
      · rw [List.pairwise_append]
        exact ⟨pw, List.pairwise_singleton _ _, fun a ha b hb => by rw [List.mem_singleton.mp hb]; exact lt a ha⟩
      · rw [tk1]
        rcases List.mem_append.mp hx with h | h
        · exact List.mem_append_left _ (sub x h)
        · exact List.mem_append_right _ h
    refine ⟨rfl, ?_⟩
    refine ⟨_, rfl, rfl, _, rfl, ?_⟩
    refine ite2 (fun h => ?_) (fun h => ?_)
    · have i0 : i = 0 := by
        have := of_decide_eq_true h
        have := V.int.inj this
        omega
      refine iteT ⟨_, rfl, hy1 _ _ U (fin _ U fun x hx => ?_)⟩
      have := sub x hx
      rw [i0] at this
      cases this
    have i0 : 0 < i := by
      rcases Nat.eq_zero_or_pos i with z | z
      · rw [z] at h
        exact absurd (decide_eq_true rfl) h
      · exact z
    have er2 := U _ _ (S _ _ er)
    have eF2 := U _ _ (S _ _ eFX)
    refine ⟨_, rfl, q2, f3 r, 0, .int r.1, rfl, rfl, SqT.of er2, rfl, ?_⟩
    refine ⟨_, rfl, _, rfl, (i : Int), rfl, F, vF, rfl, SqL.of eF2, fun L nL => ?_⟩
    rw [cut_to]
    have U2 := Same.laid (o := HO.lst (vF.take i)) nL
    have eL : upd G2 L (.lst (vF.take i)) L = some (.lst (vF.take i)) := upd_same
    generalize upd G2 L (.lst (vF.take i)) = G3 at *
    refine ⟨L, rfl, ⟨_, SqL.of eL⟩, fun D2 nD2 => ?_⟩
    have al3 : Al f3 G3 (vF.take i) (rs.take i) := ((alF.same S).same (U.trans U2)).take i
    have il : (vF.take i).length = i := by rw [List.length_take]; omega
    refine lc_acc (walk_list (K := K) (a := L) (xs := vF.take i)) nD2 (by omega) (fun j acc _ => acc = (((rs.take i).take j).map (·.1)).map V.int) rfl (fun H' S => SqL.of (S _ _ eL)) ?_ ?_
    · rintro j v Y2 Y3 acc2 hj S2 eD2 hl3 rfl ⟨rfl, hx⟩ Gy Gn gy1 _
      obtain ⟨q3, x, rfl, hx', eq3⟩ := (al3.same S2).get hx
      refine ⟨rfl, ?_⟩
      unfold tYes
      refine iteT ?_
      refine ⟨_, rfl, q3, f3 x, 0, .int x.1, rfl, rfl, SqT.of eq3, rfl, ?_⟩
      refine gy1 _ _ (Same.refl _) ?_
      rw [List.take_add_one, hx', List.map_append, List.map_append]
      rfl
    rintro Y2 acc2 S2 eD2 rfl
    rw [il, List.take_take, Nat.min_self] at eD2
    refine ⟨D2, _, rfl, SqL.of eD2, by rw [List.length_map, List.length_take]; omega, fun m hm hle => ?_⟩
    have SY := U.trans (U2.trans S2)
    refine ⟨_, _, rfl, rfl, _, rfl, ?_⟩
    refine ite2 (fun h => ?_) (fun h => ?_)
    · have lt : m < r.1 := of_decide_eq_true h
      refine ⟨_, rfl, hy1 _ _ SY (fin _ SY fun x hx => ?_)⟩
      exact Int.lt_of_le_of_lt (hle _ (List.mem_map.mpr ⟨x, sub x hx, rfl⟩)) lt
    · refine hy2 _ SY ⟨ks, alk.same (Same.wo SY), pw, fun x hx => ?_, by omega⟩
      rw [tk1]
      exact List.mem_append_left _ (sub x hx)
  · rintro G acc S eD ⟨ks, alk, pw, sub, kl⟩
    have mem : ∀ x ∈ ks, x ∈ rs := fun x h => List.mem_of_mem_take (sub x h)
    have klen : ks.length ≤ 20 := by omega
    refine k D G ks nDH Dp ((hbX.keep S).up (by omega)) (BX.trans (Same.but S)) ⟨acc, eD, alk.imp fun b xs e => wo_same _ _ e⟩ ⟨fun x h => ?_, pw, by omega⟩ klen (fun x h => (hrs x (mem x h)).w1) (fun x h => by have := (hrs x (mem x h)).t1; omega)
    have g := hrs x (mem x h)
    have := g.t1
    have := g.w1
    exact ⟨g.t0, by omega, g.w0, by omega, g.m⟩
end
end V51

set_option maxHeartbeats 8000000
namespace V51
open PySem PySem.Spec PyProof.Rows L2 Pw
theorem LS.imp {α : Type} {f : α → List V} {H H' : Hp} {a : Addr} {rs : List α} (h : LS f H a rs) (S : ∀ b o, H b = some o → ((∃ vs, o = .lst vs) ∨ ∃ vs, o = .tup vs) → H' b = some o) : LS f H' a rs := by
  rcases h with h | ⟨vs, e, al⟩
  · obtain ⟨vs, e, al⟩ := h.ex
    exact .inl ⟨vs, S _ _ e (.inl ⟨_, rfl⟩), al.imp fun b xs e => S _ _ e (.inr ⟨_, rfl⟩)⟩
  · exact .inr ⟨vs, S _ _ e (.inr ⟨_, rfl⟩), al.imp fun b xs e => S _ _ e (.inr ⟨_, rfl⟩)⟩
theorem HA.imp {G G' : Hp} {kvs : List (Key × V)} {hs : List (Str × List R3)} (h : HA G kvs hs) (S : ∀ b o, G b = some o → ((∃ vs, o = .lst vs) ∨ ∃ vs, o = .tup vs) → G' b = some o) : HA G' kvs hs := by
  induction h with
  | nil => exact .nil
  | cons h _ ih => exact .cons (LS.imp h S) ih
theorem HA.snoc {G : Hp} {kvs : List (Key × V)} {hs : List (Str × List R3)} {a : Addr} {nm : Str} {rs : List R3} (h : HA G kvs hs) (l : LS f3 G a rs) : HA G (kvs ++ [(.inr nm, .ref a)]) (hs ++ [(nm, rs)]) := by
  induction h with
  | nil => exact .cons l .nil
  | cons h _ ih => exact .cons h ih
theorem HA.keys {G : Hp} {kvs : List (Key × V)} {hs : List (Str × List R3)} (h : HA G kvs hs) : kvs.map Prod.fst = (hs.map Prod.fst).map Sum.inr := by
  induction h with
  | nil => rfl
  | cons h _ ih => rw [List.map_cons, List.map_cons, List.map_cons, ih]
/-- off a dict -/
theorem HA.off {G : Hp} {d : Addr} {kvs0 : List (Key × V)} {o : HO} {kvs : List (Key × V)} {hs : List (Str × List R3)} (h : HA G kvs hs) (e : G d = some (.dK kvs0)) : HA (upd G d o) kvs hs :=
  HA.imp h fun b o' eb hl => (upd_ne (fun z => by rw [z, e] at eb; cases eb; rcases hl with ⟨_, h⟩ | ⟨_, h⟩ <;> cases h)).trans eb
theorem HA.wo {G : Hp} {d : Addr} {kvs0 : List (Key × V)} {kvs : List (Key × V)} {hs : List (Str × List R3)} (h : HA G kvs hs) (e : G d = some (.dK kvs0)) : HA (Pw.wo G d) kvs hs :=
  HA.imp h fun b o' eb hl => wo_of (fun z => by rw [z, e] at eb; cases eb; rcases hl with ⟨_, h⟩ | ⟨_, h⟩ <;> cases h) eb
theorem wo_none_at {H : Hp} {p : Addr} : Pw.wo H p p = none := if_pos rfl
theorem wo_swap {H : Hp} {p d : Addr} {o : HO} (ne : d ≠ p) : Pw.wo (upd H d o) p = upd (Pw.wo H p) d o := by
  funext b
  by_cases h : b = p
  · subst h
    rw [wo_none_at, upd_ne (Ne.symm ne), wo_none_at]
  · rw [wo_ne h]
    by_cases hd : b = d
    · subst hd
      rw [upd_same, upd_same]
    · rw [upd_ne hd, upd_ne hd, wo_ne h]
theorem Al.perm {α : Type} {f : α → List V} {H : Hp} {xs ys : List V} {rs : List α} (h : Al f H xs rs) (pe : ys.Perm xs) : ∃ qs, Al f H ys qs ∧ qs.Perm rs := by
  have : ∀ {xs ys : List V}, xs.Perm ys → ∀ {rs : List α}, Al f H xs rs → ∃ qs, Al f H ys qs ∧ qs.Perm rs := by
    intro xs ys pe
    induction pe with
    | nil => intro rs h; cases h; exact ⟨[], .nil, .nil⟩
    | cons x _ ih =>
      intro rs h
      cases h with
      | cons e t =>
        obtain ⟨qs, h1, h2⟩ := ih t
        exact ⟨_ :: qs, .cons e h1, h2.cons _⟩
    | swap x y l =>
      intro rs h
      cases h with
      | cons e t =>
        cases t with
        | cons e2 t2 => exact ⟨_, .cons e2 (.cons e t2), List.Perm.swap _ _ _⟩
    | trans _ _ ih1 ih2 =>
      intro rs h
      obtain ⟨q1, h1, h2⟩ := ih1 h
      obtain ⟨q2, h3, h4⟩ := ih2 h1
      exact ⟨q2, h3, h4.trans h2⟩
  exact this pe.symm h
theorem LT.wo {α : Type} {f : α → List V} {H : Hp} {p b : Addr} {n : Nat} {rs : List α} (h : LT f H b rs) (ne : b ≠ p) (hb : BoxAt H p n) : LT f (Pw.wo H p) b rs := by
  obtain ⟨vs, e, al⟩ := h.ex
  obtain ⟨us, eb⟩ := hb.lst
  exact ⟨vs, wo_of ne e, al.imp fun q xs eq => wo_of (fun z => by rw [z, eb] at eq; cases eq) eq⟩
section
variable {P : Program} {w : World} {K : PySem.W.Frag} {mg : Str → Option Value} {base : Heap}
def spHists (K : PySem.W.Frag) : Sp := fun vs H Q _ => ∃ p a tk n ps, vs = [.ref p, .ref a, .int tk] ∧ BoxAt H p n ∧ n ≤ 800000 ∧ a ≠ p ∧ LT fP H a ps ∧ GoodPs ps ∧ 0 ≤ tk ∧ tk ≤ 9970 ∧
  ∀ d H' kvs hs, H d = none → d ≠ p → BoxAt H' p (n + 1000) → But p H H' → H' d = some (.dK kvs) → HA (Pw.wo H' p) kvs hs → GoodHs ps hs → (hs.map Prod.fst).Nodup → hs.length ≤ 8 → (∀ h ∈ hs, h.2.length ≤ 20 ∧ ∀ r ∈ h.2, r.1 ≤ tk + 20) → Q (.ref d) H'
theorem d_hists (T : Txt mg) (A : At K mg "_law_histories" sLawHistories) (dt : Def P w K mg base "_law_take" 1 ["_law_box_here", "_law_many"] (spTake K))
    (dm : Def P w K mg base "_law_mixed" 2 ["_law_box_here", "_law_some"] (spMixed K)) (dh : Def P w K mg base "_law_history" 2 ["_law_box_here", "_law_high", "_law_ticks"] (spHist1 K)) :
    Def P w K mg base "_law_histories" 3 ["_law_box_here", "_law_points_here", "_law_ticks"] (spHists K) := by
  refine mkDef A scLawHistories (fun _ _ _ _ _ _ us hl => match us, hl with | [_, _, _], _ => rfl) (fun vs H Q E ⟨_, _, _, _, _, e, _⟩ => by rw [e]; rfl)
    (fun f cdv A out s H vs Q E hr h => ?_)
  obtain ⟨p, a, tk, n, ps, rfl, hb, hn, ap, hps, gps, t0, t1, k⟩ := h
  have hu : (A.deeper (envOfC "_law_histories" (defScope sLawHistories) s.heap.objs.size f cdv)).units + 1 < cLine := hu_of hr
  refine ⟨_, (pss_cons (ps_set (i := 3) scLawHistories.nd rfl (.inl rfl) pe_dnewK)
    (pss_cons (ps_for PassesOwn.never rfl (pi_list (pe_d dm hr (by decide) (by rfl) (pa_cons (pv 0) (pa_cons (pv 1) pa_nil)))) (pg_tup (by rfl) (pgs_cons (pg_name (i := 4) scLawHistories.nd rfl (.inl rfl)) (pgs_cons (pg_name (i := 5) scLawHistories.nd rfl (.inl rfl)) (pgs_cons (pg_name (i := 6) scLawHistories.nd rfl (.inl rfl)) pgs_nil))))
      (pss_one (ps_if (pt_cmpR op_gt (pe_d dt hr (by decide) (by rfl) (pa_cons (pv 0) (pa_cons pe_int pa_nil))) pe_int (nomark _))
        (pss_one (ps_dput hu (pv 3) (pv 4) (pe_d dh hr (by decide) (by rfl) (pa_cons (pv 0) (pa_cons (pe_ifExp (pt_cmpR op_eq (pv 6) pe_str (nomark _)) pe_int pe_int) (pa_cons (pv 2) pa_nil)))) rfl))
        pss_nil)))
    (pss_one (ps_ret (pv 3))))), ?_⟩
  intro D nD
  have Dp := hb.ne nD
  have S1 := Same.laid (o := HO.dK []) nD
  have eD : upd H D (.dK []) D = some (.dK []) := upd_same
  generalize upd H D (.dK []) = H1 at *
  dsimp only [gName]
  obtain ⟨vs, ea, al⟩ := hps.ex
  have hlen := al.length
  have l8 := gps.len
  refine ⟨_, rfl, _, rfl, p, a, n, vs, rfl, hb.keep S1, by omega, ap, S1 _ _ ea, by omega, fun b H2 ys nb bp hb2 B2 eb pe => ?_⟩
  obtain ⟨qs, alq, pq⟩ := Al.perm (al.same S1) pe
  have alq2 := Al.but alq (hb.keep S1) B2
  have qlen := alq2.length
  have qps := pq.length_eq
  have bD : b ≠ D := fun z => by rw [z, eD] at nb; cases nb
  have BH2 : But p H H2 := (Same.but S1).trans B2
  have ndq : (qs.map (·.nm)).Nodup := (pq.map _).nodup_iff.mpr gps.nd
  refine ⟨b, rfl, ⟨_, SqL.of eb⟩, ?_⟩
  refine for_it (walk_list (K := K) (a := b) (xs := ys)) (fun i σ X => ∃ (v4 v5 v6 : Option V) (kvs : List (Key × V)) (hs : List (Str × List R3)), σ = [some (.ref p), some (.ref a), some (.int tk), some (.ref D), v4, v5, v6] ∧
      BoxAt X p (n + 8 + 111 * i) ∧ But p H X ∧ X b = some (.lst ys) ∧ Al fP X ys qs ∧ X D = some (.dK kvs) ∧ HA (Pw.wo X p) kvs hs ∧ GoodHs ps hs ∧ (hs.map Prod.fst).Nodup ∧ (∀ h ∈ hs, h.1 ∈ (qs.take i).map (·.nm)) ∧ hs.length ≤ i ∧ ∀ h ∈ hs, h.2.length ≤ 20 ∧ ∀ r ∈ h.2, r.1 ≤ tk + 20) ?_
    (fun i σ X _ ⟨_, _, _, _, _, _, _, _, e, _⟩ => SqL.of e) ?_ ?_
  · exact ⟨none, none, none, [], [], rfl, hb2.up (by omega), BH2, eb, alq2, B2.at Dp eD, .nil, (fun h hh => by cases hh), .nil, (fun h hh => by cases hh), by decide, (fun h hh => nomatch hh)⟩
  · rintro i v σ X0 X hi ⟨v4, v5, v6, kvs, hs, rfl, hbX, BX, ebX, alX, eDX, ha, gh, ndh, sub, hl, hbd⟩ ⟨rfl, hx⟩
    obtain ⟨q, pt, rfl, hpt, eq⟩ := alX.get hx
    have hin : pt ∈ ps := pq.mem_iff.mp (List.mem_of_getElem? hpt)
    have et : qs.take (i + 1) = qs.take i ++ [pt] := by rw [List.take_add_one, hpt]; rfl
    have sub' : ∀ h ∈ hs, h.1 ∈ (qs.take (i + 1)).map (·.nm) := fun h hh => by
      rw [et, List.map_append]
      exact List.mem_append_left _ (sub h hh)
    refine ⟨q, _, rfl, SqT.of eq, rfl, _, _, rfl, _, _, rfl, _, _, rfl, rfl, ?_⟩
    dsimp only [gName]
    refine ⟨_, rfl, p, 5, _, rfl, hbX, by omega, by decide, by decide, fun j X1 ja jb hb1 B1 => ?_⟩
    have eb1 := B1.at bp ebX
    have al1 := Al.but alX hbX B1
    have eD1 := B1.at Dp eDX
    refine ⟨_, _, rfl, rfl, _, rfl, ?_⟩
    refine ite2 (fun _ => ?_) (fun _ => ?_)
    · have nin : (Sum.inr pt.nm : Key) ∉ kvs.map Prod.fst := fun z => by
        rw [ha.keys] at z
        obtain ⟨s, hs', e⟩ := List.mem_map.mp z
        obtain ⟨h, hh, e2⟩ := List.mem_map.mp hs'
        have h1 := sub h hh
        rw [e2, Sum.inr.inj e, List.map_take] at h1
        exact nodup_take ndq (by rw [List.getElem?_map, hpt]; rfl) h1
      have FIN : ∀ (c : Addr) (X2 : Hp) (rs : List R3), X1 c = none → c ≠ p → BoxAt X2 p (n + 8 + 111 * i + 1 + 110) → But p X1 X2 → LT f3 X2 c rs → GoodH rs → rs.length ≤ 20 → (∀ r ∈ rs, r.2.1 ≤ hiP pt) → (∀ r ∈ rs, r.1 ≤ tk + 20) →
          X2 D = some (.dK kvs) ∧ (∃ (v4 v5 v6 : Option V) (kvs' : List (Key × V)) (hs : List (Str × List R3)), [some (.ref p), some (.ref a), some (.int tk), some (.ref D), some (V.str pt.nm), some (V.str pt.pl), some (V.str (kd pt.sw))] = [some (.ref p), some (.ref a), some (.int tk), some (.ref D), v4, v5, v6] ∧
      BoxAt (upd X2 D (.dK (putK kvs (.inr pt.nm) (.ref c)))) p (n + 8 + 111 * (i + 1)) ∧ But p H (upd X2 D (.dK (putK kvs (.inr pt.nm) (.ref c)))) ∧ (upd X2 D (.dK (putK kvs (.inr pt.nm) (.ref c)))) b = some (.lst ys) ∧ Al fP (upd X2 D (.dK (putK kvs (.inr pt.nm) (.ref c)))) ys qs ∧ (upd X2 D (.dK (putK kvs (.inr pt.nm) (.ref c)))) D = some (.dK kvs') ∧ HA (Pw.wo (upd X2 D (.dK (putK kvs (.inr pt.nm) (.ref c)))) p) kvs' hs ∧ GoodHs ps hs ∧ (hs.map Prod.fst).Nodup ∧ (∀ h ∈ hs, h.1 ∈ (qs.take (i + 1)).map (·.nm)) ∧ hs.length ≤ i + 1 ∧ ∀ h ∈ hs, h.2.length ≤ 20 ∧ ∀ r ∈ h.2, r.1 ≤ tk + 20) := by
        intro c X2 rs nc cp hb3 B2 hF gH rl rh rtk
        have eD2 := B2.at Dp eD1
        have eb2 := B2.at bp eb1
        have al2 := Al.but al1 hb1 B2
        have haX : HA (Pw.wo X2 p) kvs hs := ha.same (B1.trans B2)
        refine ⟨eD2, _, _, _, kvs ++ [(.inr pt.nm, .ref c)], hs ++ [(pt.nm, rs)], rfl, ?_⟩
        rw [putK_new nin, wo_swap Dp]
        refine ⟨(hb3.set Dp).up (by omega), But.wo_upd (BX.trans (B1.trans B2)) nD, (upd_ne bD).trans eb2, al2.imp fun q xs e => (upd_ne (fun z => by rw [z, eD2] at e; cases e)).trans e, upd_same, ?_, ?_, ?_, ?_, by rw [List.length_append]; simp; omega, fun h hh => (List.mem_append.mp hh).elim (hbd h) fun hh => by rw [List.mem_singleton.mp hh]; exact ⟨rl, rtk⟩⟩
        · exact HA.off (kvs0 := kvs) (HA.snoc haX (.inl (LT.wo hF cp hb3))) (wo_of Dp eD2)
        · intro h hh
          rcases List.mem_append.mp hh with hh | hh
          · exact gh h hh
          · rw [List.mem_singleton.mp hh]
            exact ⟨pt, hin, rfl, gH, by show rs.length ≤ 100; omega, rh⟩
        · rw [List.map_append, List.nodup_append]
          refine ⟨ndh, by simp, fun s hs' s' hs2 e => ?_⟩
          obtain ⟨h, hh, e2⟩ := List.mem_map.mp hs'
          simp only [List.map_cons, List.map_nil, List.mem_singleton] at hs2
          have h1 := sub h hh
          rw [e2, e, hs2, List.map_take] at h1
          exact nodup_take ndq (by rw [List.getElem?_map, hpt]; rfl) h1
        · intro h hh
          rcases List.mem_append.mp hh with hh | hh
          · exact sub' h hh
          · rw [List.mem_singleton.mp hh, et, List.map_append]
            exact List.mem_append_right _ (List.mem_singleton.mpr rfl)
      have kl : kvs.length ≤ 8 := by
        have := ha.length
        have := pe.length_eq
        omega
      have kl' : kvs.length < sizeLine := Nat.lt_of_le_of_lt kl (by decide)
      refine ⟨_, rfl, _, rfl, rfl, _, rfl, ?_⟩
      rw [kd_level]
      cases hsw : pt.sw with
      | true =>
        refine iteF ⟨_, rfl, p, 1, tk, _, rfl, hb1, by omega, by decide, by decide, t0, t1, fun c X2 rs nc cp hb3 B2 hF gH rl rh rtk => ?_⟩
        obtain ⟨eD2, f1⟩ := FIN c X2 rs nc cp hb3 B2 hF gH rl (by unfold hiP; rw [if_pos hsw]; exact rh) rtk
        refine ⟨_, rfl, _, rfl, D, _, rfl, DPut.k (k := .inr pt.nm) eD2 kl', ?_⟩
        rw [hsw] at f1
        exact f1
      | false =>
        refine iteT ⟨_, rfl, p, 63, tk, _, rfl, hb1, by omega, by decide, by decide, t0, t1, fun c X2 rs nc cp hb3 B2 hF gH rl rh rtk => ?_⟩
        obtain ⟨eD2, f1⟩ := FIN c X2 rs nc cp hb3 B2 hF gH rl (by unfold hiP; rw [if_neg (by rw [hsw]; decide)]; exact rh) rtk
        refine ⟨_, rfl, _, rfl, D, _, rfl, DPut.k (k := .inr pt.nm) eD2 kl', ?_⟩
        rw [hsw] at f1
        exact f1
    · exact ⟨_, _, _, kvs, hs, rfl, hb1.up (by omega), BX.trans B1, eb1, al1, eD1, ha.same B1, gh, ndh, sub', by omega, hbd⟩
  · rintro σ X ⟨v4, v5, v6, kvs, hs, rfl, hbX, BX, ebX, alX, eDX, ha, gh, ndh, sub, hl, hbd⟩
    have := pe.length_eq
    exact ⟨_, rfl, k D X kvs hs nD Dp (hbX.up (by omega)) BX eDX ha gh ndh (by omega) hbd⟩
end
end V51

set_option maxHeartbeats 8000000
namespace V51
open PySem PySem.Spec PyProof.Rows L2 Pw
def g3 (r : R3) : List PyData := [.int r.1, .int r.2.1, .str r.2.2]
def okM (r : R3) : Prop := r.2.2 = "good" ∨ r.2.2 = "odd"
theorem D3 : Dat f3 g3 okM := by
  refine ⟨fun K H r => .cons (.int _) (.cons (.int _) (.cons (.str _) .nil)), fun r h => ?_, fun r => ?_⟩
  · have : PyData.strOk r.2.2 = true := by rcases h with h | h <;> rw [h] <;> decide +kernel
    simp only [g3, PyData.canLayAll0, PyData.canLay0, this, Bool.and_self]
  · simp only [g3, PyData.depthAll, PyData.depth, Nat.max_self]
theorem Al.last {α : Type} {f : α → List V} {H : Hp} {vs : List V} {l : List α} {r : α} (h : Al f H vs (l ++ [r])) : ∃ l' q, vs = l' ++ [.ref q] ∧ H q = some (.tup (f r)) := by
  have hl := h.length
  rw [List.length_append, List.length_singleton] at hl
  have hx : vs[l.length]? = some (vs[l.length]'(by omega)) := List.getElem?_eq_getElem (by omega)
  obtain ⟨q, r', e, hr, eq⟩ := h.get hx
  rw [List.getElem?_append_right (Nat.le_refl _), Nat.sub_self] at hr
  cases hr
  refine ⟨vs.take l.length, q, ?_, eq⟩
  have h1 : vs = vs.take (l.length + 1) := (List.take_of_length_le (by omega)).symm
  rw [List.take_add_one, hx, e] at h1
  exact h1
section
variable {P : Program} {w : World} {K : PySem.W.Frag} {mg : Str → Option Value} {base : Heap}
def spLPic (K : PySem.W.Frag) : Sp := fun vs H Q _ => ∃ a d T ps kvs hs, vs = [.ref a, .ref d, .int T] ∧ LT fP H a ps ∧ GoodPs ps ∧ H d = some (.dK kvs) ∧ HA H kvs hs ∧ GoodHs ps hs ∧
  ∀ b H', Same H H' → H b = none → H' b = some (.dK (picK (picM ps hs T))) → Q (.ref b) H'
theorem d_lpic (T : Txt mg) (A : At K mg "_law_picture_at" sLawPictureAt) : Def P w K mg base "_law_picture_at" 1 ["_law_points_here", "_law_histories_here", "_law_time"] (spLPic K) := by
  refine mkDef A scLawPictureAt (fun _ _ _ _ _ _ us hl => match us, hl with | [_, _, _], _ => rfl) (fun vs H Q E ⟨_, _, _, _, _, _, e, _⟩ => by rw [e]; rfl)
    (fun f cdv A out s H vs Q E hr h => ?_)
  obtain ⟨a, d, T', ps, kvs, hs, rfl, hps, gps, ed, ha, gh, k⟩ := h
  have hu : (A.deeper (envOfC "_law_picture_at" (defScope sLawPictureAt) s.heap.objs.size f cdv)).units + 1 < cLine := hu_of hr
  refine ⟨_, (pss_cons (ps_set (i := 3) scLawPictureAt.nd rfl (.inl rfl) pe_dnewK)
    (pss_cons (ps_for PassesOwn.never rfl (pi_list (pv 0)) (pg_tup (by rfl) (pgs_cons (pg_name (i := 4) scLawPictureAt.nd rfl (.inl rfl)) (pgs_cons (pg_name (i := 5) scLawPictureAt.nd rfl (.inl rfl)) (pgs_cons (pg_name (i := 6) scLawPictureAt.nd rfl (.inl rfl)) pgs_nil))))
      (pss_cons (ps_setLc (i := 7) (own := [("_law_sign", 8)]) (g := gName 8) rfl scLawPictureAt.nd rfl rfl (sw_true rfl rfl rfl (by decide +kernel)) (pi_sq (pe_dget2 hu (pv 1) (pv 4) (pe_lst pa_nil) ⟨rfl, rfl, rfl, rfl⟩))
        (blkOk_by (own := [("_law_sign", 8)]) (N := ["_law_points_here", "_law_histories_here", "_law_time", "_law_found", "_law_name", "_law_place", "_law_kind", "_law_signs", "_law_sign"]) (sc := defScope sLawPictureAt) (by decide +kernel))
        (fun _ _ _ _ _ => (pg_name (i := 8) scLawPictureAt.nd rfl (.inl rfl))) (fun _ _ _ _ _ => (pts_one (pt_cmpR op_le (pe_ix (r := rIxT K) ix_tup (pv 8) pe_int (fun _ _ => rfl)) (pv 2) (nomark _))))
        (fun _ _ _ _ _ => (pv 8)))
      (pss_one (ps_if (PW.pt (pw_and (pt_cmpR (op_neD hr.units) (pv 7) (pe_lst pa_nil) (nomark _)) (pw_and1 (pt_cmpR op_eq (pe_ix (r := rIxT K) ix_tup (pe_ix ix_list (pv 7) (pe_un un_neg pe_int) (fun _ _ => rfl)) pe_int (fun _ _ => rfl)) pe_str (nomark _)))))
        (pss_one (ps_dput hu (pv 3) (pv 4) (pe_ix (r := rIxT K) ix_tup (pe_ix ix_list (pv 7) (pe_un un_neg pe_int) (fun _ _ => rfl)) pe_int (fun _ _ => rfl)) rfl))
        pss_nil))))
    (pss_one (ps_ret (pv 3))))), ?_⟩
  intro D nD
  have S1 := Same.laid (o := HO.dK []) nD
  have eD : upd H D (.dK []) D = some (.dK []) := upd_same
  have dD : d ≠ D := ne_of_none ed nD
  generalize upd H D (.dK []) = H1 at *
  dsimp only [gName]
  obtain ⟨vs, ea, al⟩ := hps.ex
  have hlen := al.length
  have l8 := gps.len
  have ea1 := S1 _ _ ea
  have al1 := al.same S1
  have aD : a ≠ D := ne_of_none ea nD
  refine ⟨_, rfl, a, rfl, ⟨_, SqL.of ea1⟩, ?_⟩
  refine for_it (walk_list (K := K) (a := a) (xs := vs)) (fun i σ G => (∃ v4 v5 v6 v7 : Option V, σ = [some (.ref a), some (.ref d), some (.int T'), some (.ref D), v4, v5, v6, v7, none]) ∧ Same (wo H1 D) (wo G D) ∧ G D = some (.dK (picK (picM (ps.take i) hs T')))) ?_
    (fun i σ G _ h => SqL.of (wo_same _ _ (h.2.1 _ _ (wo_of aD ea1)))) ?_ ?_
  · exact ⟨⟨none, none, none, none, rfl⟩, Same.refl _, eD⟩
  · rintro i v σ G0 G hi ⟨⟨v4, v5, v6, v7, rfl⟩, S, eG⟩ ⟨rfl, hx⟩
    obtain ⟨q, pt, rfl, hpt, eq⟩ := al1.get hx
    have qD : q ≠ D := fun z => by rw [z, eD] at eq; cases eq
    have et : ps.take (i + 1) = ps.take i ++ [pt] := by rw [List.take_add_one, hpt]; rfl
    have SHG : Same (wo H D) (wo G D) := (Same.wo S1).trans S
    have eqG := wo_same _ _ (S _ _ (wo_of qD eq))
    have edG : G d = some (.dK kvs) := wo_same _ _ (SHG _ _ (wo_of dD ed))
    have haG : HA G kvs hs := ((ha.same (by rw [wo_none nD]; exact Same.refl _ : Same H (wo H D))).same SHG).same wo_same
    refine ⟨q, _, rfl, SqT.of eqG, rfl, _, _, rfl, _, _, rfl, _, _, rfl, rfl, ?_⟩
    dsimp only [gName]
    -- the history, or nothing
    refine ⟨_, rfl, d, rfl, .inl ⟨_, .inl edG⟩, _, rfl, by show 0 ≤ sizeLine; decide, fun z nz => ?_⟩
    have S3 := Same.laid (o := HO.lst []) nz
    have ez : upd G z (.lst []) z = some (.lst []) := upd_same
    generalize upd G z (.lst []) = G1 at *
    have SG1 : Same (wo H1 D) (wo G1 D) := S.trans (Same.wo S3)
    have eG1 := S3 _ _ eG
    have pa : picM (ps.take (i + 1)) hs T' = picM (ps.take i) hs T' ++ picM [pt] hs T' := by
      rw [et]
      unfold picM
      rw [List.filterMap_append]
    obtain ⟨rs, ra, hv, hls, hgd, hrs⟩ : ∃ (rs : List R3) (ra : Addr) , ((valV kvs (.inr pt.nm)).getD (.ref z)) = .ref ra ∧ LS f3 G1 ra rs ∧ ((∀ r ∈ rs, GoodR r) ∧ rs.length ≤ 1000) ∧ (hget hs pt.nm).getD [] = rs := by
      rcases haG.val pt.nm with ⟨h1, h2⟩ | ⟨rs, a, h1, h2, h3⟩
      · exact ⟨[], z, by rw [h2]; rfl, .inl ⟨[], ez, .nil⟩, ⟨(fun r h => by cases h), by decide⟩, by rw [h1]; rfl⟩
      · obtain ⟨pt', _, g'⟩ := good_get gh h1
        exact ⟨rs, a, by rw [h2]; rfl, h3.same S3, ⟨g'.h.all, g'.h.len⟩, by rw [h1]; rfl⟩
    refine ⟨valV kvs (.inr pt.nm), .inl ⟨kvs, .inr pt.nm, .inl (S3 _ _ edG), rfl, rfl⟩, ?_⟩
    rw [hv]
    obtain ⟨vr, sq, alr⟩ := LS.sq (K := K) hls
    have lr := alr.length
    refine ⟨ra, vr, rfl, sq, fun J Gd hG wk B nB => ?_⟩
    refine lc_acc wk nB (by omega) (fun i acc H => Al f3 H acc ((rs.take i).filter fun r => decide (r.1 ≤ T'))) .nil hG ?_ ?_
    · rintro i2 v H2 H3 acc hi2 S2 eB hl2 hA ⟨rfl, hx2⟩ Fy Fn hy1 hn1
      obtain ⟨q2, r, rfl, hr', er⟩ := (alr.same S2).get hx2
      have et2 : rs.take (i2 + 1) = rs.take i2 ++ [r] := by rw [List.take_add_one, hr']; rfl
      refine ⟨rfl, ?_⟩
      refine ⟨_, rfl, q2, f3 r, 0, .int r.1, rfl, rfl, SqT.of er, rfl, _, rfl, r.1, T', rfl, rfl, _, rfl, ?_⟩
      have qB : q2 ≠ B := fun z => by rw [z, eB] at er; cases er
      by_cases hm : r.1 ≤ T'
      · rw [decide_eq_true hm]
        refine iteT ⟨_, rfl, hy1 _ _ (Same.refl _) ?_⟩
        rw [et2, List.filter_append, List.filter_cons, decide_eq_true hm]
        exact hA.snoc (wo_of qB er)
      · rw [decide_eq_false hm]
        refine iteF (hn1 _ (Same.refl _) ?_)
        rw [et2, List.filter_append, List.filter_cons, decide_eq_false hm]
        simpa using hA
    rintro G2 acc S4 eB hA
    rw [List.take_of_length_le (by omega)] at hA
    have hA' : Al f3 G2 acc (rs.filter fun r => decide (r.1 ≤ T')) := hA.same wo_same
    dsimp only [gName]
    have hok : ∀ r ∈ rs.filter (fun r => decide (r.1 ≤ T')), okM r := fun r h => (hgd.1 r (List.mem_filter.mp h).1).m
    refine ⟨_, rfl, by show 0 ≤ sizeLine; decide, fun z2 nz2 => ?_⟩
    have S5 := Same.laid (o := HO.lst []) nz2
    have ez2 : upd G2 z2 (.lst []) z2 = some (.lst []) := upd_same
    generalize upd G2 z2 (.lst []) = G3 at *
    have eB3 := S5 _ _ eB
    have al3 := hA'.same S5
    have SG3 : Same (wo H1 D) (wo G3 D) := SG1.trans (Same.wo (S4.trans S5))
    have eG3 := S5 _ _ (S4 _ _ eG1)
    -- what follows
    have nxt : picM (ps.take (i + 1)) hs T' = picM (ps.take i) hs T' → (∃ v4' v5' v6' v7' : Option V, [some (.ref a), some (.ref d), some (.int T'), some (.ref D), some (V.str pt.nm), some (V.str pt.pl), some (V.str (kd pt.sw)), some (V.ref B), none] = [some (.ref a), some (.ref d), some (.int T'), some (.ref D), v4', v5', v6', v7', none]) ∧ Same (wo H1 D) (wo G3 D) ∧ G3 D = some (.dK (picK (picM (ps.take (i + 1)) hs T'))) := fun e => ⟨⟨_, _, _, _, rfl⟩, SG3, by rw [e]; exact eG3⟩
    have row : rowAt rs T' = (rs.filter fun r => decide (r.1 ≤ T')).getLast? := rfl
    refine ne_empty D3 hok ⟨acc, eB3, al3⟩ ez2 ⟨_, rfl, ?_⟩
    generalize hfl : (rs.filter fun r => decide (r.1 ≤ T')) = fl at *
    rcases List.eq_nil_or_concat fl with rfl | ⟨l, r, rfl⟩
    · refine iteF (iteF (nxt ?_))
      rw [pa]
      unfold picM
      rw [List.filterMap_cons, hrs, row]
      simp
    · rw [List.concat_eq_append] at *
      obtain ⟨l', q2, rfl, eq2⟩ := Al.last al3
      have hgr : GoodR r := hgd.1 r (by
        have : r ∈ rs.filter fun r => decide (r.1 ≤ T') := by rw [hfl]; exact List.mem_append_right _ (List.mem_singleton.mpr rfl)
        exact (List.mem_filter.mp this).1)
      rw [List.getLast?_concat] at row
      rw [show (!(l ++ [r]).isEmpty) = true by simp]
      refine iteT ⟨_, rfl, 1, rfl, B, _, -1, .ref q2, rfl, rfl, SqL.of eB3, atI_last _ _, q2, f3 r, 2, .str r.2.2, rfl, rfl, SqT.of eq2, rfl, rfl, _, rfl, ?_⟩
      rw [mark_good hgr]
      by_cases hm : r.2.2 = "good"
      · rw [decide_eq_true hm]
        refine iteT ?_
        have lp : (picM (ps.take i) hs T').length ≤ 8 := by
          have h1 := picM_len (ps.take i) hs T'
          rw [List.length_take] at h1
          omega
        refine ⟨_, rfl, 1, rfl, B, _, -1, .ref q2, rfl, rfl, SqL.of eB3, atI_last _ _, q2, f3 r, 1, .int r.2.1, rfl, rfl, SqT.of eq2, rfl, _, rfl, _, rfl, D, _, rfl, DPut.k (k := .inr pt.nm) eG3 ?_, ?_⟩
        · unfold picK
          rw [List.length_map]
          exact Nat.lt_of_le_of_lt lp (by decide)
        · refine ⟨⟨_, _, _, _, rfl⟩, by rw [wo_upd]; exact SG3, ?_⟩
          rw [upd_same, putK_new]
          · rw [pa]
            have e2 : picM [pt] hs T' = [(pt.nm, r.2.1)] := by
              unfold picM
              rw [List.filterMap_cons, hrs, row]
              simp [hm]
            rw [e2]
            unfold picK
            rw [List.map_append]
            rfl
          · intro hin
            unfold picK at hin
            rw [List.map_map] at hin
            obtain ⟨pr, hpr, epr⟩ := List.mem_map.mp hin
            have := picM_keys hpr
            rw [show pr.1 = pt.nm from Sum.inr.inj epr, List.map_take] at this
            exact nodup_take gps.nd (by rw [List.getElem?_map, hpt]; rfl) this
      · rw [decide_eq_false hm]
        refine iteF (nxt ?_)
        rw [pa]
        unfold picM
        rw [List.filterMap_cons, hrs, row]
        simp [hm]
  · rintro σ G ⟨⟨v4, v5, v6, v7, rfl⟩, S, eG⟩
    rw [List.take_of_length_le (by omega)] at eG
    have SF : Same H G := fun c o e => by
      have cD : c ≠ D := ne_of_none e nD
      exact wo_same _ _ (S _ _ (wo_of cD (S1 _ _ e)))
    exact ⟨_, rfl, k D G SF nD eG⟩
end
end V51

set_option maxHeartbeats 8000000
namespace V51
open PySem PySem.Spec PyProof.Rows L2 Pw
/-! ### what is shown -/
theorem OkName.rep {s : Str} (h : OkName s) : (reprText s).length ≤ 82 := by
  have h1 : (decide (1 ≤ s.length ∧ s.length ≤ 8) && s.cps.toList.all fun c => decide (97 ≤ c ∧ c ≤ 122)) = true := h.b
  rw [Bool.and_eq_true, List.all_eq_true] at h1
  have h2 := of_decide_eq_true h1.1
  have h3 := PySem.StrLaws.reprText_len s fun c hc => by
    have := of_decide_eq_true (h1.2 c hc)
    have : c < 1000 := by omega
    exact Nat.lt_trans this (by decide)
  omega
theorem small_log {i : Int} (h0 : 0 ≤ i) (h1 : i ≤ 99999) : i.natAbs.log2 < 1920 := by
  have h2 : i.natAbs < 2 ^ 200 := Nat.lt_of_le_of_lt (show i.natAbs ≤ 99999 by omega) (by decide)
  rcases Nat.eq_zero_or_pos i.natAbs with z | z
  · rw [z]; decide
  · exact Nat.lt_trans ((Nat.log2_lt (by omega)).mpr h2) (by decide)
def ti (i : Int) : Str := (toString i)
theorem shw_strs {K : PySem.W.Frag} {H : Hp} : ∀ (ss : List Str), (∀ s ∈ ss, OkName s) → ShwL K H (ss.map V.str) 0 (84 * ss.length) (ss.map reprText)
  | [], _ => .nil
  | s :: ss, h => by
    have h1 := shw_strs (K := K) (H := H) ss fun x hx => h x (List.mem_cons_of_mem _ hx)
    have h2 : ShwL K H (V.str s :: ss.map V.str) 0 (82 + 2 + 84 * ss.length) (reprText s :: ss.map reprText) := .cons (.str s 82 (h s List.mem_cons_self).rep) h1
    have e : 84 * (s :: ss).length = 82 + 2 + 84 * ss.length := by rw [List.length_cons]; omega
    rw [e]
    exact h2
theorem shw_ints {K : PySem.W.Frag} {H : Hp} : ∀ (ns : List Int), (∀ i ∈ ns, 0 ≤ i ∧ i ≤ 99999) → ShwL K H (ns.map V.int) 0 (1923 * ns.length) (ns.map ti)
  | [], _ => .nil
  | s :: ss, h => by
    have h1 := shw_ints (K := K) (H := H) ss fun x hx => h x (List.mem_cons_of_mem _ hx)
    have h0 := h s List.mem_cons_self
    have h2 : ShwL K H (V.int s :: ss.map V.int) 0 (1921 + 2 + 1923 * ss.length) (ti s :: ss.map ti) := .cons (.int s (small_log h0.1 h0.2)) h1
    have e : 1923 * (s :: ss).length = 1921 + 2 + 1923 * ss.length := by rw [List.length_cons]; omega
    rw [e]
    exact h2
def picT (l : List (Str × Int)) : Str := dictText (List.zipWith (fun k v : Str => k ++ ": " ++ v) ((l.map (·.1)).map reprText) ((l.map (·.2)).map ti))
theorem shw_pic {K : PySem.W.Frag} {X : Hp} {b : Addr} {l : List (Str × Int)} (e : X b = some (.dK (picK l))) (hn : ∀ q ∈ l, OkName q.1) (hi : ∀ q ∈ l, 0 ≤ q.2 ∧ q.2 ≤ 99999) (hl : l.length ≤ 8) :
    ∃ d n, Shw K X (.ref b) d n (picT l) ∧ 0 < d ∧ n ≤ sizeLine ∧ d ≤ 60 := by
  have h1 := shw_strs (K := K) (H := X) (l.map (·.1)) fun s hs => by
    obtain ⟨q, hq, rfl⟩ := List.mem_map.mp hs
    exact hn q hq
  have h2 := shw_ints (K := K) (H := X) (l.map (·.2)) fun s hs => by
    obtain ⟨q, hq, rfl⟩ := List.mem_map.mp hs
    exact hi q hq
  have e1 : (picK l).map (fun p => kV p.1) = (l.map (·.1)).map V.str := by
    unfold picK
    rw [List.map_map, List.map_map]
    rfl
  have e2 : (picK l).map (fun p => p.2) = (l.map (·.2)).map V.int := by
    unfold picK
    rw [List.map_map, List.map_map]
    rfl
  rw [← e1] at h1
  rw [← e2] at h2
  refine ⟨_, _, .dct e h1 h2, Nat.succ_pos _, ?_, by decide⟩
  rw [List.length_map, List.length_map]
  exact Nat.le_of_lt (Nat.lt_of_le_of_lt (show 84 * l.length + 1923 * l.length + 2 ≤ 20000 by omega) (by decide))
theorem shw_row {K : PySem.W.Frag} {H : Hp} {q : Addr} {r : R3} (g : GoodR r) (e : H q = some (.tup (f3 r))) : ∃ t, Shw K H (.ref q) 1 3861 t :=
  ⟨_, .tup e (.cons (.int _ (small_log g.t0 (by have := g.t1; omega))) (.cons (.int _ (small_log g.w0 (by have := g.w1; omega)))
    (.cons (.str _ 10 (by rcases g.m with z | z <;> rw [z] <;> decide +kernel)) .nil)))⟩
theorem shw_als {K : PySem.W.Frag} {H : Hp} {vs : List V} {rs : List R3} (h : Al f3 H vs rs) (g : ∀ r ∈ rs, GoodR r) : ∃ d t, d ≤ 1 ∧ ShwL K H vs d (3863 * rs.length) t := by
  induction h with
  | nil => exact ⟨0, [], by decide, .nil⟩
  | @cons p vs r rs e t ih =>
    obtain ⟨d, ts, hd, h1⟩ := ih fun x hx => g x (List.mem_cons_of_mem _ hx)
    obtain ⟨t1, h2⟩ := shw_row (K := K) (g r List.mem_cons_self) e
    have e : 3863 * (r :: rs).length = 3861 + 2 + 3863 * rs.length := by rw [List.length_cons]; omega
    exact ⟨max 1 d, t1 :: ts, by omega, by rw [e]; exact .cons h2 h1⟩
theorem shw_ls {K : PySem.W.Frag} {H : Hp} {a : Addr} {rs : List R3} (h : LS f3 H a rs) (g : ∀ r ∈ rs, GoodR r) (l : rs.length ≤ 100) : ∃ d n t, d ≤ 2 ∧ n ≤ 386303 ∧ Shw K H (.ref a) d n t := by
  rcases h with h | ⟨vs, e, al⟩
  · obtain ⟨vs, e, al⟩ := h.ex
    obtain ⟨d, t, hd, h1⟩ := shw_als (K := K) al g
    exact ⟨_, _, _, by omega, by omega, .lst e h1⟩
  · obtain ⟨d, t, hd, h1⟩ := shw_als (K := K) al g
    exact ⟨_, _, _, by omega, by omega, .tup e h1⟩
theorem shw_ha {K : PySem.W.Frag} {H : Hp} {kvs : List (Key × V)} {hs : List (Str × List R3)} (h : HA H kvs hs) (g : ∀ x ∈ hs, (∀ r ∈ x.2, GoodR r) ∧ x.2.length ≤ 100) :
    ∃ d n t, d ≤ 2 ∧ n ≤ 386305 * hs.length ∧ ShwL K H (kvs.map fun p => p.2) d n t := by
  induction h with
  | nil => exact ⟨0, 0, [], by decide, by decide, .nil⟩
  | @cons a nm rs kvs hs hl t ih =>
    obtain ⟨d, n, ts, hd, hn, h1⟩ := ih fun x hx => g x (List.mem_cons_of_mem _ hx)
    have g0 := g (nm, rs) List.mem_cons_self
    obtain ⟨d2, n2, t2, hd2, hn2, h2⟩ := shw_ls (K := K) hl g0.1 g0.2
    exact ⟨max d2 d, _, t2 :: ts, by omega, by rw [List.length_cons]; show n2 + 2 + n ≤ _; omega, .cons h2 h1⟩
/-- the dict of histories, shown -/
theorem shw_hists {K : PySem.W.Frag} {H : Hp} {D : Addr} {kvs : List (Key × V)} {hs : List (Str × List R3)} (e : H D = some (.dK kvs)) (h : HA H kvs hs) (g : ∀ x ∈ hs, (∀ r ∈ x.2, GoodR r) ∧ x.2.length ≤ 100) (on : ∀ x ∈ hs, OkName x.1) (l : hs.length ≤ 8) :
    ∃ d n t, Shw K H (.ref D) d n t ∧ 0 < d ∧ n ≤ sizeLine ∧ d ≤ 60 := by
  obtain ⟨d, n, t, hd, hn, h1⟩ := shw_ha (K := K) h g
  have h2 := shw_strs (K := K) (H := H) (hs.map (·.1)) fun s hs' => by
    obtain ⟨q, hq, rfl⟩ := List.mem_map.mp hs'
    exact on q hq
  have e1 : kvs.map (fun p => kV p.1) = (hs.map (·.1)).map V.str := by
    have h3 := congrArg (List.map kV) h.keys
    rw [List.map_map, List.map_map] at h3
    exact h3
  rw [← e1] at h2
  refine ⟨_, _, _, .dct e h2 h1, Nat.succ_pos _, ?_, by omega⟩
  rw [List.length_map]
  exact Nat.le_of_lt (Nat.lt_of_le_of_lt (show 84 * hs.length + n + 2 ≤ 4000000 by omega) (by decide))
theorem picM_ok {ps : List Pt} {hs : List (Str × List R3)} {T : Int} (g : GoodPs ps) (gh : GoodHs ps hs) : (∀ q ∈ picM ps hs T, OkName q.1) ∧ (∀ q ∈ picM ps hs T, 0 ≤ q.2 ∧ q.2 ≤ 99999) ∧ (picM ps hs T).length ≤ 8 := by
  refine ⟨fun q hq => ?_, fun q hq => ?_, Nat.le_trans (picM_len _ _ _) g.len⟩
  · obtain ⟨pt, hpt, e⟩ := List.mem_map.mp (picM_keys hq)
    exact e ▸ (g.all pt hpt).nm
  · unfold picM at hq
    obtain ⟨pt, hpt, e⟩ := List.mem_filterMap.mp hq
    split at e
    · rename_i r hr
      split at e
      · cases e
        have hm := row_mem hr
        cases hg : hget hs pt.nm with
        | none => rw [hg] at hm; cases hm
        | some rs =>
          rw [hg] at hm
          obtain ⟨pt', _, g'⟩ := good_get gh hg
          have := g'.h.all r hm
          exact ⟨this.w0, by have := this.w1; omega⟩
      · cases e
    · cases e
/-! ### off the box -/
section
variable {K : PySem.W.Frag} {H : Hp} {p a : Addr} {n : Nat} {C : Addr}
theorem sqT_wo {xs : List V} (h : SqT K H a xs) (hb : BoxAt H p n) : SqT K (Pw.wo H p) a xs := by
  obtain ⟨us, eb⟩ := hb.lst
  refine h.imp (fun r => ?_) id
  rcases r with e | ⟨o, e⟩
  · exact .inl (wo_of (fun z => by rw [z, eb] at e; cases e) e)
  · exact .inr ⟨o, wo_of (fun z => by rw [z, eb] at e; cases e) e⟩
theorem WoP_off {w : Addr} {W : Wks} {ps : List Pt} (h : WoP K C H w W ps) (hb : BoxAt H p n) : WoP K C (Pw.wo H p) w W ps := by
  obtain ⟨us, eb⟩ := hb.lst
  have dk : ∀ {d : Addr} {kvs : List (Key × V)}, H d = some (.dK kvs) → Pw.wo H p d = some (.dK kvs) := fun e => wo_of (fun z => by rw [z, eb] at e; cases e) e
  obtain ⟨dx, tp, dp, tr, dr, tc, tm, dm, tl, e0, e1, e2, e3, e4, e5, e6, e7, e8⟩ := h.wo.ex
  exact ⟨⟨dx, tp, dp, tr, dr, tc, tm, dm, tl, wo_of (fun z => by rw [z, eb] at e0; cases e0) e0, sqT_wo e1 hb, dk e2, sqT_wo e3 hb, dk e4, sqT_wo e5 hb, sqT_wo e6 hb, dk e7, sqT_wo e8 hb⟩, h.ks,
    h.al.imp fun q xs e => wo_of (fun z => by rw [z, eb] at e; cases e) e, h.g⟩
end
/-- tuple() of a list or a tuple that stands in the heap -/
def rTupS (K : PySem.W.Frag) : List V → Hp → VK → Prop := fun xs H Q => ∃ a ys, xs = [V.ref a] ∧ ((SqL K H a ys ∧ ∀ l, H l = none → Q (.ref l) (upd H l (.tup ys))) ∨ (SqT K H a ys ∧ Q (.ref a) H))
theorem call_tupS {X : Cx} : CallR X (.type "tuple") (rTupS X.K) := by
  intro pins s σ H xs us Q I r h
  obtain ⟨a, ys, rfl, h⟩ := h
  exact call_tuple_of pins s σ H _ us Q I r ⟨a, ys, rfl, h⟩
theorem merge_new : ∀ (more kvs : List (Key × V)), ((kvs ++ more).map Prod.fst).Nodup → mergeK kvs more = kvs ++ more
  | [], kvs, _ => (List.append_nil _).symm
  | kv :: more, kvs, nd => by
    have hn : kv.1 ∉ kvs.map Prod.fst := by
      rw [List.map_append, List.nodup_append] at nd
      exact fun h => nd.2.2 _ h _ (by simp) rfl
    show mergeK (putK kvs kv.1 kv.2) more = _
    rw [putK_new hn, merge_new more (kvs ++ [kv]) (by simpa using nd)]
    simp
end V51

/-! Stretches of ticks: what goes on from tick to tick, and from stretch to stretch. -/
namespace Pw
abbrev Sp3 := Int × Int × List Int
def addS (fs : List Sp3) (s : Sp3) : List Sp3 :=
  if s.2.2 = [] then fs else match fs.getLast? with
    | some l => if l.2.1 = s.1 - 1 ∧ l.2.2 = s.2.2 then fs.dropLast ++ [(l.1, s.2)] else fs ++ [s]
    | none => fs ++ [s]
theorem addS_no {fs : List Sp3} {s : Sp3} (h : s.2.2 = []) : addS fs s = fs := if_pos h
theorem addS_one {s : Sp3} (h : s.2.2 ≠ []) : addS [] s = [s] := by
  unfold addS
  rw [if_neg h]
  rfl
theorem addS_yes {fs : List Sp3} {l s : Sp3} (h : s.2.2 ≠ []) (c : l.2.1 = s.1 - 1 ∧ l.2.2 = s.2.2) : addS (fs ++ [l]) s = fs ++ [(l.1, s.2)] := by
  unfold addS
  rw [if_neg h, List.getLast?_concat]
  simp only
  rw [if_pos c, List.dropLast_concat]
theorem addS_new {fs : List Sp3} {l s : Sp3} (h : s.2.2 ≠ []) (c : ¬ (l.2.1 = s.1 - 1 ∧ l.2.2 = s.2.2)) : addS (fs ++ [l]) s = fs ++ [l] ++ [s] := by
  unfold addS
  rw [if_neg h, List.getLast?_concat]
  simp only
  rw [if_neg c]
theorem addS_join {fs : List Sp3} {a m b : Int} {n : List Int} : addS (addS fs (a, m, n)) (m + 1, b, n) = addS fs (a, b, n) := by
  by_cases h : n = []
  · subst h
    rw [addS_no rfl, addS_no rfl, addS_no rfl]
  · rcases List.eq_nil_or_concat fs with rfl | ⟨gs, l, rfl⟩
    · rw [addS_one h, addS_one h]
      exact addS_yes (fs := []) (l := (a, m, n)) h ⟨by show m = m + 1 - 1; omega, rfl⟩
    · rw [List.concat_eq_append]
      by_cases c : l.2.1 = a - 1 ∧ l.2.2 = n
      · rw [addS_yes (s := (a, m, n)) h c, addS_yes (s := (a, b, n)) h c]
        exact addS_yes (l := (l.1, m, n)) h ⟨by show m = m + 1 - 1; omega, rfl⟩
      · rw [addS_new (s := (a, m, n)) h c, addS_new (s := (a, b, n)) h c]
        exact addS_yes (l := (a, m, n)) h ⟨by show m = m + 1 - 1; omega, rfl⟩
theorem addS_len (fs : List Sp3) (s : Sp3) : (addS fs s).length ≤ fs.length + 1 := by
  by_cases h : s.2.2 = []
  · rw [addS_no h]; omega
  · rcases List.eq_nil_or_concat fs with rfl | ⟨gs, l, rfl⟩
    · rw [addS_one h]; simp
    · rw [List.concat_eq_append]
      by_cases c : l.2.1 = s.1 - 1 ∧ l.2.2 = s.2.2
      · rw [addS_yes h c]; simp
      · rw [addS_new h c]; simp
theorem addAll_len : ∀ (ss fs : List Sp3), (ss.foldl addS fs).length ≤ fs.length + ss.length
  | [], fs => Nat.le_refl _
  | s :: ss, fs => by
    have h1 := addAll_len ss (addS fs s)
    have h2 := addS_len fs s
    rw [List.foldl_cons, List.length_cons]
    omega
section
variable {N : Int → List Int}
def tks (N : Int → List Int) (a : Int) (k : Nat) : List Sp3 := (List.range k).map fun i : Nat => (a + i, a + i, N (a + i))
theorem tks_succ (N : Int → List Int) (a : Int) (k : Nat) : tks N a (k + 1) = tks N a k ++ [(a + k, a + k, N (a + k))] := by
  unfold tks
  rw [List.range_succ, List.map_append]
  rfl
theorem tks_add (N : Int → List Int) (a : Int) (k : Nat) : ∀ l : Nat, tks N a (k + l) = tks N a k ++ tks N (a + k) l
  | 0 => by simp [tks]
  | l + 1 => by
    rw [← Nat.add_assoc, tks_succ, tks_add N a k l, tks_succ, List.append_assoc]
    have e : a + ((k + l : Nat) : Int) = a + (k : Int) + (l : Int) := by omega
    rw [e]
theorem tks_const {a : Int} {n : List Int} {fs : List Sp3} : ∀ k : Nat, (∀ t, a ≤ t → t ≤ a + k → N t = n) → (tks N a (k + 1)).foldl addS fs = addS fs (a, a + k, n)
  | 0, h => by
    have := h a (by omega) (by omega)
    simp [tks, this]
  | k + 1, h => by
    rw [tks_succ, List.foldl_append, tks_const k fun t h1 h2 => h t h1 (by omega), List.foldl_cons, List.foldl_nil]
    have e : a + ((k + 1 : Nat) : Int) = a + (k : Int) + 1 := by omega
    rw [e, h (a + (k : Int) + 1) (by omega) (by omega)]
    exact addS_join
def stch : Int → List Int → Int → List (Int × Int)
  | a, [], till => [(a, till)]
  | a, t :: ts, till => (a, t - 1) :: stch t ts till
theorem stch_len : ∀ (a : Int) (ts : List Int) (till : Int), (stch a ts till).length = ts.length + 1
  | _, [], _ => rfl
  | _, t :: ts, till => by
    show (stch t ts till).length + 1 = _
    rw [stch_len t ts till]
    rfl
theorem stch_tks : ∀ (ts : List Int) (a till : Int) (fs : List Sp3), (a :: ts).Pairwise (· < ·) → (∀ t ∈ a :: ts, t ≤ till) → (∀ p ∈ stch a ts till, ∀ t, p.1 ≤ t → t ≤ p.2 → N t = N p.1) →
    ((stch a ts till).map fun p => (p.1, p.2, N p.1)).foldl addS fs = (tks N a (till - a + 1).toNat).foldl addS fs
  | [], a, till, fs, _, h, c => by
    have ha := h a List.mem_cons_self
    obtain ⟨k, hk⟩ : ∃ k : Nat, till = a + k := ⟨(till - a).toNat, by omega⟩
    subst hk
    rw [show (a + (k : Int) - a + 1).toNat = k + 1 by omega, tks_const k (n := N a) fun t h1 h2 => c (a, a + k) (List.mem_singleton.mpr rfl) t h1 h2]
    rfl
  | t :: ts, a, till, fs, pw, h, c => by
    rw [List.pairwise_cons] at pw
    have lt : a < t := pw.1 t List.mem_cons_self
    obtain ⟨k, hk⟩ : ∃ k : Nat, t = a + (k : Int) + 1 := ⟨(t - 1 - a).toNat, by omega⟩
    have ht := h t (List.mem_cons_of_mem _ List.mem_cons_self)
    have ih := fun fs => stch_tks ts t till fs pw.2 (fun x hx => h x (List.mem_cons_of_mem _ hx)) fun p hp => c p (List.mem_cons_of_mem _ hp)
    show (((a, t - 1) :: stch t ts till).map fun p => (p.1, p.2, N p.1)).foldl addS fs = _
    rw [List.map_cons, List.foldl_cons, ih, show (till - a + 1).toNat = (k + 1) + (till - t + 1).toNat by omega, tks_add, List.foldl_append, tks_const k (n := N a) fun x h1 h2 => c (a, t - 1) List.mem_cons_self x h1 (by show x ≤ t - 1; omega)]
    show (tks N t _).foldl addS (addS fs (a, t - 1, N a)) = _
    rw [show a + ((k + 1 : Nat) : Int) = t by omega, show a + (k : Int) = t - 1 by omega]
theorem stch_fst : ∀ (ts : List Int) (a till : Int), ∀ p ∈ stch a ts till, p.1 ∈ a :: ts
  | [], a, till, p, h => by
    rw [List.mem_singleton.mp h]
    exact List.mem_cons_self
  | t :: ts, a, till, p, h => by
    rcases List.mem_cons.mp h with rfl | h
    · exact List.mem_cons_self
    · exact List.mem_cons_of_mem _ (stch_fst ts t till p h)
theorem stch_snd : ∀ (ts : List Int) (a till : Int), (a :: ts).Pairwise (· < ·) → (∀ t ∈ a :: ts, t ≤ till) → ∀ p ∈ stch a ts till, p.1 ≤ p.2 ∧ p.2 ≤ till ∧ a ≤ p.1
  | [], a, till, _, hb, p, h => by
    rw [List.mem_singleton.mp h]
    exact ⟨hb a List.mem_cons_self, Int.le_refl _, Int.le_refl _⟩
  | t :: ts, a, till, pw, hb, p, h => by
    rw [List.pairwise_cons] at pw
    have lt := pw.1 t List.mem_cons_self
    have ht := hb t (List.mem_cons_of_mem _ List.mem_cons_self)
    rcases List.mem_cons.mp h with rfl | h
    · exact ⟨by show a ≤ t - 1; omega, by show t - 1 ≤ till; omega, Int.le_refl _⟩
    · obtain ⟨h1, h2, h3⟩ := stch_snd ts t till pw.2 (fun x hx => hb x (List.mem_cons_of_mem _ hx)) p h
      exact ⟨h1, h2, by omega⟩
theorem stch_gap : ∀ (ts : List Int) (a till : Int), (a :: ts).Pairwise (· < ·) → ∀ p ∈ stch a ts till, ∀ t ∈ a :: ts, p.1 < t → p.2 < t ∨ till < t
  | [], a, till, _, p, h, t, ht, lt => by
    rw [List.mem_singleton.mp h] at lt
    rw [List.mem_singleton.mp ht] at lt
    exact absurd lt (Int.lt_irrefl _)
  | u :: ts, a, till, pw, p, h, t, ht, lt => by
    rw [List.pairwise_cons] at pw
    rcases List.mem_cons.mp h with rfl | h
    · left
      rcases List.mem_cons.mp ht with rfl | ht
      · exact absurd lt (Int.lt_irrefl _)
      · have : u ≤ t := by
          rcases List.mem_cons.mp ht with rfl | ht
          · exact Int.le_refl _
          · exact Int.le_of_lt ((List.pairwise_cons.mp pw.2).1 t ht)
        show u - 1 < t
        omega
    · have h1 := stch_fst ts u till p h
      have h2 := pw.1 p.1 h1
      rcases List.mem_cons.mp ht with e | ht
      · omega
      · exact stch_gap ts u till pw.2 p h t ht lt
theorem zip_stch : ∀ (ts : List Int) (a till : Int), List.zip (a :: ts) (ts.map (· - 1) ++ [till]) = stch a ts till
  | [], a, till => rfl
  | t :: ts, a, till => by
    show (a, t - 1) :: List.zip (t :: ts) (ts.map (· - 1) ++ [till]) = _
    rw [zip_stch ts t till]
    rfl
theorem zip_stch1 : ∀ (ts : List Int) (a till : Int), (List.zip (a :: ts) (ts ++ [till + 1])).map (fun p => (p.1, p.2 - 1)) = stch a ts till
  | [], a, till => by
    show [(a, till + 1 - 1)] = _
    rw [show till + 1 - 1 = till by omega]
    rfl
  | t :: ts, a, till => by
    show (a, t - 1) :: (List.zip (t :: ts) (ts ++ [till + 1])).map (fun p => (p.1, p.2 - 1)) = _
    rw [zip_stch1 ts t till]
    rfl
/-- all that goes on, tick by tick -/
def spansM (N : Int → List Int) (since till : Int) : List Sp3 := (tks N since (till - since + 1).toNat).foldl addS []
theorem spansM_no {since till : Int} (h : till < since) : spansM N since till = [] := by
  unfold spansM
  rw [show (till - since + 1).toNat = 0 by omega]
  rfl
structure GoodSp (N : Int → List Int) (a b : Int) (fs : List Sp3) : Prop where
  in_ : ∀ s ∈ fs, s.2.2 ≠ [] ∧ a ≤ s.1 ∧ s.1 ≤ s.2.1 ∧ s.2.1 < b ∧ ∀ t, s.1 ≤ t → t ≤ s.2.1 → N t = s.2.2
  pw : fs.Pairwise fun x y => x.2.1 < y.1 ∧ (x.2.1 + 1 = y.1 → x.2.2 ≠ y.2.2)
  cov : ∀ t, a ≤ t → t < b → N t ≠ [] → ∃ s ∈ fs, s.1 ≤ t ∧ t ≤ s.2.1
theorem good_step {a b : Int} {fs : List Sp3} (h : GoodSp N a b fs) (hab : a ≤ b) : GoodSp N a (b + 1) (addS fs (b, b, N b)) := by
  have up : ∀ s ∈ fs, s.2.2 ≠ [] ∧ a ≤ s.1 ∧ s.1 ≤ s.2.1 ∧ s.2.1 < b + 1 ∧ ∀ t, s.1 ≤ t → t ≤ s.2.1 → N t = s.2.2 := fun s hs => by
    obtain ⟨h1, h2, h3, h4, h5⟩ := h.in_ s hs
    exact ⟨h1, h2, h3, by omega, h5⟩
  have own : N b ≠ [] → (((b, b, N b) : Sp3).2.2 ≠ [] ∧ a ≤ b ∧ b ≤ b ∧ b < b + 1 ∧ ∀ t, b ≤ t → t ≤ b → N t = N b) := fun z => ⟨z, hab, by omega, by omega, fun t h1 h2 => by rw [show t = b by omega]⟩
  by_cases z : N b = []
  · rw [addS_no z]
    refine ⟨up, h.pw, fun t h1 h2 h3 => ?_⟩
    rcases Int.lt_or_eq_of_le (show t ≤ b by omega) with l | l
    · exact h.cov t h1 l h3
    · rw [l] at h3; exact absurd z h3
  rcases List.eq_nil_or_concat fs with rfl | ⟨gs, l, rfl⟩
  · rw [addS_one z]
    refine ⟨fun s hs => ?_, List.pairwise_singleton _ _, fun t h1 h2 h3 => ?_⟩
    · rw [List.mem_singleton.mp hs]; exact own z
    · rcases Int.lt_or_eq_of_le (show t ≤ b by omega) with l | l
      · obtain ⟨s, hs, _⟩ := h.cov t h1 l h3; cases hs
      · exact ⟨_, List.mem_singleton.mpr rfl, by show b ≤ t; omega, by show t ≤ b; omega⟩
  rw [List.concat_eq_append] at *
  have pw := List.pairwise_append.mp h.pw
  have hl := h.in_ l (List.mem_append_right _ (List.mem_singleton.mpr rfl))
  by_cases c : l.2.1 = b - 1 ∧ l.2.2 = N b
  · rw [addS_yes (s := (b, b, N b)) z c]
    refine ⟨fun s hs => ?_, ?_, fun t h1 h2 h3 => ?_⟩
    · rcases List.mem_append.mp hs with hs | hs
      · exact up s (List.mem_append_left _ hs)
      · rw [List.mem_singleton.mp hs]
        refine ⟨z, hl.2.1, by show l.1 ≤ b; have := hl.2.2.1; omega, by show b < b + 1; omega, fun t h1 h2 => ?_⟩
        rcases Int.lt_or_eq_of_le (show t ≤ b from h2) with k | k
        · exact (hl.2.2.2.2 t h1 (by omega)).trans c.2
        · rw [k]
    · rw [List.pairwise_append]
      refine ⟨pw.1, List.pairwise_singleton _ _, fun x hx y hy => ?_⟩
      rw [List.mem_singleton.mp hy]
      have := pw.2.2 x hx l (List.mem_singleton.mpr rfl)
      exact ⟨this.1, fun e => by rw [show ((l.1, b, N b) : Sp3).2.2 = N b from rfl, ← c.2]; exact this.2 e⟩
    · rcases Int.lt_or_eq_of_le (show t ≤ b by omega) with k | k
      · obtain ⟨s, hs, h4, h5⟩ := h.cov t h1 k h3
        rcases List.mem_append.mp hs with hs | hs
        · exact ⟨s, List.mem_append_left _ hs, h4, h5⟩
        · rw [List.mem_singleton.mp hs] at h4 h5
          exact ⟨_, List.mem_append_right _ (List.mem_singleton.mpr rfl), h4, by show t ≤ b; omega⟩
      · have := hl.2.2.1
        exact ⟨_, List.mem_append_right _ (List.mem_singleton.mpr rfl), by show l.1 ≤ t; omega, by show t ≤ b; omega⟩
  · rw [addS_new (s := (b, b, N b)) z c]
    refine ⟨fun s hs => ?_, ?_, fun t h1 h2 h3 => ?_⟩
    · rcases List.mem_append.mp hs with hs | hs
      · exact up s hs
      · rw [List.mem_singleton.mp hs]; exact own z
    · rw [List.pairwise_append]
      refine ⟨h.pw, List.pairwise_singleton _ _, fun x hx y hy => ?_⟩
      rw [List.mem_singleton.mp hy]
      have hx2 := h.in_ x hx
      refine ⟨hx2.2.2.2.1, fun e => ?_⟩
      have e' : x.2.1 + 1 = b := e
      rcases List.mem_append.mp hx with hx | hx
      · have := (pw.2.2 x hx l (List.mem_singleton.mpr rfl)).1
        have := hl.2.2.1
        have := hl.2.2.2.1
        omega
      · rw [List.mem_singleton.mp hx] at e' ⊢
        exact fun q => c ⟨by omega, q⟩
    · rcases Int.lt_or_eq_of_le (show t ≤ b by omega) with k | k
      · obtain ⟨s, hs, h4⟩ := h.cov t h1 k h3
        exact ⟨s, List.mem_append_left _ hs, h4⟩
      · exact ⟨_, List.mem_append_right _ (List.mem_singleton.mpr rfl), by show b ≤ t; omega, by show t ≤ b; omega⟩
theorem good_tks (a : Int) : ∀ k : Nat, GoodSp N a (a + k) ((tks N a k).foldl addS [])
  | 0 => ⟨fun s hs => absurd hs (by simp [tks]), by simp [tks], fun t h1 h2 => by omega⟩
  | k + 1 => by
    rw [tks_succ, List.foldl_append, List.foldl_cons, List.foldl_nil, show a + ((k + 1 : Nat) : Int) = a + k + 1 by omega]
    exact good_step (good_tks a k) (by omega)
theorem good_spans {since till : Int} (h : since ≤ till) : GoodSp N since (till + 1) (spansM N since till) := by
  have := good_tks (N := N) since (till - since + 1).toNat
  rw [show since + ((till - since + 1).toNat : Int) = till + 1 by omega] at this
  exact this
end
end Pw

/-! Tuples of nothing multiplied, tuples turned round, (x,) == (text,), list(d.values()). -/
namespace Pw
open PySem PySem.Spec PyProof.Rows L2

/-! ### () * n -/
theorem tuple_mul0 (l : Addr) (n : Nat) (dd : Option Addr) (sl : Array (Option Value)) (x : Int) (u : Tok) (c0 : (decide (x < -(2 ^ 63)) || decide (x ≥ 2 ^ 63)) = false) :
    Meets (Builtin.«tuple.__mul__» ⟨[.ref l, .int x u], []⟩) (fun _ R s => s.heap.get? l = some { cls := .type "tuple", dict := dd, data := .seq #[] n, slots := sl } ∧ R (.ok (.ret (Value.ref l))) s) :=
  .of_wp fun prog w A R s h => by
    obtain ⟨hp, g, d, tk, os⟩ := s
    obtain ⟨hl, h⟩ := h
    have f1 := AutoSeq1.idx_int
    wp_walk using wpAny_loadPart' hl
    repeat (first
      | (refine wpAny_ite_false (decide_eq_false (by rw [c0]; exact Bool.false_ne_true)) ?_; wp_walk using wpAny_loadPart' hl)
      | (refine wpAny_ite_true (by simp) ?_; wp_walk using wpAny_loadPart' hl))
    exact ⟨_, rfl, h⟩
section
variable {X : Cx}
def rRep0 (K : PySem.W.Frag) : R2 := fun x y H Q => ∃ l k, x = .ref l ∧ y = .int k ∧ SqT K H l [] ∧ 2 ≤ k ∧ k ≤ 1000 ∧ Q (.ref l) H
theorem op_rep0 : OpR X (binaryOp .Mult) (rRep0 X.K) := by
  intro pins s σ H x y v u Q I rx ry h
  obtain ⟨l, k, rfl, rfl, hT, h1, h2, q⟩ := h
  cases rx
  obtain ⟨t, rfl⟩ := ry
  obtain ⟨its, r, ⟨⟨cls, dd, data, sl⟩, ho, hc, n, hd⟩, hs⟩ := I.tuple hT
  simp only at hc hd
  subst hc hd
  cases r
  have c0 : (decide (k < -(2 ^ 63)) || decide (k ≥ 2 ^ 63)) = false := by
    rw [decide_eq_false (by omega), decide_eq_false (by omega)] <;> rfl
  exact wpAny_binaryOp_repeat_ref (T := "tuple") (U := "int") (by decide) ⟨_, ho, rfl⟩ (fun s' => typeIs_int s' k t) noFill_tuple_mul F.fills_int_mul F.slot_int_rmul repeat_tuple F.slot_int_index.lookup
    (call_meets F.slot_int_rmul (typeIs_int s k t) F.entry_int_rmul (F.args_int_rmul_2 _ _) (int_rmul_tuple k t l #[] n dd sl)
      ⟨ho, rfl, ⟨_, ho, rfl⟩, call_meets F.slot_tuple_mul ⟨_, ho, rfl⟩ F.entry_tuple_mul (F.args_tuple_mul_2 _ _) (tuple_mul0 l n dd sl k t c0) ⟨ho, ⟨.ref l, H, I, rfl, q⟩⟩⟩)
end

/-! ### t[::-1] -/
section
variable {prog : Program} {w : World} {A : Around} {E : Value → Shared → Prop} {s : Shared}
theorem sliceApplied_rev {sl : Addr} {u : Tok} {n : Nat} {Q : Int × Int × Nat → Shared → Prop} (hs : s.heap.IsSliceOf sl .none .none (.int (-1) u))
    (h : Q ((n : Int) - 1, -1, n) s) : wpAny (model prog w) A (Builtin.Slice.sliceApplied (.ref sl) (pure (n : Int))) Q E s := by
  obtain ⟨os, hos, hcs, hds⟩ := id hs
  unfold Builtin.Slice.sliceApplied Builtin.Slice.sliceFields
  refine wpAny_bind (wpAny_bind (wpAny_field hos hds (x := .none) rfl (wpAny_bind (wpAny_field hos hds (x := .none) rfl (wpAny_bind (wpAny_field hos hds (x := .int (-1) u) rfl (wpAny_pure ?_)))))))
  refine wpAny_bind (HT.slicePart_ (IsPart.int _ _) ?_)
  show wpAny _ _ (if ((-1 : Int) == 0) = true then _ else _) _ _ s
  rw [if_neg (by decide)]
  refine wpAny_bind (HT.slicePart_ IsPart.none (wpAny_bind (HT.slicePart_ IsPart.none (wpAny_bind (wpAny_pure ?_)))))
  have e1 : Builtin.Slice.sliceAdjust none none (-1) (n : Int) = ((n : Int) - 1, -1) := by
    unfold Builtin.Slice.sliceAdjust
    rfl
  have e2 : Builtin.Slice.slicePlaces ((n : Int) - 1) (-1) (-1) = n := by
    unfold Builtin.Slice.slicePlaces
    have h1 : ¬ ((-1 : Int) > 0) := by decide
    rw [if_neg h1]
    by_cases hn : (n : Int) - 1 > -1
    · rw [if_pos hn, show (- -1 : Int) = 1 by decide, Int.ediv_one]
      omega
    · rw [if_neg hn]
      omega
  show wpAny _ _ (match Builtin.Slice.sliceAdjust none none (-1) (n : Int) with | (lo, hi) => pure (lo, (-1 : Int), Builtin.Slice.slicePlaces lo hi (-1))) _ _ s
  rw [e1]
  show wpAny _ _ (pure ((n : Int) - 1, (-1 : Int), Builtin.Slice.slicePlaces ((n : Int) - 1) (-1) (-1))) _ _ s
  rw [e2]
  exact wpAny_pure h
theorem filterMap_same {α β : Type} {f g : α → Option β} : ∀ l : List α, (∀ m ∈ l, f m = g m) → l.filterMap f = l.filterMap g
  | [], _ => rfl
  | a :: l, h => by
    rw [List.filterMap_cons, List.filterMap_cons, h a (by simp), filterMap_same l fun m hm => h m (by simp [hm])]
theorem pick_rev (xs : Array Value) : ((List.range xs.size).filterMap fun (m : Nat) => xs[(((xs.size : Nat) : Int) - 1 + (m : Int) * -1).toNat]?).toArray = xs.toList.reverse.toArray := by
  have e : (List.range xs.size).filterMap (fun (m : Nat) => xs[(((xs.size : Nat) : Int) - 1 + (m : Int) * -1).toNat]?) = ((List.range xs.size).map fun k => xs.size - 1 - k).filterMap (xs[·]?) := by
    rw [List.filterMap_map]
    refine filterMap_same _ fun m hm => ?_
    have := List.mem_range.mp hm
    show xs[(((xs.size : Nat) : Int) - 1 + (m : Int) * -1).toNat]? = xs[xs.size - 1 - m]?
    have : (((xs.size : Nat) : Int) - 1 + (m : Int) * -1).toNat = xs.size - 1 - m := by omega
    rw [this]
  rw [e, PySem.W.krv_range, List.filterMap_reverse, PySem.W.krv_all]
theorem getItem_tuple_rev {t sl : Addr} {items : Array Value} {u : Tok} {Q : Value → Shared → Prop} (ht : IsTup s.heap t items) (hs : s.heap.IsSliceOf sl .none .none (.int (-1) u))
    (h : Q (.ref s.heap.objs.size) { s with heap := s.heap.push { cls := .type "tuple", data := .seq items.toList.reverse.toArray } })
    (hsz : items.size ≤ sizeLine) : wpAny (model prog w) A (getItem (.ref t) (.ref sl)) Q E s := by
  have htake : sizeOk (.seq items.toList.reverse.toArray) := by
    show items.toList.reverse.toArray.size ≤ sizeLine
    rw [List.size_toArray, List.length_reverse, Array.length_toList]
    omega
  obtain ⟨os, hos, hcs, hds⟩ := id hs
  have hTs : s.TypeIs (.ref sl) "slice" := ⟨os, hos, hcs⟩
  unfold getItem
  try with_reducible refine wpAny_holding ?_
  first | refine wpAny_bind (wpAny_pure ?_) | skip
  refine wpAny_bind (wpAny_sequenceKey ht.typeIs (by decide) ?_)
  refine wpAny_bind (wpAny_callSpecial?_slot (name := Str.ofString "__getitem__") ht.typeIs PyProof.Rows.slot_tuple_getitem
    (wpAny_call_entry PyProof.Rows.slot_tuple_getitem ht.typeIs entry_tuple_getitem ?_ (args_tuple_getitem _ _)))
  show wpAny _ _ (Builtin.Tuple.tupleItemsOf (.ref t) >>= _) _ _ s
  refine wpAny_bind (tupleItemsOf_ ht ?_)
  refine wpAny_bind (wpAny_typeOf hTs ?_)
  rw [if_pos (by decide)]
  refine wpAny_bind (sliceApplied_rev hs ?_)
  have hno : ¬ ((((items.size : Nat) : Int) - 1 == 0 && (-1 : Int) == 1 && items.size == items.size) = true) := by
    intro q
    rw [Bool.and_eq_true, Bool.and_eq_true] at q
    exact absurd q.1.2 (by decide)
  show wpAny _ _ (if (((items.size : Nat) : Int) - 1 == 0 && (-1 : Int) == 1 && items.size == items.size) = true then _ else _) _ _ s
  rw [if_neg hno, pick_rev]
  first
    | exact wpAny_bind (m := Builtin.Tuple.tupleExact _) (wpAny_newObj_type (wpAny_pure ⟨_, rfl, wpAny_pure h⟩) htake)
    | exact wpAny_bind (m := Builtin.Tuple.tupleExact _) (wpAny_newObj_type (wpAny_bind (wpAny_pure (wpAny_pure ⟨_, rfl, wpAny_pure h⟩))) htake)
    | exact wpAny_bind (wpAny_bind (m := Builtin.Tuple.tupleExact _) (wpAny_newObj_type (wpAny_pure (wpAny_pure ⟨_, rfl, wpAny_pure h⟩)) htake))
    | exact wpAny_bind (wpAny_bind (m := Builtin.Tuple.tupleExact _) (wpAny_newObj_type (wpAny_pure ⟨_, rfl, wpAny_pure h⟩) htake))
end
section
variable {X : Cx}
def tRevT (K : PySem.W.Frag) (te : TE) : TE := fun σ H Q => te σ H fun x H1 => ∃ a xs, x = .ref a ∧ SqT K H1 a xs ∧ ∀ p, H1 p = none → Q (.ref p) (upd H1 p (.tup xs.reverse))
theorem pe_revT {e : Expr} {te : TE} {k : Nat} {p1 p2 p3 pos : Pos} (he : PE X e te) : PE X (.Subscript e (.Slice none none (some (.UnaryOp .USub (.Constant (.int 1) k p1) p2)) p3) pos) (tRevT X.K te) := by
  refine ⟨fun pins s σ H Q I h => ?_⟩
  refine Subscript_ (thn (he.run pins s σ H _ I h) fun v s1 ⟨x, H1, I1, r1, q1⟩ => ?_)
  obtain ⟨a, xs, ex, hx, q⟩ := q1
  subst ex
  cases r1
  have hst : PO X (some (.UnaryOp .USub (.Constant (.int 1) k p1) p2)) (tPart (tUn (rU fun i => .int (-i)) (tC (.int 1)))) := po_some (pe_un un_neg pe_int)
  refine wpAny_Slice (thn (po_none.run pins s1 σ H1 (fun o H2 => o = none ∧ H2 = H1) I1 ⟨rfl, rfl⟩) fun vl s2 ⟨l, H2, I2, pl, el, e2⟩ => ?_)
  subst el e2
  refine thn (po_none.run pins s2 σ H2 (fun o H3 => o = none ∧ H3 = H2) I2 ⟨rfl, rfl⟩) fun vu s3 ⟨u, H3, I3, pu, eu, e3⟩ => ?_
  subst eu e3
  refine thn (hst.run pins s3 σ H3 (fun o H4 => o = some (-1) ∧ H4 = H3) I3 ⟨1, rfl, -1, rfl, rfl, rfl⟩) fun vs s4 ⟨o, H4, I4, ps, eo, e4⟩ => ?_
  subst eo e4
  cases pl
  cases pu
  cases ps with
  | int i tk =>
  have I5 : Inv X pins σ H4 { s4 with heap := s4.heap.push { cls := .type "slice", data := .fields #[.none, .none, .int (-1) tk] } } := I4.kept (t' := s4.toks) fun b ob q => Heap.get?_push_of_some _ q
  obtain ⟨its, r, ht, hz⟩ := I5.tuple hx
  have hlen := r.length
  show wpAny (model X.prog X.w) X.A (subscriptTail e (.Slice none none (some (.UnaryOp .USub (.Constant (.int 1) k p1) p2)) p3) (.ref a) (.ref s4.heap.objs.size)) (EP X pins σ Q) X.xe { s4 with heap := s4.heap.push { cls := .type "slice", data := .fields #[.none, .none, .int (-1) tk] } }
  refine tail_any (ops := [.ref a, .ref s4.heap.objs.size]) ht.typeIs PyProof.Rows.slot_tuple_getitem.lookup ?_ (by with_unfolding_all rfl)
  refine getItem_tuple_rev ht (Heap.IsSliceOf.new _ _ _ _) ?_ (by rw [List.size_toArray]; omega)
  refine ⟨.ref _, _, I5.laid (t' := s4.toks) (o := .tup xs.reverse) (fun b ob q => Heap.get?_push_of_some _ q) (Nat.le_refl _) ?_, rfl, q _ (I5.hok.fresh (Nat.le_refl _))⟩
  exact ⟨by rw [List.length_reverse]; exact hz, _, r.reverse, IsTup.new _ _⟩
end

/-! ### (x,) == (text,) -/
section
variable {prog : Program} {w : World} {A : Around} {E : Value → Shared → Prop} {s : Shared}
theorem dict_eq_declines_str (l : Addr) (dat : Data) (dd : Option Addr) (sl : Array (Option Value)) (b : Str) (u : Tok) :
    Meets (Builtin.«dict.__eq__» ⟨[.ref l, .str b u], []⟩) (fun _ R s => s.heap.get? l = some { cls := .type "dict", dict := dd, data := dat, slots := sl } ∧ R (.ok (.ret .notImplemented)) s) :=
  .of_wp fun prog w A R s h => by
    obtain ⟨hl, h⟩ := h
    have hT : s.TypeIs (.ref l) "dict" := ⟨_, hl, rfl⟩
    show wpAny _ _ (Builtin.Dict.dictSlotArgs "__eq__" ⟨[.ref l, .str b u], []⟩ >>= _) _ _ s
    refine wpAny_bind ?_
    unfold Builtin.Dict.dictSlotArgs
    refine wpAny_bind (wpAny_notOrdered_dict hT ?_)
    show wpAny _ _ (pure (Value.ref l, Value.str b u)) _ _ s
    refine wpAny_pure ?_
    refine wpAny_bind (wpAny_isInstance (T := "str") (typeIs_str s b u) F.sub_str_dict ?_)
    simp only [Bool.not_false, if_true]
    exact wpAny_bind (wpAny_rule (wpAny_pure ⟨_, rfl, h⟩))
theorem str_eq_declines_dict (b : Str) (u : Tok) (l : Addr) (c : Value) (es : Array DictEntry) (ep : Nat) (dd : Option Addr) (sl : Array (Option Value)) :
    Meets (Builtin.«str.__eq__» ⟨[.str b u, .ref l], []⟩) (fun _ R s => s.heap.get? l = some { cls := c, dict := dd, data := .dict es ep, slots := sl } ∧ R (.ok (.ret .notImplemented)) s) :=
  .of_wp fun prog w A R s h => by obtain ⟨hp, g, d, tk, os⟩ := s; obtain ⟨hl, h⟩ := h; wp_walk using wpAny_loadPart' hl, wpAny_load hl; exact ⟨_, rfl, h⟩
theorem rc_dict_str {l : Addr} {es : Array DictEntry} {ep : Nat} {dd : Option Addr} {sl : Array (Option Value)} (b : Str) (u : Tok) (ho : s.heap.get? l = some { cls := .type "dict", dict := dd, data := .dict es ep, slots := sl }) (hu : A.units < cLine) : SeqAt.RcAt A s (.ref l) (.str b u) false := fun prog w E Q h => by
  exact SeqAt.rc_eq_decline_or (k := false) ⟨_, ho, rfl⟩ (typeIs_str s b u) (by decide) F.sub_str_dict F.slot_dict_eq F.slot_str_eq_refl
    (fun _ hq => call_meets F.slot_dict_eq ⟨_, ho, rfl⟩ F.entry_dict_eq (F.args_dict_eq_2 _ _) (dict_eq_declines_str l _ dd sl b u) ⟨ho, hq⟩)
    (fun _ hq => call_meets F.slot_str_eq_refl (typeIs_str s b u) F.entry_str_eq (F.args_str_eq_2 _ _) (str_eq_declines_dict b u l (.type "dict") es ep dd sl) ⟨ho, hq⟩)
    (fun _ hq => wpAny_of_eq (rfl : isSame (.ref l) (.str b u) = pure false) hq) (.inr hu) h
theorem eq_dict_str {l : Addr} {es : Array DictEntry} {ep : Nat} {dd : Option Addr} {sl : Array (Option Value)} (b : Str) (u : Tok) (ho : s.heap.get? l = some { cls := .type "dict", dict := dd, data := .dict es ep, slots := sl }) (hu : A.units < cLine) : SeqAt.EqAt A s (.ref l) (.str b u) false := fun prog w E Q h => by
  unfold eqBool
  refine wpAny_holding ?_
  refine wpAny_ite_split (fun hab => absurd (eq_of_beq hab) nofun) (fun _ => ?_)
  exact wpAny_bind (rc_dict_str b u ho hu prog w E _ (wpAny_truthy_bool h))
end
/-- (x,) == (text,): no error as x -/
def rEqH (K : PySem.W.Frag) : R2 := fun x y H Q => ∃ a b z t st, x = .ref a ∧ y = .ref b ∧ SqT K H a [z] ∧ SqT K H b [.str st] ∧ Ty K H z t ∧ (∀ D, t ≠ .ref D) ∧ Q (.bl (decide (z = .str st))) H
theorem op_eqH {X : Cx} (hu : X.A.units + 64 < cLine) : OpR X (compareOp .Eq) (rEqH X.K) := by
  intro pins s σ H x y v u Q I rx ry h
  obtain ⟨a, b, z, t, st, rfl, rfl, ha, hb, ty, nt, q⟩ := h
  cases rx
  cases ry
  obtain ⟨us, r1, p1, _⟩ := I.tuple ha
  obtain ⟨ws, r2, p2, _⟩ := I.tuple hb
  obtain ⟨u1, rfl, q1⟩ := vals1 r1
  obtain ⟨u2, rfl, q2⟩ := vals1 r2
  obtain ⟨k2, rfl⟩ := q2
  have he : SeqAt.EqAt X.A.in1 s u1 (.str st k2) (decide (z = .str st)) := by
    have hu1 : X.A.in1.units < cLine := by
      show X.A.units + 1 < cLine
      omega
    cases ty with
    | non =>
      cases q1
      exact SeqAt.EqAt.none_str _ _
    | bl c =>
      cases q1
      exact SeqAt.EqAt.bool_str _ _ _
    | int i =>
      obtain ⟨k1, rfl⟩ := q1
      exact SeqAt.EqAt.int_str _ _ _ _
    | str s1 =>
      obtain ⟨k1, rfl⟩ := q1
      have e : decide (V.str s1 = V.str st) = (s1 == st) := by
        by_cases h : s1 = st <;> simp [h]
      rw [e]
      exact SeqAt.EqAt.str_str _ _ _ _
    | lst e =>
      cases q1
      obtain ⟨its, r, ht, hz⟩ := I.list (SqL.of e)
      exact SeqAt.EqAt.list_str _ _ ht.isList hu1
    | tup e =>
      cases q1
      obtain ⟨its, r, ht, hz⟩ := I.tuple (SqT.of e)
      exact SeqAt.EqAt.tuple_str _ _ ht hu1
    | dct e =>
      cases q1
      obtain ⟨hz, hs0, vs, kv, ob, es, ep, ho, hc, hd, _⟩ := I.hok _ _ e
      obtain ⟨cls, dd, data, sl⟩ := ob
      simp only at hd
      have hcc : cls = .type "dict" := hc.1
      subst hcc hd
      exact eq_dict_str _ _ ho hu1
    | exc e ed c => exact absurd rfl (nt _)
  have e : ((List.range (min [u1].toArray.size [Value.str st k2].toArray.size)).all (fun _ => decide (z = .str st)) && [u1].toArray.size == [Value.str st k2].toArray.size) = decide (z = .str st) := by
    simp
  refine SeqAt.RcAt.tuples (e := fun _ => decide (z = .str st)) p1 p2 (by omega) (fun j h1 h2 => ?_) X.prog X.w X.xe _ ?_
  · have : j = 0 := by simp at h1; omega
    subst this
    exact he
  · rw [e]
    exact ⟨.bl _, H, I, rfl, q⟩
/-- () == (text,) -/
def rEqHE (K : PySem.W.Frag) : R2 := fun x y H Q => ∃ a b st, x = .ref a ∧ y = .ref b ∧ SqT K H a [] ∧ SqT K H b [.str st] ∧ Q (.bl false) H
theorem op_eqHE {X : Cx} (hu : X.A.units + 64 < cLine) : OpR X (compareOp .Eq) (rEqHE X.K) := by
  intro pins s σ H x y v u Q I rx ry h
  obtain ⟨a, b, st, rfl, rfl, ha, hb, q⟩ := h
  cases rx
  cases ry
  obtain ⟨us, r1, p1, _⟩ := I.tuple ha
  obtain ⟨ws, r2, p2, _⟩ := I.tuple hb
  cases r1
  obtain ⟨u2, rfl, q2⟩ := vals1 r2
  refine SeqAt.RcAt.tuples (e := fun _ => true) p1 p2 (by omega) (fun j h1 h2 => absurd h1 (by simp)) X.prog X.w X.xe _ ?_
  exact ⟨.bl _, H, I, rfl, q⟩
/-- (x,) or () == (text,) -/
theorem op_or {X : Cx} {o : Value → Value → Sem Value} {r1 r2 : R2} (h1 : OpR X o r1) (h2 : OpR X o r2) : OpR X o fun x y H Q => r1 x y H Q ∨ r2 x y H Q := by
  intro pins s σ H x y v u Q I rx ry h
  rcases h with h | h
  · exact h1 pins s σ H x y v u Q I rx ry h
  · exact h2 pins s σ H x y v u Q I rx ry h

/-! ### list(d.values()) -/
section
variable {X : Cx} {e : Expr} {te : TE} {p apos cpos pos : Pos}
def tListVals (te : TE) : TE := fun σ H Q => te σ H fun x H1 => ∃ (d : Addr) (kvs : List (Key × V)), x = .ref d ∧ H1 d = some (.dK kvs) ∧ ∀ q, H1 q = none → Q (.ref q) (upd H1 q (.lst (kvs.map fun kv => kv.2)))
theorem pe_listVals (hc : X.calm = true) (he : PE X e te) (hg : Gl X "list") (hm : X.mg "list" = none) (hv : bootBuiltins "list" = some (.type "list")) (hbase : attributeBase e "values" X.env (eval e X.env) = eval e X.env := by rfl) (hline : (apos.endLine == cpos.line) = true := by rfl)
    (hs : starEach [.Call (.Attribute e "values" apos) [] [] cpos] X.env = (false, eval (.Call (.Attribute e "values" apos) [] [] cpos) X.env) :: starEach [] X.env := by rfl) :
    PE X (.Call (.Name "list" p) [.Call (.Attribute e "values" apos) [] [] cpos] [] pos) (tListVals te) := by
  refine ⟨fun pins s σ H Q I hq => ?_⟩
  refine wpAny_Call_Name_kw (ld_blt I hg hm hv ?_)
  refine PyProof.Rows.callWith_type1 ?_ hs rfl
  rw [hs]
  show wpAny _ _ (spliced ((false, eval (.Call (.Attribute e "values" apos) [] [] cpos) X.env) :: backTo pos (starEach [] X.env))) _ _ s
  refine Calls.spliced_cons ?_
  refine wpAny_Call_method (T := "dict") (id := "dict.values") hbase rfl hline F.plainAttrs_dict F.slot_dict_values F.type_dict_values (thn (he.run pins s σ H _ I hq) fun u s1 ⟨x, H1, I1, rx, d, kvs, ex, hd, q⟩ => ?_)
  subst ex
  obtain rfl : u = Value.ref d := rx
  obtain ⟨hz, hs0, vs, kv, hdo⟩ := I1.hok d _ hd
  obtain ⟨ep, hat⟩ := hdo.dictAt
  have lk : kvs.length = vs.length := Paired.length kv
  have I2 : Inv X pins σ H1 { s1 with heap := s1.heap.push { cls := .type "dict_values", data := .fields #[.ref d] } } := I1.kept (t' := s1.toks) fun b ob q => Heap.get?_push_of_some _ q
  refine ⟨hdo.typeIs, hdo.mapOf.noDict, ?_⟩
  show wpAny _ _ (callWith cpos (.builtin "dict.values") [.ref d] [] []) _ X.xe s1
  refine method_meetsIn F.slot_dict_values F.entry_dict_values rfl (PySem.evalArgs_none ⟨rfl, hdo.typeIs, F.args_dict_values_1 _, _, meets_dict_values (mixKind X.prog X.w) d hs0, ⟨vs, hdo⟩, ?_⟩)
  refine Calls.spliced_nil ?_
  refine PySem.W.kdl_call (PySem.W.kdl_values (knd := mixKind X.prog X.w) (kvs := vs) (ep := ep)) (I1.ok.hd hc) ⟨⟨_, Heap.get?_push_size _ rfl, rfl, rfl⟩, hat.push _⟩ (by omega) fun h' tk acc' c' hkeep hS hacc => ?_
  refine ⟨.ref _, _, I2.laid (o := .lst (kvs.map fun kv => kv.2)) hkeep (Nat.le_refl _) (show ObjOk X.prog X.w _ _ _ (.lst (kvs.map fun kv => kv.2)) from ⟨?_, acc'.toList, c', ?_, ?_⟩), rfl, q _ (I1.hok.fresh (by
    show s1.heap.objs.size ≤ _
    simp [Heap.push]))⟩
  · rw [List.length_map]; exact hz
  · have el : acc'.toList.length = acc'.size := by simp
    refine vals_of_at (by rw [List.length_map, el, hacc.1]; omega) fun j x w h1 h2 => ?_
    obtain ⟨k, hky⟩ := hacc.2 j w (by rw [← Array.getElem?_toList]; exact h2)
    rw [List.getElem?_map] at h1
    obtain ⟨pk, e1, rfl⟩ := Option.map_eq_some_iff.mp h1
    obtain ⟨qv, g1, g2, g3⟩ := LiI.paired_get kv e1
    rw [hky] at g1
    cases g1
    exact g3
  · rw [Array.toArray_toList]; exact hS
end
end Pw

/-! Tuples cut, joined and multiplied, whether the outcome is new or one of those. -/
namespace Pw
open PySem PySem.Spec PyProof.Rows L2
section
variable {X : Cx}
def rCatS : R2 := fun x y H Q => ∃ a b xs ys, x = .ref a ∧ y = .ref b ∧ H a = some (.tup xs) ∧ H b = some (.tup ys) ∧ xs.length + ys.length ≤ sizeLine ∧ ∀ c H', Same H H' → H' c = some (.tup (xs ++ ys)) → Q (.ref c) H'
theorem op_catS : OpR X (binaryOp .Add) rCatS := by
  intro pins s σ H x y v u Q I rx ry h
  obtain ⟨a, b, xs, ys, rfl, rfl, ha, hb, hz, q⟩ := h
  refine op_catA pins s σ H _ _ v u Q I rx ry ⟨a, b, xs, ys, rfl, rfl, SqT.of ha, SqT.of hb, hz, fun e => ?_, fun _ e => ?_, fun _ _ c nc => q c _ (Same.laid nc) upd_same⟩
  · subst e
    exact q b H (Same.refl _) hb
  · subst e
    exact q a H (Same.refl _) (by rw [List.append_nil]; exact ha)
def rSlS : V → Option Int → Option Int → Hp → VK → Prop := fun x lo hi H Q => ∃ a xs, x = .ref a ∧ H a = some (.tup xs) ∧ ∀ c H', Same H H' → H' c = some (.tup (cutV xs lo hi)) → Q (.ref c) H'
theorem sl_tupS : SlR X rSlS := by
  intro pins s σ H x v vl vu lo hi sl Q I rx hs pl pu h
  obtain ⟨a, xs, rfl, ha, q⟩ := h
  refine sl_tupA pins s σ H _ v vl vu lo hi sl Q I rx hs pl pu ⟨a, xs, rfl, SqT.of ha, fun e => ?_, fun _ c nc => q c _ (Same.laid nc) upd_same⟩
  refine q a H (Same.refl _) ?_
  have : cutV xs lo hi = xs := by
    unfold cutV
    rw [e.1, e.2, List.drop_zero, Nat.sub_zero, List.take_of_length_le (Nat.le_refl _)]
  rw [this]
  exact ha
def rRepS : R2 := fun x y H Q => ∃ a xs k, x = .ref a ∧ y = .int k ∧ H a = some (.tup xs) ∧ 2 ≤ k ∧ k ≤ 1000 ∧ xs.length ≤ 1000 ∧ ∀ c H', Same H H' → H' c = some (.tup (List.replicate k.toNat xs).flatten) → Q (.ref c) H'
theorem op_repS : OpR X (binaryOp .Mult) rRepS := by
  intro pins s σ H x y v u Q I rx ry h
  obtain ⟨a, xs, k, rfl, rfl, ha, h1, h2, hz, q⟩ := h
  by_cases hx : xs = []
  · subst hx
    refine op_rep0 pins s σ H _ _ v u Q I rx ry ⟨a, k, rfl, rfl, SqT.of ha, h1, h2, q a H (Same.refl _) ?_⟩
    have : (List.replicate k.toNat ([] : List V)).flatten = [] := by
      rw [List.flatten_eq_nil_iff]
      exact fun l hl => (List.mem_replicate.mp hl).2
    rw [this]
    exact ha
  · exact op_repT pins s σ H _ _ v u Q I rx ry ⟨a, k, xs, rfl, rfl, SqT.of ha, hx, h1, h2, hz, fun c nc => q c _ (Same.laid nc) upd_same⟩
end
theorem cut_upto (xs : List V) (j : Nat) : cutV xs none (some (j : Int)) = xs.take j := by
  unfold cutV
  have e1 : HT.sIx xs.length 0 none = 0 := rfl
  rw [e1, HT.sIx_nat, List.drop_zero, Nat.sub_zero]
  by_cases h : j ≤ xs.length
  · rw [Nat.min_eq_left h]
  · rw [Nat.min_eq_right (by omega), List.take_of_length_le (Nat.le_refl _), List.take_of_length_le (by omega)]
theorem cut_behind (xs : List V) (i : Nat) : cutV xs (some (i : Int)) none = xs.drop i := by
  unfold cutV
  have e2 : HT.sIx xs.length xs.length none = xs.length := rfl
  rw [HT.sIx_nat, e2]
  by_cases h : i ≤ xs.length
  · rw [Nat.min_eq_left h, List.take_of_length_le (by rw [List.length_drop]; omega)]
  · rw [Nat.min_eq_right (by omega), Nat.sub_self, List.take_zero, List.drop_of_length_le (by omega)]
theorem cut_two (xs : List V) (i j : Nat) : cutV xs (some (i : Int)) (some (j : Int)) = (xs.take j).drop i := by
  unfold cutV
  rw [HT.sIx_nat, HT.sIx_nat]
  by_cases h : i ≤ xs.length
  · rw [Nat.min_eq_left h, List.drop_take]
    by_cases h2 : j ≤ xs.length
    · rw [Nat.min_eq_left h2]
    · rw [Nat.min_eq_right (by omega), List.take_of_length_le (by rw [List.length_drop]; omega), List.take_of_length_le (by rw [List.length_drop]; omega)]
  · rw [Nat.min_eq_right (a := i) (by omega), List.drop_of_length_le (Nat.le_refl _), List.take_nil, List.drop_of_length_le (by rw [List.length_take]; omega)]
end Pw

set_option maxHeartbeats 8000000
namespace V51
open PySem PySem.Spec PyProof.Rows L2 Pw
/-! ### numbers held against numbers -/
theorem eqvA_ints : ∀ ns ms : List Int, PyData.eqvAll (ns.map .int) (ms.map .int) = decide (ns = ms)
  | [], [] => by simp [PyData.eqvAll]
  | [], _ :: _ => by simp [PyData.eqvAll]
  | _ :: _, [] => by simp [PyData.eqvAll]
  | n :: ns, m :: ms => by
    have h := eqvA_ints ns ms
    simp only [List.map_cons, PyData.eqvAll, PyData.eqv, h]
    by_cases h1 : n = m <;> by_cases h2 : ns = ms <;> simp [h1, h2]
theorem eqv_tupI (ns ms : List Int) : PyData.eqv (.tuple (ns.map .int)) (.tuple (ms.map .int)) = decide (ns = ms) := by
  simp only [PyData.eqv, eqvA_ints]
theorem eqv_lstI (ns ms : List Int) : PyData.eqv (.list (ns.map .int)) (.list (ms.map .int)) = decide (ns = ms) := by
  simp only [PyData.eqv, eqvA_ints]
theorem eqv_pairI (a b : Int) (ns ms : List Int) : PyData.eqv (.tuple [.int a, .tuple (ns.map .int)]) (.tuple [.int b, .tuple (ms.map .int)]) = decide (a = b ∧ ns = ms) := by
  simp only [PyData.eqv, PyData.eqvAll, eqvA_ints]
  by_cases h1 : a = b <;> by_cases h2 : ns = ms <;> simp [h1, h2]
theorem shaped_tupI (ns : List Int) : SeqAt.shaped (.tuple (ns.map .int)) = true := by
  unfold SeqAt.shaped
  simp only [PyData.canLay0, PyData.depth, lay_ints ns, dep_ints ns]
  rfl
theorem shaped_pairI (a : Int) (ns : List Int) : SeqAt.shaped (.tuple [.int a, .tuple (ns.map .int)]) = true := by
  unfold SeqAt.shaped
  simp only [PyData.canLay0, PyData.canLayAll0, PyData.depth, PyData.depthAll, lay_ints ns, dep_ints ns]
  rfl
section
variable {K : PySem.W.Frag} {H : Hp} {Q : VK} {a b : Addr} {ns ms : List Int}
theorem eq_tupI (h : H a = some (.tup (ns.map V.int))) (k : H b = some (.tup (ms.map V.int))) (q : Q (.bl (decide (ns = ms))) H) : rEqD K (.ref a) (.ref b) H Q :=
  ⟨_, _, .tup (SqT.of h) (dp_ints ns), .tup (SqT.of k) (dp_ints ms), shaped_tupI ns, shaped_tupI ms, by rw [eqv_tupI]; exact q⟩
theorem ne_tupI (h : H a = some (.tup (ns.map V.int))) (k : H b = some (.tup (ms.map V.int))) (q : Q (.bl (!decide (ns = ms))) H) : rNeD K (.ref a) (.ref b) H Q :=
  ⟨_, _, .tup (SqT.of h) (dp_ints ns), .tup (SqT.of k) (dp_ints ms), shaped_tupI ns, shaped_tupI ms, by rw [eqv_tupI]; exact q⟩
theorem eq_lstI (h : H a = some (.lst (ns.map V.int))) (k : H b = some (.lst (ms.map V.int))) (q : Q (.bl (decide (ns = ms))) H) : rEqD K (.ref a) (.ref b) H Q :=
  ⟨_, _, .lst (SqL.of h) (dp_ints ns), .lst (SqL.of k) (dp_ints ms), shaped_ints ns, shaped_ints ms, by rw [eqv_lstI]; exact q⟩
theorem ne_lstI (h : H a = some (.lst (ns.map V.int))) (k : H b = some (.lst (ms.map V.int))) (q : Q (.bl (!decide (ns = ms))) H) : rNeD K (.ref a) (.ref b) H Q :=
  ⟨_, _, .lst (SqL.of h) (dp_ints ns), .lst (SqL.of k) (dp_ints ms), shaped_ints ns, shaped_ints ms, by rw [eqv_lstI]; exact q⟩
theorem eq_pairI {x y : Int} {t u : Addr} (h : H a = some (.tup [.int x, .ref t])) (ht : H t = some (.tup (ns.map V.int))) (k : H b = some (.tup [.int y, .ref u])) (hu : H u = some (.tup (ms.map V.int))) (q : Q (.bl (decide (x = y ∧ ns = ms))) H) : rEqD K (.ref a) (.ref b) H Q :=
  ⟨_, _, .tup (SqT.of h) (.cons (.int x) (.cons (.tup (SqT.of ht) (dp_ints ns)) .nil)), .tup (SqT.of k) (.cons (.int y) (.cons (.tup (SqT.of hu) (dp_ints ms)) .nil)), shaped_pairI x ns, shaped_pairI y ms, by rw [eqv_pairI]; exact q⟩
end
/-! ### stretches as they stand -/
inductive AlS (H : Hp) : List V → List Sp3 → Prop where
  | nil : AlS H [] []
  | cons {q t : Addr} {s : Sp3} {vs : List V} {ss : List Sp3} (e : H q = some (.tup [.int s.1, .int s.2.1, .ref t])) (e2 : H t = some (.tup (s.2.2.map V.int))) (r : AlS H vs ss) : AlS H (.ref q :: vs) (s :: ss)
theorem AlS.imp {H H' : Hp} {vs : List V} {ss : List Sp3} (h : AlS H vs ss) (S : ∀ b xs, H b = some (.tup xs) → H' b = some (.tup xs)) : AlS H' vs ss := by
  induction h with
  | nil => exact .nil
  | cons e e2 _ ih => exact .cons (S _ _ e) (S _ _ e2) ih
theorem AlS.same {H H' : Hp} {vs : List V} {ss : List Sp3} (h : AlS H vs ss) (S : Same H H') : AlS H' vs ss := h.imp fun b xs e => S _ _ e
theorem AlS.length {H : Hp} {vs : List V} {ss : List Sp3} (h : AlS H vs ss) : vs.length = ss.length := by
  induction h with
  | nil => rfl
  | cons _ _ _ ih => simp [ih]
theorem AlS.snoc {H : Hp} {vs : List V} {ss : List Sp3} {q t : Addr} {s : Sp3} (h : AlS H vs ss) (e : H q = some (.tup [.int s.1, .int s.2.1, .ref t])) (e2 : H t = some (.tup (s.2.2.map V.int))) : AlS H (vs ++ [.ref q]) (ss ++ [s]) := by
  induction h with
  | nil => exact .cons e e2 .nil
  | cons f f2 _ ih => exact .cons f f2 ih
theorem AlS.cut {H : Hp} {vs : List V} {ss : List Sp3} {l : Sp3} (h : AlS H vs (ss ++ [l])) : ∃ us q t, vs = us ++ [.ref q] ∧ AlS H us ss ∧ H q = some (.tup [.int l.1, .int l.2.1, .ref t]) ∧ H t = some (.tup (l.2.2.map V.int)) := by
  induction ss generalizing vs with
  | nil =>
    cases h with
    | cons e e2 r => cases r; exact ⟨[], _, _, rfl, .nil, e, e2⟩
  | cons s ss ih =>
    cases h with
    | cons e e2 r =>
      obtain ⟨us, q, t, rfl, h1, h2, h3⟩ := ih r
      exact ⟨_ :: us, q, t, rfl, .cons e e2 h1, h2, h3⟩
theorem AlS.get {H : Hp} {vs : List V} {ss : List Sp3} (h : AlS H vs ss) : ∀ {i : Nat} {v : V}, vs[i]? = some v → ∃ q t s, v = .ref q ∧ ss[i]? = some s ∧ H q = some (.tup [.int s.1, .int s.2.1, .ref t]) ∧ H t = some (.tup (s.2.2.map V.int)) := by
  induction h with
  | nil => intro i v e; simp at e
  | cons e e2 _ ih =>
    intro i v hx
    cases i with
    | zero =>
      simp only [List.getElem?_cons_zero, Option.some.injEq] at hx
      exact ⟨_, _, _, hx.symm, rfl, e, e2⟩
    | succ i =>
      simp only [List.getElem?_cons_succ] at hx
      obtain ⟨q, t, s, h1, h2, h3⟩ := ih hx
      exact ⟨q, t, s, h1, by simpa using h2, h3⟩
section
variable {P : Program} {w : World} {K : PySem.W.Frag} {mg : Str → Option Value} {base : Heap}
def spAddSp (K : PySem.W.Frag) : Sp := fun vs H Q _ => ∃ F q t xs fs, ∃ s : Sp3, vs = [.ref F, .ref q] ∧ H F = some (.lst xs) ∧ AlS H xs fs ∧ fs.length ≤ 100000 ∧ s.2.2 ≠ [] ∧ H q = some (.tup [.int s.1, .int s.2.1, .ref t]) ∧ H t = some (.tup (s.2.2.map V.int)) ∧
  ∀ H' ys, Same (wo H F) (wo H' F) → H' F = some (.lst ys) → AlS H' ys (addS fs s) → Q .non H'
theorem d_addSp (T : Txt mg) (A : At K mg "_add_span" sAddSpan) : Def P w K mg base "_add_span" 1 ["found", "span"] (spAddSp K) := by
  refine mkDef A scAddSpan (fun _ _ _ _ _ _ us hl => match us, hl with | [_, _], _ => rfl) (fun vs H Q E ⟨_, _, _, _, _, _, e, _⟩ => by rw [e]; rfl)
    (fun f cdv A out s H vs Q E hr h => ?_)
  obtain ⟨F, q, t, xs, fs, ⟨x, y, ns⟩, rfl, eF, al, f5, hne, eq, et, k⟩ := h
  refine ⟨_, (pss_cons (ps_asg (pv 1) (pg_tup (by rfl) (pgs_cons (pg_name (i := 2) scAddSpan.nd rfl (.inl rfl)) (pgs_cons (pg_name (i := 3) scAddSpan.nd rfl (.inl rfl)) (pgs_cons (pg_name (i := 4) scAddSpan.nd rfl (.inl rfl)) pgs_nil)))))
    (pss_cons (ps_if (PW.pt (pw_and (pt_truth (pv 0) (by intro _; rfl)) (pw_and (pt_cmpR op_eq (pe_ix (r := rIxT K) ix_tup (pe_ix ix_list (pv 0) (pe_un un_neg pe_int) (fun _ _ => rfl)) pe_int (fun _ _ => rfl)) (pe_op op_sub (pv 2) pe_int) (nomark _)) (pw_and1 (pt_cmpR (op_eqD hr.units) (pe_ix (r := rIxT K) ix_tup (pe_ix ix_list (pv 0) (pe_un un_neg pe_int) (fun _ _ => rfl)) pe_int (fun _ _ => rfl)) (pv 4) (nomark _))))))
      (pss_one (ps_set (i := 2) scAddSpan.nd rfl (.inl rfl) (pe_ix (r := rIxT K) ix_tup (pe_bm0 PySem.F.plainAttrs_list PySem.F.slot_list_pop PySem.F.type_list_pop mt_pop (pv 0)) pe_int (fun _ _ => rfl))))
      pss_nil)
    (pss_one (ps_expr (pe_bm PySem.F.plainAttrs_list PySem.F.slot_list_append PySem.F.type_list_append mt_append (pv 0) (pa_cons (pe_tup (pa_cons (pv 2) (pa_cons (pv 3) (pa_cons (pv 4) pa_nil)))) pa_nil)))))), ?_⟩
  refine ⟨_, rfl, q, _, rfl, SqT.of eq, rfl, _, _, rfl, _, _, rfl, _, _, rfl, rfl, ?_⟩
  dsimp only [gName]
  have tF : t ≠ F := fun z => by rw [z, eF] at et; cases et
  have lim : ∀ {n : Nat}, n ≤ 100000 → n < sizeLine := fun h => Nat.lt_of_le_of_lt h (by decide)
  have alF : AlS (wo H F) xs fs := al.imp fun b xs e => wo_of (fun z => by rw [z, eF] at e; cases e) e
  -- behind the test: a new tuple put behind what stands there
  have fin : ∀ (G : Hp) (us : List V) (gs : List Sp3) (x' : Int), Same (wo H F) (wo G F) → G F = some (.lst us) → AlS (wo H F) us gs → gs.length ≤ 100000 → addS fs (x, y, ns) = gs ++ [(x', y, ns)] →
      3 ≤ sizeLine ∧ ∀ q2, G q2 = none → ∃ (l : Addr) (ws : List V) (z : V), V.ref F = .ref l ∧ [V.ref q2] = [z] ∧ upd G q2 (.tup [.int x', .int y, .ref t]) l = some (.lst ws) ∧ ws.length < sizeLine ∧ Q .non (upd (upd G q2 (.tup [.int x', .int y, .ref t])) l (.lst (ws ++ [z]))) := by
    intro G us gs x' S eG alG lG ea
    refine ⟨by decide, fun q2 n2 => ⟨F, us, .ref q2, rfl, rfl, ?_, ?_, ?_⟩⟩
    · exact (upd_ne (fun z => by rw [z, n2] at eG; cases eG)).trans eG
    · rw [alG.length]; exact lim lG
    · have q2F : q2 ≠ F := fun z => by rw [z, eG] at n2; cases n2
      have U : Same (wo G F) (wo (upd (upd G q2 (.tup [.int x', .int y, .ref t])) F (.lst (us ++ [.ref q2]))) F) := by
        rw [wo_upd]
        exact Same.wo (Same.laid n2)
      refine k _ _ (S.trans U) upd_same ?_
      rw [ea]
      refine AlS.snoc (t := t) ((alG.same (S.trans U)).same wo_same) ?_ ?_
      · exact (upd_ne q2F).trans upd_same
      · exact wo_same _ _ ((S.trans U) _ _ (wo_of tF et))
  refine ⟨_, rfl, !xs.isEmpty, .inl ⟨xs, SqL.of eF, rfl⟩, ?_⟩
  rcases List.eq_nil_or_concat fs with rfl | ⟨gs, l, rfl⟩
  · cases al
    refine iteF (iteF ?_)
    exact ⟨_, rfl, .inl ⟨rfl, _, SqL.of eF⟩, _, rfl, _, rfl, _, rfl, fin H [] [] x (Same.refl _) eF .nil (by decide) (addS_one hne)⟩
  rw [List.concat_eq_append] at *
  obtain ⟨us, q1, t1, rfl, al1, e1, et1⟩ := al.cut
  rw [show (!(us ++ [V.ref q1]).isEmpty) = true by simp]
  have glen : gs.length ≤ 100000 := by rw [List.length_append] at f5; omega
  refine iteT ⟨_, rfl, 1, rfl, F, _, -1, .ref q1, rfl, rfl, SqL.of eF, atI_last _ _, q1, _, 1, .int l.2.1, rfl, rfl, SqT.of e1, rfl, _, rfl, _, _, rfl, rfl, rfl, _, rfl, ?_⟩
  refine ite2 (fun c1 => ?_) (fun c1 => ?_)
  · refine ⟨_, rfl, 1, rfl, F, _, -1, .ref q1, rfl, rfl, SqL.of eF, atI_last _ _, q1, _, 2, .ref t1, rfl, rfl, SqT.of e1, rfl, _, rfl, eq_tupI et1 et ⟨_, rfl, ?_⟩⟩
    by_cases c2 : l.2.2 = ns
    · rw [decide_eq_true c2]
      have c : l.2.1 = x - 1 ∧ l.2.2 = ns := ⟨V.int.inj (of_decide_eq_true c1), c2⟩
      refine iteT ⟨_, rfl, .inl ⟨rfl, _, SqL.of eF⟩, F, _, .ref q1, rfl, rfl, eF, by simp, q1, _, 0, .int l.1, rfl, rfl, SqT.of ((upd_ne (fun z => by rw [z, eF] at e1; cases e1)).trans e1), rfl, ?_⟩
      dsimp only [gName]
      rw [List.dropLast_concat]
      exact ⟨_, rfl, .inl ⟨rfl, _, SqL.of upd_same⟩, _, rfl, _, rfl, _, rfl, fin _ us gs l.1 (by rw [wo_upd]; exact Same.refl _) upd_same (al1.imp fun b xs e => wo_of (fun z => by rw [z, eF] at e; cases e) e) glen (addS_yes hne c)⟩
    · rw [decide_eq_false c2]
      refine iteF ?_
      exact ⟨_, rfl, .inl ⟨rfl, _, SqL.of eF⟩, _, rfl, _, rfl, _, rfl, fin H _ _ x (Same.refl _) eF alF f5 (addS_new hne fun z => c2 z.2)⟩
  · refine iteF ?_
    exact ⟨_, rfl, .inl ⟨rfl, _, SqL.of eF⟩, _, rfl, _, rfl, _, rfl, fin H _ _ x (Same.refl _) eF alF f5 (addS_new hne fun z => c1 (decide_eq_true (congrArg V.int z.1)))⟩
end
end V51

/-! Sets of texts and numbers that can be gone through: made by a comprehension, sorted. -/
namespace Pw
open PySem PySem.Spec PyProof.Rows L2
def keyM : Value → Key
  | .int i _ => .inl i
  | .str x _ => .inr x
  | _ => .inl 0
def keysM (l : List (Int × Value)) : List Key := l.map fun e => keyM e.2
/-- what a table tells: each key once, its places rise, it is led -/
structure TabOk (w : World) (l : List (Int × Value)) (t : SetTable) : Prop where
  nd : (keysM l).Nodup
  ri : Ris t.place.toList
  le : w.params.followText "set-order" = true ∨ t.led = true
def SetQ (P : Program) (w : World) (h : Heap) (a : Addr) (S : Key → Bool) (n : Nat) : Prop :=
  ∃ o es ep t, h.get? a = some o ∧ o.ExactSet ∧ o.data = .set es ep t ∧ ElemsOf (mixKind P w) es.toList ∧ (∀ k, S k = true ↔ k ∈ keysM es.toList) ∧ es.size < scanBound ∧ t.fits es.size = true ∧ es.size = n ∧ TabOk w es.toList t
section
variable {P : Program} {w : World} {h h' : Heap} {a : Addr} {S : Key → Bool} {n : Nat}
theorem keyM_is {k : Key} {v : Value} (h : (mixKind P w).is k v = true) : keyM v = k := by
  rcases keyIs_shape h with ⟨i, t, rfl, rfl⟩ | ⟨x, t, rfl, rfl⟩ <;> rfl
theorem is_keyM {l : List (Int × Value)} (g : ElemsOf (mixKind P w) l) {e : Int × Value} (he : e ∈ l) {k : Key} : (mixKind P w).is k e.2 = true ↔ keyM e.2 = k := by
  refine ⟨keyM_is, fun q => ?_⟩
  obtain ⟨⟨k', h1, _⟩, _⟩ := g e he
  have := keyM_is h1
  rw [← q, this]
  exact h1
theorem mem_keysM {l : List (Int × Value)} (g : ElemsOf (mixKind P w) l) (k : Key) : k ∈ keysM l ↔ ∃ e ∈ l, (mixKind P w).is k e.2 = true := by
  unfold keysM
  rw [List.mem_map]
  exact ⟨fun ⟨e, he, q⟩ => ⟨e, he, (is_keyM g he).mpr q⟩, fun ⟨e, he, q⟩ => ⟨e, he, (is_keyM g he).mp q⟩⟩
theorem SetQ.of (R : SetQ P w h a S n) : h.SetOf (mixKind P w) a S n := by
  obtain ⟨o, es, ep, t, c1, c2, c3, c4, c5, c6, c7, c8, _⟩ := R
  exact ⟨o, es, ep, t, c1, c2, c3, c4, fun k => (c5 k).trans (mem_keysM c4 k), c6, c7, c8⟩
theorem SetQ.keep (R : SetQ P w h a S n) (k : ∀ o, h.get? a = some o → h'.get? a = some o) : SetQ P w h' a S n := by
  obtain ⟨o, es, ep, t, c1, r⟩ := R
  exact ⟨o, es, ep, t, k o c1, r⟩
theorem TabOk.move {l l' : List (Int × Value)} {t t' : SetTable} (T : TabOk w l t) (p : List.Perm l' l) (r : Ris t'.place.toList) (e : t'.led = t.led) : TabOk w l' t' :=
  ⟨(p.map fun e : Int × Value => keyM e.2).nodup_iff.mpr T.nd, r, T.le.imp id fun z => e.trans z⟩
theorem setQ_fresh {P : Program} {h : Heap} : SetQ P w (h.push { cls := Value.type "set", data := Data.set #[] 0 (SetTable.fresh 0 0 !w.params.followText "set-order") }) h.objs.size (fun _ => false) 0 := by
  refine ⟨_, #[], 0, _, Heap.get?_push_size _ rfl, ⟨rfl, rfl, rfl⟩, rfl, (fun e he => by cases he), (fun k => by simp [keysM]), by decide, ?_, rfl, ⟨List.nodup_nil, List.Pairwise.nil, ?_⟩⟩
  · cases (!w.params.followText "set-order") <;> rfl
  · show _ ∨ (!w.params.followText "set-order") = true
    cases w.params.followText "set-order" <;> simp
end
section
variable {P : Program} {w : World} {A : Around} {E : Value → Shared → Prop} {s : Shared} {a : Addr} {S : Key → Bool} {n : Nat}
/-- a table stored, laid anew where it is too full -/
theorem tail_setQ {gv : Bool → Sem Unit} (hg : ∀ (b : Bool) (z : Shared) (Qu : Unit → Shared → Prop), Qu () z → wpAny (model P w) A (gv b) Qu E z) {o : Obj} {es es1 : Array (Int × Value)} {ep : Nat} {t t2 : SetTable} {S' : Key → Bool} {wd : Bool} {R : Option Bool → Shared → Prop}
    (at0 : s.heap.get? a = some o) (xs : o.ExactSet) (dt : o.data = .set es ep t) (el : ElemsOf (mixKind P w) es1.toList) (mm : ∀ k, S' k = true ↔ k ∈ keysM es1.toList) (sz : es1.size < scanBound) (ft : t2.fits es1.size = true) (T : TabOk w es1.toList t2)
    (kk : ∀ h', Heap.SameBut a s.heap h' → SetQ P w h' a S' es1.size → R (some true) { s with heap := h' }) :
    wpAny (model P w) A (storeSet a es1 t2 >>= fun _ => if (!wd && t2.tooFull) = true then (gv (relayAll t2 es1 (SetTable.grown es1.size)).2.2 >>= fun _ => storeSet a (relayAll t2 es1 (SetTable.grown es1.size)).1 (relayAll t2 es1 (SetTable.grown es1.size)).2.1 >>= fun _ => pure (some true)) else pure (some true)) R E s := by
  have at1 := store_at (es' := es1) (t' := t2) at0 dt
  have b1 := Heap.SameBut.update s.heap a (Obj.putSet es1 t2)
  refine wpAny_bind (wpAny_storeSet_of at0 dt ?_ (fits_of_scanBound sz))
  by_cases tf : (!wd && t2.tooFull) = true
  · rw [if_pos tf]
    have q1 := relayAll_perm t2 es1 (SetTable.grown es1.size)
    have q2 := relayAll_fits t2 es1 (SetTable.grown es1.size)
    have q3 := T.move q1 (relayAll_ris t2 es1 (SetTable.grown es1.size)) (relayAll_led t2 es1 (SetTable.grown es1.size))
    generalize relayAll t2 es1 (SetTable.grown es1.size) = Y at q1 q2 q3 ⊢
    obtain ⟨es2, t3, gave⟩ := Y
    dsimp only at q1 q2 q3 ⊢
    have z2 : es2.size = es1.size := by rw [← Array.length_toList, q1.length_eq, Array.length_toList]
    refine wpAny_bind (hg _ _ _ (wpAny_bind (wpAny_storeSet_of at1 rfl ?_ (fits_of_scanBound (z2 ▸ sz)))))
    refine wpAny_pure (kk _ (b1.trans (Heap.SameBut.update _ a _)) ⟨_, es2, _, t3, store_at (es' := es2) (t' := t3) at1 rfl, xs, rfl, el.perm q1, fun k => (mm k).trans (q1.map fun e : Int × Value => keyM e.2).mem_iff.symm, z2 ▸ sz, q2, z2, q3⟩)
  · rw [if_neg tf]
    exact wpAny_pure (kk _ b1 ⟨_, es1, _, t2, at1, xs, rfl, el, mm, sz, ft, rfl, T⟩)
theorem hashed_setQ {k : Key} {x : Value} {Q : Bool → Shared → Prop} (hk : (mixKind P w).is k x = true) (hx : x.scannable = true) (R : SetQ P w s.heap a S n) (room : n + 1 < scanBound)
    (kk : ∀ h', Heap.SameBut a s.heap h' → SetQ P w h' a (fun j => S j || decide (j = k)) (if S k = true then n else n + 1) → Q (!S k) { s with heap := h' }) :
    wpAny (model P w) A (setAddHashed a x ((mixKind P w).hash k)) Q E s := by
  obtain ⟨o, es, ep, t, at0, xs, dt, el, mm, sz, ft, rfl, T⟩ := R
  unfold setAddHashed setAddHashedIn
  refine wpAny_holding (wpAny_bind (wpAny_setState_of at0 dt ft ?_))
  dsimp only
  rw [byScan_of hx sz el, if_pos rfl]
  unfold setAddByScan
  refine wpAny_bind (wpAny_bind (wpAny_rule (wpAny_bind (wpAny_setScan_of hk at0 dt ft el ?_))))
  cases fi : List.findIdx? (fun e => (mixKind P w).is k e.2) es.toList with
  | some j =>
    obtain ⟨jl, jp, _⟩ := List.findIdx?_eq_some_iff_getElem.mp fi
    have sk : S k = true := (mm k).mpr ((mem_keysM el k).mpr ⟨_, List.getElem_mem jl, jp⟩)
    have fin := kk s.heap (.refl a s.heap) ⟨o, es, ep, t, at0, xs, dt, el, fun i => by
      rw [Bool.or_eq_true, decide_eq_true_eq, ← mm i]
      exact ⟨fun z => z.elim id fun e => e ▸ sk, .inl⟩, sz, ft, by rw [if_pos sk], T⟩
    rw [sk] at fin
    exact wpAny_pure (wpAny_pure fin)
  | none =>
    dsimp only
    have nk : k ∉ keysM es.toList := fun z => by
      obtain ⟨e, he, q⟩ := (mem_keysM el k).mp z
      exact absurd q (by rw [List.findIdx?_eq_none_iff.mp fi e he]; decide)
    have sk : S k = false := by
      cases q : S k with
      | false => rfl
      | true => exact absurd ((mm k).mp q) nk
    have p1 := layNew_perm t es ((mixKind P w).hash k) x
    have p2 := layNew_fits t es ((mixKind P w).hash k) x
    have p3 := layNew_ris t es ((mixKind P w).hash k) x T.ri
    have p4 := layNew_led t es ((mixKind P w).hash k) x
    generalize layNew t es ((mixKind P w).hash k) x = Y at p1 p2 p3 p4 ⊢
    obtain ⟨es1, t1, wd, gave⟩ := Y
    dsimp only at p1 p2 p3 p4 ⊢
    rw [Array.toList_push] at p1
    have pc : (keysM es1.toList).Perm (k :: keysM es.toList) := by
      have q := (p1.trans (List.perm_append_singleton _ _)).map fun e : Int × Value => keyM e.2
      rw [List.map_cons, keyM_is hk] at q
      exact q
    have el1 : ElemsOf (mixKind P w) es1.toList := (el.push hk hx).perm p1
    have T1 : ∀ t', t'.place = t1.place → t'.led = t1.led → TabOk w es1.toList t' := fun t' e1 e2 => ⟨pc.nodup_iff.mpr (List.nodup_cons.mpr ⟨nk, T.nd⟩), by rw [e1]; exact p3, T.le.imp id fun z => by rw [e2, p4]; exact z⟩
    have m1 : ∀ i, (S i || decide (i = k)) = true ↔ i ∈ keysM es1.toList := fun i => by
      rw [Bool.or_eq_true, decide_eq_true_eq, mm i, pc.mem_iff, List.mem_cons]
      exact Or.comm
    have z1 : es1.size = es.size + 1 := by rw [← Array.length_toList, p1.length_eq, List.length_append, Array.length_toList]; rfl
    have fin : ∀ h', Heap.SameBut a s.heap h' → SetQ P w h' a (fun j => S j || decide (j = k)) es1.size → Q true { s with heap := h' } := fun h' sb r => by
      have q := kk h' sb
      rw [sk, if_neg (by decide), ← z1] at q
      exact q r
    have gw : ∀ (b : Bool) (Qu : Unit → Shared → Prop), Qu () s → wpAny (model P w) A (match b with | true => rule "set.scan.the-table-gave-way" | false => pure ()) Qu E s := fun b Qu q => by
      cases b
      · exact wpAny_pure q
      · exact wpAny_rule q
    refine wpAny_bind (gw gave _ ?_)
    · split
      · refine wpAny_bind ?_
        rw [hashByValue_scannable 8 hx]
        refine wpAny_pure (tail_setQ (fun b z Qu q => by cases b <;> first | exact wpAny_pure q | exact wpAny_rule q) at0 xs dt el1 m1 (z1 ▸ room) ?_ ?_ fun h' sb r => wpAny_pure (fin h' sb r))
        · split
          · exact p2
          · exact SetTable.fits_plain_off p2
        · split
          · exact T1 _ rfl rfl
          · exact T1 _ rfl rfl
      · refine wpAny_bind (wpAny_pure ?_)
        rw [if_pos rfl]
        exact tail_setQ (fun b z Qu q => by cases b <;> first | exact wpAny_pure q | exact wpAny_rule q) at0 xs dt el1 m1 (z1 ▸ room) p2 (T1 _ rfl rfl) fun h' sb r => wpAny_pure (fin h' sb r)
end
/-! ### the set as it stands in the tracked part -/
def SetQO (P : Program) (w : World) (a : Addr) (S : Key → Bool) (n : Nat) : HO := .ext fun h => SetQ P w h a S n
theorem setQ_new {w : World} {P : Program} {H : Hp} {h : Heap} {a : Addr} {S : Key → Bool} {n : Nat} (R : SetQ P w h a S n) : ObjOk P w H h a (SetQO P w a S n) := by
  have ⟨o, _, _, _, ho, _⟩ := R
  exact ⟨R, ⟨o, ho⟩, fun h1 h2 p k => SetQ.keep p k⟩
theorem setQ_get {X : Cx} {pins : List (Addr × Obj)} {σ : L2.St} {H : Hp} {s : Shared} {a : Addr} {S : Key → Bool} {n : Nat} (I : Inv X pins σ H s) (ha : H a = some (SetQO X.prog X.w a S n)) : SetQ X.prog X.w s.heap a S n := (I.hok a _ ha).1
def rSAddQ (P : Program) (w : World) : V → List V → Hp → VK → Prop := fun x xs H Q => ∃ (a : Addr) (k : Key) (S : Key → Bool) (n : Nat), x = V.ref a ∧ xs = [kV k] ∧ H a = some (SetQO P w a S n) ∧ n + 1 < scanBound ∧
  Q .non (upd H a (SetQO P w a (fun j => S j || decide (j = k)) (if S k = true then n else n + 1)))
theorem mt_saddQ {X : Cx} : MtR X "set.add" (rSAddQ X.prog X.w) := by
  intro pins s σ H x xs v us Q I rx rxs h
  obtain ⟨a, k, S, n, rfl, rfl, ha, room, q⟩ := h
  cases rx
  cases rxs with
  | cons ry rt =>
    rename_i y _
    cases rt
    have R := setQ_get I ha
    refine wpAny_call_entry F.slot_set_add R.of.typeIs F.entry_set_add ?_ (F.args_set_add_2 _ _)
    unfold Builtin.«set.add» Builtin.Frozenset.oneOther
    simp only [List.isEmpty_nil, bind_assoc]
    unfold Builtin.Frozenset.addrOf setAdd
    refine wpAny_bind (wpAny_pure ?_)
    try dsimp only
    refine wpAny_bind (wpAny_pure ?_)
    try dsimp only
    refine wpAny_bind (wpAny_holding (wpAny_bind ((mixKind X.prog X.w).pyHash (kV_is ry) ?_)))
    refine hashed_setQ (s := { s with toks := s.toks + 1 }) (kV_is ry) (key_scan ry) R room fun h' sb new => ?_
    have he : ∃ u, h'.get? a = some u := by
      have ⟨o, _, _, _, ho, _⟩ := new
      exact ⟨o, ho⟩
    show wpAny _ _ (ret Value.none) _ _ _
    exact wpAny_pure ⟨_, rfl, .non, upd H a (SetQO X.prog X.w a (fun j => S j || decide (j = k)) (if S k = true then n else n + 1)), I.write (e := a) (t' := s.toks + 1) (by rw [ha]; trivial) (.inl rfl) (fun b u hb hu => (sb.2 b hb).trans hu) he (setQ_new new), rfl, q⟩
def tScQ (P : Program) (w : World) (wi : TI) (g : TG) (tt : L2.TT) (te : TE) (vs : List Nat) : TE := fun σ H Q => wi σ H fun J H1 => ∀ D, H1 D = none →
  ∃ W : Nat → Nat → Hp → Prop, (∃ m, W 0 m (upd H1 D (SetQO P w D (fun _ => false) 0))) ∧ ∀ i m H, W i m H → (J.stop i H ∧ Q (.ref D) H) ∨
    (J.go i H ∧ ∃ Nx : Hp → Prop, (∀ H', Nx H' → ∃ m', m' < m ∧ W (i + 1) m' H') ∧ ∀ x H', J.yld i H x H' → g x (wipe σ vs) H' fun σ2 H2 => wipe σ2 vs = wipe σ vs ∧ tt σ2 H2 fun b H3 =>
      if b = true then te σ2 H3 fun y H4 => ∃ (k : Key) (S : Key → Bool) (n : Nat), y = kV k ∧ H4 D = some (SetQO P w D S n) ∧ n + 1 < scanBound ∧
        Nx (upd H4 D (SetQO P w D (fun j => S j || decide (j = k)) (if S k = true then n else n + 1))) else Nx H3)
section
variable {X : Cx} {pins : List (Addr × Obj)} {s : Shared} {σ : L2.St} {H : Hp} {Q : VK} {elt tg iter : Expr}
  {ifs : List Expr} {scope : Scope} {own : List (Str × Nat)} {pos pos' : Pos} {wi : TI} {g : TG}
  {tt : L2.TT} {te : TE} {use : Option (Value → Sem Unit)} {Qf : Value → Shared → Prop}
theorem scQ_core (hc : X.calm = true) (hN : X.N.Nodup) (I : Inv X pins σ H s) (hi : PI X tg iter wi) (ok : BlkOk X.N X.env.scope scope own)
    (hg : ∀ (s : Shared) (H : Hp) (C : Addr) (cl : List (Str × Addr)) (fp : List Addr), PG (X.blk s H scope (compEnvC scope cl C X.env) fp) tg g)
    (ht : ∀ (s : Shared) (H : Hp) (C : Addr) (cl : List (Str × Addr)) (fp : List Addr), PTs (X.blk s H scope (compEnvC scope cl C X.env) fp) ifs tt)
    (he : ∀ (s : Shared) (H : Hp) (C : Addr) (cl : List (Str × Addr)) (fp : List Addr), PE (X.blk s H scope (compEnvC scope cl C X.env) fp) elt te)
    (hs : ∀ x : Value, foldedSetIterable iter X.env x = pure x) (h : tScQ X.prog X.w wi g tt te (own.map (·.2)) σ H Q)
    (hRR : ∀ (D C : Addr) (s' : Shared) (m : Str → Option Value) (H' : Hp), Inv X pins σ H' s' → Q (.ref D) H' → s'.heap.Ns C m → FpOk X pins H' C →
      compPost (model X.prog X.w) X.A X.xe use Qf (.ref D) C (.ok .next) s') :
    wpAny (model X.prog X.w) X.A (comprehension (elt.SetComp [{ target := tg, iter := iter, ifs := ifs, is_async := 0 }] scope pos) scope X.env pos' (newSet (.type "set")) false (eval iter X.env) use) Qf X.xe s := by
  have hfree : ∀ y ∈ scope.names, y.2 = NameKind.free → ∃ c, List.lookup y.1 X.env.cells = some c := fun y hy e => by
    rcases ok.free y hy e with k | k
    · exact I.ok.has y.1 (Or.inl k)
    · exact I.ok.has y.1 (Or.inr k)
  refine wpAny_comprehension_free rfl hs (closure_ok hfree) ok.kind (fun y hy e => by rw [ok.uniq y hy, e]) ?_
  refine thn (hi.run pins s σ H _ I h) fun xv s1 hx => thn hx fun itv s2 h2 => ?_
  obtain ⟨it, fp, tn, J, H2, rfl, I2, T, st2, f2, q⟩ := h2
  refine PpSet.newSet_ok (newEnv_comp ?_)
  have hDn := HOk.fresh I2.hok (Nat.le_of_eq (Eq.refl s2.heap.objs.size))
  obtain ⟨W, ⟨m0, w0⟩, turn⟩ := q s2.heap.objs.size hDn
  generalize es3 : ({ heap := s2.heap.push { cls := Value.type "set", data := Data.set #[] 0 (SetTable.fresh 0 0 !X.w.params.followText "set-order") }, gens := s2.gens, drawn := s2.drawn, toks := s2.toks, os := s2.os } : Shared) = s3
  have eh3 : s3.heap = s2.heap.push { cls := Value.type "set", data := Data.set #[] 0 (SetTable.fresh 0 0 !X.w.params.followText "set-order") } := by rw [← es3]
  have I3 : Inv X pins σ (upd H2 s2.heap.objs.size (SetQO X.prog X.w s2.heap.objs.size (fun _ => false) 0)) s3 := by
    rw [← es3]
    exact I2.laid (fun b o e => Heap.get?_push_of_some _ e) (Nat.le_of_eq rfl) (setQ_new setQ_fresh)
  generalize hH3 : upd H2 s2.heap.objs.size (SetQO X.prog X.w s2.heap.objs.size (fun _ => false) 0) = H3 at *
  have sz : ∀ b ∈ fp, b < s2.heap.objs.size := fun b hb => by
    obtain ⟨o, e, _⟩ := T.obj 0 s2.heap st2 b hb
    exact Heap.lt_size e
  have f3 : ∀ b ∈ fp, FpOk X pins H3 b ∧ b < s3.heap.objs.size := fun b hb => by
    have hlt := sz b hb
    refine ⟨⟨?_, (f2 b hb).2⟩, ?_⟩
    · rw [← hH3, upd_ne (Nat.ne_of_lt hlt)]
      exact (f2 b hb).1
    · rw [eh3, Heap.size_push]
      exact Nat.lt_succ_of_lt hlt
  have st3 : tn 0 s3.heap := T.keep 0 s2.heap s3.heap st2 fun b _ o e => by
    rw [eh3]
    exact Heap.get?_push_of_some _ e
  have I4 := block_start I3 ok hN f3
  have pg := hg s3 H3 s3.heap.objs.size (cellsFrom (s3.heap.objs.size + 1) scope.names (cloFrom X.env.cells scope.names [])) fp
  have pt := ht s3 H3 s3.heap.objs.size (cellsFrom (s3.heap.objs.size + 1) scope.names (cloFrom X.env.cells scope.names [])) fp
  have pe := he s3 H3 s3.heap.objs.size (cellsFrom (s3.heap.objs.size + 1) scope.names (cloFrom X.env.cells scope.names [])) fp
  have nfp : ∀ b ∈ fp, H3 b = none := fun b hb => (f3 b hb).1.1
  generalize eCe : cellsFrom (s3.heap.objs.size + 1) scope.names (cloFrom X.env.cells scope.names []) = ce at *
  generalize eDN : s3.heap.objs.size = DN at *
  have stat : ∀ {σ' : L2.St} {H' : Hp} {s' : Shared}, Inv (X.blk s3 H3 scope (compEnvC scope ce DN X.env) fp) [] σ' H' s' → (∀ b ∈ fp, H' b = none) → ∀ b ∈ fp, FpOk (X.blk s3 H3 scope (compEnvC scope ce DN X.env) fp) [] H' b := fun {σ' H' s'} I' hn b hb =>
    ⟨hn b hb, (I'.ok.exf b hb).1, I'.ok.exfs b hb, .inl hb, fun x c e => (I'.ok.exf b hb).2 x c e, fun p hp => absurd hp (by simp)⟩
  have st4 : tn 0 (pushCells (s3.heap.push { cls := Value.type "dict", data := Data.dict #[] }) scope.names) := T.keep 0 s3.heap _ st3 fun b _ o e => pushCells_keeps _ _ _ _ (Heap.get?_push_of_some _ e)
  have loop : codeAny (model X.prog X.w) X.A (Code.compLoop (elt.SetComp [{ target := tg, iter := iter, ifs := ifs, is_async := 0 }] scope pos) 0 (.ref it) (.ref s2.heap.objs.size) (compEnvC scope ce DN X.env))
      (compPost (model X.prog X.w) X.A X.xe use Qf (.ref s2.heap.objs.size) DN)
      { heap := pushCells (s3.heap.push { cls := Value.type "dict", data := Data.dict #[] }) scope.names, gens := s3.gens, drawn := s3.drawn, toks := s3.toks, os := s3.os } := by
    refine PpSet.compLoopS_any (fun n s' => ∃ i H', Inv (X.blk s3 H3 scope (compEnvC scope ce DN X.env) fp) [] (wipe σ (own.map (·.2))) H' s' ∧ tn i s'.heap ∧ (∀ b ∈ fp, H' b = none) ∧ W i n H') ?_ m0 ⟨0, H3, I4, st4, nfp, w0⟩
    rintro n s5 ⟨i, H5, I5, st5, n5, w5⟩
    rcases turn i n H5 w5 with ⟨stop, qq⟩ | ⟨go, Nx, hNx, step⟩
    · have td := T.done (X.blk s3 H3 scope (compEnvC scope ce DN X.env) fp) rfl rfl rfl hc i [] s5 _ H5 (fun _ _ => False) I5 (stat I5 n5) st5 stop
      refine thnF td fun r s6 h6 => ?_
      obtain ⟨rfl, I6⟩ := h6
      have I7 := Inv.call' I3 I6.os I6.base I6.hok I6.bare fun b hb => ⟨(f3 b hb).1.2.2.2.1, (f3 b hb).1.2.1, (f3 b hb).1.2.2.2.2.1, (f3 b hb).1.2.2.2.2.2⟩
      have nC : H5 DN = none := I6.free
      obtain ⟨m, hn, _⟩ := I6.loc
      exact hRR s2.heap.objs.size DN s6 m H5 I7 qq hn (I3.fpOk (Nat.le_of_eq eDN) nC)
    · have ti := T.item (X.blk s3 H3 scope (compEnvC scope ce DN X.env) fp) rfl rfl rfl hc i [] s5 _ H5 (fun _ _ => False) I5 (stat I5 n5) st5 go
      refine thnF ti fun r s6 h6 => ?_
      obtain ⟨u, rfl, h6⟩ := h6
      refine thnF h6 fun _ s7 h7 => ?_
      obtain ⟨x, H7, I7, r7, y7, st7, n7⟩ := h7
      have I7' := Inv.pinned I7 (stat I7 n7) (T.obj (i + 1) s7.heap st7)
      refine thnF (pg.run ([] ++ pinsAt fp s7.heap) s7 _ H7 x u _ I7' r7 (step x H7 y7)) fun _ s8 h8 => ?_
      obtain ⟨σ8, H8, I8, hw8, q8⟩ := h8
      have fin : ∀ {H' : Hp} {s' : Shared}, Inv (X.blk s3 H3 scope (compEnvC scope ce DN X.env) fp) ([] ++ pinsAt fp s7.heap) σ8 H' s' → Nx H' → ∃ m, m < n ∧ ∃ i H', Inv (X.blk s3 H3 scope (compEnvC scope ce DN X.env) fp) [] (wipe σ (own.map (·.2))) H' s' ∧ tn i s'.heap ∧ (∀ b ∈ fp, H' b = none) ∧ W i m H' := fun {H' s'} I' nx => by
        obtain ⟨m', hm, w'⟩ := hNx H' nx
        have z : ∀ b ∈ fp, ∀ o, s7.heap.get? b = some o → s'.heap.get? b = some o ∧ H' b = none := fun b hb o e => by
          have z := I'.pin (b, o) (List.mem_append_right _ (mem_pinsAt hb e))
          exact ⟨z.1, z.2.1⟩
        have hl : (wipe σ (own.map (·.2))).length = σ8.length := by rw [← hw8, wipe_length]
        refine ⟨m', hm, i + 1, H', Inv.weak (Inv.unpinned I') hl (fun j v e => (wipe_some (by rw [hw8]; exact e)).1), T.keep (i + 1) s7.heap s'.heap st7 (fun b hb o e => (z b hb o e).1), fun b hb => ?_, w'⟩
        obtain ⟨o, e, _⟩ := T.obj (i + 1) s7.heap st7 b hb
        exact (z b hb o e).2
      refine thnF (pt.run ([] ++ pinsAt fp s7.heap) s8 σ8 H8 _ I8 q8) fun b s9 h9 => ?_
      obtain ⟨H9, I9, q9⟩ := h9
      cases b with
      | false => exact fin I9 q9
      | true =>
        refine thnF (pe.run ([] ++ pinsAt fp s7.heap) s9 σ8 H9 _ I9 q9) fun yv s10 h10 => ?_
        obtain ⟨y, H10, I10, r10, k, S, nn, rfl, hD10, hz10, nx⟩ := h10
        have ad := mt_saddQ (X := (X.blk s3 H3 scope (compEnvC scope ce DN X.env) fp)) ([] ++ pinsAt fp s7.heap) s10 σ8 H10 (.ref s2.heap.objs.size) [kV k] (.ref s2.heap.objs.size) [yv] (fun _ H' => Nx H') I10 rfl (.cons r10 .nil) ⟨_, k, S, nn, rfl, rfl, hD10, hz10, nx⟩
        refine thnF ad fun _ s11 h11 => ?_
        obtain ⟨_, H11, I11, _, nx'⟩ := h11
        exact fin I11 nx'
  subst eCe
  subst eDN
  exact PpSet.codeAny_compStart_set loop (T.self X.A 0 _ _ _ st4 loop)
theorem pe_scQ (hc : X.calm = true) (hN : X.N.Nodup) (hi : PI X tg iter wi) (ok : BlkOk X.N X.env.scope scope own)
    (hg : ∀ (s : Shared) (H : Hp) (C : Addr) (cl : List (Str × Addr)) (fp : List Addr), PG (X.blk s H scope (compEnvC scope cl C X.env) fp) tg g)
    (ht : ∀ (s : Shared) (H : Hp) (C : Addr) (cl : List (Str × Addr)) (fp : List Addr), PTs (X.blk s H scope (compEnvC scope cl C X.env) fp) ifs tt)
    (he : ∀ (s : Shared) (H : Hp) (C : Addr) (cl : List (Str × Addr)) (fp : List Addr), PE (X.blk s H scope (compEnvC scope cl C X.env) fp) elt te)
    (hs : ∀ x : Value, foldedSetIterable iter X.env x = pure x := by intro x; rfl) :
    PE X (.SetComp elt [⟨tg, iter, ifs, 0⟩] scope pos) (tScQ X.prog X.w wi g tt te (own.map (·.2))) := by
  refine ⟨fun pins s σ H Q I h => ?_⟩
  rw [PpSet.eval_SetComp]
  refine scQ_core hc hN I hi ok hg ht he hs h fun D C s' m H' I' q hn hf => ?_
  refine ⟨m, hn, fun h' hb => ⟨.ref D, H', ?_, rfl, q⟩⟩
  exact I'.turned (it := C) (fun b o n e => (hb.2 b n).trans e) hf.1 hf.2.1 hf.2.2.2.1 hf.2.2.2.2.1 hf.2.2.2.2.2
end
/-! ### sorted -/
def strM : Value → Str
  | .str x _ => x
  | _ => ""
def intM : Value → Int
  | .int i _ => i
  | _ => 0
theorem strs_all : ∀ l : List Value, (∀ v ∈ l, ∃ x t, v = Value.str x t) → StrsAre l (l.map strM)
  | [], _ => .nil
  | v :: l, h => by
    obtain ⟨x, t, rfl⟩ := h v List.mem_cons_self
    exact .cons x t (strs_all l fun u hu => h u (List.mem_cons_of_mem _ hu))
theorem ints_all : ∀ l : List Value, (∀ v ∈ l, ∃ x t, v = Value.int x t) → IntsAre l (l.map intM)
  | [], _ => .nil
  | v :: l, h => by
    obtain ⟨x, t, rfl⟩ := h v List.mem_cons_self
    exact .cons x t (ints_all l fun u hu => h u (List.mem_cons_of_mem _ hu))
section
variable {P : Program} {w : World} {A : Around} {E : Value → Shared → Prop} {s : Shared} {a : Addr} {S : Key → Bool} {n : Nat}
/-- the members gathered into a list that is sorted: what the sort may leave is told by Ok -/
theorem sort_setQ {Q : Value → Shared → Prop} (Ok : List Value → List Value → Prop) (R : SetQ P w s.heap a S n) (calm : A.handled = none)
    (srt : ∀ (z : Shared) (l : Addr) (vs : List Value) (Qz : PySem.Fin → Shared → Prop), z.heap.get? l = some (seqObj "list" vs.toArray 0) → (∀ v ∈ vs, ∃ k, (mixKind P w).is k v = true ∧ S k = true) → vs.length ≤ sizeLine →
      (∀ out : Array Value, Ok vs out.toList → Qz (.done (.ret .none)) { z with heap := sortedHeap z.heap l vs out }) → wpAny (model P w) A.in1.in1 (Builtin.«list.sort» ⟨[.ref l], []⟩) Qz E z)
    (kk : ∀ s' p (vs : List Value) (out : Array Value) (c : Nat), (∀ b o, s.heap.get? b = some o → s'.heap.get? b = some o) → s'.gens = s.gens → s'.os = s.os → s.heap.objs.size ≤ p → s'.heap.get? p = some (seqObj "list" out c) →
      (∀ v ∈ vs, ∃ k, (mixKind P w).is k v = true ∧ S k = true) → (vs.map keyM).Nodup → (∀ k, S k = true ↔ k ∈ vs.map keyM) → vs.length = n → Ok vs out.toList → Q (.ref p) s') :
    wpAny (model P w) A (call (.builtin "sorted") [.ref a]) Q E s := by
  obtain ⟨o, es, ep, t, at0, xs, dt, el, mm, sz, ft, rfl, T⟩ := R
  refine Calls.call_function_entry kind_sorted plain_sorted entry_sorted (args_sorted1 _) ?_
  unfold Builtin.«sorted»
  refine wpAny_bind (m := checkCount "sorted" 1 1 _) (wpAny_pure ?_)
  refine wpAny_bind (collect_set (A := A.in1) calm ⟨o, at0, xs.1, dt⟩ ft sz T.ri T.le fun s1 vs k1 hz g1 o1 pm => ?_)
  have vl : vs.length = es.size := by rw [pm.length_eq, List.length_map, Array.length_toList]
  have pk : (vs.map keyM).Perm (keysM es.toList) := by
    have q := pm.map keyM
    rw [List.map_map] at q
    exact q
  have mk : ∀ k, S k = true ↔ k ∈ vs.map keyM := fun k => (mm k).trans pk.mem_iff.symm
  have each : ∀ v ∈ vs, ∃ k, (mixKind P w).is k v = true ∧ S k = true := fun v hv => by
    obtain ⟨e, he, q⟩ := List.mem_map.mp (pm.mem_iff.mp hv)
    obtain ⟨⟨k, h1, _⟩, _⟩ := el e he
    exact ⟨k, q ▸ h1, (mm k).mpr ((mem_keysM el k).mpr ⟨e, he, h1⟩)⟩
  have big : vs.length ≤ sizeLine := by rw [vl]; exact fits_of_scanBound sz
  refine wpAny_bind (wpAny_newList ?_ (by exact big))
  have atL : (s1.heap.push (seqObj "list" vs.toArray 0)).get? s1.heap.objs.size = some (seqObj "list" vs.toArray 0) := Heap.get?_push_size _ rfl
  refine wpAny_bind (wpAny_holding (wpAny_call_entry slot_list_sort ⟨_, atL, rfl⟩ entry_list_sort (srt _ _ _ _ atL each big fun out ok => ⟨_, rfl, ?_⟩) (args_list_sort _)))
  obtain ⟨c, hc⟩ := sortedHeap_at (vs := vs) (out := out) atL
  refine wpAny_pure ⟨_, rfl, kk _ s1.heap.objs.size vs out c (fun b u e => ?_) g1 o1 hz hc each (pk.nodup_iff.mpr T.nd) mk vl ok⟩
  have q := k1 b u e
  have lt := Heap.lt_size q
  exact (sortedHeap_old (Nat.ne_of_lt lt) (by rw [size_push']; exact Nat.lt_succ_of_lt lt)).trans (Heap.get?_push_of_some _ q)
end
/-- sorted(a set of texts) -/
def rSortedQS (P : Program) (w : World) : List V → Hp → VK → Prop := fun xs H Q => ∃ (a : Addr) (S : Key → Bool) (n : Nat), xs = [V.ref a] ∧ H a = some (SetQO P w a S n) ∧ (∀ i, S (.inl i) = false) ∧
  ∀ (ys : List Str) (p : Addr), ys.Nodup → (∀ x, x ∈ ys ↔ S (.inr x) = true) → ys.length = n → sortedS ys = true → H p = none → Q (.ref p) (upd H p (.lst (ys.map V.str)))
/-- sorted(a set of numbers) -/
def rSortedQI (P : Program) (w : World) : List V → Hp → VK → Prop := fun xs H Q => ∃ (a : Addr) (S : Key → Bool) (n : Nat), xs = [V.ref a] ∧ H a = some (SetQO P w a S n) ∧ (∀ x, S (.inr x) = false) ∧
  ∀ (ns : List Int) (p : Addr), ns.Pairwise (· < ·) → (∀ i, i ∈ ns ↔ S (.inl i) = true) → ns.length = n → H p = none → Q (.ref p) (upd H p (.lst (ns.map V.int)))
theorem cr_sortedQS {X : Cx} (hc : X.calm = true) : CallR X (.builtin "sorted") (rSortedQS X.prog X.w) := by
  intro pins s σ H vs us Q I r h
  obtain ⟨a, S, n, rfl, ha, hS, q⟩ := h
  rw [Vals.ref1 r]
  have allS : ∀ ws : List Value, (∀ v ∈ ws, ∃ k, (mixKind X.prog X.w).is k v = true ∧ S k = true) → StrsAre ws (ws.map strM) := fun ws h => strs_all ws fun v hv => by
    obtain ⟨k, h1, h2⟩ := h v hv
    rcases keyIs_shape h1 with ⟨i, t, rfl, rfl⟩ | ⟨x, t, rfl, rfl⟩
    · rw [hS] at h2; cases h2
    · exact ⟨x, t, rfl⟩
  refine sort_setQ (fun ws out => ∃ ss', StrsAre out ss' ∧ ss'.Perm (ws.map strM) ∧ sortedS ss' = true) (setQ_get I ha) (I.ok.hd hc) (fun z l ws Qz hl each big fin => ?_) fun s' p ws out c k g o hp hg each nd mk wl ok => ?_
  · have A1 := allS ws each
    refine list_sort_treeKAny strKind_oneLt hl A1.keysOf (fun v₁ v₂ rest e => keyKind_strs (by rw [← e]; exact A1)) big fun st' h1 h2 => ?_
    exact fin _ (sorted_out_str A1 h1 h2)
  obtain ⟨ss', b1, b2, b3⟩ := ok
  have A1 := allS ws each
  have km : ws.map keyM = (ws.map strM).map Sum.inr := by
    rw [List.map_map]
    refine List.map_congr_left fun v hv => ?_
    obtain ⟨k', h1, h2⟩ := each v hv
    rcases keyIs_shape h1 with ⟨i, t, rfl, rfl⟩ | ⟨x, t, rfl, rfl⟩
    · rw [hS] at h2; cases h2
    · rfl
  have n1 : (ws.map strM).Nodup := by
    rw [km] at nd
    exact (List.pairwise_map.mp nd).imp fun z e => z (congrArg Sum.inr e)
  have len : (ss'.map V.str).length ≤ sizeLine := by
    rw [List.length_map, b2.length_eq, List.length_map, wl]
    obtain ⟨_, _, _, _, _, _, _, _, _, sz, _, rfl, _⟩ := setQ_get I ha
    exact fits_of_scanBound sz
  have hn : H p = none := I.hok.fresh hp
  have J : Inv X pins σ (upd H p (.lst (ss'.map V.str))) { s with heap := s'.heap, gens := s'.gens, drawn := s'.drawn, toks := s'.toks } :=
    I.call (ch := []) (Un.laid k hp hn) (I.hok.laid k hp ⟨len, out.toList, c, vals_of_strs b1, hg⟩) (by rw [g]; exact I.bare) (fun _ z => nomatch z)
  have e : s' = { s with heap := s'.heap, gens := s'.gens, drawn := s'.drawn, toks := s'.toks } := by
    cases s'; cases s; cases o; rfl
  rw [e]
  refine ⟨.ref p, _, J, rfl, q ss' p (b2.nodup_iff.mpr n1) (fun x => ?_) (by rw [b2.length_eq, List.length_map, wl]) b3 hn⟩
  rw [b2.mem_iff, mk (.inr x), km]
  exact ⟨fun z => List.mem_map.mpr ⟨x, z, rfl⟩, fun z => by
    obtain ⟨y, hy, e⟩ := List.mem_map.mp z
    exact Sum.inr.inj e ▸ hy⟩
theorem cr_sortedQI {X : Cx} (hc : X.calm = true) : CallR X (.builtin "sorted") (rSortedQI X.prog X.w) := by
  intro pins s σ H vs us Q I r h
  obtain ⟨a, S, n, rfl, ha, hS, q⟩ := h
  rw [Vals.ref1 r]
  have allI : ∀ ws : List Value, (∀ v ∈ ws, ∃ k, (mixKind X.prog X.w).is k v = true ∧ S k = true) → IntsAre ws (ws.map intM) := fun ws h => ints_all ws fun v hv => by
    obtain ⟨k, h1, h2⟩ := h v hv
    rcases keyIs_shape h1 with ⟨i, t, rfl, rfl⟩ | ⟨x, t, rfl, rfl⟩
    · exact ⟨i, t, rfl⟩
    · rw [hS] at h2; cases h2
  refine sort_setQ (fun ws out => ∃ ns', IntsAre out ns' ∧ ns'.Perm (ws.map intM) ∧ ns'.Pairwise (· ≤ ·)) (setQ_get I ha) (I.ok.hd hc) (fun z l ws Qz hl each big fin => ?_) fun s' p ws out c k g o hp hg each nd mk wl ok => ?_
  · exact list_sort_treeAny hl (allI ws each) big fun out ns' h1 h2 h3 => fin _ ⟨ns', h1, h2, h3⟩
  obtain ⟨ns', b1, b2, b3⟩ := ok
  have km : ws.map keyM = (ws.map intM).map Sum.inl := by
    rw [List.map_map]
    refine List.map_congr_left fun v hv => ?_
    obtain ⟨k', h1, h2⟩ := each v hv
    rcases keyIs_shape h1 with ⟨i, t, rfl, rfl⟩ | ⟨x, t, rfl, rfl⟩
    · rfl
    · rw [hS] at h2; cases h2
  have n1 : (ws.map intM).Nodup := by
    rw [km] at nd
    exact (List.pairwise_map.mp nd).imp fun z e => z (congrArg Sum.inl e)
  have len : (ns'.map V.int).length ≤ sizeLine := by
    rw [List.length_map, b2.length_eq, List.length_map, wl]
    obtain ⟨_, _, _, _, _, _, _, _, _, sz, _, rfl, _⟩ := setQ_get I ha
    exact fits_of_scanBound sz
  have hn : H p = none := I.hok.fresh hp
  have J : Inv X pins σ (upd H p (.lst (ns'.map V.int))) { s with heap := s'.heap, gens := s'.gens, drawn := s'.drawn, toks := s'.toks } :=
    I.call (ch := []) (Un.laid k hp hn) (I.hok.laid k hp ⟨len, out.toList, c, vals_of_ints b1, hg⟩) (by rw [g]; exact I.bare) (fun _ z => nomatch z)
  have e : s' = { s with heap := s'.heap, gens := s'.gens, drawn := s'.drawn, toks := s'.toks } := by
    cases s'; cases s; cases o; rfl
  rw [e]
  have nd2 := b2.nodup_iff.mpr n1
  refine ⟨.ref p, _, J, rfl, q ns' p (lt_of_le_nodup ns' b3 nd2) (fun x => ?_) (by rw [b2.length_eq, List.length_map, wl]) hn⟩
  rw [b2.mem_iff, mk (.inl x), km]
  exact ⟨fun z => List.mem_map.mpr ⟨x, z, rfl⟩, fun z => by
    obtain ⟨y, hy, e⟩ := List.mem_map.mp z
    exact Sum.inl.inj e ▸ hy⟩
end Pw

/-! Set comprehensions of two clauses, their sets sorted later. -/
namespace Pw
open PySem PySem.Spec PyProof.Rows L2
section
variable {P : Program} {w : World} {A : Around} {R : Result → Shared → Prop} {s : Shared} {e t u i j : Expr} {cs ds : List Expr} {sc : Scope} {pos : Pos} {it acc : Value} {en : Env}
/-- what is raised within a comprehension's own names -/
abbrev Nd (P : Program) (w : World) (A : Around) (R : Result → Shared → Prop) (en : Env) : Value → Shared → Prop := notedBy (model P w) A en fun x z => R (.error x) z
/-- a thing that a clause yields: bound, and put to the clause's tests -/
def Bnd (P : Program) (w : World) (A : Around) (R : Result → Shared → Prop) (en : Env) (t : Expr) (cs : List Expr) (it v : Value) (k : Bool → Shared → Prop) : Shared → Prop :=
  wpAny (model P w) A (letOwnedTupleGo t it v) (fun _ => wpAny (model P w) A (assign t en v)
    (fun _ => wpAny (model P w) A (forIn cs true fun c r => if r = true then do let ok ← isTrue c en (eval c en); pure (ForInStep.yield ok) else pure (ForInStep.yield r)) k (Nd P w A R en)) (Nd P w A R en)) (Nd P w A R en)
abbrev SC2 (e t i : Expr) (cs : List Expr) (u j : Expr) (ds : List Expr) (sc : Scope) (pos : Pos) : Expr := .SetComp e [⟨t, i, cs, 0⟩, ⟨u, j, ds, 0⟩] sc pos
theorem turnS_out : compTurn (SC2 e t i cs u j ds sc pos) 0 it acc en = (do
      standAt i.pos
      match ← pyNext it with
      | none => pure (.done .next)
      | some v => letOwnedTupleGo t it v; assign t en v; let mut ok := true
                  for c in cs do if ok then ok ← isTrue c en (eval c en)
                  if ok then
                    let x ← eval j en; standAt j.pos; let x ← foldedSetIterable j en x
                    let _ ← runOwn (.compStart (SC2 e t i cs u j ds sc pos) 1 (← holding [x] (pyIter x)) acc en) en
                  again (.compLoop (SC2 e t i cs u j ds sc pos) 0 it acc en)) := by rfl
theorem turnS_in : compTurn (SC2 e t i cs u j ds sc pos) 1 it acc en = (do
      standAt j.pos
      match ← pyNext it with
      | none => pure (.done .next)
      | some v => letOwnedTupleGo u it v; assign u en v; let mut ok := true
                  for c in ds do if ok then ok ← isTrue c en (eval c en)
                  if ok then (do let v ← eval e en; standAt e.pos; let _ ← call (.builtin "set.add") [acc, v])
                  again (.compLoop (SC2 e t i cs u j ds sc pos) 1 it acc en)) := by rfl
/-- the first clause's loop, by a measure -/
theorem loopS_out (hs : ∀ x, foldedSetIterable j en x = pure x) (I : Nat → Shared → Prop)
    (step : ∀ n s, I n s → wpAny (model P w) A (pyNext it) (fun r s1 => match r with
      | none => R (.ok .next) s1
      | some v => Bnd P w A R en t cs it v (fun ok s2 => if ok = true then wpAny (model P w) A (eval j en) (fun x => wpAny (model P w) A (pyIter x) (fun it1 =>
          codeAny (model P w) A (.compStart (SC2 e t i cs u j ds sc pos) 1 it1 acc en) (fun r z => match r with | .ok _ => ∃ m, m < n ∧ I m z | .error _ => False)) (Nd P w A R en)) (Nd P w A R en) s2
          else ∃ m, m < n ∧ I m s2) s1) (Nd P w A R en) s) (n : Nat) (h : I n s) : codeAny (model P w) A (.compLoop (SC2 e t i cs u j ds sc pos) 0 it acc en) R s := by
  refine codeAny_loop rfl I (fun n s hI => ?_) n h
  show wpAny _ A ((compTurn (SC2 e t i cs u j ds sc pos) 0 it acc en).onRaise fun x => do noteFrame x en; theTreesLotGoes x) _ _ s
  refine wpAny_noted ?_
  rw [turnS_out]
  refine wpAny_bind (wpAny_standAt (wpAny_bind (wpAny_mono (step n s hI) (fun r z hz => ?_) fun _ _ q => q)))
  cases r with
  | none => exact wpAny_pure hz
  | some v =>
    refine wpAny_bind (wpAny_mono hz (fun _ z1 h1 => wpAny_bind (wpAny_mono h1 (fun _ z2 h2 => wpAny_bind (wpAny_mono h2 (fun ok z3 h3 => ?_) fun _ _ q => q)) fun _ _ q => q)) fun _ _ q => q)
    cases ok with
    | false => exact wpAny_pure ⟨rfl, h3⟩
    | true =>
      refine wpAny_bind (wpAny_mono h3 (fun x z4 h4 => wpAny_bind (wpAny_standAt (wpAny_bind (wpAny_of_eq (hs x) (wpAny_bind (wpAny_holding (wpAny_mono h4 (fun it1 z5 h5 => ?_) fun _ _ q => q))))))) fun _ _ q => q)
      refine wpAny_bind (wpAny_runOwn ?_)
      rw [Around.mark_none]
      refine codeAny_mono h5 fun r z6 h6 => ?_
      cases r with
      | error x => exact h6.elim
      | ok f =>
        first
          | exact wpAny_pure ⟨rfl, h6⟩
          | exact wpAny_bind (wpAny_pure (wpAny_pure ⟨rfl, h6⟩))
/-- the second clause's loop -/
theorem loopS_in (I : Nat → Shared → Prop)
    (step : ∀ n s, I n s → wpAny (model P w) A (pyNext it) (fun r s1 => match r with
      | none => R (.ok .next) s1
      | some v => Bnd P w A R en u ds it v (fun ok s2 => if ok = true then wpAny (model P w) A (eval e en) (fun x => wpAny (model P w) A (call (.builtin "set.add") [acc, x]) (fun _ z => ∃ m, m < n ∧ I m z) (Nd P w A R en)) (Nd P w A R en) s2
          else ∃ m, m < n ∧ I m s2) s1) (Nd P w A R en) s) (n : Nat) (h : I n s) : codeAny (model P w) A (.compLoop (SC2 e t i cs u j ds sc pos) 1 it acc en) R s := by
  refine codeAny_loop rfl I (fun n s hI => ?_) n h
  show wpAny _ A ((compTurn (SC2 e t i cs u j ds sc pos) 1 it acc en).onRaise fun x => do noteFrame x en; theTreesLotGoes x) _ _ s
  refine wpAny_noted ?_
  rw [turnS_in]
  refine wpAny_bind (wpAny_standAt (wpAny_bind (wpAny_mono (step n s hI) (fun r z hz => ?_) fun _ _ q => q)))
  cases r with
  | none => exact wpAny_pure hz
  | some v =>
    refine wpAny_bind (wpAny_mono hz (fun _ z1 h1 => wpAny_bind (wpAny_mono h1 (fun _ z2 h2 => wpAny_bind (wpAny_mono h2 (fun ok z3 h3 => ?_) fun _ _ q => q)) fun _ _ q => q)) fun _ _ q => q)
    cases ok with
    | false => exact wpAny_pure ⟨rfl, h3⟩
    | true => exact wpAny_bind (wpAny_bind (wpAny_mono h3 (fun x z4 h4 => wpAny_bind (wpAny_standAt (wpAny_bind (wpAny_mono h4 (fun _ z5 h5 => wpAny_pure (wpAny_pure ⟨rfl, h5⟩)) fun _ _ q => q)))) fun _ _ q => q))
theorem startS_in (h0 : codeAny (model P w) A (.compLoop (SC2 e t i cs u j ds sc pos) 1 it acc en) R s)
    (h : wpAny (model P w) A (pyIter it) (fun it' => codeAny (model P w) A (.compLoop (SC2 e t i cs u j ds sc pos) 1 it' acc en) R) (Nd P w A R en) s) :
    codeAny (model P w) A (.compStart (SC2 e t i cs u j ds sc pos) 1 it acc en) R s := by
  refine codeAny_of_tree ?_
  show wpAny _ _ ((compStart (SC2 e t i cs u j ds sc pos) 1 it acc en).onRaise fun x => do noteFrame x en; standAt theWindowsPlace) _ _ s
  refine wpAny_notedAt ?_
  unfold compStart
  show wpAny _ _ (ask >>= _) _ _ s
  refine wpAny_bind (wpAny_askSetting (wpAny_ite ?_))
  split
  · first
      | exact wpAny_bind (wpAny_pure (wpAny_pure ⟨rfl, h0⟩))
      | exact wpAny_pure ⟨rfl, h0⟩
  · refine wpAny_bind (wpAny_rule ?_)
    first
      | exact wpAny_bind (wpAny_standAt (wpAny_bind (wpAny_mono h (fun _ _ q => wpAny_pure ⟨rfl, q⟩) fun _ _ x => x)))
      | (show wpAny _ _ (standAt j.pos >>= _) _ _ s
         exact wpAny_bind (wpAny_standAt (wpAny_bind (wpAny_mono h (fun _ _ q => wpAny_pure ⟨rfl, q⟩) fun _ _ x => x))))
end
theorem wipe_off {σ : L2.St} {i : Nat} {vs : List Nat} (h : i ∉ vs) : (wipe σ vs)[i]? = σ[i]? := wipe_out h
/-- {elt for tg in iter if .. for tg1 in iter1 if ..}: D the new set; vs the block's slots, vs1 those of the second target -/
def tScQ2 (P : Program) (w : World) (wi : TI) (g : TG) (tt : L2.TT) (wi1 : TI) (g1 : TG) (tt1 : L2.TT) (te : TE) (vs vs1 : List Nat) : TE := fun σ H Q => wi σ H fun J H1 => ∀ D, H1 D = none →
  ∃ W : Nat → Nat → Hp → Prop, (∃ m, W 0 m (upd H1 D (SetQO P w D (fun _ => false) 0))) ∧ ∀ i m H, W i m H → (J.stop i H ∧ Q (.ref D) H) ∨
    (J.go i H ∧ ∃ Nx : Hp → Prop, (∀ H', Nx H' → ∃ m', m' < m ∧ W (i + 1) m' H') ∧ ∀ x H', J.yld i H x H' → g x (wipe σ vs) H' fun σ2 H2 => wipe σ2 vs = wipe σ vs ∧ tt σ2 H2 fun b H3 =>
      if b = true then wi1 σ2 H3 fun J1 H4 => ∃ W1 : Nat → Nat → Hp → Prop, (∃ m, W1 0 m H4) ∧ ∀ j k H, W1 j k H → (J1.stop j H ∧ Nx H) ∨
        (J1.go j H ∧ ∃ N1 : Hp → Prop, (∀ H', N1 H' → ∃ k', k' < k ∧ W1 (j + 1) k' H') ∧ ∀ x H', J1.yld j H x H' → g1 x (wipe σ2 vs1) H' fun σ3 H5 => wipe σ3 vs1 = wipe σ2 vs1 ∧ tt1 σ3 H5 fun b H6 =>
          if b = true then te σ3 H6 fun y H7 => ∃ (k : Key) (S : Key → Bool) (n : Nat), y = kV k ∧ H7 D = some (SetQO P w D S n) ∧ n + 1 < scanBound ∧
            N1 (upd H7 D (SetQO P w D (fun j => S j || decide (j = k)) (if S k = true then n else n + 1))) else N1 H6)
      else Nx H3)
section
variable {X : Cx} {pins : List (Addr × Obj)} {s : Shared} {σ : L2.St} {H : Hp} {Q : VK} {elt tg iter tg1 iter1 : Expr}
  {ifs ifs1 : List Expr} {scope : Scope} {own : List (Str × Nat)} {vs1 : List Nat} {pos pos' : Pos} {wi wi1 : TI} {g g1 : TG}
  {tt tt1 : L2.TT} {te : TE} {use : Option (Value → Sem Unit)} {Qf : Value → Shared → Prop}
theorem scQ2_core (hc : X.calm = true) (hN : X.N.Nodup) (I : Inv X pins σ H s) (hi : PI X tg iter wi) (ok : BlkOk X.N X.env.scope scope own) (hv : ∀ i ∈ vs1, i ∈ own.map (·.2))
    (hg : ∀ (s : Shared) (H : Hp) (C : Addr) (cl : List (Str × Addr)) (fp : List Addr), PG (X.blk s H scope (compEnvC scope cl C X.env) fp) tg g)
    (ht : ∀ (s : Shared) (H : Hp) (C : Addr) (cl : List (Str × Addr)) (fp : List Addr), PTs (X.blk s H scope (compEnvC scope cl C X.env) fp) ifs tt)
    (hi1 : ∀ (s : Shared) (H : Hp) (C : Addr) (cl : List (Str × Addr)) (fp : List Addr), PI (X.blk s H scope (compEnvC scope cl C X.env) fp) tg1 iter1 wi1)
    (hg1 : ∀ (s : Shared) (H : Hp) (C : Addr) (cl : List (Str × Addr)) (fp : List Addr), PG (X.blk s H scope (compEnvC scope cl C X.env) fp) tg1 g1)
    (ht1 : ∀ (s : Shared) (H : Hp) (C : Addr) (cl : List (Str × Addr)) (fp : List Addr), PTs (X.blk s H scope (compEnvC scope cl C X.env) fp) ifs1 tt1)
    (he : ∀ (s : Shared) (H : Hp) (C : Addr) (cl : List (Str × Addr)) (fp : List Addr), PE (X.blk s H scope (compEnvC scope cl C X.env) fp) elt te)
    (hs : ∀ x : Value, foldedSetIterable iter X.env x = pure x) (hs1 : ∀ en x, foldedSetIterable iter1 en x = pure x) (h : tScQ2 X.prog X.w wi g tt wi1 g1 tt1 te (own.map (·.2)) vs1 σ H Q)
    (hRR : ∀ (D C : Addr) (s' : Shared) (m : Str → Option Value) (H' : Hp), Inv X pins σ H' s' → Q (.ref D) H' → s'.heap.Ns C m → FpOk X pins H' C →
      compPost (model X.prog X.w) X.A X.xe use Qf (.ref D) C (.ok .next) s') :
    wpAny (model X.prog X.w) X.A (comprehension (SC2 elt tg iter ifs tg1 iter1 ifs1 scope pos) scope X.env pos' (newSet (.type "set")) false (eval iter X.env) use) Qf X.xe s := by
  have hfree : ∀ y ∈ scope.names, y.2 = NameKind.free → ∃ c, List.lookup y.1 X.env.cells = some c := fun y hy e => by
    rcases ok.free y hy e with k | k
    · exact I.ok.has y.1 (Or.inl k)
    · exact I.ok.has y.1 (Or.inr k)
  refine wpAny_comprehension_free rfl hs (closure_ok hfree) ok.kind (fun y hy e => by rw [ok.uniq y hy, e]) ?_
  refine thn (hi.run pins s σ H _ I h) fun xv s1 hx => thn hx fun itv s2 h2 => ?_
  obtain ⟨it, fp, tn, J, H2, rfl, I2, T, st2, f2, q⟩ := h2
  refine PpSet.newSet_ok (newEnv_comp ?_)
  have hDn := HOk.fresh I2.hok (Nat.le_of_eq (Eq.refl s2.heap.objs.size))
  obtain ⟨W, ⟨m0, w0⟩, turn⟩ := q s2.heap.objs.size hDn
  generalize es3 : ({ heap := s2.heap.push { cls := Value.type "set", data := Data.set #[] 0 (SetTable.fresh 0 0 !X.w.params.followText "set-order") }, gens := s2.gens, drawn := s2.drawn, toks := s2.toks, os := s2.os } : Shared) = s3
  have eh3 : s3.heap = s2.heap.push { cls := Value.type "set", data := Data.set #[] 0 (SetTable.fresh 0 0 !X.w.params.followText "set-order") } := by rw [← es3]
  have I3 : Inv X pins σ (upd H2 s2.heap.objs.size (SetQO X.prog X.w s2.heap.objs.size (fun _ => false) 0)) s3 := by
    rw [← es3]
    exact I2.laid (fun b o e => Heap.get?_push_of_some _ e) (Nat.le_of_eq rfl) (setQ_new setQ_fresh)
  generalize hH3 : upd H2 s2.heap.objs.size (SetQO X.prog X.w s2.heap.objs.size (fun _ => false) 0) = H3 at *
  have sz : ∀ b ∈ fp, b < s2.heap.objs.size := fun b hb => by
    obtain ⟨o, e, _⟩ := T.obj 0 s2.heap st2 b hb
    exact Heap.lt_size e
  have f3 : ∀ b ∈ fp, FpOk X pins H3 b ∧ b < s3.heap.objs.size := fun b hb => by
    have hlt := sz b hb
    refine ⟨⟨?_, (f2 b hb).2⟩, ?_⟩
    · rw [← hH3, upd_ne (Nat.ne_of_lt hlt)]
      exact (f2 b hb).1
    · rw [eh3, Heap.size_push]
      exact Nat.lt_succ_of_lt hlt
  have st3 : tn 0 s3.heap := T.keep 0 s2.heap s3.heap st2 fun b _ o e => by
    rw [eh3]
    exact Heap.get?_push_of_some _ e
  have I4 := block_start I3 ok hN f3
  have pg := hg s3 H3 s3.heap.objs.size (cellsFrom (s3.heap.objs.size + 1) scope.names (cloFrom X.env.cells scope.names [])) fp
  have pt := ht s3 H3 s3.heap.objs.size (cellsFrom (s3.heap.objs.size + 1) scope.names (cloFrom X.env.cells scope.names [])) fp
  have pi1 := hi1 s3 H3 s3.heap.objs.size (cellsFrom (s3.heap.objs.size + 1) scope.names (cloFrom X.env.cells scope.names [])) fp
  have pg1 := hg1 s3 H3 s3.heap.objs.size (cellsFrom (s3.heap.objs.size + 1) scope.names (cloFrom X.env.cells scope.names [])) fp
  have pt1 := ht1 s3 H3 s3.heap.objs.size (cellsFrom (s3.heap.objs.size + 1) scope.names (cloFrom X.env.cells scope.names [])) fp
  have pe := he s3 H3 s3.heap.objs.size (cellsFrom (s3.heap.objs.size + 1) scope.names (cloFrom X.env.cells scope.names [])) fp
  have nfp : ∀ b ∈ fp, H3 b = none := fun b hb => (f3 b hb).1.1
  generalize eCe : cellsFrom (s3.heap.objs.size + 1) scope.names (cloFrom X.env.cells scope.names []) = ce at *
  generalize eDN : s3.heap.objs.size = DN at *
  have stat : ∀ {σ' : L2.St} {H' : Hp} {s' : Shared}, Inv (X.blk s3 H3 scope (compEnvC scope ce DN X.env) fp) [] σ' H' s' → (∀ b ∈ fp, H' b = none) → ∀ b ∈ fp, FpOk (X.blk s3 H3 scope (compEnvC scope ce DN X.env) fp) [] H' b := fun {σ' H' s'} I' hn b hb =>
    ⟨hn b hb, (I'.ok.exf b hb).1, I'.ok.exfs b hb, .inl hb, fun x c e => (I'.ok.exf b hb).2 x c e, fun p hp => absurd hp (by simp)⟩
  have st4 : tn 0 (pushCells (s3.heap.push { cls := Value.type "dict", data := Data.dict #[] }) scope.names) := T.keep 0 s3.heap _ st3 fun b _ o e => pushCells_keeps _ _ _ _ (Heap.get?_push_of_some _ e)
  have loop : codeAny (model X.prog X.w) X.A (Code.compLoop (SC2 elt tg iter ifs tg1 iter1 ifs1 scope pos) 0 (.ref it) (.ref s2.heap.objs.size) (compEnvC scope ce DN X.env))
      (compPost (model X.prog X.w) X.A X.xe use Qf (.ref s2.heap.objs.size) DN)
      { heap := pushCells (s3.heap.push { cls := Value.type "dict", data := Data.dict #[] }) scope.names, gens := s3.gens, drawn := s3.drawn, toks := s3.toks, os := s3.os } := by
    refine loopS_out (hs1 _) (fun n s' => ∃ i H', Inv (X.blk s3 H3 scope (compEnvC scope ce DN X.env) fp) [] (wipe σ (own.map (·.2))) H' s' ∧ tn i s'.heap ∧ (∀ b ∈ fp, H' b = none) ∧ W i n H') ?_ m0 ⟨0, H3, I4, st4, nfp, w0⟩
    rintro n s5 ⟨i, H5, I5, st5, n5, w5⟩
    rcases turn i n H5 w5 with ⟨stop, qq⟩ | ⟨go, Nx, hNx, step⟩
    · have td := T.done (X.blk s3 H3 scope (compEnvC scope ce DN X.env) fp) rfl rfl rfl hc i [] s5 _ H5 (fun _ _ => False) I5 (stat I5 n5) st5 stop
      refine thnF td fun r s6 h6 => ?_
      obtain ⟨rfl, I6⟩ := h6
      have I7 := Inv.call' I3 I6.os I6.base I6.hok I6.bare fun b hb => ⟨(f3 b hb).1.2.2.2.1, (f3 b hb).1.2.1, (f3 b hb).1.2.2.2.2.1, (f3 b hb).1.2.2.2.2.2⟩
      have nC : H5 DN = none := I6.free
      obtain ⟨m, hn, _⟩ := I6.loc
      exact hRR s2.heap.objs.size DN s6 m H5 I7 qq hn (I3.fpOk (Nat.le_of_eq eDN) nC)
    have ti := T.item (X.blk s3 H3 scope (compEnvC scope ce DN X.env) fp) rfl rfl rfl hc i [] s5 _ H5 (fun _ _ => False) I5 (stat I5 n5) st5 go
    refine thnF ti fun r s6 h6 => ?_
    obtain ⟨v, rfl, h6⟩ := h6
    refine thnF h6 fun _ s7 h7 => ?_
    obtain ⟨x, H7, I7, r7, y7, st7, n7⟩ := h7
    have I7' := Inv.pinned I7 (stat I7 n7) (T.obj (i + 1) s7.heap st7)
    refine thnF (pg.run ([] ++ pinsAt fp s7.heap) s7 _ H7 x v _ I7' r7 (step x H7 y7)) fun _ s8 h8 => ?_
    obtain ⟨σ8, H8, I8, hw8, q8⟩ := h8
    -- back at the first clause, from any slots that know what was known ahead
    have fin : ∀ {τ : L2.St} {H' : Hp} {s' : Shared}, Inv (X.blk s3 H3 scope (compEnvC scope ce DN X.env) fp) ([] ++ pinsAt fp s7.heap) τ H' s' → (wipe σ (own.map (·.2))).length = τ.length → (∀ (j : Nat) v, (wipe σ (own.map (·.2)))[j]? = some (some v) → τ[j]? = some (some v)) → Nx H' →
        ∃ m, m < n ∧ ∃ i H', Inv (X.blk s3 H3 scope (compEnvC scope ce DN X.env) fp) [] (wipe σ (own.map (·.2))) H' s' ∧ tn i s'.heap ∧ (∀ b ∈ fp, H' b = none) ∧ W i m H' := fun {τ H' s'} I' hl hk nx => by
      obtain ⟨m', hm, w'⟩ := hNx H' nx
      have z : ∀ b ∈ fp, ∀ o, s7.heap.get? b = some o → s'.heap.get? b = some o ∧ H' b = none := fun b hb o e => by
        have z := I'.pin (b, o) (List.mem_append_right _ (mem_pinsAt hb e))
        exact ⟨z.1, z.2.1⟩
      refine ⟨m', hm, i + 1, H', Inv.weak (Inv.unpinned I') hl hk, T.keep (i + 1) s7.heap s'.heap st7 (fun b hb o e => (z b hb o e).1), fun b hb => ?_, w'⟩
      obtain ⟨o, e, _⟩ := T.obj (i + 1) s7.heap st7 b hb
      exact (z b hb o e).2
    have l8 : (wipe σ (own.map (·.2))).length = σ8.length := by rw [← hw8, wipe_length]
    have k8 : ∀ (j : Nat) v, (wipe σ (own.map (·.2)))[j]? = some (some v) → σ8[j]? = some (some v) ∧ (wipe σ8 vs1)[j]? = some (some v) := fun j v e => by
      rw [← hw8] at e
      obtain ⟨e1, e2⟩ := wipe_some e
      exact ⟨e1, by rw [wipe_off fun z => e2 (hv j z)]; exact e1⟩
    refine thnF (pt.run ([] ++ pinsAt fp s7.heap) s8 σ8 H8 _ I8 q8) fun b s9 h9 => ?_
    obtain ⟨H9, I9, q9⟩ := h9
    cases b with
    | false => exact fin I9 l8 (fun j v e => (k8 j v e).1) q9
    | true =>
      refine thnF (pi1.run _ s9 σ8 H9 _ I9 q9) fun xv s10 hx => thnF hx fun itv s11 h11 => ?_
      obtain ⟨it1, fp1, tn1, J1, H11, rfl, I11, T1, st11, f11, W1, ⟨m1, w1⟩, turn1⟩ := h11
      have still : ∀ {H' : Hp}, (∀ b ∈ fp1, H' b = none) → ∀ b ∈ fp1, FpOk (X.blk s3 H3 scope (compEnvC scope ce DN X.env) fp) ([] ++ pinsAt fp s7.heap) H' b := fun hn b hb => ⟨hn b hb, (f11 b hb).2⟩
      have loop1 : codeAny (model X.prog X.w) X.A (.compLoop (SC2 elt tg iter ifs tg1 iter1 ifs1 scope pos) 1 (.ref it1) (.ref s2.heap.objs.size) (compEnvC scope ce DN X.env))
          (fun r s' => match r with
            | .ok _ => ∃ m, m < n ∧ ∃ i H', Inv (X.blk s3 H3 scope (compEnvC scope ce DN X.env) fp) [] (wipe σ (own.map (·.2))) H' s' ∧ tn i s'.heap ∧ (∀ b ∈ fp, H' b = none) ∧ W i m H'
            | .error _ => False) s11 := by
        refine loopS_in (fun k s' => ∃ j H', Inv (X.blk s3 H3 scope (compEnvC scope ce DN X.env) fp) ([] ++ pinsAt fp s7.heap) (wipe σ8 vs1) H' s' ∧ tn1 j s'.heap ∧ (∀ b ∈ fp1, H' b = none) ∧ W1 j k H') ?_ m1
          ⟨0, H11, I11.weak (wipe_length _ _) (fun j v e => (wipe_some e).1), st11, fun b hb => (f11 b hb).1, w1⟩
        rintro k s12 ⟨j, H12, I12, st12, n12, w12⟩
        rcases turn1 j k H12 w12 with ⟨stop1, nx1⟩ | ⟨go1, N1, hN1, step1⟩
        · refine thnF (T1.done _ rfl rfl rfl hc j _ s12 _ H12 (fun _ _ => False) I12 (still n12) st12 stop1) fun r s13 h13 => ?_
          obtain ⟨rfl, I13⟩ := h13
          exact fin I13 (l8.trans (wipe_length σ8 vs1).symm) (fun j v e => (k8 j v e).2) nx1
        refine thnF (T1.item _ rfl rfl rfl hc j _ s12 _ H12 (fun _ _ => False) I12 (still n12) st12 go1) fun r s13 h13 => ?_
        obtain ⟨v1, rfl, h13⟩ := h13
        refine thnF h13 fun _ s14 h14 => ?_
        obtain ⟨x1, H14, I14, r14, y14, st14, n14⟩ := h14
        have I14' := Inv.pinned I14 (still n14) (T1.obj (j + 1) s14.heap st14)
        refine thnF (pg1.run _ s14 _ H14 x1 v1 _ I14' r14 (step1 x1 H14 y14)) fun _ s15 h15 => ?_
        obtain ⟨σ15, H15, I15, hw15, q15⟩ := h15
        have fin1 : ∀ {H' : Hp} {s' : Shared}, Inv (X.blk s3 H3 scope (compEnvC scope ce DN X.env) fp) (([] ++ pinsAt fp s7.heap) ++ pinsAt fp1 s14.heap) σ15 H' s' → N1 H' → ∃ m, m < k ∧ ∃ j H', Inv (X.blk s3 H3 scope (compEnvC scope ce DN X.env) fp) ([] ++ pinsAt fp s7.heap) (wipe σ8 vs1) H' s' ∧ tn1 j s'.heap ∧ (∀ b ∈ fp1, H' b = none) ∧ W1 j m H' := fun {H' s'} I' nx => by
          obtain ⟨m', hm, w'⟩ := hN1 H' nx
          have z : ∀ b ∈ fp1, ∀ o, s14.heap.get? b = some o → s'.heap.get? b = some o ∧ H' b = none := fun b hb o e => by
            have z := I'.pin (b, o) (List.mem_append_right _ (List.mem_append_right _ (mem_pinsAt hb e)))
            exact ⟨z.1, z.2.1⟩
          refine ⟨m', hm, j + 1, H', (Inv.unpinned I').weak (by rw [← hw15, wipe_length]) (fun l v e => (wipe_some (by rw [hw15]; exact e)).1), T1.keep (j + 1) s14.heap s'.heap st14 (fun b hb o e => (z b hb o e).1), fun b hb => ?_, w'⟩
          obtain ⟨o, e, _⟩ := T1.obj (j + 1) s14.heap st14 b hb
          exact (z b hb o e).2
        refine thnF (pt1.run _ s15 σ15 H15 _ I15 q15) fun b1 s16 h16 => ?_
        obtain ⟨H16, I16, q16⟩ := h16
        cases b1 with
        | false => exact fin1 I16 q16
        | true =>
          refine thnF (pe.run _ s16 σ15 H16 _ I16 q16) fun yv s17 h17 => ?_
          obtain ⟨y, H17, I17, r17, k', S, nn, rfl, hD17, hz17, nx⟩ := h17
          have ad := mt_saddQ (X := (X.blk s3 H3 scope (compEnvC scope ce DN X.env) fp)) _ s17 σ15 H17 (.ref s2.heap.objs.size) [kV k'] (.ref s2.heap.objs.size) [yv] (fun _ H' => N1 H') I17 rfl (.cons r17 .nil) ⟨_, k', S, nn, rfl, rfl, hD17, hz17, nx⟩
          refine thnF ad fun _ s18 h18 => ?_
          obtain ⟨_, H18, I18, _, nx'⟩ := h18
          exact fin1 I18 nx'
      exact startS_in loop1 (T1.self X.A 0 _ _ _ st11 loop1)
  subst eCe
  subst eDN
  exact PpSet.codeAny_compStart_set loop (T.self X.A 0 _ _ _ st4 loop)
theorem pe_scQ2 (hc : X.calm = true) (hN : X.N.Nodup) (hi : PI X tg iter wi) (ok : BlkOk X.N X.env.scope scope own) (hv : ∀ i ∈ vs1, i ∈ own.map (·.2))
    (hg : ∀ (s : Shared) (H : Hp) (C : Addr) (cl : List (Str × Addr)) (fp : List Addr), PG (X.blk s H scope (compEnvC scope cl C X.env) fp) tg g)
    (ht : ∀ (s : Shared) (H : Hp) (C : Addr) (cl : List (Str × Addr)) (fp : List Addr), PTs (X.blk s H scope (compEnvC scope cl C X.env) fp) ifs tt)
    (hi1 : ∀ (s : Shared) (H : Hp) (C : Addr) (cl : List (Str × Addr)) (fp : List Addr), PI (X.blk s H scope (compEnvC scope cl C X.env) fp) tg1 iter1 wi1)
    (hg1 : ∀ (s : Shared) (H : Hp) (C : Addr) (cl : List (Str × Addr)) (fp : List Addr), PG (X.blk s H scope (compEnvC scope cl C X.env) fp) tg1 g1)
    (ht1 : ∀ (s : Shared) (H : Hp) (C : Addr) (cl : List (Str × Addr)) (fp : List Addr), PTs (X.blk s H scope (compEnvC scope cl C X.env) fp) ifs1 tt1)
    (he : ∀ (s : Shared) (H : Hp) (C : Addr) (cl : List (Str × Addr)) (fp : List Addr), PE (X.blk s H scope (compEnvC scope cl C X.env) fp) elt te)
    (hs : ∀ x : Value, foldedSetIterable iter X.env x = pure x := by intro x; rfl) (hs1 : ∀ en x, foldedSetIterable iter1 en x = pure x := by intro _ x; rfl) :
    PE X (.SetComp elt [⟨tg, iter, ifs, 0⟩, ⟨tg1, iter1, ifs1, 0⟩] scope pos) (tScQ2 X.prog X.w wi g tt wi1 g1 tt1 te (own.map (·.2)) vs1) := by
  refine ⟨fun pins s σ H Q I h => ?_⟩
  rw [PpSet.eval_SetComp]
  refine scQ2_core hc hN I hi ok hv hg ht hi1 hg1 ht1 he hs hs1 h fun D C s' m H' I' q hn hf => ?_
  refine ⟨m, hn, fun h' hb => ⟨.ref D, H', ?_, rfl, q⟩⟩
  exact I'.turned (it := C) (fun b o n e => (hb.2 b n).trans e) hf.1 hf.2.1 hf.2.2.2.1 hf.2.2.2.2.1 hf.2.2.2.2.2
theorem sw_trueS {e : Expr} {gs : List Comprehension} {sc : Scope} {q py : Pos} {y : Str} {l : Nat} {en : Env} (hk : en.scope.kind = .function) (hy : en.scope.names.lookup y = some .local) (hl : (py.line == q.line) = true)
    (ha : (sc.names.any fun (n, k) => n == y && (k == .local || k == .cell)) = false) : swapsWith (.SetComp e gs sc q) (some (.Name y py)) l en = pure true := by
  have ky : en.kindOf y = some .local := hy
  have hb : en.blockKind = .function := by
    unfold Env.blockKind
    rw [hk]
    rfl
  unfold swapsWith
  simp only [hb, ky, ha, Expr.pos, hl]
  rfl
/-- name = {..}, the name a local -/
theorem ps_setScQ2 {i : Nat} {y : Str} {py spos : Pos} (hc : X.calm = true) (hN : X.N.Nodup) (hy : X.N[i]? = some y) (hyl : X.env.scope.names.lookup y = some .local)
    (hsw : swapsWith (SC2 elt tg iter ifs tg1 iter1 ifs1 scope pos) (some (.Name y py)) spos.line X.env = pure true) (hi : PI X tg iter wi) (ok : BlkOk X.N X.env.scope scope own) (hv : ∀ i ∈ vs1, i ∈ own.map (·.2))
    (hg : ∀ (s : Shared) (H : Hp) (C : Addr) (cl : List (Str × Addr)) (fp : List Addr), PG (X.blk s H scope (compEnvC scope cl C X.env) fp) tg g)
    (ht : ∀ (s : Shared) (H : Hp) (C : Addr) (cl : List (Str × Addr)) (fp : List Addr), PTs (X.blk s H scope (compEnvC scope cl C X.env) fp) ifs tt)
    (hi1 : ∀ (s : Shared) (H : Hp) (C : Addr) (cl : List (Str × Addr)) (fp : List Addr), PI (X.blk s H scope (compEnvC scope cl C X.env) fp) tg1 iter1 wi1)
    (hg1 : ∀ (s : Shared) (H : Hp) (C : Addr) (cl : List (Str × Addr)) (fp : List Addr), PG (X.blk s H scope (compEnvC scope cl C X.env) fp) tg1 g1)
    (ht1 : ∀ (s : Shared) (H : Hp) (C : Addr) (cl : List (Str × Addr)) (fp : List Addr), PTs (X.blk s H scope (compEnvC scope cl C X.env) fp) ifs1 tt1)
    (he : ∀ (s : Shared) (H : Hp) (C : Addr) (cl : List (Str × Addr)) (fp : List Addr), PE (X.blk s H scope (compEnvC scope cl C X.env) fp) elt te)
    (hs : ∀ x : Value, foldedSetIterable iter X.env x = pure x := by intro x; rfl) (hs1 : ∀ en x, foldedSetIterable iter1 en x = pure x := by intro _ x; rfl) :
    PS X (.Assign [.Name y py] (SC2 elt tg iter ifs tg1 iter1 ifs1 scope pos) spos) (tAsg (tScQ2 X.prog X.w wi g tt wi1 g1 tt1 te (own.map (·.2)) vs1) (gName i)) := by
  refine ⟨fun pins s σ H D I h => ?_⟩
  rw [exec_Assign_Name_used _ _ _ _ hsw]
  refine wpAny_bind (wpAny_standAt (wpAny_bind ?_))
  show wpAny _ X.A (do let _ ← comprehension (SC2 elt tg iter ifs tg1 iter1 ifs1 scope pos) scope X.env (firstIterPos [⟨tg, iter, ifs, 0⟩, ⟨tg1, iter1, ifs1, 0⟩] pos) (newSet (.type "set")) false (eval iter X.env) (some (assign (.Name y py) X.env))) _ _ s
  have h : tScQ2 X.prog X.w wi g tt wi1 g1 tt1 te (own.map (·.2)) vs1 σ H (fun x H1 => gName i x σ H1 D.nx) := h
  refine wpAny_bind (thn (scQ2_core (Qf := fun _ z => SP X pins D .next z) hc hN I hi ok hv hg ht hi1 hg1 ht1 he hs hs1 h fun L C z m H' I' q hn hf => ?_) fun _ _ hq => wpAny_pure (wpAny_pure hq))
  show wpAny _ _ (assign (.Name y py) X.env (.ref L)) _ _ _
  refine wpAny_assign_Name (store_ok2 (v := V.ref L) I' hN hy (.inl hyl) rfl (fun z2 I2 hx => ?_) (.inr hyl))
  obtain ⟨a, sb, ha⟩ := hx
  have Ca : C ≠ a := by
    rcases ha with e | e
    · rw [e]; exact hf.2.1
    · exact fun x => hf.2.2.2.2.1 y a e x.symm
  refine ⟨m, hn.sameBut sb Ca, fun h3 sb3 => ?_⟩
  exact ⟨_, H', I2.turned (it := C) (fun b o n e => (sb3.2 b n).trans e) hf.1 hf.2.1 hf.2.2.2.1 hf.2.2.2.2.1 hf.2.2.2.2.2, q⟩
end
section
variable {J : It} {n : Nat} {G : Hp → Prop} {Y : Nat → Hp → V → Hp → Prop} {g g1 : TG} {tt tt1 : L2.TT} {te : TE} {wi1 : TI} {vs vs1 : List Nat} {σ : L2.St} {H1 : Hp} {D : Addr} {Qd : Hp → Prop}
/-- what the second clause owes -/
def ScIn (P : Program) (wd : World) (D : Addr) (g1 : TG) (tt1 : L2.TT) (te : TE) (vs1 : List Nat) (σ2 : L2.St) (Nx : Hp → Prop) (J1 : It) (H4 : Hp) : Prop :=
  ∃ W1 : Nat → Nat → Hp → Prop, (∃ m, W1 0 m H4) ∧ ∀ j k H, W1 j k H → (J1.stop j H ∧ Nx H) ∨
    (J1.go j H ∧ ∃ N1 : Hp → Prop, (∀ H', N1 H' → ∃ k', k' < k ∧ W1 (j + 1) k' H') ∧ ∀ x H', J1.yld j H x H' → g1 x (wipe σ2 vs1) H' fun σ3 H5 => wipe σ3 vs1 = wipe σ2 vs1 ∧ tt1 σ3 H5 fun b H6 =>
      if b = true then te σ3 H6 fun y H7 => ∃ (k : Key) (S : Key → Bool) (n : Nat), y = kV k ∧ H7 D = some (SetQO P wd D S n) ∧ n + 1 < scanBound ∧
        N1 (upd H7 D (SetQO P wd D (fun j => S j || decide (j = k)) (if S k = true then n else n + 1))) else N1 H6)
theorem sc_in {P : Program} {wd : World} {σ2 : L2.St} {N : Hp → Prop} {H4 : Hp} (w : Walk J n G Y) (Pv : Nat → Hp → Prop) (h0 : Pv 0 H4) (hG : ∀ i H, i ≤ n → Pv i H → G H)
    (hs : ∀ i x H H', i < n → Pv i H → Y i H x H' → g1 x (wipe σ2 vs1) H' fun σ3 H5 => wipe σ3 vs1 = wipe σ2 vs1 ∧ tt1 σ3 H5 fun b H6 => if b = true then te σ3 H6 fun y H7 =>
      ∃ (k : Key) (S : Key → Bool) (n : Nat), y = kV k ∧ H7 D = some (SetQO P wd D S n) ∧ n + 1 < scanBound ∧ Pv (i + 1) (upd H7 D (SetQO P wd D (fun j => S j || decide (j = k)) (if S k = true then n else n + 1))) else Pv (i + 1) H6)
    (hd : ∀ H, Pv n H → N H) : ScIn P wd D g1 tt1 te vs1 σ2 N J H4 := by
  refine ⟨fun i m H => i ≤ n ∧ m = n - i ∧ Pv i H, ⟨n, Nat.zero_le _, rfl, h0⟩, ?_⟩
  rintro i m H ⟨hi, rfl, p⟩
  by_cases h : i = n
  · subst h
    exact .inl ⟨w.stops H (hG _ _ (Nat.le_refl _) p), hd H p⟩
  · exact .inr ⟨w.goes i H (by omega) (hG i H hi p), Pv (i + 1), fun H' p' => ⟨n - (i + 1), by omega, by omega, rfl, p'⟩, fun x H' y => hs i x H H' (by omega) p (w.yields i H x H' (by omega) (hG i H hi p) y)⟩
theorem sq2_it {P : Program} {wd : World} (w : Walk J n G Y) (Pv : Nat → Hp → Prop) (h0 : Pv 0 (upd H1 D (SetQO P wd D (fun _ => false) 0))) (hG : ∀ i H, i ≤ n → Pv i H → G H)
    (hs : ∀ i x H H', i < n → Pv i H → Y i H x H' → g x (wipe σ vs) H' fun σ2 H2 => wipe σ2 vs = wipe σ vs ∧ tt σ2 H2 fun b H3 => if b = true then wi1 σ2 H3 (ScIn P wd D g1 tt1 te vs1 σ2 (Pv (i + 1))) else Pv (i + 1) H3)
    (hd : ∀ H, Pv n H → Qd H) : ∃ W : Nat → Nat → Hp → Prop, (∃ m, W 0 m (upd H1 D (SetQO P wd D (fun _ => false) 0))) ∧ ∀ i m H, W i m H → (J.stop i H ∧ Qd H) ∨
      (J.go i H ∧ ∃ Nx : Hp → Prop, (∀ H', Nx H' → ∃ m', m' < m ∧ W (i + 1) m' H') ∧ ∀ x H', J.yld i H x H' → g x (wipe σ vs) H' fun σ2 H2 => wipe σ2 vs = wipe σ vs ∧ tt σ2 H2 fun b H3 =>
        if b = true then wi1 σ2 H3 (ScIn P wd D g1 tt1 te vs1 σ2 Nx) else Nx H3) := by
  refine ⟨fun i m H => i ≤ n ∧ m = n - i ∧ Pv i H, ⟨n, Nat.zero_le _, rfl, h0⟩, ?_⟩
  rintro i m H ⟨hi, rfl, p⟩
  by_cases h : i = n
  · subst h
    exact .inl ⟨w.stops H (hG _ _ (Nat.le_refl _) p), hd H p⟩
  · exact .inr ⟨w.goes i H (by omega) (hG i H hi p), Pv (i + 1), fun H' p' => ⟨n - (i + 1), by omega, by omega, rfl, p'⟩, fun x H' y => hs i x H H' (by omega) p (w.yields i H x H' (by omega) (hG i H hi p) y)⟩
end
end Pw

namespace Pw
open PySem PySem.Calls PyProof.Rows PyProof.V PySem.Spec
/-! list(zip(xs, ys)), both lists of one length. -/
abbrev ZipK (h : Heap) (z TI TO a : Addr) (f : Bool) : Prop :=
  h.get? z = some { cls := .type "zip", dict := none, data := .fields #[rawInt a, .bool f, .bool false, .ref TI, .ref TO], slots := #[] }
section
variable {prog : Program} {w : World} {A : Around} {E : Value → Shared → Prop} {s : Shared} {z TI TO a : Addr} {f : Bool}
theorem zk_free {oa : Obj} (hz : ZipK s.heap z TI TO a f) (ha : s.heap.get? a = some oa) :
    wpAny (model prog w) A (Builtin.SmallTypes.ownedTupleIsFree (.ref z)) (fun b s' => b = false ∧ ∃ h', s' = { s with heap := h' } ∧ ZipK h' z TI TO a true ∧ Heap.SameBut z s.heap h') E s := by
  unfold Builtin.SmallTypes.ownedTupleIsFree
  refine wpAny_bind (wpAny_field hz rfl (x := rawInt a) rfl ?_)
  show wpAny _ _ (loadIfAlive ((a : Int).toNat) >>= _) _ _ _
  rw [Int.toNat_natCast]
  refine wpAny_bind (PySem.W.kdx_alive ha ?_)
  simp only [Option.isNone_some, Bool.false_eq_true, if_false]
  refine wpAny_bind (wpAny_field hz rfl (x := .bool f) rfl ?_)
  cases f with
  | true =>
    rw [if_neg (show ¬ ((Value.bool true != Value.bool true) = true) from Bool.false_ne_true)]
    exact wpAny_pure ⟨rfl, s.heap, rfl, hz, Heap.SameBut.refl _ _⟩
  | false =>
    rw [if_pos (show (Value.bool false != Value.bool true) = true from rfl)]
    refine wpAny_bind (wpAny_setField_rec hz (by simp) fun h3 he hs => ?_)
    exact wpAny_pure ⟨rfl, h3, rfl, he, hs⟩
theorem zk_item {i1 i2 l1 l2 : Addr} {oa : Obj} {k : Nat} {xs ys : Array Value} {x y : Value} {Q : Option Value → Shared → Prop} (D : ZipApart z TI TO i1 i2 l1 l2)
    (hz : ZipK s.heap z TI TO a f) (ha : s.heap.get? a = some oa) (hTI : IsPair s.heap TI (.ref i1) (.ref i2))
    (h1 : s.heap.IsListIter i1 l1 k) (h2 : s.heap.IsListIter i2 l2 k) (hl1 : s.heap.IsList l1 xs) (hl2 : s.heap.IsList l2 ys) (hx : xs[k]? = some x) (hy : ys[k]? = some y)
    (hQ : ∀ h', ZipK h' z TI TO a true → h'.IsListIter i1 l1 (k + 1) → h'.IsListIter i2 l2 (k + 1) → IsPair h' s.heap.objs.size x y → h'.objs.size = s.heap.objs.size + 1 →
      (∀ c o, c ≠ z → c ≠ i1 → c ≠ i2 → s.heap.get? c = some o → h'.get? c = some o) → Q (some (.ref s.heap.objs.size)) { s with heap := h' }) :
    wpAny (model prog w) A (pyNext (.ref z)) Q E s := by
  have hT : s.TypeIs (.ref z) "zip" := ⟨_, hz, rfl⟩
  unfold pyNext
  refine wpAny_bind (wpAny_attempt (wpAny_callSpecial?_slot (name := Str.ofString "__next__") hT F.slot_zip_next
    (wpAny_call_entry F.slot_zip_next hT F.entry_zip_next ?_ (F.args_zip_next_1 _))))
  show wpAny _ _ (field (.ref z) 2 >>= _) _ _ _
  refine wpAny_bind (wpAny_field hz rfl (x := .bool false) rfl ?_)
  show wpAny _ _ (field (.ref z) 3 >>= _) _ _ _
  refine wpAny_bind (wpAny_field hz rfl (x := .ref TI) rfl ?_)
  refine wpAny_bind (wpAny_seqItems hTI rfl ?_)
  show wpAny _ _ (Builtin.SmallTypes.ownedTupleIsFree (.ref z) >>= _) _ _ _
  refine wpAny_bind (wpAny_mono (zk_free hz ha) (fun b s' hb => ?_) fun _ _ q => q)
  obtain ⟨rfl, g1, rfl, hz1, hs1⟩ := hb
  simp only [Bool.false_eq_true, if_false]
  refine wpAny_bind ?_
  simp only [List.forIn_toArray, List.forIn_cons, List.forIn_nil]
  have n1 := h1.extBut hs1.extBut D.i1z
  have n2 := h2.extBut hs1.extBut D.i2z
  have m1 := hl1.extBut hs1.extBut D.l1z
  have m2 := hl2.extBut hs1.extBut D.l2z
  refine wpAny_bind (wpAny_bind (wpAny_holding ?_))
  show wpAny _ _ (Builtin.SmallTypes.nextOf (.ref i1) >>= _) _ _ _
  refine wpAny_bind (wpAny_nextOf_list_item n1 m1 hx fun g2 n1' hs2 => wpAny_pure (wpAny_pure ?_))
  refine wpAny_bind (wpAny_bind (wpAny_holding ?_))
  show wpAny _ _ (Builtin.SmallTypes.nextOf (.ref i2) >>= _) _ _ _
  refine wpAny_bind (wpAny_nextOf_list_item (n2.extBut hs2.extBut D.i12.symm) (m2.extBut hs2.extBut D.l2i1) hy fun g3 n2' hs3 => wpAny_pure (wpAny_pure (wpAny_pure ?_)))
  refine wpAny_bind (wpAny_newTuple (hsz := by show 2 ≤ sizeLine; decide) (wpAny_pure ⟨_, rfl, wpAny_pure ?_⟩))
  have sz : g3.objs.size = s.heap.objs.size := by rw [hs3.1, hs2.1, hs1.1]
  have hk : ∀ c o, c ≠ z → c ≠ i1 → c ≠ i2 → s.heap.get? c = some o → g3.get? c = some o := fun c o c1 c2 c3 e =>
    hs3.extBut _ _ c3 (hs2.extBut _ _ c2 (hs1.extBut _ _ c1 e))
  show Q (some (.ref g3.objs.size)) _
  have n1'' := n1'.extBut hs3.extBut D.i12
  have hz3 : ZipK g3 z TI TO a true := hs3.extBut _ _ D.i2z.symm (hs2.extBut _ _ D.i1z.symm hz1)
  have up : ∀ c o, g3.get? c = some o → (g3.push { cls := .type "tuple", data := .seq #[x, y] }).get? c = some o := fun c o e => Heap.get?_push_of_some _ e
  have new : IsPair (g3.push { cls := .type "tuple", data := .seq #[x, y] }) g3.objs.size x y := Heap.get?_push_size _ rfl
  have sz2 : (g3.push { cls := .type "tuple", data := .seq #[x, y] }).objs.size = s.heap.objs.size + 1 := by rw [Heap.size_push, sz]
  rw [sz] at new ⊢
  exact hQ _ (up _ _ hz3) (n1''.at fun o e => up _ o e) (n2'.at fun o e => up _ o e) new sz2 fun c o c1 c2 c3 e => up c o (hk c o c1 c2 c3 e)
theorem zk_end {i1 i2 l1 l2 : Addr} {oa : Obj} {k : Nat} {xs : Array Value} {Q : Option Value → Shared → Prop} (hh : A.handled = none) (D : ZipApart z TI TO i1 i2 l1 l2)
    (hz : ZipK s.heap z TI TO a f) (ha : s.heap.get? a = some oa) (hTI : IsPair s.heap TI (.ref i1) (.ref i2)) (h1 : s.heap.IsListIter i1 l1 k) (hl1 : s.heap.IsList l1 xs) (hx : xs[k]? = none)
    (hQ : ∀ h', (∀ c o, c ≠ z → c ≠ i1 → s.heap.get? c = some o → h'.get? c = some o) → Q none { s with heap := h' }) :
    wpAny (model prog w) A (pyNext (.ref z)) Q E s := by
  have hT : s.TypeIs (.ref z) "zip" := ⟨_, hz, rfl⟩
  unfold pyNext
  refine wpAny_bind (wpAny_attempt (wpAny_callSpecial?_slot (name := Str.ofString "__next__") hT F.slot_zip_next
    (wpAny_call_entry F.slot_zip_next hT F.entry_zip_next ?_ (F.args_zip_next_1 _))))
  show wpAny _ _ (field (.ref z) 2 >>= _) _ _ _
  refine wpAny_bind (wpAny_field hz rfl (x := .bool false) rfl ?_)
  show wpAny _ _ (field (.ref z) 3 >>= _) _ _ _
  refine wpAny_bind (wpAny_field hz rfl (x := .ref TI) rfl ?_)
  refine wpAny_bind (wpAny_seqItems hTI rfl ?_)
  show wpAny _ _ (Builtin.SmallTypes.ownedTupleIsFree (.ref z) >>= _) _ _ _
  refine wpAny_bind (wpAny_mono (zk_free hz ha) (fun b s' hb => ?_) fun _ _ q => q)
  obtain ⟨rfl, g1, rfl, hz1, hs1⟩ := hb
  simp only [Bool.false_eq_true, if_false]
  refine wpAny_bind ?_
  simp only [List.forIn_toArray, List.forIn_cons, List.forIn_nil]
  refine wpAny_bind (wpAny_bind (wpAny_holding ?_))
  show wpAny _ _ (Builtin.SmallTypes.nextOf (.ref i1) >>= _) _ _ _
  refine wpAny_bind (wpAny_nextOf_list_end hh (h1.extBut hs1.extBut D.i1z) (hl1.extBut hs1.extBut D.l1z) hx fun g2 e hs2 he => ?_)
  obtain ⟨o, ho, hc⟩ := he
  refine wpAny_bind (wpAny_isInstance (T := "StopIteration") (b := true) ⟨o, ho, hc⟩ isSubtype_stop ?_)
  exact wpAny_pure (hQ _ fun c o c1 c2 e => hs2 _ _ c2 (hs1.extBut _ _ c1 e))
/-- the zip object, i pairs handed out -/
structure ZSt (h : Heap) (z TI TO i1 i2 l1 l2 S : Addr) (xs ys : Array Value) (i : Nat) : Prop where
  st : (i = 0 ∧ IsZip h z TI TO .none ∧ ∃ u v, IsPair h TO u v) ∨ ∃ a f oa, 0 < i ∧ ZipK h z TI TO a f ∧ h.get? a = some oa ∧ a ≠ z ∧ a ≠ TO ∧ a ≠ i1 ∧ a ≠ i2 ∧ a ≠ S
  pr : IsPair h TI (.ref i1) (.ref i2)
  n1 : h.IsListIter i1 l1 i
  n2 : h.IsListIter i2 l2 i
  a1 : h.IsList l1 xs
  a2 : h.IsList l2 ys
/-- the tuples handed out -/
structure ZG (xs ys : Array Value) (lo : Addr) (h : Heap) (as : List Addr) : Prop where
  rise : as.Pairwise (· < ·)
  above : ∀ a ∈ as, lo < a
  pairs : ∀ (j : Nat) (a : Addr), as[j]? = some a → ∃ x y, xs[j]? = some x ∧ ys[j]? = some y ∧ IsPair h a x y
structure ZAp (z TI TO i1 i2 l1 l2 S : Addr) : Prop where
  D : ZipApart z TI TO i1 i2 l1 l2
  zS : z < S
  TIS : TI < S
  TOS : TO < S
  i1S : i1 < S
  i2S : i2 < S
  l1S : l1 < S
  l2S : l2 < S
theorem zl_loop {R : Result → Shared → Prop} {i1 i2 l1 l2 S : Addr} {xs ys : Array Value} (hh : A.handled = none) (Z : ZAp z TI TO i1 i2 l1 l2 S) (hxy : xs.size = ys.size) (hn : xs.size ≤ sizeLine) (hp : 0 < xs.size) (res : Value) {h₁ : Heap}
    (hR : ∀ h' tk acc c as, (∀ b o, b ≠ S → b ≠ z → b ≠ TO → b ≠ i1 → b ≠ i2 → h₁.get? b = some o → h'.get? b = some o) → h'.get? S = some { cls := .type "list", dict := none, data := .seq acc c, slots := #[] } → as.length = xs.size → ZG xs ys S h' as →
      acc.toList = as.map Value.ref → R (.ok (.ret res)) { s with heap := h', toks := tk }) :
    ∀ (k i : Nat) (h : Heap) (tk c : Nat) (acc : Array Value) (as : List Addr), xs.size - i = k → i ≤ xs.size → ZSt h z TI TO i1 i2 l1 l2 S xs ys i → (∀ b o, b ≠ S → b ≠ z → b ≠ TO → b ≠ i1 → b ≠ i2 → h₁.get? b = some o → h.get? b = some o) →
      h.get? S = some { cls := .type "list", dict := none, data := .seq acc c, slots := #[] } → acc.toList = as.map Value.ref → as.length = i → ZG xs ys S h as →
      codeAny (model prog w) A (.builtin "list.extend.loop" ⟨[.ref S, .ref z, res], []⟩) R { s with heap := h, toks := tk } := by
  have D := Z.D
  have zS := Nat.ne_of_lt Z.zS
  have TIS := Nat.ne_of_lt Z.TIS
  have TOS := Nat.ne_of_lt Z.TOS
  have i1S := Nat.ne_of_lt Z.i1S
  have i2S := Nat.ne_of_lt Z.i2S
  have l1S := Nat.ne_of_lt Z.l1S
  have l2S := Nat.ne_of_lt Z.l2S
  intro k
  induction k with
  | zero =>
    intro i h tk c acc as hk hi st hkeep hS hacc hal hG
    have hin : i = xs.size := by omega
    refine codeAny_builtin PySem.F.entry_extend_loop ?_
    rw [Around.under_plainId PySem.F.plain_extend_loop _]
    show wpAny _ A.in1 (pyNext (.ref z) >>= _) _ _ _
    rcases st.st with ⟨e0, _⟩ | ⟨a, f, oa, i0, hz, ha, az, aTO, ai1, ai2, aS⟩
    · omega
    refine wpAny_bind (zk_end (s := { s with heap := h, toks := tk }) (A := A.in1) hh D hz ha st.pr st.n1 st.a1 (by rw [hin]; exact Array.getElem?_eq_none (Nat.le_refl _)) fun h' he => ?_)
    refine wpAny_pure (hR h' tk acc c as (fun b o b1 b2 b3 b4 b5 e => he b o b2 b4 (hkeep b o b1 b2 b3 b4 b5 e)) (he S _ zS.symm i1S.symm hS) (by omega) ⟨hG.rise, hG.above, fun j a hj => ?_⟩ hacc)
    obtain ⟨x, y, e1, e2, e3⟩ := hG.pairs j a hj
    have hb := hG.above a (List.mem_of_getElem? hj)
    exact ⟨x, y, e1, e2, he a _ (Nat.ne_of_gt (Nat.lt_trans Z.zS hb)) (Nat.ne_of_gt (Nat.lt_trans Z.i1S hb)) e3⟩
  | succ k ih =>
    intro i h tk c acc as hk hi st hkeep hS hacc hal hG
    have hlt : i < xs.size := by omega
    obtain ⟨x, hx⟩ : ∃ x, xs[i]? = some x := ⟨xs[i], Array.getElem?_eq_getElem hlt⟩
    obtain ⟨y, hy⟩ : ∃ y, ys[i]? = some y := ⟨ys[i]'(by omega), Array.getElem?_eq_getElem (by omega)⟩
    have hsz : acc.size = i := by rw [← Array.length_toList, hacc, List.length_map, hal]
    have hSl : S < h.objs.size := Heap.lt_size hS
    refine codeAny_builtin PySem.F.entry_extend_loop ?_
    rw [Around.under_plainId PySem.F.plain_extend_loop _]
    show wpAny _ A.in1 (pyNext (.ref z) >>= _) _ _ _
    have go : ∀ h' : Heap, ZSt h' z TI TO i1 i2 l1 l2 S xs ys (i + 1) → IsPair h' h.objs.size x y → (∀ b o, b ≠ z → b ≠ TO → b ≠ i1 → b ≠ i2 → h.get? b = some o → h'.get? b = some o) →
        wpAny (model prog w) A.in1 (updateSeq S (·.push (Value.ref h.objs.size)) >>= fun _ => pure (Fin.again (.builtin "list.extend.loop" ⟨[.ref S, .ref z, res], []⟩)))
          (fun fin s' => match fin with | .done f => R (.ok f) s' | .again c' => c'.quiet = true ∧ codeAny (model prog w) A c' R s') (fun e s' => R (.error e) s') { s with heap := h', toks := tk } := fun h' st' ht hkp => by
      have hS' := hkp S _ zS.symm TOS.symm i1S.symm i2S.symm hS
      have up : ∀ b o, b ≠ S → h'.get? b = some o → (h'.update S (Obj.mapSeq (·.push (Value.ref h.objs.size)))).get? b = some o := fun b o hb e => (Heap.get?_update_other _ _ (Ne.symm hb)).trans e
      refine wpAny_bind ?_
      refine wpAny_updateSeq hS' rfl (wpAny_pure ⟨plainId_quiet PySem.F.plain_extend_loop _, ih (i + 1) _ tk _ (acc.push (Value.ref h.objs.size)) (as ++ [h.objs.size]) (by omega) hlt ⟨?_, up _ _ TIS st'.pr, st'.n1.at fun o e => up _ o i1S e, st'.n2.at fun o e => up _ o i2S e, st'.a1.at fun o e => up _ o l1S e, st'.a2.at fun o e => up _ o l2S e⟩
        (fun b o b1 b2 b3 b4 b5 e => up b o b1 (hkp b o b2 b3 b4 b5 (hkeep b o b1 b2 b3 b4 b5 e))) (Heap.get?_update_self _ hS' rfl) (by rw [Array.toList_push, hacc, List.map_append]; rfl) (by rw [List.length_append, hal]; rfl) ⟨?_, ?_, ?_⟩⟩) (by rw [hsz]; omega) (by show (acc.push (Value.ref h.objs.size)).size ≤ sizeLine + 1; rw [Array.size_push, hsz]; omega)
      · rcases st'.st with ⟨e0, _⟩ | ⟨a, f, oa, i0, hz, ha, az, aTO, ai1, ai2, aS⟩
        · omega
        · exact .inr ⟨a, f, oa, i0, up _ _ zS hz, up _ _ aS ha, az, aTO, ai1, ai2, aS⟩
      · refine List.pairwise_append.mpr ⟨hG.rise, List.pairwise_singleton _ _, fun a ha b hb => ?_⟩
        rw [List.mem_singleton.mp hb]
        obtain ⟨j, hj⟩ := List.mem_iff_getElem?.mp ha
        obtain ⟨_, _, _, _, e⟩ := hG.pairs j a hj
        exact Heap.lt_size e
      · intro a ha
        rcases List.mem_append.mp ha with ha | ha
        · exact hG.above a ha
        · rw [List.mem_singleton.mp ha]; exact hSl
      · intro j b hj
        rcases Nat.lt_trichotomy j as.length with h1 | h1 | h1
        · rw [List.getElem?_append_left h1] at hj
          obtain ⟨x', y', e1, e2, e3⟩ := hG.pairs j b hj
          have hb := hG.above b (List.mem_of_getElem? hj)
          exact ⟨x', y', e1, e2, up b _ (Nat.ne_of_gt hb) (hkp b _ (Nat.ne_of_gt (Nat.lt_trans Z.zS hb)) (Nat.ne_of_gt (Nat.lt_trans Z.TOS hb)) (Nat.ne_of_gt (Nat.lt_trans Z.i1S hb)) (Nat.ne_of_gt (Nat.lt_trans Z.i2S hb)) e3)⟩
        · subst h1
          have hb : h.objs.size = b := by simpa using hj
          subst hb
          exact ⟨x, y, by rw [hal]; exact hx, by rw [hal]; exact hy, up _ _ (Nat.ne_of_gt hSl) ht⟩
        · have hnone : (as ++ [h.objs.size])[j]? = none := List.getElem?_eq_none (by rw [List.length_append, List.length_singleton]; omega)
          rw [hnone] at hj; cases hj
    have lz : ∀ {b : Addr}, b < S → h.objs.size ≠ b := fun hb => Nat.ne_of_gt (Nat.lt_trans hb hSl)
    rcases st.st with ⟨e0, hz, u, v, hTO⟩ | ⟨a, f, oa, i0, hz, ha, az, aTO, ai1, ai2, aS⟩
    · subst e0
      refine wpAny_bind (wpAny_pyNext_zip_item (s := { s with heap := h, toks := tk }) D hz st.pr hTO st.n1 st.n2 st.a1 st.a2 hx hy fun h' b1 b2 b3 b4 b5 b6 b7 => ?_)
      exact go h' ⟨.inr ⟨_, false, _, Nat.succ_pos _, b1, b5, lz Z.zS, lz Z.TOS, lz Z.i1S, lz Z.i2S, Nat.ne_of_gt hSl⟩, b7 _ _ D.TIz D.TITO D.TIi1 D.TIi2 st.pr, b3, b4, st.a1.at fun o e => b7 _ o D.l1z D.l1TO D.l1i1 D.l1i2 e, st.a2.at fun o e => b7 _ o D.l2z D.l2TO D.l2i1 D.l2i2 e⟩ b5 b7
    · refine wpAny_bind (zk_item (s := { s with heap := h, toks := tk }) D hz ha st.pr st.n1 st.n2 st.a1 st.a2 hx hy fun h' b1 b3 b4 b5 b6 b7 => ?_)
      exact go h' ⟨.inr ⟨a, true, oa, Nat.succ_pos _, b1, b7 _ _ az ai1 ai2 ha, az, aTO, ai1, ai2, aS⟩, b7 _ _ D.TIz D.TIi1 D.TIi2 st.pr, b3, b4, st.a1.at fun o e => b7 _ o D.l1z D.l1i1 D.l1i2 e, st.a2.at fun o e => b7 _ o D.l2z D.l2i1 D.l2i2 e⟩ b5 fun b o c1 _ c3 c4 e => b7 b o c1 c3 c4 e
theorem zip_len_none : typeLookup (.type "zip") "__len__" = pure none := by rw [typeLookup_type, builtinLookup_eq_fast]; kernel_rfl
theorem zip_hint_none : typeLookup (.type "zip") "__length_hint__" = pure none := by rw [typeLookup_type, builtinLookup_eq_fast]; kernel_rfl
theorem zl_hint (hT : s.TypeIs (.ref z) "zip") {Q : Bool → Shared → Prop} (h : Q true s) : wpAny (model prog w) A (Builtin.List.listLengthHint (.ref z)) Q E s := by
  unfold Builtin.List.listLengthHint
  refine wpAny_bind (wpAny_specialOf hT zip_len_none ?_)
  dsimp only
  refine wpAny_ite_split (fun hab => absurd hab (by decide)) (fun _ => ?_)
  refine wpAny_ite_split (fun hab => absurd hab (by decide)) (fun _ => ?_)
  refine wpAny_bind (wpAny_specialOf hT zip_hint_none ?_)
  exact wpAny_pure h
theorem zl_extend {R : Result → Shared → Prop} {i1 i2 l1 l2 S : Addr} {xs ys : Array Value} (hh : A.handled = none) (Z : ZAp z TI TO i1 i2 l1 l2 S) (hxy : xs.size = ys.size) (hn : xs.size ≤ sizeLine) (hp : 0 < xs.size) (res : Value) {c₀ : Nat}
    (st : ZSt s.heap z TI TO i1 i2 l1 l2 S xs ys 0) (hS : s.heap.get? S = some { cls := .type "list", data := .seq #[] c₀ })
    (hR : ∀ h' tk acc c as, (∀ b o, b ≠ S → b ≠ z → b ≠ TO → b ≠ i1 → b ≠ i2 → s.heap.get? b = some o → h'.get? b = some o) → h'.get? S = some { cls := .type "list", dict := none, data := .seq acc c, slots := #[] } → as.length = xs.size → ZG xs ys S h' as →
      acc.toList = as.map Value.ref → R (.ok (.ret res)) { s with heap := h', toks := tk }) :
    wpAny (model prog w) A.in1 (Builtin.List.listExtendWith (.ref S) (.ref z) res)
      (fun fin s' => match fin with | .done f => R (.ok f) s' | .again c' => c'.quiet = true ∧ codeAny (model prog w) A c' R s') (fun e s' => R (.error e) s') s := by
  have hSz : S ≠ z := Nat.ne_of_gt Z.zS
  obtain ⟨hz, u, v, hTO⟩ : IsZip s.heap z TI TO .none ∧ ∃ u v, IsPair s.heap TO u v := by
    rcases st.st with ⟨_, hz, h⟩ | ⟨a, f, oa, i0, hz, _⟩
    · exact ⟨hz, h⟩
    · exact absurd i0 (Nat.lt_irrefl _)
  have hT : s.TypeIs (.ref z) "zip" := ⟨_, hz, rfl⟩
  unfold Builtin.List.listExtendWith
  refine wpAny_bind (wpAny_typeOf (T := "zip") hT ?_)
  have h1 : Builtin.List.listSameRef (.ref S) (.ref z) = false := by simp [Builtin.List.listSameRef, hSz]
  have h2 : (Value.type "zip" == Value.type "list") = false := by decide
  have h3 : (Value.type "zip" == Value.type "tuple") = false := by decide
  simp only [h1, h2, h3, Bool.or_false, Bool.false_eq_true, if_false]
  refine wpAny_bind (wpAny_pyIter_zip hz ?_)
  refine wpAny_bind (wpAny_holding (zl_hint hT ?_))
  refine wpAny_ite_split (fun _ => ?_) (fun hab => absurd rfl hab)
  refine wpAny_bind (wpAny_rule ?_)
  refine wpAny_bind ?_
  show wpAny _ _ (updateSeq S (·.push .none) >>= fun _ => updateSeq S (·.pop)) _ _ _
  refine wpAny_bind (wpAny_updateSeq hS rfl ?_)
  have hS₂ := Heap.get?_update_self (Obj.mapSeq (·.push Value.none)) hS rfl
  refine wpAny_updateSeq (hz := by seq_fits) hS₂ rfl ?_
  have hS₃ := Heap.get?_update_self (Obj.mapSeq (·.pop)) hS₂ rfl
  have up : ∀ b o, b ≠ S → s.heap.get? b = some o → ((s.heap.update S (Obj.mapSeq (·.push Value.none))).update S (Obj.mapSeq (·.pop))).get? b = some o := fun b o hb e =>
    (Heap.get?_update_other _ _ (Ne.symm hb)).trans ((Heap.get?_update_other _ _ (Ne.symm hb)).trans e)
  refine wpAny_pure ⟨plainId_quiet PySem.F.plain_extend_loop _, zl_loop hh Z hxy hn hp res hR xs.size 0 _ _ _ #[] [] (Nat.sub_zero _) (Nat.zero_le _) ?_ (fun b o b1 _ _ _ _ e => up b o b1 e) hS₃ rfl rfl ⟨List.Pairwise.nil, (fun _ ha => nomatch ha), (fun j a hj => by simp at hj)⟩⟩
  have n := fun {b : Addr} (h : b < S) => Nat.ne_of_lt h
  exact ⟨.inl ⟨rfl, up _ _ (n Z.zS) hz, u, v, up _ _ (n Z.TOS) hTO⟩, up _ _ (n Z.TIS) st.pr, st.n1.at fun o e => up _ o (n Z.i1S) e, st.n2.at fun o e => up _ o (n Z.i2S) e, st.a1.at fun o e => up _ o (n Z.l1S) e, st.a2.at fun o e => up _ o (n Z.l2S) e⟩
theorem zl_init {R : Result → Shared → Prop} {i1 i2 l1 l2 S : Addr} {xs ys : Array Value} (hh : A.handled = none) (Z : ZAp z TI TO i1 i2 l1 l2 S) (hxy : xs.size = ys.size) (hn : xs.size ≤ sizeLine) (hp : 0 < xs.size)
    (st : ZSt s.heap z TI TO i1 i2 l1 l2 S xs ys 0) (hS : s.heap.get? S = some { cls := .type "list", data := .seq #[] })
    (hR : ∀ h' tk acc c as, (∀ b o, b ≠ S → b ≠ z → b ≠ TO → b ≠ i1 → b ≠ i2 → s.heap.get? b = some o → h'.get? b = some o) → h'.get? S = some { cls := .type "list", dict := none, data := .seq acc c, slots := #[] } → as.length = xs.size → ZG xs ys S h' as →
      acc.toList = as.map Value.ref → R (.ok (.ret .none)) { s with heap := h', toks := tk }) :
    wpAny (model prog w) A.in1 (Builtin.«list.__init__» ⟨[.ref S, .ref z], []⟩)
      (fun fin s' => match fin with | .done f => R (.ok f) s' | .again c' => c'.quiet = true ∧ codeAny (model prog w) A c' R s') (fun e s' => R (.error e) s') s := by
  show wpAny _ _ (do let old ← Builtin.List.listItems (.ref S); Builtin.List.listUpdate (.ref S) (fun _ => #[]); letGo old.toList.reverse; Builtin.List.listExtendWith (.ref S) (.ref z) .none) _ _ s
  refine wpAny_bind ?_
  unfold Builtin.List.listItems
  refine wpAny_bind (wpAny_seqItems hS rfl (wpAny_pure ?_))
  show wpAny _ _ (updateSeq S (fun _ => #[]) >>= fun _ => letGo (#[] : Array Value).toList.reverse >>= fun _ => Builtin.List.listExtendWith (.ref S) (.ref z) .none) _ _ s
  refine wpAny_bind (wpAny_updateSeq hS rfl ?_)
  have hS₂ := Heap.get?_update_self (Obj.mapSeq (fun _ => (#[] : Array Value))) hS rfl
  have oth : ∀ b o, b ≠ S → s.heap.get? b = some o → (s.heap.update S (Obj.mapSeq (fun _ => (#[] : Array Value)))).get? b = some o :=
    fun b o hb e => (Heap.get?_update_other _ _ (Ne.symm hb)).trans e
  refine wpAny_bind (wpAny_letGo ?_)
  have n := fun {b : Addr} (h : b < S) => Nat.ne_of_lt h
  refine zl_extend hh Z hxy hn hp .none ?_ hS₂ (fun h' tk acc c as hk hS' hl hG hacc => hR h' tk acc c as (fun b o b1 b2 b3 b4 b5 e => hk b o b1 b2 b3 b4 b5 (oth b o b1 e)) hS' hl hG hacc)
  obtain ⟨hz, u, v, hTO⟩ : IsZip s.heap z TI TO .none ∧ ∃ u v, IsPair s.heap TO u v := by
    rcases st.st with ⟨_, hz, h⟩ | ⟨a, f, oa, i0, hz, _⟩
    · exact ⟨hz, h⟩
    · exact absurd i0 (Nat.lt_irrefl _)
  exact ⟨.inl ⟨rfl, oth _ _ (n Z.zS) hz, u, v, oth _ _ (n Z.TOS) hTO⟩, oth _ _ (n Z.TIS) st.pr, st.n1.at fun o e => oth _ o (n Z.i1S) e, st.n2.at fun o e => oth _ o (n Z.i2S) e, st.a1.at fun o e => oth _ o (n Z.l1S) e, st.a2.at fun o e => oth _ o (n Z.l2S) e⟩
/-- list(zip(l1, l2)), both of one length, none empty -/
theorem zl_call {l1 l2 : Addr} {xs ys : Array Value} {Q : Value → Shared → Prop} (hh : A.handled = none) (hl1 : s.heap.IsList l1 xs) (hl2 : s.heap.IsList l2 ys) (hxy : xs.size = ys.size) (hn : xs.size ≤ sizeLine) (hp : 0 < xs.size)
    (b1 : l1 < s.heap.objs.size) (b2 : l2 < s.heap.objs.size)
    (hQ : ∀ S h' tk acc c as, s.heap.objs.size ≤ S → (∀ b o, s.heap.get? b = some o → h'.get? b = some o) → h'.get? S = some { cls := .type "list", dict := none, data := .seq acc c, slots := #[] } → as.length = xs.size → ZG xs ys S h' as →
      acc.toList = as.map Value.ref → Q (.ref S) { s with heap := h', toks := tk }) :
    wpAny (model prog w) A (call (.type "zip") [.ref l1, .ref l2]) (fun x s1 => wpAny (model prog w) A (call (.type "list") [x]) Q E s1) E s := by
  refine call_zip_2 hl1 hl2 fun g hz hTI hTO h1 h2 hsz hk => ?_
  refine callType_codes (Q₁ := fun obj s₁ => obj = .ref g.objs.size ∧ s₁ = { s with heap := g.push { cls := .type "list", data := .seq #[] } }) PySem.F.called_list (PySem.F.typeCall_list_1 _) PySem.F.entry_list_init
    (code_list_new _ ⟨rfl, rfl⟩) fun obj s₁ ho => ?_
  obtain ⟨rfl, rfl⟩ := ho
  have hS : (g.push { cls := .type "list", data := .seq #[] }).get? g.objs.size = some { cls := .type "list", data := .seq #[] } := Heap.get?_push_size _ rfl
  have up : ∀ b o, g.get? b = some o → (g.push { cls := .type "list", data := .seq #[] }).get? b = some o := fun b o e => Heap.get?_push_of_some _ e
  have Z : ZAp (s.heap.objs.size + 4) (s.heap.objs.size + 2) (s.heap.objs.size + 3) s.heap.objs.size (s.heap.objs.size + 1) l1 l2 g.objs.size := by
    rw [hsz]
    exact ⟨PySem.W.ktu_apart s.heap.objs.size l1 l2 b1 b2, Nat.add_lt_add_left (by decide) _, Nat.add_lt_add_left (by decide) _, Nat.add_lt_add_left (by decide) _, Nat.lt_add_of_pos_right (by decide), Nat.add_lt_add_left (by decide) _, Nat.lt_trans b1 (Nat.lt_add_of_pos_right (by decide)), Nat.lt_trans b2 (Nat.lt_add_of_pos_right (by decide))⟩
  refine ⟨⟨_, hS, rfl⟩, PySem.F.args_list_init_2 _ _, zl_init (A := A.in1) hh Z hxy hn hp ⟨.inl ⟨rfl, up _ _ hz, _, _, up _ _ hTO⟩, up _ _ hTI, h1.at fun o e => up _ o e, h2.at fun o e => up _ o e, (hl1.at fun o e => hk _ o e).at fun o e => up _ o e, (hl2.at fun o e => hk _ o e).at fun o e => up _ o e⟩ hS (fun h' tk acc c as hk' hS' hl hG hacc => ?_)⟩
  refine ⟨rfl, hQ g.objs.size h' tk acc c as (by rw [hsz]; exact Nat.le_add_right _ _) (fun b o e => ?_) hS' hl hG hacc⟩
  have lt := Heap.lt_size e
  exact hk' b o (Nat.ne_of_lt (by rw [hsz]; exact Nat.lt_trans lt (Nat.lt_add_of_pos_right (by decide)))) (Nat.ne_of_lt (Nat.lt_trans lt (Nat.lt_add_of_pos_right (by decide)))) (Nat.ne_of_lt (Nat.lt_trans lt (Nat.lt_add_of_pos_right (by decide)))) (Nat.ne_of_lt lt) (Nat.ne_of_lt (Nat.lt_trans lt (Nat.lt_add_of_pos_right (by decide)))) (up _ _ (hk b o e))
end
end Pw
namespace Pw
open PySem PySem.Spec PyProof.Rows L2
/-- pairs laid at their addresses -/
def putP : Hp → List Addr → List (V × V) → Hp
  | H, a :: as, p :: ps => putP (upd H a (.tup [p.1, p.2])) as ps
  | H, _, _ => H
theorem putP_off {b : Addr} : ∀ (as : List Addr) (ps : List (V × V)) (H : Hp), b ∉ as → putP H as ps b = H b
  | [], _, _, _ => rfl
  | _ :: _, [], _, _ => rfl
  | a :: as, p :: ps, H, h => by
    show putP (upd H a (.tup [p.1, p.2])) as ps b = H b
    rw [putP_off as ps _ fun z => h (List.mem_cons_of_mem _ z), upd_ne fun z => h (by rw [z]; exact List.mem_cons_self)]
theorem putP_at : ∀ (as : List Addr) (ps : List (V × V)) (H : Hp), as.length = ps.length → as.Nodup → ∀ {i : Nat} {a : Addr}, as[i]? = some a → ∃ p, ps[i]? = some p ∧ putP H as ps a = some (.tup [p.1, p.2])
  | [], _, _, _, _, i, a, e => by simp at e
  | _ :: _, [], _, h, _, _, _, _ => by cases h
  | a :: as, p :: ps, H, h, nd, i, b, e => by
    have nd' := List.nodup_cons.mp nd
    cases i with
    | zero =>
      simp only [List.getElem?_cons_zero, Option.some.injEq] at e
      subst e
      refine ⟨p, rfl, ?_⟩
      show putP (upd H a (.tup [p.1, p.2])) as ps a = _
      rw [putP_off as ps _ nd'.1, upd_same]
    | succ i =>
      simp only [List.getElem?_cons_succ] at e
      obtain ⟨q, h1, h2⟩ := putP_at as ps (upd H a (.tup [p.1, p.2])) (Nat.succ.inj h) nd'.2 e
      exact ⟨q, by simpa using h1, h2⟩
/-- list(zip(a, b)): a new list of new pairs -/
def tListZip (K : PySem.W.Frag) (ta : TA) : TE := fun σ H Q => ta σ H fun vs H1 => ∃ a b xs ys, vs = [V.ref a, .ref b] ∧ SqL K H1 a xs ∧ SqL K H1 b ys ∧ xs.length = ys.length ∧ xs ≠ [] ∧
  ∀ (H' : Hp) (l : Addr) (ts : List Addr), Same H1 H' → H1 l = none → H' l = some (.lst (ts.map V.ref)) → ts.length = xs.length → (∀ (i : Nat) (t : Addr), ts[i]? = some t → ∃ x y, xs[i]? = some x ∧ ys[i]? = some y ∧ H' t = some (.tup [x, y])) → Q (.ref l) H'
theorem vals_get {vs : List V} {us : List Value} (h : Vals vs us) : ∀ {i : Nat} {x : V}, vs[i]? = some x → ∃ u, us[i]? = some u ∧ RelV x u := by
  induction h with
  | nil => intro i x e; simp at e
  | cons r _ ih =>
    intro i x e
    cases i with
    | zero =>
      simp only [List.getElem?_cons_zero, Option.some.injEq] at e
      subst e
      exact ⟨_, rfl, r⟩
    | succ i =>
      simp only [List.getElem?_cons_succ] at e
      obtain ⟨u, h1, h2⟩ := ih e
      exact ⟨u, by simpa using h1, h2⟩
section
variable {X : Cx} {a b : Expr} {ta : TA} {p p2 pos pos2 : Pos}
theorem zip_laid {pins : List (Addr × Obj)} {σ : L2.St} {H : Hp} {s : Shared} {h' : Heap} {tk : Nat} {xs ys : List V} {us ws : List Value} {acc : Array Value} {c : Nat} {as : List Addr} {S : Addr} (I : Inv X pins σ H s) (hz : xs.length ≤ sizeLine)
    (rx : Vals xs us) (ry : Vals ys ws) (hxy : xs.length = ys.length) (sS : s.heap.objs.size ≤ S) (hk : ∀ b o, s.heap.get? b = some o → h'.get? b = some o) (hS : h'.get? S = some { cls := .type "list", dict := none, data := .seq acc c, slots := #[] })
    (hl : as.length = us.length) (hG : ZG us.toArray ws.toArray S h' as) (hacc : acc.toList = as.map Value.ref) :
    ∃ H' : Hp, Same H H' ∧ H S = none ∧ H' S = some (.lst (as.map V.ref)) ∧ (∀ (i : Nat) (t : Addr), as[i]? = some t → ∃ x y, xs[i]? = some x ∧ ys[i]? = some y ∧ H' t = some (.tup [x, y])) ∧ Inv X pins σ H' { s with heap := h', toks := tk } := by
  have lx := rx.length
  have ly := ry.length
  have hSn : S ∉ as := fun z => Nat.lt_irrefl _ (hG.above _ z)
  have nd : as.Nodup := List.Pairwise.imp (fun {a b} (h : a < b) => Nat.ne_of_lt h) hG.rise
  have new : ∀ t ∈ as, H t = none := fun t ht => I.hok.fresh (Nat.le_trans sS (Nat.le_of_lt (hG.above t ht)))
  have newS : H S = none := I.hok.fresh sS
  have lz : (List.zip xs ys).length = as.length := by rw [List.length_zip]; omega
  have atP := fun {i : Nat} {t : Addr} (e : as[i]? = some t) => putP_at as (List.zip xs ys) (upd H S (.lst (as.map V.ref))) lz.symm nd e
  have off : ∀ b, b ∉ as → b ≠ S → putP (upd H S (.lst (as.map V.ref))) as (List.zip xs ys) b = H b := fun b h1 h2 => by rw [putP_off as _ _ h1, upd_ne h2]
  have low : ∀ b o, s.heap.get? b = some o → b ∉ as ∧ b ≠ S := fun b o e => ⟨fun z => absurd (Heap.lt_size e) (Nat.not_lt.mpr (Nat.le_trans sS (Nat.le_of_lt (hG.above b z)))), fun z => absurd (Heap.lt_size e) (Nat.not_lt.mpr (by rw [z]; exact sS))⟩
  have kp : Same H (putP (upd H S (.lst (as.map V.ref))) as (List.zip xs ys)) := fun b u e => by
    rw [off b (fun z => by rw [new b z] at e; cases e) (fun z => by rw [z, newS] at e; cases e)]
    exact e
  have eS : putP (upd H S (.lst (as.map V.ref))) as (List.zip xs ys) S = some (.lst (as.map V.ref)) := by rw [putP_off as _ _ hSn, upd_same]
  refine ⟨putP (upd H S (.lst (as.map V.ref))) as (List.zip xs ys), kp, newS, eS, fun i t e => ?_, ?_⟩
  · obtain ⟨q, h1, h2⟩ := atP e
    rw [List.getElem?_zip_eq_some] at h1
    exact ⟨q.1, q.2, h1.1, h1.2, h2⟩
  refine I.call' (ch := []) rfl ⟨fun b o q _ _ _ => hk b o q, fun b o q _ _ _ => ⟨o.slots, hk b o q⟩, fun b o q n _ => ?_, fun b o q _ => ⟨o, hk b o q⟩, fun b xs q => kp b _ q, fun b o u q => kp b _ q, fun b ps q => ⟨#[], by rw [kp b _ q]; simp⟩⟩ (fun b u q => ?_) I.bare fun b z => by simp at z
  · obtain ⟨z1, z2⟩ := low b o q
    rw [off b z1 z2]
    exact n
  · by_cases hb : b ∈ as
    · obtain ⟨j, e1⟩ := List.mem_iff_getElem?.mp hb
      obtain ⟨pk, e2, e3⟩ := atP e1
      rw [e3] at q
      cases q
      rw [List.getElem?_zip_eq_some] at e2
      obtain ⟨x, y, f1, f2, f3⟩ := hG.pairs j b e1
      obtain ⟨u1, g1, r1⟩ := vals_get rx e2.1
      obtain ⟨u2, g2, r2⟩ := vals_get ry e2.2
      have : x = u1 := by simpa [g1] using f1.symm
      subst this
      have : y = u2 := by simpa [g2] using f2.symm
      subst this
      exact ⟨by show 2 ≤ sizeLine; decide, [x, y], .cons r1 (.cons r2 .nil), ⟨_, f3, rfl, _, rfl⟩⟩
    · by_cases hb2 : b = S
      · rw [hb2] at q ⊢
        rw [eS] at q
        cases q
        refine ⟨by rw [List.length_map]; omega, acc.toList, c, by rw [hacc]; exact LiI.vals_refs as, ?_⟩
        rw [Array.toArray_toList]
        exact hS
      · rw [off b hb hb2] at q
        exact (I.hok b u q).stay (fun d v _ y => hk d v y) (fun d y => kp d _ y) fun d xs y => kp d _ y
theorem pe_listZip (hc : X.calm = true) (ha : PA X [a, b] ta) (hg : Gl X "list") (hm : X.mg "list" = none) (hg2 : Gl X "zip") (hm2 : X.mg "zip" = none)
    (hs : starEach [.Call (.Name "zip" p2) [a, b] [] pos2] X.env = (false, eval (.Call (.Name "zip" p2) [a, b] [] pos2) X.env) :: starEach [] X.env := by rfl)
    (hs2 : starEach [a, b] X.env = (false, eval a X.env) :: starEach [b] X.env := by rfl) (hpl : (backTo pos2 (starEach [b] X.env)).any (·.1) = false := by rfl) :
    PE X (.Call (.Name "list" p) [.Call (.Name "zip" p2) [a, b] [] pos2] [] pos) (tListZip X.K ta) := by
  refine ⟨fun pins s σ H Q I hq => ?_⟩
  refine wpAny_Call_Name_kw (ld_blt I hg hm PyProof.Rows.boot_list ?_)
  refine PyProof.Rows.callWith_type1 ?_ hs rfl
  rw [hs]
  show wpAny _ _ (spliced ((false, eval (.Call (.Name "zip" p2) [a, b] [] pos2) X.env) :: backTo pos (starEach [] X.env))) _ _ s
  refine Calls.spliced_cons ?_
  refine Call_ (ld_blt I hg2 hm2 PyProof.Rows.boot_zip (PyProof.Rows.callWith_type1 (thn (ha.run pos2 pins s σ H _ I hq) fun us s1 h1 => ?_) hs2 hpl))
  obtain ⟨vs, H1, I1, r1, l1, l2, xs, ys, rfl, hqx, hqy, hxy, hne, q⟩ := h1
  cases r1 with
  | cons r rr =>
    cases rr with
    | cons r' rr =>
      cases rr
      cases r
      cases r'
      obtain ⟨us, rx, p1, hz⟩ := I1.list hqx
      obtain ⟨ws, ry, p2', _⟩ := I1.list hqy
      have lx := rx.length
      have ly := ry.length
      have xp : 0 < xs.length := List.length_pos_iff.mpr hne
      refine wpAny_mono (zl_call (Q := fun v s' => ∃ x H', Inv X pins σ H' s' ∧ RelV x v ∧ Q x H') (I1.ok.hd hc) p1.isList p2'.isList (by simp; omega) (by simp; omega) (by simp; omega) p1.lt p2'.lt fun S h' tk acc c as sS hk hS hl hG hacc => ?_) (fun x s' hx => Calls.spliced_nil hx) fun _ _ e => e
      obtain ⟨H', k1, k2, k3, k4, J⟩ := zip_laid (tk := tk) I1 hz rx ry hxy sS hk hS (by simpa using hl) hG hacc
      exact ⟨.ref S, H', J, rfl, q H' S as k1 k2 k3 (by simp at hl; omega) k4⟩
end
end Pw

namespace Pw
open PySem PySem.Spec PyProof.Rows L2
/-- a list or a tuple, by a word of one's own that keeps it -/
def iSqG (K : PySem.W.Frag) (tl : TE) : TI := fun σ H R => tl σ H fun x H1 => ∃ a xs, ∃ g : Hp → Prop, x = .ref a ∧ g H1 ∧ ((∀ H', g H' → SqL K H' a xs) ∨ (∀ H', g H' → SqT K H' a xs)) ∧
  ∀ (J : It) (G : Hp → Prop), (∀ H', g H' → G H') → Walk J xs.length G (YAt xs) → R J H1
theorem pi_sqG {X : Cx} {tg l : Expr} {tl : TE} (hl : PE X l tl) : PI X tg l (iSqG X.K tl) := by
  refine ⟨fun pins s σ H R I h => ?_⟩
  refine thn (hl.run pins s σ H _ I h) fun v s1 hv => ?_
  obtain ⟨x, H1, I1, r1, a, xs, g, rfl, g1, hs, q⟩ := hv
  obtain rfl : v = Value.ref a := r1
  rcases hs with hq | hq
  · obtain ⟨its, rv, p, hz⟩ := I1.list (hq _ g1)
    refine wpAny_pyIter_list (PlainL.isList p) ⟨s1.heap.objs.size, [s1.heap.objs.size], fun i h => h.IsListIter s1.heap.objs.size a i, Itl X.K a, H1, rfl, I1.kept fun b o e => Heap.get?_push_of_some _ e, turn_list a _,
      ⟨_, Heap.get?_push_size _ rfl, rfl, rfl⟩, fun b hb => ?_, q _ (fun H => SqL X.K H a xs) hq walk_list⟩
    rw [List.mem_singleton.mp hb]
    exact I1.fpOk (Nat.le_refl _) (HOk.fresh I1.hok (Nat.le_refl _))
  · obtain ⟨its, rv, p, hz⟩ := I1.tuple (hq _ g1)
    refine wpAny_pyIter_tuple p ⟨s1.heap.objs.size, [s1.heap.objs.size], fun i h => h.IsTupleIter s1.heap.objs.size a i, Itt X.K a, H1, rfl, I1.kept fun b o e => Heap.get?_push_of_some _ e, turn_tuple a _,
      ⟨_, Heap.get?_push_size _ rfl, rfl, rfl⟩, fun b hb => ?_, q _ (fun H => SqT X.K H a xs) hq walk_tup⟩
    rw [List.mem_singleton.mp hb]
    exact I1.fpOk (Nat.le_refl _) (HOk.fresh I1.hok (Nat.le_refl _))
theorem Sq.ok {K : PySem.W.Frag} {H : Hp} {a : Addr} {xs : List V} (h : Sq K H a xs) : (∀ H', Same H H' → SqL K H' a xs) ∨ (∀ H', Same H H' → SqT K H' a xs) :=
  h.imp (fun z H' S => Same.seq S z) fun z H' S => z.imp (fun r => Rd_same S r) id
end Pw

set_option maxHeartbeats 8000000
namespace V51
open PySem PySem.Spec PyProof.Rows L2 Pw
theorem pi_sqGK {X : Cx} {K : PySem.W.Frag} {tg l : Expr} {tl : TE} (hK : X.K = K) (h : PE X l tl) : PI X tg l (iSqG K tl) := hK ▸ pi_sqG h
/-- the times of some rows, in a span -/
def timesIn (a b : Int) (rs : List R3) (t : Int) : Prop := ∃ r ∈ rs, r.1 = t ∧ a < t ∧ t ≤ b
def sigs (hs : List (Str × List R3)) : Nat := (hs.map fun h => h.2.length).sum
theorem al_of {α : Type} {f : α → List V} {H : Hp} : ∀ {vs : List V} {rs : List α}, vs.length = rs.length → (∀ (i : Nat) r, rs[i]? = some r → ∃ q : Addr, vs[i]? = some (V.ref q) ∧ H q = some (.tup (f r))) → Al f H vs rs
  | [], [], _, _ => .nil
  | [], _ :: _, h, _ => by cases h
  | _ :: _, [], h, _ => by cases h
  | v :: vs, r :: rs, h, k => by
    obtain ⟨q, e, eq⟩ := k 0 r rfl
    simp only [List.getElem?_cons_zero, Option.some.injEq] at e
    subst e
    exact .cons eq (al_of (Nat.succ.inj h) fun i r er => by simpa using k (i + 1) r (by simpa using er))
section
variable {P : Program} {w : World} {K : PySem.W.Frag} {mg : Str → Option Value} {base : Heap}
def StOk (a b : Int) (hs : List (Str × List R3)) (st : List (Int × Int)) : Prop :=
  (b < a ∧ st = []) ∨ (a ≤ b ∧ ∃ ts, st = stch a ts b ∧ (a :: ts).Pairwise (· < ·) ∧ (∀ t, t ∈ ts ↔ ∃ h ∈ hs, timesIn a b h.2 t) ∧ ts.length ≤ 1000)
def spStr (K : PySem.W.Frag) : Sp := fun vs H Q _ => ∃ d a b kvs hs, vs = [.ref d, .int a, .int b] ∧ H d = some (.dK kvs) ∧ HA (wo H d) kvs hs ∧ sigs hs ≤ 1000 ∧
  ∀ l H' ps st, Same H H' → H l = none → H' l = some (.lst ps) → Al f2 H' ps st → StOk a b hs st → Q (.ref l) H'
theorem d_str (T : Txt mg) (A : At K mg "_stretches" sStretches) : Def P w K mg base "_stretches" 1 ["histories", "since", "till"] (spStr K) := by
  refine mkDef A scStretches (fun _ _ _ _ _ _ us hl => match us, hl with | [_, _, _], _ => rfl) (fun vs H Q E ⟨_, _, _, _, _, e, _⟩ => by rw [e]; rfl)
    (fun f cdv A out s H vs Q E hr h => ?_)
  obtain ⟨d, a, b, kvs, hs, rfl, ed, ha, h8, k⟩ := h
  have k1 : b < a → ∀ l H', Same H H' → H l = none → H' l = some (.lst []) → Q (.ref l) H' := fun lt l H' S n e => k l H' [] [] S n e .nil (.inl ⟨lt, rfl⟩)
  have k2 : a ≤ b → ∀ l H' ps ts, Same H H' → H l = none → H' l = some (.lst ps) → Al f2 H' ps (stch a ts b) → (a :: ts).Pairwise (· < ·) → (∀ t, t ∈ ts ↔ ∃ h ∈ hs, timesIn a b h.2 t) → ts.length ≤ 1000 → Q (.ref l) H' :=
    fun le l H' ps ts S n e alp pw mem len => k l H' ps _ S n e alp (.inr ⟨le, ts, rfl, pw, mem, len⟩)
  refine ⟨_, (pss_cons (ps_if (pt_cmpR op_lt (pv 2) (pv 1) (nomark _))
      (pss_one (ps_ret (pe_lst pa_nil)))
      pss_nil)
    (pss_cons (ps_lock (ps_setScQ2 (i := 3) (own := [("rows", 5), ("time", 6), ("_", 7)]) (vs1 := [6, 7]) (g := gName 5) (tt := tYes) (g1 := (gTup K 3 (gCons (gName 6) (gCons (gName 7) (gCons (gName 7) gNil))))) rfl scStretches.nd rfl rfl (sw_trueS rfl rfl rfl (by decide +kernel)) (pi_values (pv 0))
        (blkOk_by (own := [("rows", 5), ("time", 6), ("_", 7)]) (N := ["histories", "since", "till", "times", "firsts", "rows", "time", "_", "first"]) (sc := defScope sStretches) (by decide +kernel)) (by decide)
        (fun _ _ _ _ _ => (pg_name (i := 5) scStretches.nd rfl (.inl rfl))) (fun _ _ _ _ _ => pts_nil)
        (fun _ _ _ _ _ => (pi_sqGK (K := K) rfl (pv 5))) (fun _ _ _ _ _ => (pg_tup (by rfl) (pgs_cons (pg_name (i := 6) scStretches.nd rfl (.inl rfl)) (pgs_cons (pg_name (i := 7) scStretches.nd rfl (.inl rfl)) (pgs_cons (pg_name (i := 7) scStretches.nd rfl (.inl rfl)) pgs_nil)))))
        (fun _ _ _ _ _ => (pts_one (pt_chain op_lt op_le (pv 1) (pv 6) (pv 2))))
        (fun _ _ _ _ _ => (pv 6))))
    (pss_cons (ps_set (i := 4) scStretches.nd rfl (.inl rfl) (pe_lst (pa_cons (pv 1) (StX.pa_star (pe_callB (cr_sortedQI rfl) (by rfl) T.sorted (by decide +kernel) (pa_cons (pv 3) pa_nil)) pa_nil))))
    (pss_one (ps_ret (pe_listZip rfl (pa_cons (pv 4) (pa_cons (pe_op op_cat (pe_lc (own := [("first", 8)]) (g := gName 8) (tt := tYes) rfl scStretches.nd (pi_list (pe_slice sl_list (pv 4) (po_some pe_int) po_none))
        (blkOk_by (own := [("first", 8)]) (N := ["histories", "since", "till", "times", "firsts", "rows", "time", "_", "first"]) (sc := defScope sStretches) (by decide +kernel))
        (fun _ _ _ _ _ => (pg_name (i := 8) scStretches.nd rfl (.inl rfl))) (fun _ _ _ _ _ => pts_nil)
        (fun _ _ _ _ _ => (pe_op op_sub (pv 8) pe_int))) (pe_lst (pa_cons (pv 2) pa_nil))) pa_nil)) (by rfl) T.list (by rfl) T.zip)))))), ?_⟩
  refine ⟨_, rfl, _, rfl, b, a, rfl, rfl, _, rfl, ?_⟩
  by_cases hlt : b < a
  · rw [decide_eq_true hlt]
    exact iteT ⟨by show 0 ≤ sizeLine; decide, fun l nl => k1 hlt l _ (Same.laid nl) nl upd_same⟩
  rw [decide_eq_false hlt]
  refine iteF ?_
  refine ⟨d, _, ed, trivial, fun od => ?_⟩
  have ed1 : upd H d (.frz od (.dK kvs)) d = some (.frz od (.dK kvs)) := upd_same
  have S0 : Same (wo H d) (wo (upd H d (.frz od (.dK kvs))) d) := by rw [wo_upd]; exact Same.refl _
  generalize upd H d (.frz od (.dK kvs)) = H1 at *
  refine ⟨_, rfl, d, od, kvs, rfl, ed1, fun D nD => ?_⟩
  have hlen := ha.length
  have nDH : H D = none := by
    by_cases h : D = d
    · rw [h, ed1] at nD; cases nD
    · have := S0
      cases e : H D with
      | none => rfl
      | some o =>
        have := wo_same _ _ (S0 _ _ (wo_of h e))
        rw [nD] at this; cases this
  have dD : d ≠ D := ne_of_none ed1 nD
  refine sq2_it (walk_values (d := d) (o := od) (kvs := kvs)) (fun i X => Same (wo H d) (wo X d) ∧ X d = some (.frz od (.dK kvs)) ∧ ∃ (S : Key → Bool) (n : Nat), X D = some (SetQO P w D S n) ∧ n ≤ sigs (hs.take i) ∧ (∀ u, S (.inr u) = false) ∧ ∀ t, S (.inl t) = true ↔ ∃ h ∈ hs.take i, timesIn a b h.2 t) ?_ (fun i X _ h => h.2.1) ?_ ?_
  · exact ⟨fun c o e => by
      have h1 := S0 _ _ e
      have cd : c ≠ d := fun z => by rw [z, wo_none_at] at e; cases e
      exact wo_of cd ((upd_ne (fun z => by rw [z, wo_ne dD.symm, nD] at h1; cases h1)).trans (wo_same _ _ h1)), (upd_ne dD).trans ed1, _, 0, upd_same, by omega, fun _ => rfl, fun t => by simp⟩
  · rintro i v H5 H4 hi ⟨S4, e4, S, n, eD, nl, h1, h2⟩ ⟨rfl, kk, hx⟩
    obtain ⟨nm, rs, ra, rfl, rfl, ehs, ls⟩ := (ha.same S4).get hx
    have notD : ∀ {c : Addr} {o : HO}, wo H4 d c = some o → ((∃ vs, o = .lst vs) ∨ ∃ vs, o = .tup vs) → c ≠ D := fun {c o} e hl z => by
      subst z
      have e2 := Option.some.inj (eD.symm.trans (wo_same _ _ e))
      unfold SetQO at e2
      rcases hl with ⟨_, h⟩ | ⟨_, h⟩ <;> (rw [h] at e2; cases e2)
    have lsD : LS f3 (wo (wo H4 d) D) ra rs := LS.imp ls fun c o e hl => wo_of (notD e hl) e
    obtain ⟨vr, sq, alD⟩ := LS.sq (K := K) lsD
    have lr := alD.length
    refine ⟨rfl, ?_⟩
    unfold tYes
    refine iteT ?_
    refine ⟨_, rfl, ra, vr, fun X => Same (wo (wo H4 d) D) (wo (wo X d) D), rfl, Same.refl _, (Sq.ok sq).imp (fun z H' S => z H' ((S.trans wo_same).trans wo_same)) (fun z H' S => z H' ((S.trans wo_same).trans wo_same)), fun J G hG wk => ?_⟩
    refine sc_in wk (fun j X => Same (wo (wo H4 d) D) (wo (wo X d) D) ∧ X d = some (.frz od (.dK kvs)) ∧ ∃ (S : Key → Bool) (n : Nat), X D = some (SetQO P w D S n) ∧ n ≤ sigs (hs.take i) + j ∧ (∀ u, S (.inr u) = false) ∧
      ∀ t, S (.inl t) = true ↔ (∃ h ∈ hs.take i, timesIn a b h.2 t) ∨ timesIn a b (rs.take j) t) ?_ (fun j X _ h => hG X h.1) ?_ ?_
    · exact ⟨Same.refl _, e4, S, n, eD, nl, h1, fun t => by rw [h2]; simp [timesIn]⟩
    · rintro j x X0 X hj ⟨gX, eX, S, n, eDX, nl, h1, h2⟩ ⟨rfl, hx⟩
      obtain ⟨q, r, rfl, hr', er⟩ := (alD.same gX).get hx
      have er' := wo_same _ _ (wo_same _ _ er)
      refine ⟨q, _, rfl, SqT.of er', rfl, _, _, rfl, _, _, rfl, _, _, rfl, rfl, ?_⟩
      refine ⟨rfl, ?_⟩
      have et2 : rs.take (j + 1) = rs.take j ++ [r] := by rw [List.take_add_one, hr']; rfl
      have tm : ∀ t, timesIn a b (rs.take (j + 1)) t ↔ timesIn a b (rs.take j) t ∨ (r.1 = t ∧ a < t ∧ t ≤ b) := fun t => by
        rw [et2]
        constructor
        · rintro ⟨x, hx, z⟩
          rcases List.mem_append.mp hx with hx | hx
          · exact .inl ⟨x, hx, z⟩
          · rw [List.mem_singleton.mp hx] at z
            exact .inr z
        · rintro (⟨x, hx, z⟩ | z)
          · exact ⟨x, List.mem_append_left _ hx, z⟩
          · exact ⟨r, List.mem_append_right _ (List.mem_singleton.mpr rfl), z⟩
      have out : ¬ (a < r.1 ∧ r.1 ≤ b) → Same (wo (wo H4 d) D) (wo (wo X d) D) ∧ X d = some (.frz od (.dK kvs)) ∧ ∃ (S : Key → Bool) (n : Nat), X D = some (SetQO P w D S n) ∧ n ≤ sigs (hs.take i) + (j + 1) ∧ (∀ u, S (.inr u) = false) ∧
          ∀ t, S (.inl t) = true ↔ (∃ h ∈ hs.take i, timesIn a b h.2 t) ∨ timesIn a b (rs.take (j + 1)) t := fun no => ⟨gX, eX, S, n, eDX, by omega, h1, fun t => by
        rw [h2, tm]
        refine or_congr Iff.rfl ⟨.inl, ?_⟩
        rintro (z | ⟨rfl, z⟩)
        · exact z
        · exact absurd z no⟩
      refine ⟨_, rfl, _, rfl, a, r.1, rfl, rfl, _, rfl, ?_⟩
      by_cases c1 : a < r.1
      · rw [decide_eq_true c1]
        refine iteT ⟨_, rfl, r.1, b, rfl, rfl, _, rfl, ?_⟩
        by_cases c2 : r.1 ≤ b
        · rw [decide_eq_true c2]
          have n2 := nl
          have nj : n + 1 ≤ 2001 := by
            have : sigs (hs.take i) ≤ sigs hs := by
              unfold sigs
              rw [← List.take_append_drop i hs, List.map_append, List.sum_append, List.take_append_drop]
              simp
            have : rs.length ≤ sigs hs := by
              unfold sigs
              have := List.mem_of_getElem? ehs
              obtain ⟨l1, l2, e⟩ := List.append_of_mem this
              rw [e]
              simp
              omega
            omega
          refine iteT ⟨_, rfl, .inl r.1, S, n, rfl, eDX, Nat.lt_of_le_of_lt nj (by decide), ?_, ?_, _, _, upd_same, by split <;> omega, fun u => ?_, fun t => ?_⟩
          · exact fun c o e => by
              have e' := gX _ _ e
              have cD : c ≠ D := fun z => by rw [z, wo_none_at] at e; cases e
              have cd : c ≠ d := fun z => by rw [wo_ne cD, z, wo_none_at] at e; cases e
              exact wo_of cD (wo_of cd ((upd_ne cD).trans (wo_same _ _ (wo_same _ _ e'))))
          · exact (upd_ne dD).trans eX
          · show (S (.inr u) || decide ((Sum.inr u : Key) = .inl r.1)) = false
            rw [h1, decide_eq_false (fun z => nomatch z)]
            rfl
          · show (S (.inl t) || decide ((Sum.inl t : Key) = .inl r.1)) = true ↔ _
            rw [tm, Bool.or_eq_true, decide_eq_true_eq, h2, or_assoc]
            refine or_congr Iff.rfl (or_congr Iff.rfl ⟨fun z => ?_, fun z => ?_⟩)
            · have z' := Sum.inl.inj z
              subst z'
              exact ⟨rfl, c1, c2⟩
            · rw [z.1]
        · rw [decide_eq_false c2]
          exact iteF (out fun z => c2 z.2)
      · rw [decide_eq_false c1]
        exact iteF ⟨_, rfl, iteF (out fun z => c1 z.1)⟩
    · rintro X ⟨gX, eX, S, n, eDX, nl, h1, h2⟩
      rw [show vr.length = rs.length by omega, List.take_length] at h2
      have et : hs.take (i + 1) = hs.take i ++ [(nm, rs)] := by rw [List.take_add_one, ehs]; rfl
      refine ⟨fun c o e => ?_, eX, S, n, eDX, ?_, h1, fun t => ?_⟩
      · have cD : c ≠ D := fun z => by
          subst z
          have := wo_same _ _ e
          rw [nDH] at this
          cases this
        exact wo_same _ _ (gX _ _ (wo_of cD (S4 _ _ e)))
      · rw [et]
        unfold sigs at nl ⊢
        rw [List.map_append, List.sum_append]
        simp only [List.map_cons, List.map_nil, List.sum_cons, List.sum_nil]
        omega
      · rw [h2, et]
        constructor
        · rintro (⟨h, hh, z⟩ | z)
          · exact ⟨h, List.mem_append_left _ hh, z⟩
          · exact ⟨_, List.mem_append_right _ (List.mem_singleton.mpr rfl), z⟩
        · rintro ⟨h, hh, z⟩
          rcases List.mem_append.mp hh with hh | hh
          · exact .inl ⟨h, hh, z⟩
          · rw [List.mem_singleton.mp hh] at z
            exact .inr z
  · rintro H4 ⟨S4, e4, S, n, eD, nl, h1, h2⟩
    refine ⟨e4, ?_⟩
    have SH : Same H (upd H4 d (.dK kvs)) := Same.wo_back S4 ed
    have eD5 : upd H4 d (.dK kvs) D = some (SetQO P w D S n) := (upd_ne dD.symm).trans eD
    generalize upd H4 d (.dK kvs) = H5 at *
    rw [show kvs.length = hs.length from hlen, List.take_length] at h2 nl
    refine ⟨_, rfl, _, rfl, D, S, n, rfl, eD5, h1, fun ts L pw mem len nL => ?_⟩
    have S6 := Same.laid (o := HO.lst (ts.map V.int)) nL
    have eL : upd H5 L (.lst (ts.map V.int)) L = some (.lst (ts.map V.int)) := upd_same
    generalize upd H5 L (.lst (ts.map V.int)) = H6 at *
    refine ⟨L, _, rfl, .inr (SqL.of eL), ?_⟩
    refine ⟨?_, fun F nF => ?_⟩
    · simp only [List.length_cons, List.length_append, List.length_map, List.length_nil]
      exact Nat.le_trans (show ts.length + 0 + 1 ≤ 1001 by omega) (by decide)
    have S7 := Same.laid (o := HO.lst (V.int a :: (ts.map V.int ++ []))) nF
    have eF : upd H6 F (.lst (V.int a :: (ts.map V.int ++ []))) F = some (.lst (V.int a :: (ts.map V.int ++ []))) := upd_same
    generalize upd H6 F (.lst (V.int a :: (ts.map V.int ++ []))) = H7 at *
    rw [List.append_nil] at eF
    dsimp only [gName]
    refine ⟨_, rfl, _, rfl, 1, rfl, F, _, rfl, SqL.of eF, fun L1 nL1 => ?_⟩
    rw [cut1, List.drop_succ_cons, List.drop_zero]
    have S8 := Same.laid (o := HO.lst (ts.map V.int)) nL1
    have eL1 : upd H7 L1 (.lst (ts.map V.int)) L1 = some (.lst (ts.map V.int)) := upd_same
    generalize upd H7 L1 (.lst (ts.map V.int)) = H8 at *
    refine ⟨L1, rfl, ⟨_, SqL.of eL1⟩, fun D2 nD2 => ?_⟩
    refine lc_acc (walk_list (K := K) (a := L1) (xs := ts.map V.int)) nD2 (by rw [List.length_map]; omega) (fun j acc _ => acc = ((ts.take j).map (· - 1)).map V.int) rfl (fun H' S => SqL.of (S _ _ eL1)) ?_ ?_
    · rintro j v Y0 Y acc hj S9 eY hl3 rfl ⟨rfl, hx⟩ Gy Gn gy1 _
      rw [List.getElem?_map] at hx
      obtain ⟨t, et, rfl⟩ := Option.map_eq_some_iff.mp hx
      refine ⟨rfl, ?_⟩
      unfold tYes
      refine iteT ?_
      refine ⟨_, rfl, _, _, rfl, rfl, ?_⟩
      refine gy1 _ _ (Same.refl _) ?_
      rw [List.take_add_one, et, List.map_append, List.map_append]
      rfl
    rintro H9 acc S9 eD2 rfl
    rw [List.length_map, List.take_length] at eD2
    refine ⟨_, rfl, by show 1 ≤ sizeLine; decide, fun B nB => ?_⟩
    have S10 := Same.laid (o := HO.lst [V.int b]) nB
    have eB : upd H9 B (.lst [V.int b]) B = some (.lst [V.int b]) := upd_same
    generalize upd H9 B (.lst [V.int b]) = H10 at *
    refine ⟨D2, B, _, _, rfl, rfl, S10 _ _ eD2, eB, ?_, fun C nC => ?_⟩
    · simp only [List.length_map, List.length_cons, List.length_nil]
      exact Nat.le_trans (show ts.length + (0 + 1) ≤ 1001 by omega) (by decide)
    have S11 := Same.laid (o := HO.lst ((ts.map (· - 1)).map V.int ++ [V.int b])) nC
    have eC : upd H10 C (.lst ((ts.map (· - 1)).map V.int ++ [V.int b])) C = some (.lst ((ts.map (· - 1)).map V.int ++ [V.int b])) := upd_same
    generalize upd H10 C (.lst ((ts.map (· - 1)).map V.int ++ [V.int b])) = H11 at *
    have S711 := S8.trans (S9.trans (S10.trans S11))
    refine ⟨F, C, _, _, rfl, SqL.of (S711 _ _ eF), SqL.of eC, by simp, by simp, fun H12 l qs S12 nl el ql hq => ?_⟩
    have S12' : Same H H12 := SH.trans (S6.trans (S7.trans (S711.trans S12)))
    have ale : a ≤ b := Int.not_lt.mp hlt
    have zp := zip_stch ts a b
    refine k2 ale l H12 _ ts S12' (Same.no (SH.trans (S6.trans (S7.trans S711))) nl) el ?_ ?_ (fun t => (mem t).trans (h2 t)) (by omega)
    · have lz : (stch a ts b).length = qs.length := by
        rw [stch_len, ql]
        simp
      refine al_of (by rw [List.length_map]; exact lz.symm) fun i r er => ?_
      rw [← zp, List.getElem?_zip_eq_some] at er
      obtain ⟨q, eq⟩ : ∃ q, qs[i]? = some q := by
        have h1 := (List.getElem?_eq_some_iff.mp er.1).1
        have h2 := stch_len a ts b
        rw [List.length_cons] at h1
        exact ⟨qs[i]'(by omega), List.getElem?_eq_getElem (by omega)⟩
      obtain ⟨x, y, e1, e2, e3⟩ := hq i q eq
      refine ⟨q, by rw [List.getElem?_map, eq]; rfl, ?_⟩
      have e1' : (V.int a :: ts.map V.int) = (a :: ts).map V.int := rfl
      have e2' : ((ts.map (· - 1)).map V.int ++ [V.int b]) = (ts.map (· - 1) ++ [b]).map V.int := by rw [List.map_append]; rfl
      rw [e1', List.getElem?_map, er.1] at e1
      rw [e2', List.getElem?_map, er.2] at e2
      cases e1
      cases e2
      exact e3
    · rw [List.pairwise_cons]
      refine ⟨fun t ht => ?_, pw⟩
      obtain ⟨h, _, r, _, _, lt, _⟩ := (h2 t).mp ((mem t).mp ht)
      exact lt
end
end V51

set_option maxHeartbeats 8000000
namespace V51
open PySem PySem.Spec PyProof.Rows L2 Pw
theorem picM_eq {ps : List Pt} {hs : List (Str × List R3)} {T T' : Int} (h : ∀ x ∈ hs, ∀ r ∈ x.2, (r.1 ≤ T ↔ r.1 ≤ T')) : picM ps hs T = picM ps hs T' := by
  unfold picM
  have : ∀ pt : Pt, rowAt ((hget hs pt.nm).getD []) T = rowAt ((hget hs pt.nm).getD []) T' := fun pt => by
    unfold rowAt
    congr 1
    refine List.filter_congr fun r hr => ?_
    cases e : hget hs pt.nm with
    | none => rw [e] at hr; cases hr
    | some rs =>
      rw [e] at hr
      unfold hget at e
      obtain ⟨x, hf, rfl⟩ := Option.map_eq_some_iff.mp e
      have := h x (List.mem_of_find?_eq_some hf) r hr
      by_cases c : r.1 ≤ T
      · rw [decide_eq_true c, decide_eq_true (this.mp c)]
      · rw [decide_eq_false c, decide_eq_false fun z => c (this.mpr z)]
  congr 1
  funext pt
  rw [this pt]
/-- what is broken at each tick -/
def Nb (ps : List Pt) (hs : List (Str × List R3)) (rs : List Rel) (t : Int) : List Int := brk (picM ps hs t) rs
theorem nb_const {ps : List Pt} {hs : List (Str × List R3)} {rs : List Rel} {a b : Int} {ts : List Int} (pw : (a :: ts).Pairwise (· < ·)) (mem : ∀ t, t ∈ ts ↔ ∃ h ∈ hs, timesIn a b h.2 t) (ab : a ≤ b) :
    ∀ p ∈ stch a ts b, ∀ t, p.1 ≤ t → t ≤ p.2 → Nb ps hs rs t = Nb ps hs rs p.1 := by
  intro p hp t h1 h2
  have bd : ∀ x ∈ a :: ts, x ≤ b := fun x hx => by
    rcases List.mem_cons.mp hx with rfl | hx
    · exact ab
    · obtain ⟨_, _, _, _, _, _, z⟩ := (mem x).mp hx
      exact z
  obtain ⟨_, p2, p3⟩ := stch_snd ts a b pw bd p hp
  unfold Nb
  have e : picM ps hs t = picM ps hs p.1 := by
    refine picM_eq fun x hx r hr => ⟨fun c => ?_, fun c => by omega⟩
    by_cases lt : p.1 < r.1
    · have hin : r.1 ∈ ts := (mem r.1).mpr ⟨x, hx, r, hr, rfl, by omega, by omega⟩
      rcases stch_gap ts a b pw p hp r.1 (List.mem_cons_of_mem _ hin) lt with z | z <;> omega
    · omega
  rw [e]
section
variable {P : Program} {w : World} {K : PySem.W.Frag} {mg : Str → Option Value} {base : Heap} {C : Addr}
def spSpans (C : Addr) (K : PySem.W.Frag) : Sp := fun vs H Q _ => ∃ p d a b W ps kvs hs rs, vs = [.ref p, .ref d, .int a, .int b] ∧ HsAt K C H p d W ps kvs hs ∧ sigs hs ≤ 1000 ∧ AlR H W.xl rs ∧ (∀ r ∈ rs, GoodRel ps r) ∧ rs.length ≤ 5 ∧
  (0 ≤ a ∧ a ≤ 9999) ∧ (0 ≤ b ∧ b ≤ 9999) ∧ ∀ l H' xs, Same H H' → H l = none → H' l = some (.lst xs) → AlS H' xs (spansM (Nb ps hs rs) a b) → (spansM (Nb ps hs rs) a b).length ≤ 1001 → Q (.ref l) H'
theorem d_spans (T : Txt mg) (Wc : WoC K C) (A : At K mg "spans" sSpans) (dc : Def P w K mg base "_check_histories" 8 ["works", "thing"] (spCHist C K)) (dt : Def P w K mg base "check_time" 5 ["thing"] (spIn 0 9999))
    (dr : DefM P w K mg base C "relations" 1 ["self"] (spRl C K)) (ds : Def P w K mg base "_stretches" 1 ["histories", "since", "till"] (spStr K)) (di : Def P w K mg base "_picture_in" 2 ["works", "histories", "time"] (spPicIn C K))
    (db : Def P w K mg base "_broken_in" 3 ["relations", "picture"] (spBrkIn K)) (da : Def P w K mg base "_add_span" 1 ["found", "span"] (spAddSp K)) :
    Def P w K mg base "spans" 9 ["works", "histories", "since", "till"] (spSpans C K) := by
  refine mkDef A scSpans (fun _ _ _ _ _ _ us hl => match us, hl with | [_, _, _, _], _ => rfl) (fun vs H Q E ⟨_, _, _, _, _, _, _, _, _, e, _⟩ => by rw [e]; rfl)
    (fun f cdv A out s H vs Q E hr h => ?_)
  obtain ⟨p, d, a, b, W, ps, kvs, hs, rs, rfl, hh, h8, al, gr, r5, ha, hb, k⟩ := h
  refine ⟨_, (pss_cons (ps_expr (pe_d dc hr (by decide) (by rfl) (pa_cons (pv 0) (pa_cons (pv 1) pa_nil))))
    (pss_cons (ps_expr (pe_d dt hr (by decide) (by rfl) (pa_cons (pv 2) pa_nil)))
    (pss_cons (ps_expr (pe_d dt hr (by decide) (by rfl) (pa_cons (pv 3) pa_nil)))
    (pss_cons (ps_set (i := 4) scSpans.nd rfl (.inl rfl) (pe_mm0 (pv 0) Wc.cl dr hr (by decide)))
    (pss_cons (ps_set (i := 5) scSpans.nd rfl (.inl rfl) (pe_lst pa_nil))
    (pss_cons (ps_for PassesOwn.never rfl (pi_list (pe_d ds hr (by decide) (by rfl) (pa_cons (pv 1) (pa_cons (pv 2) (pa_cons (pv 3) pa_nil))))) (pg_tup (by rfl) (pgs_cons (pg_name (i := 6) scSpans.nd rfl (.inl rfl)) (pgs_cons (pg_name (i := 7) scSpans.nd rfl (.inl rfl)) pgs_nil)))
      (pss_cons (ps_set (i := 8) scSpans.nd rfl (.inl rfl) (pe_callTy call_tuple_of (by rfl) T.tuple (by decide +kernel) (pa_cons (pe_d db hr (by decide) (by rfl) (pa_cons (pv 4) (pa_cons (pe_d di hr (by decide) (by rfl) (pa_cons (pv 0) (pa_cons (pv 1) (pa_cons (pv 6) pa_nil)))) pa_nil))) pa_nil)))
      (pss_one (ps_if (pt_truth (pv 8) (by intro _; rfl))
        (pss_one (ps_expr (pe_d da hr (by decide) (by rfl) (pa_cons (pv 5) (pa_cons (pe_tup (pa_cons (pv 6) (pa_cons (pv 7) (pa_cons (pv 8) pa_nil)))) pa_nil)))))
        pss_nil))))
    (pss_one (ps_ret (pv 5))))))))), ?_⟩
  refine ⟨_, rfl, _, rfl, p, d, W, ps, kvs, hs, rfl, hh, fun H1 S1 => ?_⟩
  refine ⟨_, rfl, a, rfl, ha.1, ha.2, ?_⟩
  refine ⟨_, rfl, b, rfl, hb.1, hb.2, ?_⟩
  have hh1 := hh.same S1
  have hw := hh1.wk.same wo_same
  obtain ⟨dx, tp, dp, tr, dr', tc, tm, dm, tl, e0, _⟩ := hw.wo.ex
  refine ⟨_, rfl, p, dx, _, rfl, e0, wof_no (by decide +kernel) (by decide +kernel) (by decide +kernel) (by decide +kernel) (by decide +kernel) (by decide +kernel) (by decide +kernel) (by decide +kernel), p, W, rfl, hw.wo, fun R H2 S2 nR eR => ?_⟩
  dsimp only [gName]
  refine ⟨by show 0 ≤ sizeLine; decide, fun F nF => ?_⟩
  have S3 := Same.laid (o := HO.lst []) nF
  have eF : upd H2 F (.lst []) F = some (.lst []) := upd_same
  have FN : H F = none := Same.no (S1.trans S2) nF
  generalize upd H2 F (.lst []) = H3 at *
  dsimp only [gName]
  have S13 := S1.trans (S2.trans S3)
  have hh3 := hh.same S13
  refine ⟨_, rfl, _, rfl, _, rfl, d, a, b, kvs, hs, rfl, hh3.ed, hh3.ha, h8, fun l H4 pv st S4 nl el alp ok => ?_⟩
  obtain ⟨bds, stl, res⟩ : (∀ p ∈ st, 0 ≤ p.1 ∧ p.1 ≤ 9999) ∧ st.length ≤ 1001 ∧ (st.map fun p => (p.1, p.2, Nb ps hs rs p.1)).foldl addS [] = spansM (Nb ps hs rs) a b := by
    rcases ok with ⟨lt, rfl⟩ | ⟨le, ts, rfl, pw, mem, len⟩
    · exact ⟨(fun p hp => nomatch hp), by simp, by rw [spansM_no lt]; rfl⟩
    · have bd : ∀ x ∈ a :: ts, x ≤ b := fun x hx => by
        rcases List.mem_cons.mp hx with rfl | hx
        · exact le
        · obtain ⟨_, _, _, _, _, _, z⟩ := (mem x).mp hx
          exact z
      refine ⟨fun p hp => ?_, by rw [stch_len]; omega, stch_tks ts a b [] pw bd (nb_const pw mem le)⟩
      obtain ⟨h1, h2, h3⟩ := stch_snd ts a b pw bd p hp
      omega
  have lF : l ≠ F := fun z => by rw [z, eF] at nl; cases nl
  have plen := alp.length
  refine ⟨l, rfl, ⟨_, SqL.of el⟩, ?_⟩
  refine for_it (walk_list (K := K) (a := l) (xs := pv)) (fun i σ X => (∃ v6 v7 v8 : Option V, σ = [some (.ref p), some (.ref d), some (.int a), some (.int b), some (.ref R), some (.ref F), v6, v7, v8]) ∧ Same (wo H4 F) (wo X F) ∧ ∃ xs, X F = some (.lst xs) ∧ AlS X xs (((st.take i).map fun p => (p.1, p.2, Nb ps hs rs p.1)).foldl addS []))
    ⟨⟨_, _, _, rfl⟩, Same.refl _, [], S4 _ _ eF, .nil⟩ (fun i σ X _ h => SqL.of (wo_same _ _ (h.2.1 _ _ (wo_of lF el)))) ?_ ?_
  · rintro i v σ X0 X hi ⟨⟨v6, v7, v8, rfl⟩, SX, xs, eX, alx⟩ ⟨rfl, hx⟩
    obtain ⟨q, pr, rfl, hpr, eq⟩ := alp.get hx
    have qF : q ≠ F := fun z => by rw [z, S4 _ _ eF] at eq; cases eq
    have hpm := bds pr (List.mem_of_getElem? hpr)
    have et : st.take (i + 1) = st.take i ++ [pr] := by rw [List.take_add_one, hpr]; rfl
    have lenf : (((st.take i).map fun p => (p.1, p.2, Nb ps hs rs p.1)).foldl addS []).length ≤ 100000 := by
      have := addAll_len ((st.take i).map fun p => (p.1, p.2, Nb ps hs rs p.1)) []
      rw [List.length_map, List.length_take, List.length_nil] at this
      omega
    refine ⟨q, _, rfl, SqT.of (wo_same _ _ (SX _ _ (wo_of qF eq))), rfl, _, _, rfl, _, _, rfl, rfl, ?_⟩
    dsimp only [gName]
    -- all but the list stands as it stood
    have SF : ∀ {c : Addr} {o : HO}, H c = some o → X c = some o := fun {c o} e => by
      have cF : c ≠ F := ne_of_none e FN
      exact wo_same _ _ (SX _ _ (wo_of cF (S4 _ _ (S13 _ _ e))))
    have SHx : Same H X := fun c o e => SF e
    have eRX : X R = some (.lst W.xl) := by
      have RF : R ≠ F := ne_of_none eR nF
      exact wo_same _ _ (SX _ _ (wo_of RF (S4 _ _ (S3 _ _ eR))))
    have hhX := hh.same SHx
    refine ⟨_, rfl, _, rfl, _, rfl, _, rfl, p, d, pr.1, W, ps, kvs, hs, rfl, hhX.wk.same wo_same, hhX.ed, hhX.ha.same wo_same, hhX.g, fun B X1 S5 nB eB => ?_⟩
    refine ⟨R, B, W.xl, rs, picM ps hs pr.1, ps, rfl, S5 _ _ eRX, al.same (SHx.trans S5), gr, by omega, eB, fun N X2 S6 nN eN => ?_⟩
    refine ⟨N, _, rfl, .inl ⟨SqL.of eN, fun t nt => ?_⟩⟩
    have S7 := Same.laid (o := HO.tup ((brk (picM ps hs pr.1) rs).map V.int)) nt
    have et' : upd X2 t (.tup ((brk (picM ps hs pr.1) rs).map V.int)) t = some (.tup ((brk (picM ps hs pr.1) rs).map V.int)) := upd_same
    generalize upd X2 t (.tup ((brk (picM ps hs pr.1) rs).map V.int)) = X3 at *
    dsimp only [gName]
    have SX3 := S5.trans (S6.trans S7)
    have eX3 := SX3 _ _ eX
    have gt : Same (wo H4 F) (wo X3 F) := SX.trans (Same.wo SX3)
    refine ⟨_, rfl, !((brk (picM ps hs pr.1) rs).map V.int).isEmpty, .inr (.inl ⟨_, SqT.of et', rfl⟩), ?_⟩
    by_cases z : brk (picM ps hs pr.1) rs = []
    · rw [z]
      refine iteF ⟨⟨_, _, _, rfl⟩, gt, xs, eX3, ?_⟩
      rw [et, List.map_append, List.foldl_append]
      show AlS X3 xs (addS _ (pr.1, pr.2, Nb ps hs rs pr.1))
      rw [addS_no (show ((pr.1, pr.2, Nb ps hs rs pr.1) : Sp3).2.2 = [] from z)]
      exact alx.same SX3
    · rw [show (!((brk (picM ps hs pr.1) rs).map V.int).isEmpty) = true by
        cases e : brk (picM ps hs pr.1) rs with
        | nil => exact absurd e z
        | cons x y => rfl]
      refine iteT ⟨_, rfl, _, rfl, _, rfl, _, rfl, by show 3 ≤ sizeLine; decide, fun q2 n2 => ?_⟩
      have S8 := Same.laid (o := HO.tup [V.int pr.1, .int pr.2, .ref t]) n2
      have e2 : upd X3 q2 (.tup [V.int pr.1, .int pr.2, .ref t]) q2 = some (.tup [V.int pr.1, .int pr.2, .ref t]) := upd_same
      generalize upd X3 q2 (.tup [V.int pr.1, .int pr.2, .ref t]) = X4 at *
      refine ⟨F, q2, t, xs, _, (pr.1, pr.2, Nb ps hs rs pr.1), rfl, S8 _ _ eX3, alx.same (SX3.trans S8), lenf, z, e2, S8 _ _ et', fun X5 ys S9 e5 al5 => ?_⟩
      refine ⟨⟨_, _, _, rfl⟩, gt.trans ((Same.wo S8).trans S9), ys, e5, ?_⟩
      rw [et, List.map_append, List.foldl_append]
      exact al5
  · rintro σ X ⟨⟨v6, v7, v8, rfl⟩, SX, xs, eX, alx⟩
    rw [plen, List.take_length, res] at alx
    refine ⟨_, rfl, k F X xs (fun c o e => ?_) FN eX alx ?_⟩
    · have cF : c ≠ F := ne_of_none e FN
      exact wo_same _ _ (SX _ _ (wo_of cF (S4 _ _ (S13 _ _ e))))
    · rw [← res]
      have := addAll_len (st.map fun p => (p.1, p.2, Nb ps hs rs p.1)) []
      rw [List.length_map, List.length_nil] at this
      omega
end
end V51

set_option maxHeartbeats 8000000
namespace V51
open PySem PySem.Spec PyProof.Rows L2 Pw
/-! ### stretches as data -/
def gS (s : Sp3) : PyData := .tuple [.int s.1, .int s.2.1, .tuple (s.2.2.map .int)]
theorem als_dp {K : PySem.W.Frag} {H : Hp} {vs : List V} {ss : List Sp3} (h : AlS H vs ss) : DpAll K H vs (ss.map gS) := by
  induction h with
  | nil => exact .nil
  | cons e e2 _ ih => exact .cons (.tup (SqT.of e) (.cons (.int _) (.cons (.int _) (.cons (.tup (SqT.of e2) (dp_ints _)) .nil)))) ih
theorem layS : ∀ ss : List Sp3, PyData.canLayAll0 (ss.map gS) = true ∧ PyData.depthAll (ss.map gS) ≤ 2
  | [] => ⟨by simp [PyData.canLayAll0], by simp [PyData.depthAll]⟩
  | s :: ss => by
    obtain ⟨h1, h2⟩ := layS ss
    constructor
    · simp only [List.map_cons, gS, PyData.canLayAll0, PyData.canLay0, lay_ints, Bool.and_self, Bool.true_and]
      exact h1
    · simp only [List.map_cons, gS, PyData.depthAll, PyData.depth, dep_ints]
      have : PyData.depthAll (ss.map gS) ≤ 2 := h2
      unfold gS at this
      omega
theorem shapedS (ss : List Sp3) : SeqAt.shaped (.list (ss.map gS)) = true := by
  obtain ⟨h1, h2⟩ := layS ss
  unfold SeqAt.shaped
  have e1 : PyData.canLay0 (.list (ss.map gS)) = true := by simp only [PyData.canLay0]; exact h1
  have e2 : PyData.depth (.list (ss.map gS)) ≤ 64 := by
    simp only [PyData.depth]
    omega
  rw [e1, decide_eq_true e2]
  rfl
theorem eqv_nilS (ss : List Sp3) : PyData.eqv (.list (ss.map gS)) (.list []) = ss.isEmpty := by
  cases ss <;> simp [PyData.eqv, PyData.eqvAll]
theorem ne_emptyS {K : PySem.W.Frag} {H : Hp} {Q : VK} {a b : Addr} {xs : List V} {ss : List Sp3} (h : H a = some (.lst xs)) (al : AlS H xs ss) (k : H b = some (.lst [])) (q : Q (.bl !ss.isEmpty) H) : rNeD K (.ref a) (.ref b) H Q :=
  ⟨_, .list [], .lst (SqL.of h) (als_dp al), .lst (xs := []) (SqL.of k) .nil, shapedS ss, rfl, by rw [eqv_nilS]; exact q⟩
theorem ne_tup0 {K : PySem.W.Frag} {H : Hp} {Q : VK} {a b : Addr} {ns : List Int} (h : H a = some (.tup (ns.map V.int))) (k : H b = some (.tup [])) (q : Q (.bl !decide (ns = [])) H) : rNeD K (.ref a) (.ref b) H Q :=
  ne_tupI (ms := []) h k q
theorem picM_good {ps : List Pt} {hs : List (Str × List R3)} {T : Int} (g : GoodPs ps) (gh : GoodHs ps hs) : GoodPic ps (picM ps hs T) := by
  refine ⟨?_, fun q hq => ?_, Nat.le_trans (picM_len _ _ _) g.len⟩
  · have : (picM ps hs T).map Prod.fst = (ps.filter fun pt => (match rowAt ((hget hs pt.nm).getD []) T with | some r => decide (r.2.2 = "good") | none => false)).map Pt.nm := by
      unfold picM
      have : ∀ l : List Pt, (l.filterMap fun pt => match rowAt ((hget hs pt.nm).getD []) T with
          | some r => if r.2.2 = "good" then some (pt.nm, r.2.1) else none
          | none => none).map Prod.fst = (l.filter fun pt => (match rowAt ((hget hs pt.nm).getD []) T with | some r => decide (r.2.2 = "good") | none => false)).map Pt.nm := by
        intro l
        induction l with
        | nil => rfl
        | cons pt l ih =>
          rw [List.filterMap_cons, List.filter_cons]
          cases hr : rowAt ((hget hs pt.nm).getD []) T with
          | none => exact ih
          | some r =>
            by_cases c : r.2.2 = "good"
            · simp only [c, if_pos, decide_true, List.map_cons, ih]
            · simp only [c, if_neg, decide_false, Bool.false_eq_true, if_false, ih]
      exact this ps
    rw [this]
    exact g.nd.sublist (List.Sublist.map _ List.filter_sublist)
  · unfold picM at hq
    obtain ⟨pt, hpt, e⟩ := List.mem_filterMap.mp hq
    cases hr : rowAt ((hget hs pt.nm).getD []) T with
    | none => rw [hr] at e; cases e
    | some r =>
      rw [hr] at e
      simp only at e
      by_cases c : r.2.2 = "good"
      · rw [if_pos c] at e
        cases e
        have hm := row_mem hr
        cases eh : hget hs pt.nm with
        | none => rw [eh] at hm; cases hm
        | some rs =>
          rw [eh] at hm
          unfold hget at eh
          obtain ⟨h', hf, rfl⟩ := Option.map_eq_some_iff.mp eh
          obtain ⟨pt', hp', e', g'⟩ := gh _ (List.mem_of_find?_eq_some hf)
          have hd := List.find?_some hf
          exact ⟨pt', hp', e'.trans (of_decide_eq_true hd), (g'.h.all r hm).w0, g'.hi r hm⟩
      · rw [if_neg c] at e; cases e
theorem set_last {us : List V} {q v : V} : (us ++ [q]).set us.length v = us ++ [v] := by
  rw [List.set_append_right _ _ (Nat.le_refl _), Nat.sub_self]
  rfl
theorem ixN_last {us : List V} {q : V} : ixN (us ++ [q]).length (-1) = some us.length := by
  unfold ixN
  rw [List.length_append, List.length_singleton]
  rw [if_neg (by decide), if_pos (by omega)]
  congr 1
  omega
section
variable {P : Program} {w : World} {K : PySem.W.Frag} {mg : Str → Option Value} {base : Heap}
/-- what the law has: points, bonds, histories -/
structure LwAt (K : PySem.W.Frag) (H : Hp) (a r d : Addr) (ps : List Pt) (rs : List Rel) (kvs : List (Key × V)) (hs : List (Str × List R3)) : Prop where
  pt : LT fP H a ps
  gp : GoodPs ps
  rl : ∃ xr, H r = some (.lst xr) ∧ AlR H xr rs
  gr : ∀ r ∈ rs, GoodRel ps r
  r5 : rs.length ≤ 5
  ed : H d = some (.dK kvs)
  ha : HA H kvs hs
  gh : GoodHs ps hs
theorem LwAt.same {H H' : Hp} {a r d : Addr} {ps : List Pt} {rs : List Rel} {kvs : List (Key × V)} {hs : List (Str × List R3)} (h : LwAt K H a r d ps rs kvs hs) (S : Same H H') : LwAt K H' a r d ps rs kvs hs :=
  ⟨h.pt.same S, h.gp, let ⟨x, e, al⟩ := h.rl; ⟨x, S _ _ e, al.same S⟩, h.gr, h.r5, S _ _ h.ed, h.ha.same S, h.gh⟩
def spLSp (K : PySem.W.Frag) : Sp := fun vs H Q _ => ∃ a r d x y ps rs kvs hs, vs = [.ref a, .ref r, .ref d, .int x, .int y] ∧ LwAt K H a r d ps rs kvs hs ∧ 0 ≤ x ∧ x ≤ 9999 ∧ 0 ≤ y ∧ y ≤ 9999 ∧ y - x ≤ 1000 ∧
  ∀ l H' xs, Same H H' → H l = none → H' l = some (.lst xs) → AlS H' xs (spansM (Nb ps hs rs) x y) → Q (.ref l) H'
theorem d_lsp (T : Txt mg) (A : At K mg "_law_spans" sLawSpans) (dB : Def P w K mg base "_law_broken" 3 ["_law_bonds_here", "_law_worths"] (spLBrk K))
    (dL : Def P w K mg base "_law_picture_at" 1 ["_law_points_here", "_law_histories_here", "_law_time"] (spLPic K)) :
    Def P w K mg base "_law_spans" 4 ["_law_points_here", "_law_bonds_here", "_law_histories_here", "_law_since", "_law_till"] (spLSp K) := by
  refine mkDef A scLawSpans (fun _ _ _ _ _ _ us hl => match us, hl with | [_, _, _, _, _], _ => rfl) (fun vs H Q E ⟨_, _, _, _, _, _, _, _, _, e, _⟩ => by rw [e]; rfl)
    (fun f cdv A out s H vs Q E hr h => ?_)
  obtain ⟨a, rb, d, x, y, ps, rs, kvs, hs, rfl, hh, x0, x9, y0, y9, xy, k⟩ := h
  refine ⟨_, (pss_cons (ps_set (i := 5) scLawSpans.nd rfl (.inl rfl) (pe_lst pa_nil))
    (pss_cons (ps_for PassesOwn.never rfl (pi_range2 (by rfl) T.range (pa_cons (pv 3) (pa_cons (pe_op op_add (pv 4) pe_int) pa_nil))) (pg_name (i := 6) scLawSpans.nd rfl (.inl rfl))
      (pss_cons (ps_set (i := 7) scLawSpans.nd rfl (.inl rfl) (pe_callTy call_tuple_of (by rfl) T.tuple (by decide +kernel) (pa_cons (pe_d dB hr (by decide) (by rfl) (pa_cons (pv 1) (pa_cons (pe_d dL hr (by decide) (by rfl) (pa_cons (pv 0) (pa_cons (pv 2) (pa_cons (pv 6) pa_nil)))) pa_nil))) pa_nil)))
      (pss_one (ps_if (pt_cmpR (op_neD hr.units) (pv 7) (pe_tup pa_nil) (nomark _))
        (pss_one (ps_if (PW.pt (pw_and (pt_cmpR (op_neD hr.units) (pv 5) (pe_lst pa_nil) (nomark _)) (pw_and1 (pt_cmpR (op_eqD hr.units) (pe_slice sl_tupS (pe_ix ix_list (pv 5) (pe_un un_neg pe_int) (fun _ _ => rfl)) (po_some pe_int) po_none) (pe_tup (pa_cons (pe_op op_sub (pv 6) pe_int) (pa_cons (pv 7) pa_nil))) (nomark _)))))
          (pss_one (ps_asg (pe_tup (pa_cons (pe_ix (r := rIxT K) ix_tup (pe_ix ix_list (pv 5) (pe_un un_neg pe_int) (fun _ _ => rfl)) pe_int (fun _ _ => rfl)) (pa_cons (pv 6) (pa_cons (pv 7) pa_nil)))) (pg_sub (pv 5) (pe_un un_neg pe_int) set_list)))
          (pss_one (ps_expr (pe_bm PySem.F.plainAttrs_list PySem.F.slot_list_append PySem.F.type_list_append mt_append (pv 5) (pa_cons (pe_tup (pa_cons (pv 6) (pa_cons (pv 6) (pa_cons (pv 7) pa_nil)))) pa_nil))))))
        pss_nil))))
    (pss_one (ps_ret (pv 5))))), ?_⟩
  refine ⟨by show 0 ≤ sizeLine; decide, fun F nF => ?_⟩
  have S1 := Same.laid (o := HO.lst []) nF
  have eF : upd H F (.lst []) F = some (.lst []) := upd_same
  generalize upd H F (.lst []) = H1 at *
  dsimp only [gName]
  have h1 := hh.same S1
  refine ⟨_, rfl, _, rfl, _, _, rfl, rfl, x, y + 1, rfl, by omega, ?_⟩
  generalize hn : (y + 1 - x).toNat = n
  refine for_it (walk_range (lo := x) (n := n)) (fun i σ X => (∃ v6 v7 : Option V, σ = [some (.ref a), some (.ref rb), some (.ref d), some (.int x), some (.int y), some (.ref F), v6, v7]) ∧ Same (wo H1 F) (wo X F) ∧ ∃ xs, X F = some (.lst xs) ∧ AlS X xs ((tks (Nb ps hs rs) x i).foldl addS []))
    ⟨⟨_, _, rfl⟩, Same.refl _, [], eF, .nil⟩ (fun _ _ _ _ _ => trivial) ?_ ?_
  · rintro i v σ X0 X hi ⟨⟨v6, v7, rfl⟩, SX, xs, eX, alx⟩ ⟨rfl, rfl⟩
    dsimp only [gName]
    have lenf : ((tks (Nb ps hs rs) x i).foldl addS []).length ≤ 1001 := by
      have := addAll_len (tks (Nb ps hs rs) x i) []
      have e : (tks (Nb ps hs rs) x i).length = i := by simp [tks]
      rw [List.length_nil, e] at this
      omega
    have SHx : Same H X := fun c o e => by
      have cF : c ≠ F := ne_of_none e nF
      exact wo_same _ _ (SX _ _ (wo_of cF (S1 _ _ e)))
    have hhX := hh.same SHx
    obtain ⟨xr, er, alr⟩ := hhX.rl
    refine ⟨_, rfl, _, rfl, _, rfl, _, rfl, a, d, x + i, ps, kvs, hs, rfl, hhX.pt, hhX.gp, hhX.ed, hhX.ha, hhX.gh, fun B X1 S5 nB eB => ?_⟩
    refine ⟨rb, B, xr, rs, picM ps hs (x + i), ps, rfl, S5 _ _ er, alr.same S5, hh.gr, hh.gp, by have := hh.r5; omega, eB, picM_good hh.gp hh.gh, fun N X2 S6 nN eN => ?_⟩
    refine ⟨N, _, rfl, .inl ⟨SqL.of eN, fun t nt => ?_⟩⟩
    have S7 := Same.laid (o := HO.tup ((brk (picM ps hs (x + i)) rs).map V.int)) nt
    have et' : upd X2 t (.tup ((brk (picM ps hs (x + i)) rs).map V.int)) t = some (.tup ((brk (picM ps hs (x + i)) rs).map V.int)) := upd_same
    generalize upd X2 t (.tup ((brk (picM ps hs (x + i)) rs).map V.int)) = X3 at *
    dsimp only [gName]
    refine ⟨_, rfl, by show 0 ≤ sizeLine; decide, fun z nz => ?_⟩
    have S8 := Same.laid (o := HO.tup []) nz
    have ez : upd X3 z (.tup []) z = some (.tup []) := upd_same
    generalize upd X3 z (.tup []) = X4 at *
    have SX4 := S5.trans (S6.trans (S7.trans S8))
    have et4 := S8 _ _ et'
    refine ne_tup0 et4 ez ⟨_, rfl, ?_⟩
    have eX4 := SX4 _ _ eX
    have al4 := alx.same SX4
    have gt : Same (wo H1 F) (wo X4 F) := SX.trans (Same.wo SX4)
    have ets : tks (Nb ps hs rs) x (i + 1) = tks (Nb ps hs rs) x i ++ [(x + i, x + i, brk (picM ps hs (x + i)) rs)] := tks_succ _ _ _
    generalize hfs : (tks (Nb ps hs rs) x i).foldl addS [] = fs at *
    have tF : t ≠ F := fun z => by rw [z, eX4] at et4; cases et4
    by_cases c : brk (picM ps hs (x + i)) rs = []
    · rw [decide_eq_true c]
      refine iteF ⟨⟨_, _, rfl⟩, gt, xs, eX4, ?_⟩
      rw [ets, List.foldl_append, hfs, List.foldl_cons, List.foldl_nil, addS_no (show ((x + (i : Int), x + (i : Int), brk (picM ps hs (x + i)) rs) : Sp3).2.2 = [] from c)]
      exact al4
    rw [decide_eq_false c]
    refine iteT ?_
    -- a new one behind
    have fin : ∀ (G : Hp) (x' : Int) (us : List V) (gs : List Sp3) (q2 : Addr), Same X4 G → G F = some (.lst xs) → AlS X4 us gs → G q2 = none → addS fs (x + i, x + i, brk (picM ps hs (x + i)) rs) = gs ++ [(x', x + i, brk (picM ps hs (x + i)) rs)] →
        Same (wo H1 F) (wo (upd (upd G q2 (.tup [.int x', .int (x + i), .ref t])) F (.lst (us ++ [.ref q2]))) F) ∧ ∃ xs, (upd (upd G q2 (.tup [.int x', .int (x + i), .ref t])) F (.lst (us ++ [.ref q2]))) F = some (.lst xs) ∧
          AlS (upd (upd G q2 (.tup [.int x', .int (x + i), .ref t])) F (.lst (us ++ [.ref q2]))) xs ((tks (Nb ps hs rs) x (i + 1)).foldl addS []) := by
      intro G x' us gs q2 SG eG alG n2 ea
      have q2F : q2 ≠ F := fun z => by rw [z, eG] at n2; cases n2
      have U : Same (wo X4 F) (wo (upd (upd G q2 (.tup [.int x', .int (x + i), .ref t])) F (.lst (us ++ [.ref q2]))) F) := by
        rw [wo_upd]
        exact (Same.wo SG).trans (Same.wo (Same.laid n2))
      refine ⟨gt.trans U, _, upd_same, ?_⟩
      rw [ets, List.foldl_append, hfs, List.foldl_cons, List.foldl_nil, ea]
      refine AlS.snoc (t := t) (alG.imp fun b xs e => wo_same _ _ (U _ _ (wo_of (fun z => by rw [z, eX4] at e; cases e) e))) ?_ ?_
      · exact (upd_ne q2F).trans upd_same
      · exact wo_same _ _ (U _ _ (wo_of tF et4))
    refine ⟨_, rfl, by show 0 ≤ sizeLine; decide, fun z2 nz2 => ?_⟩
    have S9 := Same.laid (o := HO.lst []) nz2
    have ez2 : upd X4 z2 (.lst []) z2 = some (.lst []) := upd_same
    generalize upd X4 z2 (.lst []) = X5 at *
    have eX5 := S9 _ _ eX4
    refine ne_emptyS eX5 (al4.same S9) ez2 ⟨_, rfl, ?_⟩
    have xlen : xs.length < sizeLine := by rw [al4.length]; exact Nat.lt_of_le_of_lt lenf (by decide)
    rcases List.eq_nil_or_concat fs with rfl | ⟨gs, l, rfl⟩
    · refine iteF (iteF ?_)
      refine ⟨_, rfl, .inl ⟨rfl, _, SqL.of eX5⟩, _, rfl, _, rfl, _, rfl, by show 3 ≤ sizeLine; decide, fun q2 n2 => ?_⟩
      have q2F : q2 ≠ F := fun z => by rw [z, eX5] at n2; cases n2
      refine ⟨F, xs, .ref q2, rfl, rfl, (upd_ne q2F.symm).trans eX5, xlen, ⟨_, _, rfl⟩, ?_⟩
      exact fin X5 (x + i) xs [] q2 S9 eX5 al4 n2 (addS_one c)
    rw [List.concat_eq_append] at *
    obtain ⟨us, q1, t1, rfl, al1, e1, et1⟩ := al4.cut
    rw [show (!(gs ++ [l]).isEmpty) = true by simp]
    refine iteT ?_
    refine ⟨_, rfl, 1, rfl, F, _, -1, .ref q1, rfl, rfl, SqL.of eX5, atI_last _ _, 1, rfl, q1, _, rfl, S9 _ _ e1, fun c1 X6 S10 ec => ?_⟩
    rw [cut1] at ec
    have ec : X6 c1 = some (.tup [.int l.2.1, .ref t1]) := ec
    refine ⟨_, rfl, _, _, rfl, rfl, _, rfl, by show 2 ≤ sizeLine; decide, fun z3 nz3 => ?_⟩
    have S11 := Same.laid (o := HO.tup [V.int (x + i - 1), .ref t]) nz3
    have ez3 : upd X6 z3 (.tup [V.int (x + i - 1), .ref t]) z3 = some (.tup [V.int (x + i - 1), .ref t]) := upd_same
    generalize upd X6 z3 (.tup [V.int (x + i - 1), .ref t]) = X7 at *
    have S47 := S9.trans (S10.trans S11)
    refine eq_pairI (S11 _ _ ec) (S47 _ _ et1) ez3 (S47 _ _ et4) ⟨_, rfl, ?_⟩
    have eX7 := S47 _ _ eX4
    by_cases yes : l.2.1 = x + i - 1 ∧ l.2.2 = brk (picM ps hs (x + i)) rs
    · rw [decide_eq_true yes]
      refine iteT ⟨_, rfl, 1, rfl, F, _, -1, .ref q1, rfl, rfl, SqL.of eX7, atI_last _ _, q1, _, 0, .int l.1, rfl, rfl, SqT.of (S47 _ _ e1), rfl, _, rfl, _, rfl, by show 3 ≤ sizeLine; decide, fun q2 n2 => ?_⟩
      have q2F : q2 ≠ F := fun z => by rw [z, eX7] at n2; cases n2
      refine ⟨_, rfl, 1, rfl, F, _, -1, us.length, rfl, rfl, (upd_ne q2F.symm).trans eX7, ixN_last, ⟨_, _, rfl⟩, ?_⟩
      rw [set_last]
      exact fin X7 l.1 us gs q2 S47 eX7 al1 n2 (addS_yes c yes)
    · rw [decide_eq_false yes]
      refine iteF ?_
      refine ⟨_, rfl, .inl ⟨rfl, _, SqL.of eX7⟩, _, rfl, _, rfl, _, rfl, by show 3 ≤ sizeLine; decide, fun q2 n2 => ?_⟩
      have q2F : q2 ≠ F := fun z => by rw [z, eX7] at n2; cases n2
      refine ⟨F, _, .ref q2, rfl, rfl, (upd_ne q2F.symm).trans eX7, xlen, ⟨_, _, rfl⟩, ?_⟩
      exact fin X7 (x + i) _ _ q2 S47 eX7 al4 n2 (addS_new c yes)
  · rintro σ X ⟨⟨v6, v7, rfl⟩, SX, xs, eX, alx⟩
    refine ⟨_, rfl, k F X xs (fun c o e => ?_) nF eX ?_⟩
    · have cF : c ≠ F := ne_of_none e nF
      exact wo_same _ _ (SX _ _ (wo_of cF (S1 _ _ e)))
    · unfold spansM
      rw [show y - x + 1 = y + 1 - x by omega, hn]
      exact alx
end
end V51

/-! d.update(e): a dict put into another one. -/
namespace Pw
open PySem PySem.Spec PyProof.Rows L2
def rUpdD : V → List V → Hp → VK → Prop := fun x vs H Q => ∃ (a b : Addr) (kvs ls : List (Key × V)), x = .ref a ∧ vs = [.ref b] ∧ a ≠ b ∧ H a = some (.dK kvs) ∧ H b = some (.dK ls) ∧ kvs.length + ls.length ≤ sizeLine ∧ Q .non (upd H a (.dK (mergeK kvs ls)))
theorem mt_updD {X : Cx} : MtR X "dict.update" rUpdD := by
  intro pins s σ H x vs v us Q I rx rv h
  obtain ⟨a, b, kvs, ls, rfl, rfl, ne, e, e2, hz, q⟩ := h
  obtain rfl : v = Value.ref a := rx
  obtain ⟨u, rfl, ru⟩ := vals1 rv
  obtain rfl : u = Value.ref b := ru
  obtain ⟨z, hd, ws, rel, dd⟩ := dk_of I.hok e
  obtain ⟨z2, hd2, ws2, rel2, dd2⟩ := dk_of I.hok e2
  refine call_meetsIn PySem.F.slot_dict_update dd.typeIs PySem.F.entry_dict_update (PySem.F.args_dict_update_2 _ _) (meets_dict_update (mixKind X.prog X.w) a b ne hd2) ⟨ws, ws2, dd, dd2, by rw [← rel.length, ← rel2.length]; exact hz, fun h' d1 d2 hs => ?_⟩
  have he : ∃ q, h'.get? a = some q := let ⟨q, _, _, hq, _⟩ := d1; ⟨q, hq⟩
  have hl : (mergeK kvs ls).length ≤ sizeLine := Nat.le_trans (length_mergeK ls kvs) hz
  exact ⟨.non, _, d_write (t' := s.toks) I (by rw [e]; exact True.intro) hs he (dk_new hl hd (KV.merge rel2 rel) d1), rfl, q⟩
end Pw

/-! sorted of a dict with number keys, of any number. -/
namespace Pw
open PySem PySem.Spec PyProof.Rows L2
/-- what sorted(d) asks of a dict whose keys are numbers -/
def rSortD : List V → Hp → VK → Prop := fun xs H Q => ∃ (a : Addr) (kvs : List (Key × V)) (ks : List Int), xs = [.ref a] ∧ Rd H a (.dK kvs) ∧
  kvs.map Prod.fst = ks.map Sum.inl ∧ ks.length ≤ 1000000 ∧
  ∀ (ys : List Int) (p : Addr), ys.Perm ks → ys.Pairwise (· ≤ ·) → H p = none → Q (.ref p) (upd H p (.lst (ys.map V.int)))
theorem cr_sortD {X : Cx} (calm : X.calm = true) : CallR X (.builtin "sorted") rSortD := by
  intro pins st σ H xs us Q I rel0 hq
  obtain ⟨a, kvs, ks, rfl, hrd, hkeys, hsm, hq⟩ := hq
  have small : ks.length ≤ sizeLine := Nat.le_trans hsm (by decide)
  obtain ⟨u, rfl, ru⟩ := vals1 rel0
  obtain rfl : u = Value.ref a := ru
  obtain ⟨_, low, vs, rel, there⟩ := dk_rd I.hok hrd
  obtain ⟨ep, at_⟩ := there.dictAt
  have names : vs.map Prod.fst = ks.map Sum.inl := Eq.trans rel.keys.symm hkeys
  have many : vs.length = ks.length := by
    have := congrArg List.length names
    simpa using this
  refine Calls.call_function_entry PyProof.Rows.kind_sorted PyProof.Rows.plain_sorted
    PyProof.Rows.entry_sorted (PyProof.Rows.args_sorted1 _) ?_
  unfold Builtin.«sorted»
  refine wpAny_bind (m := checkCount "sorted" 1 1 _) (wpAny_pure (wpAny_bind ?_))
  refine PySem.W.kdu_collect (A := X.A.in1)
    (PySem.W.kdl_dict (knd := mixKind X.prog X.w) (kvs := vs) (ep := ep) low) (I.ok.hd calm) at_
    (by rw [many]; exact small) fun h1 tk got keep hgot => ?_
  have lgot : got.toList.length = ks.length := by
    rw [Array.length_toList, hgot.1]
    exact many
  have nums : IntsAre got.toList ks := by
    refine ints_each lgot fun j v ej => ?_
    obtain ⟨k, _, q1, q2⟩ := hgot.2 j v ((Array.getElem?_toList).symm.trans ej)
    have q3 : (ks.map (Sum.inl (β := Str)))[j]? = some k := by
      rw [← names, List.getElem?_map, q1]
      rfl
    rw [List.getElem?_map] at q3
    cases q4 : ks[j]? with
    | none => simp [q4] at q3
    | some y =>
      simp only [q4, Option.map_some, Option.some.injEq] at q3
      subst q3
      rcases keyIs_shape (show keyIs (Sum.inl y) v = true from q2) with ⟨i, t, ek, ev⟩ | ⟨_, _, ek, _⟩
      · cases ek
        exact ⟨_, t, rfl, ev⟩
      · cases ek
  have J : Inv X pins σ H { st with heap := h1, toks := tk } := I.kept keep
  have fits : got.toList.length ≤ sizeLine := by
    rw [lgot]
    exact small
  refine wpAny_bind (wpAny_newList ?_ fits)
  have laid_ : (h1.push (seqObj "list" got.toList.toArray 0)).get? h1.objs.size =
    some (seqObj "list" got.toList.toArray 0) := Heap.get?_push_size _ rfl
  show wpAny _ _ _ _ _
    { st with heap := h1.push (seqObj "list" got.toList.toArray 0), toks := tk }
  refine wpAny_bind (wpAny_holding (wpAny_call_entry PyProof.Rows.slot_list_sort
    ⟨_, laid_, rfl⟩ PyProof.Rows.entry_list_sort ?_ (PyProof.Rows.args_list_sort _)))
  refine SrtO.list_sort_ord SrtO.swo_int laid_ fits (fun h2 => SrtO.ints_sortable nums h2)
    fun out g1 g2 => ⟨_, rfl, ?_⟩
  obtain ⟨z1, z2, z3⟩ := SrtO.ints_out nums g1 g2
  obtain ⟨e', at'⟩ := PyProof.Rows.sortedHeap_at (vs := got.toList) (out := out.toArray) laid_
  have fits2 : ((out.map SrtO.iv).map V.int).length ≤ sizeLine := by
    rw [List.length_map, z2.length_eq]
    exact small
  refine wpAny_pure ⟨_, rfl, .ref h1.objs.size, upd H h1.objs.size (.lst ((out.map SrtO.iv).map V.int)), ?_, rfl, ?_⟩
  · refine J.laid (t' := tk) (fun b u e => ?_) (Nat.le_refl _) ⟨fits2, out, e', vals_of_ints z1, at'⟩
    have lt : b < h1.objs.size := Heap.lt_size e
    refine (PyProof.Rows.sortedHeap_old (Nat.ne_of_lt lt) ?_).trans (Heap.get?_push_of_some _ e)
    rw [size_push']
    exact Nat.lt_succ_of_lt lt
  · exact hq _ _ z2 z3 (J.hok.fresh (Nat.le_refl _))
end Pw

set_option maxHeartbeats 8000000
namespace V51
open PySem PySem.Spec PyProof.Rows L2 Pw
/-! ### dicts with numbers as keys -/
structure KeyI (kvs : List (Key × V)) (ks : List Int) : Prop where
  e : kvs.map Prod.fst = ks.map Sum.inl
  nd : ks.Nodup
theorem KeyI.put {kvs : List (Key × V)} {ks : List Int} (h : KeyI kvs ks) (t : Int) (v : V) : ∃ ms, KeyI (putK kvs (.inl t) v) ms ∧ (∀ x, x ∈ ms ↔ x ∈ ks ∨ x = t) ∧ ms.length ≤ ks.length + 1 := by
  by_cases c : t ∈ ks
  · refine ⟨ks, ⟨?_, h.nd⟩, fun x => ⟨.inl, ?_⟩, by omega⟩
    · unfold putK
      have : (kvs.any fun kv => decide (kv.1 = (.inl t : Key))) = true := by
        have : (Sum.inl t : Key) ∈ kvs.map Prod.fst := by rw [h.e]; exact List.mem_map.mpr ⟨t, c, rfl⟩
        obtain ⟨p, hp, e⟩ := List.mem_map.mp this
        exact List.any_eq_true.mpr ⟨p, hp, decide_eq_true e⟩
      rw [if_pos this, ← h.e, List.map_map]
      refine List.map_congr_left fun p _ => ?_
      show (if p.1 = (.inl t : Key) then (p.1, v) else p).1 = p.1
      split <;> rfl
    · rintro (z | rfl)
      · exact z
      · exact c
  · refine ⟨ks ++ [t], ⟨?_, ?_⟩, fun x => by simp, by simp⟩
    · rw [putK_new, List.map_append, h.e, List.map_append]
      · rfl
      · rw [h.e]
        intro z
        obtain ⟨y, hy, e⟩ := List.mem_map.mp z
        rw [Sum.inl.inj e] at hy
        exact c hy
    · rw [List.nodup_append]
      exact ⟨h.nd, by simp, fun x hx y hy e => c (by rw [List.mem_singleton.mp hy] at e; rw [← e]; exact hx)⟩
theorem KeyI.merge {kvs : List (Key × V)} {ks : List Int} (h : KeyI kvs ks) : ∀ {ls : List (Key × V)} {ns : List Int}, ls.map Prod.fst = ns.map Sum.inl → ∃ ms, KeyI (mergeK kvs ls) ms ∧ (∀ x, x ∈ ms ↔ x ∈ ks ∨ x ∈ ns) ∧ ms.length ≤ ks.length + ns.length := by
  intro ls
  induction ls generalizing kvs ks with
  | nil =>
    intro ns e
    have : ns = [] := by cases ns with | nil => rfl | cons _ _ => simp at e
    subst this
    exact ⟨ks, h, fun x => by simp, by simp⟩
  | cons p ls ih =>
    intro ns e
    cases ns with
    | nil => simp at e
    | cons n ns =>
      rw [List.map_cons, List.map_cons, List.cons.injEq] at e
      obtain ⟨ms, h1, h2, h3⟩ := h.put n p.2
      obtain ⟨ms', g1, g2, g3⟩ := ih h1 e.2
      refine ⟨ms', ?_, fun x => ?_, by rw [List.length_cons]; omega⟩
      · have : mergeK kvs (p :: ls) = mergeK (putK kvs (.inl n) p.2) ls := by
          show mergeK (putK kvs p.1 p.2) ls = _
          rw [e.1]
        rw [this]
        exact g1
      · rw [g2, h2, List.mem_cons, or_assoc]
/-- times in order, from 0 on -/
theorem times_up {ys ks : List Int} (pe : ys.Perm ks) (pw : ys.Pairwise (· ≤ ·)) (nd : ks.Nodup) (z : 0 ∈ ks) (pos : ∀ t ∈ ks, 0 ≤ t) : ∃ ts, ys = 0 :: ts ∧ (0 :: ts).Pairwise (· < ·) ∧ ∀ t, t ∈ ts ↔ t ∈ ks ∧ 0 < t := by
  have nd' : ys.Nodup := pe.nodup_iff.mpr nd
  have lt : ys.Pairwise (· < ·) := by
    have := List.pairwise_and_iff.mpr ⟨pw, nd'⟩
    exact this.imp fun {a b} h => by have h1 := h.1; have h2 : a ≠ b := h.2; omega
  cases ys with
  | nil => have := pe.mem_iff.mpr z; cases this
  | cons y ts =>
    have l2 := List.pairwise_cons.mp lt
    have hy := pos y (pe.mem_iff.mp List.mem_cons_self)
    have y0 : y = 0 := by
      rcases List.mem_cons.mp (pe.mem_iff.mpr z) with e | e
      · exact e.symm
      · have := l2.1 0 e
        omega
    subst y0
    refine ⟨ts, rfl, lt, fun t => ⟨fun h => ⟨pe.mem_iff.mp (List.mem_cons_of_mem _ h), l2.1 t h⟩, fun h => ?_⟩⟩
    rcases List.mem_cons.mp (pe.mem_iff.mpr h.1) with e | e
    · omega
    · exact e
theorem paired_imp {α β : Type} {F G : α → β → Prop} {as : List α} {bs : List β} (h : Paired F as bs) (k : ∀ a b, F a b → G a b) : Paired G as bs := by
  induction h with
  | nil => exact .nil
  | cons e _ ih => exact .cons (k _ _ e) ih
theorem key_pairs (rs : List R3) : (rs.map fun r => ((.inl r.1, .bl true) : Key × V)).map Prod.fst = (rs.map (·.1)).map Sum.inl := by
  rw [List.map_map, List.map_map]
  rfl
section
variable {P : Program} {w : World} {K : PySem.W.Frag} {mg : Str → Option Value} {base : Heap}
def spLAll (K : PySem.W.Frag) : Sp := fun vs H Q _ => ∃ a r d ps rs kvs hs, vs = [.ref a, .ref r, .ref d] ∧ LwAt K H a r d ps rs kvs hs ∧ sigs hs ≤ 900 ∧
  ∀ l H' xs, Same H H' → H l = none → H' l = some (.lst xs) → AlS H' xs (spansM (Nb ps hs rs) 0 9999) → Q (.ref l) H'
theorem d_lall (T : Txt mg) (A : At K mg "_law_spans_of_all" sLawSpansOfAll) (dB : Def P w K mg base "_law_broken" 3 ["_law_bonds_here", "_law_worths"] (spLBrk K))
    (dL : Def P w K mg base "_law_picture_at" 1 ["_law_points_here", "_law_histories_here", "_law_time"] (spLPic K)) :
    Def P w K mg base "_law_spans_of_all" 4 ["_law_points_here", "_law_bonds_here", "_law_histories_here"] (spLAll K) := by
  refine mkDef A scLawSpansOfAll (fun _ _ _ _ _ _ us hl => match us, hl with | [_, _, _], _ => rfl) (fun vs H Q E ⟨_, _, _, _, _, _, _, e, _⟩ => by rw [e]; rfl)
    (fun f cdv A out s H vs Q E hr h => ?_)
  obtain ⟨a, rb, d, ps, rs, kvs, hs, rfl, hh, h8, k⟩ := h
  refine ⟨_, (pss_cons (ps_set (i := 3) scLawSpansOfAll.nd rfl (.inl rfl) (pe_disp (pps_cons pe_int pe_bl pps_nil) rfl rfl (by decide) (by decide)))
    (pss_cons (ps_lock (ps_for PassesOwn.never rfl (pi_values (pv 2)) (pg_name (i := 4) scLawSpansOfAll.nd rfl (.inl rfl))
      (pss_one (ps_expr (pe_bm PySem.F.plainAttrs_dict PySem.F.slot_dict_update PySem.F.type_dict_update mt_updD (pv 3) (pa_cons (pe_callTy (call_dictP rfl) (by rfl) T.dict (by decide +kernel) (pa_cons (pe_lc (own := [("_law_sign", 9)]) (g := gName 9) (tt := tYes) rfl scLawSpansOfAll.nd (pi_sq (pv 4))
        (blkOk_by (own := [("_law_sign", 9)]) (N := ["_law_points_here", "_law_bonds_here", "_law_histories_here", "_law_times", "_law_row", "_law_found", "_law_time", "_law_later", "_law_numbers", "_law_sign"]) (sc := defScope sLawSpansOfAll) (by decide +kernel))
        (fun _ _ _ _ _ => (pg_name (i := 9) scLawSpansOfAll.nd rfl (.inl rfl))) (fun _ _ _ _ _ => pts_nil)
        (fun _ _ _ _ _ => (pe_tup (pa_cons (pe_ix (r := rIxT K) ix_tup (pv 9) pe_int (fun _ _ => rfl)) (pa_cons pe_bl pa_nil))))) pa_nil)) pa_nil))))))
    (pss_cons (ps_par (i := 3) (j := 5) rfl scLawSpansOfAll.nd rfl rfl (by decide) rfl rfl (pa_cons (pe_op op_cat (pe_callB (cr_sortD rfl) (by rfl) T.sorted PyProof.Rows.boot_sorted (pa_cons (pv 3) pa_nil)) (pe_lst (pa_cons pe_int pa_nil))) (pa_cons (pe_lst pa_nil) pa_nil)) rfl)
    (pss_cons (ps_for PassesOwn.never rfl (pi_zip (by rfl) T.zip (pa_cons (pv 3) (pa_cons (pe_slice sl_list (pv 3) (po_some pe_int) po_none) pa_nil))) (pg_tup (by rfl) (pgs_cons (pg_name (i := 6) scLawSpansOfAll.nd rfl (.inl rfl)) (pgs_cons (pg_name (i := 7) scLawSpansOfAll.nd rfl (.inl rfl)) pgs_nil)))
      (pss_cons (ps_set (i := 8) scLawSpansOfAll.nd rfl (.inl rfl) (pe_callTy call_tuple_of (by rfl) T.tuple (by decide +kernel) (pa_cons (pe_d dB hr (by decide) (by rfl) (pa_cons (pv 1) (pa_cons (pe_d dL hr (by decide) (by rfl) (pa_cons (pv 0) (pa_cons (pv 2) (pa_cons (pv 6) pa_nil)))) pa_nil))) pa_nil)))
      (pss_one (ps_if (PW.pt (pw_and (pt_cmpR (op_neD hr.units) (pv 8) (pe_tup pa_nil) (nomark _)) (pw_and (pt_cmpR (op_neD hr.units) (pv 5) (pe_lst pa_nil) (nomark _)) (pw_and1 (pt_cmpR (op_eqD hr.units) (pe_slice sl_tupS (pe_ix ix_list (pv 5) (pe_un un_neg pe_int) (fun _ _ => rfl)) (po_some pe_int) po_none) (pe_tup (pa_cons (pe_op op_sub (pv 6) pe_int) (pa_cons (pv 8) pa_nil))) (nomark _))))))
        (pss_one (ps_asg (pe_tup (pa_cons (pe_ix (r := rIxT K) ix_tup (pe_ix ix_list (pv 5) (pe_un un_neg pe_int) (fun _ _ => rfl)) pe_int (fun _ _ => rfl)) (pa_cons (pe_op op_sub (pv 7) pe_int) (pa_cons (pv 8) pa_nil)))) (pg_sub (pv 5) (pe_un un_neg pe_int) set_list)))
        (pss_one (ps_if (pt_cmpR (op_neD hr.units) (pv 8) (pe_tup pa_nil) (nomark _))
          (pss_one (ps_expr (pe_bm PySem.F.plainAttrs_list PySem.F.slot_list_append PySem.F.type_list_append mt_append (pv 5) (pa_cons (pe_tup (pa_cons (pv 6) (pa_cons (pe_op op_sub (pv 7) pe_int) (pa_cons (pv 8) pa_nil)))) pa_nil))))
          pss_nil))))))
    (pss_one (ps_ret (pv 5))))))), ?_⟩
  intro D nD
  refine ⟨upd_same, [(.inl 0, .bl true)], rfl, by decide, ?_⟩
  dsimp only [gName]
  have dD : d ≠ D := ne_of_none hh.ed nD
  obtain ⟨H1, hH1, S1, eD, K0⟩ : ∃ H1, upd (upd H D (.dK [])) D (.dK (mergeK [] [(.inl 0, .bl true)])) = H1 ∧ Same H H1 ∧ H1 D = some (.dK (mergeK [] [(.inl 0, .bl true)])) ∧ KeyI (mergeK [] [((.inl 0 : Key), V.bl true)]) [0] :=
    ⟨_, rfl, (Same.wo_upd (Same.laid nD) nD), upd_same, by
      have : mergeK [] [((.inl 0 : Key), V.bl true)] = [(.inl 0, .bl true)] := by
        show putK ([] : List (Key × V)) (.inl 0) (.bl true) = _
        rw [putK_new (by simp)]
        rfl
      rw [this]
      exact ⟨rfl, by simp⟩⟩
  rw [hH1]
  clear hH1
  have ed1 := S1 _ _ hh.ed
  refine ⟨d, _, ed1, trivial, fun od => ?_⟩
  have ed2 : upd H1 d (.frz od (.dK kvs)) d = some (.frz od (.dK kvs)) := upd_same
  have S2 : Same (wo H d) (wo (upd H1 d (.frz od (.dK kvs))) d) := by rw [wo_upd]; exact Same.wo S1
  have eD2 : upd H1 d (.frz od (.dK kvs)) D = some (.dK (mergeK [] [(.inl 0, .bl true)])) := (upd_ne dD.symm).trans eD
  generalize upd H1 d (.frz od (.dK kvs)) = H2 at *
  refine ⟨_, rfl, d, od, kvs, rfl, ed2, ?_⟩
  have had : HA (wo H d) kvs hs := HA.wo hh.ha hh.ed
  have hlen := had.length
  refine for_it (walk_values (d := d) (o := od) (kvs := kvs)) (fun j σ G => (∃ v4 : Option V, σ = [some (.ref a), some (.ref rb), some (.ref d), some (.ref D), v4, none, none, none, none, none]) ∧ Same (wo H d) (wo G d) ∧ G d = some (.frz od (.dK kvs)) ∧
      ∃ (kv : List (Key × V)) (ks : List Int), G D = some (.dK kv) ∧ KeyI kv ks ∧ (∀ t, t ∈ ks ↔ t = 0 ∨ ∃ h ∈ hs.take j, ∃ r ∈ h.2, r.1 = t) ∧ ks.length ≤ 1 + sigs (hs.take j)) ?_ (fun j σ G _ h => h.2.2.1) ?_ ?_
  · exact ⟨⟨none, rfl⟩, S2, ed2, _, [0], eD2, K0, fun t => by simp, by simp [sigs]⟩
  · rintro j v σ G0 G hj ⟨⟨v4, rfl⟩, SG, edG, kv, ks, eDG, hk, mem, kl⟩ ⟨rfl, kx, ekv⟩
    obtain ⟨nm, rs', ra, _, rfl, ehs, hls⟩ := (had.same SG).get ekv
    have hin : (nm, rs') ∈ hs := List.mem_of_getElem? ehs
    have hls' : LS f3 G ra rs' := hls.same wo_same
    obtain ⟨vr, sq, alr⟩ := LS.sq (K := K) hls'
    have lr := alr.length
    have et : hs.take (j + 1) = hs.take j ++ [(nm, rs')] := by rw [List.take_add_one, ehs]; rfl
    have sle : sigs (hs.take j) + rs'.length ≤ sigs hs := by
      unfold sigs
      rw [← List.take_append_drop (j + 1) hs, List.map_append, List.sum_append, et]
      simp only [List.map_append, List.sum_append, List.map_cons, List.map_nil, List.sum_cons, List.sum_nil, List.take_append_drop]
      have : List.take j (hs.take j ++ [(nm, rs')] ++ List.drop (j + 1) hs) = hs.take j := by
        rw [← et, List.take_append_drop]
      rw [this]
      omega
    dsimp only [gName]
    refine ⟨_, rfl, .inr (.inr (.inl ⟨rfl, .inl ⟨_, eDG⟩⟩)), _, rfl, ra, vr, rfl, sq, fun J Gd hG wk B nB => ?_⟩
    refine lc_acc wk nB (by omega) (fun i acc X => ∃ prs : List Addr, acc = prs.map V.ref ∧ Paired (fun q (kv : Key × V) => X q = some (.tup [kV kv.1, kv.2])) prs ((rs'.take i).map fun r => ((.inl r.1, .bl true) : Key × V))) ⟨[], rfl, .nil⟩ hG ?_ ?_
    · rintro i2 v X0 X acc hi2 S3 eB hl2 ⟨prs, rfl, pr⟩ ⟨rfl, hx2⟩ Fy Fn hy1 _
      obtain ⟨q2, r, rfl, hr', er⟩ := (alr.same S3).get hx2
      refine ⟨rfl, ?_⟩
      unfold tYes
      refine iteT ?_
      refine ⟨_, rfl, q2, f3 r, 0, .int r.1, rfl, rfl, SqT.of er, rfl, by show 2 ≤ sizeLine; decide, fun q n => ?_⟩
      refine hy1 _ _ (Same.laid n) ?_
      have qB : q ≠ B := fun z => by rw [z, eB] at n; cases n
      refine ⟨prs ++ [q], by rw [List.map_append]; rfl, ?_⟩
      rw [List.take_add_one, hr', List.map_append]
      exact Paired.snoc (paired_imp pr fun c kv e => (Same.wo (Same.laid n)) _ _ e) (wo_of qB upd_same)
    rintro X acc S3 eB ⟨prs, rfl, pr⟩
    rw [show vr.length = rs'.length from lr, List.take_length] at pr
    refine ⟨B, prs, _, rfl, SqL.of eB, paired_imp pr (fun q kv e => SqT.of (wo_same _ _ e)), fun E' nE => ?_⟩
    obtain ⟨ms0, m1, m2, m3⟩ := (KeyI.mk rfl List.nodup_nil : KeyI [] []).merge (key_pairs rs')
    obtain ⟨ms, g1, g2, g3⟩ := hk.merge m1.e
    have DE : D ≠ E' := fun z => by rw [← z, S3 _ _ eDG] at nE; cases nE
    have ks1 : kv.length = ks.length := by have := congrArg List.length hk.e; simpa using this
    have ms1 : (mergeK [] (rs'.map fun r => ((.inl r.1, .bl true) : Key × V))).length = ms0.length := by have := congrArg List.length m1.e; simpa using this
    rw [List.length_map, List.length_nil] at m3
    refine ⟨D, E', kv, _, rfl, rfl, DE, (upd_ne DE).trans (S3 _ _ eDG), upd_same, ?_, ⟨_, rfl⟩, ?_, ?_, _, ms, upd_same, g1, fun t => ?_, ?_⟩
    · exact Nat.le_trans (show kv.length + (mergeK [] (rs'.map fun r => ((.inl r.1, .bl true) : Key × V))).length ≤ 3000 by omega) (by decide)
    · intro c o e
      have cd : c ≠ d := fun z => by rw [z, wo_none_at] at e; cases e
      have cD : c ≠ D := fun z => by
        have := wo_same _ _ e
        rw [z, nD] at this; cases this
      have e3 := S3 _ _ (wo_same _ _ (SG _ _ e))
      have cE : c ≠ E' := ne_of_none e3 nE
      exact wo_of cd ((upd_ne cD).trans ((upd_ne cE).trans e3))
    · have e3 := S3 _ _ edG
      exact (upd_ne dD).trans ((upd_ne (ne_of_none e3 nE)).trans e3)
    · rw [g2, mem, m2, et]
      simp only [List.mem_append, List.mem_cons, List.not_mem_nil, or_false, false_or, List.mem_map]
      constructor
      · rintro ((z | ⟨h, hh, z⟩) | ⟨r, hr, z⟩)
        · exact .inl z
        · exact .inr ⟨h, .inl hh, z⟩
        · exact .inr ⟨_, .inr rfl, r, hr, z⟩
      · rintro (z | ⟨h, hh | rfl, z⟩)
        · exact .inl (.inl z)
        · exact .inl (.inr ⟨h, hh, z⟩)
        · exact .inr z
    · rw [et]
      unfold sigs at kl ⊢
      rw [List.map_append, List.sum_append]
      simp only [List.map_cons, List.map_nil, List.sum_cons, List.sum_nil]
      omega
  rintro σ G ⟨⟨v4, rfl⟩, SG, edG, kv, ks, eDG, hk, mem, kl⟩
  refine ⟨edG, ?_⟩
  have SH : Same H (upd G d (.dK kvs)) := Same.wo_back SG hh.ed
  have eD3 : upd G d (.dK kvs) D = some (.dK kv) := (upd_ne dD.symm).trans eDG
  generalize upd G d (.dK kvs) = H3 at *
  rw [show kvs.length = hs.length from hlen, List.take_length] at mem kl
  have kl' : ks.length ≤ 1000 := by omega
  refine ⟨_, rfl, D, kv, ks, rfl, .inl eD3, hk.e, by omega, fun ys L pe pw nL => ?_⟩
  have S4 := Same.laid (o := HO.lst (ys.map V.int)) nL
  have eL : upd H3 L (.lst (ys.map V.int)) L = some (.lst (ys.map V.int)) := upd_same
  generalize upd H3 L (.lst (ys.map V.int)) = H4 at *
  have pos : ∀ t ∈ ks, 0 ≤ t ∧ t ≤ 9999 := fun t ht => by
    rcases (mem t).mp ht with rfl | ⟨h, hh', r, hr', rfl⟩
    · exact ⟨by decide, by decide⟩
    · obtain ⟨pt, _, _, g⟩ := hh.gh h hh'
      exact ⟨(g.h.all r hr').t0, (g.h.all r hr').t1⟩
  obtain ⟨ts, rfl, pw', mt⟩ := times_up pe pw hk.nd ((mem 0).mpr (.inl rfl)) fun t ht => (pos t ht).1
  have mem' : ∀ t, t ∈ ts ↔ ∃ h ∈ hs, timesIn 0 9999 h.2 t := fun t => by
    rw [mt]
    constructor
    · rintro ⟨z, p⟩
      have := pos t z
      rcases (mem t).mp z with rfl | ⟨h, hh', r, hr', e⟩
      · omega
      · exact ⟨h, hh', r, hr', e, p, this.2⟩
    · rintro ⟨h, hh', r, hr', e, p, _⟩
      exact ⟨(mem t).mpr (.inr ⟨h, hh', r, hr', e⟩), p⟩
  have tl : ts.length ≤ 1000 := by
    have := pe.length_eq
    rw [List.length_cons] at this
    omega
  refine ⟨by show 1 ≤ sizeLine; decide, fun B nB => ?_⟩
  have S5 := Same.laid (o := HO.lst [V.int 10000]) nB
  have eB : upd H4 B (.lst [V.int 10000]) B = some (.lst [V.int 10000]) := upd_same
  generalize upd H4 B (.lst [V.int 10000]) = H5 at *
  refine ⟨L, B, _, _, rfl, rfl, S5 _ _ eL, eB, ?_, fun C nC => ?_⟩
  · simp only [List.length_map, List.length_cons, List.length_nil]
    exact Nat.le_trans (show ts.length + 1 + (0 + 1) ≤ 1002 by omega) (by decide)
  have S6 := Same.laid (o := HO.lst ((0 :: ts).map V.int ++ [V.int 10000])) nC
  have eC : upd H5 C (.lst ((0 :: ts).map V.int ++ [V.int 10000])) C = some (.lst ((0 :: ts).map V.int ++ [V.int 10000])) := upd_same
  generalize upd H5 C (.lst ((0 :: ts).map V.int ++ [V.int 10000])) = H6 at *
  refine ⟨by show 0 ≤ sizeLine; decide, fun F nF => ?_⟩
  have S7 := Same.laid (o := HO.lst []) nF
  have eF : upd H6 F (.lst []) F = some (.lst []) := upd_same
  have eC7 := S7 _ _ eC
  have CF : C ≠ F := ne_of_none eC nF
  have FN : H F = none := Same.no (SH.trans (S4.trans (S5.trans S6))) nF
  generalize upd H6 F (.lst []) = H7 at *
  have S17 := SH.trans (S4.trans (S5.trans (S6.trans S7)))
  refine ⟨_, _, rfl, ?_⟩
  refine ⟨_, rfl, _, rfl, 1, rfl, C, _, rfl, SqL.of eC7, fun L2 nL2 => ?_⟩
  rw [cut1]
  have S8 := Same.laid (o := HO.lst (((0 :: ts).map V.int ++ [V.int 10000]).drop 1)) nL2
  have eL2 : upd H7 L2 (.lst (((0 :: ts).map V.int ++ [V.int 10000]).drop 1)) L2 = some (.lst (((0 :: ts).map V.int ++ [V.int 10000]).drop 1)) := upd_same
  have eC8 := S8 _ _ eC7
  have eF8 := S8 _ _ eF
  have LF : L2 ≠ F := (ne_of_none eF nL2).symm
  generalize upd H7 L2 (.lst (((0 :: ts).map V.int ++ [V.int 10000]).drop 1)) = H8 at *
  have S18 := S17.trans S8
  refine ⟨C, L2, _, _, rfl, SqL.of eC8, SqL.of eL2, ?_⟩
  have bd : ∀ x ∈ (0 : Int) :: ts, x ≤ 9999 := fun x hx => by
    rcases List.mem_cons.mp hx with rfl | hx
    · decide
    · obtain ⟨_, _, _, _, _, _, z⟩ := (mem' x).mp hx
      exact z
  have res := stch_tks (N := Nb ps hs rs) ts 0 9999 [] pw' bd (nb_const pw' mem' (by decide))
  have slen := stch_len 0 ts 9999
  refine for_it (walk_zip (K := K) (a := C) (b := L2) (xs := (0 :: ts).map V.int ++ [V.int 10000]) (ys := ((0 :: ts).map V.int ++ [V.int 10000]).drop 1) (n := ts.length + 1) (by simp))
    (fun i σ X => (∃ v4 v6 v7 v8 : Option V, σ = [some (.ref a), some (.ref rb), some (.ref d), some (.ref C), v4, some (.ref F), v6, v7, v8, none]) ∧ Same (wo H8 F) (wo X F) ∧ ∃ xs, X F = some (.lst xs) ∧ AlS X xs ((((stch 0 ts 9999).take i).map fun p => (p.1, p.2, Nb ps hs rs p.1)).foldl addS []))
    ⟨⟨_, _, _, _, rfl⟩, Same.refl _, [], eF8, .nil⟩ (fun i σ X _ h => ⟨SqL.of (wo_same _ _ (h.2.1 _ _ (wo_of CF eC8))), SqL.of (wo_same _ _ (h.2.1 _ _ (wo_of LF eL2)))⟩) ?_ ?_
  · rintro i v σ X0 X hi ⟨⟨v4', v6, v7, v8, rfl⟩, SX, xs, eX0, alx0⟩ ⟨Tq, x1, y1, rfl, nT, rfl, ex, ey⟩
    obtain ⟨pr, hpr⟩ : ∃ pr, (stch 0 ts 9999)[i]? = some pr := ⟨_, List.getElem?_eq_getElem (by omega)⟩
    have et : (stch 0 ts 9999).take (i + 1) = (stch 0 ts 9999).take i ++ [pr] := by rw [List.take_add_one, hpr]; rfl
    obtain ⟨rfl, rfl⟩ : x1 = .int pr.1 ∧ y1 = .int (pr.2 + 1) := by
      have z := hpr
      rw [← zip_stch1, List.getElem?_map] at z
      obtain ⟨q, hq, e⟩ := Option.map_eq_some_iff.mp z
      rw [List.getElem?_zip_eq_some] at hq
      have h1 := (List.getElem?_eq_some_iff.mp hq.1).1
      have ex' : ((0 :: ts).map V.int ++ [V.int 10000])[i]? = some x1 := ex
      rw [List.getElem?_append_left (by rw [List.length_map]; exact h1), List.getElem?_map, hq.1] at ex'
      have ey' : ((ts ++ [9999 + 1]).map V.int)[i]? = some y1 := by
        rw [List.map_append]
        exact ey
      rw [List.getElem?_map, hq.2] at ey'
      cases ex'
      cases ey'
      subst e
      exact ⟨rfl, congrArg V.int (by show q.2 = q.2 - 1 + 1; omega)⟩
    have U := Same.laid (o := HO.tup [V.int pr.1, .int (pr.2 + 1)]) nT
    have hpm := stch_snd ts 0 9999 pw' bd pr (List.mem_of_getElem? hpr)
    refine ⟨Tq, _, rfl, SqT.of upd_same, rfl, _, _, rfl, _, _, rfl, rfl, ?_⟩
    have eX := U _ _ eX0
    have alx := alx0.same U
    have SX := SX.trans (Same.wo U)
    generalize upd X0 Tq (.tup [V.int pr.1, .int (pr.2 + 1)]) = X at *
    dsimp only [gName]
    have lenf : ((((stch 0 ts 9999).take i).map fun p => (p.1, p.2, Nb ps hs rs p.1)).foldl addS []).length ≤ 1002 := by
      have := addAll_len (((stch 0 ts 9999).take i).map fun p => (p.1, p.2, Nb ps hs rs p.1)) []
      rw [List.length_map, List.length_take, List.length_nil] at this
      omega
    have SHx : Same H X := fun c o e => by
      have cF : c ≠ F := ne_of_none e FN
      exact wo_same _ _ (SX _ _ (wo_of cF (S18 _ _ e)))
    have hhX := hh.same SHx
    obtain ⟨xr, er, alr⟩ := hhX.rl
    refine ⟨_, rfl, _, rfl, _, rfl, _, rfl, a, d, pr.1, ps, kvs, hs, rfl, hhX.pt, hhX.gp, hhX.ed, hhX.ha, hhX.gh, fun B X1 S5 nB eB => ?_⟩
    refine ⟨rb, B, xr, rs, picM ps hs pr.1, ps, rfl, S5 _ _ er, alr.same S5, hh.gr, hh.gp, by have := hh.r5; omega, eB, picM_good hh.gp hh.gh, fun N X2 S6 nN eN => ?_⟩
    refine ⟨N, _, rfl, .inl ⟨SqL.of eN, fun t nt => ?_⟩⟩
    have S7 := Same.laid (o := HO.tup ((brk (picM ps hs pr.1) rs).map V.int)) nt
    have et' : upd X2 t (.tup ((brk (picM ps hs pr.1) rs).map V.int)) t = some (.tup ((brk (picM ps hs pr.1) rs).map V.int)) := upd_same
    generalize upd X2 t (.tup ((brk (picM ps hs pr.1) rs).map V.int)) = X3 at *
    dsimp only [gName]
    refine ⟨_, rfl, by show 0 ≤ sizeLine; decide, fun z nz => ?_⟩
    have S8 := Same.laid (o := HO.tup []) nz
    have ez : upd X3 z (.tup []) z = some (.tup []) := upd_same
    generalize upd X3 z (.tup []) = X4 at *
    have SX4 := S5.trans (S6.trans (S7.trans S8))
    have et4 := S8 _ _ et'
    refine ne_tup0 et4 ez ⟨_, rfl, ?_⟩
    have eX4 := SX4 _ _ eX
    have al4 := alx.same SX4
    have gt : Same (wo H8 F) (wo X4 F) := SX.trans (Same.wo SX4)
    have ets : ((((stch 0 ts 9999).take (i + 1)).map fun p => (p.1, p.2, Nb ps hs rs p.1)).foldl addS []) = addS ((((stch 0 ts 9999).take i).map fun p => (p.1, p.2, Nb ps hs rs p.1)).foldl addS []) (pr.1, pr.2, brk (picM ps hs pr.1) rs) := by
      rw [et, List.map_append, List.foldl_append]
      rfl
    generalize hfs : ((((stch 0 ts 9999).take i).map fun p => (p.1, p.2, Nb ps hs rs p.1)).foldl addS []) = fs at *
    have tF : t ≠ F := fun z => by rw [z, eX4] at et4; cases et4
    have fin : ∀ (G : Hp) (x' : Int) (us : List V) (gs : List Sp3) (q2 : Addr), Same X4 G → G F = some (.lst xs) → AlS X4 us gs → G q2 = none → addS fs (pr.1, pr.2, brk (picM ps hs pr.1) rs) = gs ++ [(x', pr.2, brk (picM ps hs pr.1) rs)] →
        Same (wo H8 F) (wo (upd (upd G q2 (.tup [.int x', .int (pr.2 + 1 - 1), .ref t])) F (.lst (us ++ [.ref q2]))) F) ∧ ∃ xs, (upd (upd G q2 (.tup [.int x', .int (pr.2 + 1 - 1), .ref t])) F (.lst (us ++ [.ref q2]))) F = some (.lst xs) ∧
          AlS (upd (upd G q2 (.tup [.int x', .int (pr.2 + 1 - 1), .ref t])) F (.lst (us ++ [.ref q2]))) xs ((((stch 0 ts 9999).take (i + 1)).map fun p => (p.1, p.2, Nb ps hs rs p.1)).foldl addS []) := by
      intro G x' us gs q2 SG eG alG n2 ea
      have q2F : q2 ≠ F := fun z => by rw [z, eG] at n2; cases n2
      have U : Same (wo X4 F) (wo (upd (upd G q2 (.tup [.int x', .int (pr.2 + 1 - 1), .ref t])) F (.lst (us ++ [.ref q2]))) F) := by
        rw [wo_upd]
        exact (Same.wo SG).trans (Same.wo (Same.laid n2))
      refine ⟨gt.trans U, _, upd_same, ?_⟩
      rw [ets, ea]
      refine AlS.snoc (t := t) (alG.imp fun b xs e => wo_same _ _ (U _ _ (wo_of (fun z => by rw [z, eX4] at e; cases e) e))) ?_ ?_
      · have : pr.2 + 1 - 1 = pr.2 := by omega
        rw [this]
        exact (upd_ne q2F).trans upd_same
      · exact wo_same _ _ (U _ _ (wo_of tF et4))
    have xlen : xs.length < sizeLine := by rw [al4.length]; exact Nat.lt_of_le_of_lt lenf (by decide)
    by_cases c : brk (picM ps hs pr.1) rs = []
    · rw [decide_eq_true c]
      refine iteF (iteF ?_)
      refine ⟨_, rfl, by show 0 ≤ sizeLine; decide, fun z2 nz2 => ?_⟩
      have S9 := Same.laid (o := HO.tup []) nz2
      have ez2 : upd X4 z2 (.tup []) z2 = some (.tup []) := upd_same
      generalize upd X4 z2 (.tup []) = X5 at *
      refine ne_tup0 (S9 _ _ et4) ez2 ⟨_, rfl, ?_⟩
      rw [decide_eq_true c]
      refine iteF ⟨⟨_, _, _, _, rfl⟩, gt.trans (Same.wo S9), xs, S9 _ _ eX4, ?_⟩
      rw [ets, addS_no (show ((pr.1, pr.2, brk (picM ps hs pr.1) rs) : Sp3).2.2 = [] from c)]
      exact al4.same S9
    rw [decide_eq_false c]
    refine iteT ?_
    refine ⟨_, rfl, by show 0 ≤ sizeLine; decide, fun z2 nz2 => ?_⟩
    have S9 := Same.laid (o := HO.lst []) nz2
    have ez2 : upd X4 z2 (.lst []) z2 = some (.lst []) := upd_same
    generalize upd X4 z2 (.lst []) = X5 at *
    have eX5 := S9 _ _ eX4
    refine ne_emptyS eX5 (al4.same S9) ez2 ⟨_, rfl, ?_⟩
    rcases List.eq_nil_or_concat fs with rfl | ⟨gs, l, rfl⟩
    · refine iteF (iteF ?_)
      refine ⟨_, rfl, by show 0 ≤ sizeLine; decide, fun z3 nz3 => ?_⟩
      have S10 := Same.laid (o := HO.tup []) nz3
      have ez3 : upd X5 z3 (.tup []) z3 = some (.tup []) := upd_same
      generalize upd X5 z3 (.tup []) = X6 at *
      refine ne_tup0 (S10 _ _ (S9 _ _ et4)) ez3 ⟨_, rfl, ?_⟩
      rw [decide_eq_false c]
      refine iteT ?_
      have eX6 := S10 _ _ eX5
      refine ⟨_, rfl, .inl ⟨rfl, _, SqL.of eX6⟩, _, rfl, _, rfl, _, _, rfl, rfl, _, rfl, by show 3 ≤ sizeLine; decide, fun q2 n2 => ?_⟩
      have q2F : q2 ≠ F := fun z => by rw [z, eX6] at n2; cases n2
      refine ⟨F, xs, .ref q2, rfl, rfl, (upd_ne q2F.symm).trans eX6, xlen, ⟨_, _, _, _, rfl⟩, ?_⟩
      exact fin X6 pr.1 xs [] q2 (S9.trans S10) eX6 al4 n2 (addS_one c)
    rw [List.concat_eq_append] at *
    obtain ⟨us, q1, t1, rfl, al1, e1, et1⟩ := al4.cut
    rw [show (!(gs ++ [l]).isEmpty) = true by simp]
    refine iteT ?_
    refine ⟨_, rfl, 1, rfl, F, _, -1, .ref q1, rfl, rfl, SqL.of eX5, atI_last _ _, 1, rfl, q1, _, rfl, S9 _ _ e1, fun c1 X6 S10 ec => ?_⟩
    rw [cut1] at ec
    have ec : X6 c1 = some (.tup [.int l.2.1, .ref t1]) := ec
    refine ⟨_, rfl, _, _, rfl, rfl, _, rfl, by show 2 ≤ sizeLine; decide, fun z3 nz3 => ?_⟩
    have S11 := Same.laid (o := HO.tup [V.int (pr.1 - 1), .ref t]) nz3
    have ez3 : upd X6 z3 (.tup [V.int (pr.1 - 1), .ref t]) z3 = some (.tup [V.int (pr.1 - 1), .ref t]) := upd_same
    generalize upd X6 z3 (.tup [V.int (pr.1 - 1), .ref t]) = X7 at *
    have S47 := S9.trans (S10.trans S11)
    refine eq_pairI (S11 _ _ ec) (S47 _ _ et1) ez3 (S47 _ _ et4) ⟨_, rfl, ?_⟩
    have eX7 := S47 _ _ eX4
    by_cases yes : l.2.1 = pr.1 - 1 ∧ l.2.2 = brk (picM ps hs pr.1) rs
    · rw [decide_eq_true yes]
      refine iteT ⟨_, rfl, 1, rfl, F, _, -1, .ref q1, rfl, rfl, SqL.of eX7, atI_last _ _, q1, _, 0, .int l.1, rfl, rfl, SqT.of (S47 _ _ e1), rfl, _, rfl, _, _, rfl, rfl, _, rfl, by show 3 ≤ sizeLine; decide, fun q2 n2 => ?_⟩
      have q2F : q2 ≠ F := fun z => by rw [z, eX7] at n2; cases n2
      refine ⟨_, rfl, 1, rfl, F, _, -1, us.length, rfl, rfl, (upd_ne q2F.symm).trans eX7, ixN_last, ⟨_, _, _, _, rfl⟩, ?_⟩
      rw [set_last]
      exact fin X7 l.1 us gs q2 S47 eX7 al1 n2 (addS_yes c yes)
    · rw [decide_eq_false yes]
      refine iteF ?_
      refine ⟨_, rfl, by show 0 ≤ sizeLine; decide, fun z4 nz4 => ?_⟩
      have S12 := Same.laid (o := HO.tup []) nz4
      have ez4 : upd X7 z4 (.tup []) z4 = some (.tup []) := upd_same
      generalize upd X7 z4 (.tup []) = X8 at *
      refine ne_tup0 (S12 _ _ (S47 _ _ et4)) ez4 ⟨_, rfl, ?_⟩
      rw [decide_eq_false c]
      refine iteT ?_
      have eX8 := S12 _ _ eX7
      refine ⟨_, rfl, .inl ⟨rfl, _, SqL.of eX8⟩, _, rfl, _, rfl, _, _, rfl, rfl, _, rfl, by show 3 ≤ sizeLine; decide, fun q2 n2 => ?_⟩
      have q2F : q2 ≠ F := fun z => by rw [z, eX8] at n2; cases n2
      refine ⟨F, _, .ref q2, rfl, rfl, (upd_ne q2F.symm).trans eX8, xlen, ⟨_, _, _, _, rfl⟩, ?_⟩
      exact fin X8 pr.1 _ _ q2 (S47.trans S12) eX8 al4 n2 (addS_new c yes)
  · rintro σ X ⟨⟨v4', v6, v7, v8, rfl⟩, SX, xs, eX, alx⟩
    rw [← slen, List.take_length, res] at alx
    refine ⟨_, rfl, k F X xs (fun c o e => ?_) FN eX alx⟩
    have cF : c ≠ F := ne_of_none e FN
    exact wo_same _ _ (SX _ _ (wo_of cF (S18 _ _ e)))
end
end V51

set_option maxHeartbeats 8000000
namespace V51
open PySem PySem.Spec PyProof.Rows L2 Pw
theorem op_eqDK {X : Cx} {K : PySem.W.Frag} (hK : X.K = K) (hu : X.A.units + 64 < cLine) : OpR X (compareOp .Eq) (rEqD K) := hK ▸ op_eqD hu
theorem op_neDK {X : Cx} {K : PySem.W.Frag} (hK : X.K = K) (hu : X.A.units + 64 < cLine) : OpR X (compareOp .NotEq) (rNeD K) := hK ▸ op_neD hu
theorem good_spans' {N : Int → List Int} {x y : Int} : GoodSp N x (y + 1) (spansM N x y) := by
  rcases Int.lt_or_le y x with h | h
  · rw [spansM_no h]
    exact ⟨(fun s hs => nomatch hs), .nil, fun t h1 h2 => by omega⟩
  · exact good_spans h
/-- what stands at ticks -/
def OkB (fs : List Sp3) (X : Hp) (kv : List (Key × V)) : Prop := ∀ p ∈ kv, ∃ t q s, p = (.inl t, .ref q) ∧ s ∈ fs ∧ s.1 ≤ t ∧ t ≤ s.2.1 ∧ X q = some (.lst (s.2.2.map V.int))
theorem OkB.imp {fs gs : List Sp3} {X Y : Hp} {kv : List (Key × V)} (h : OkB fs X kv) (S : ∀ q xs, X q = some (.lst xs) → Y q = some (.lst xs)) (sub : ∀ s ∈ fs, s ∈ gs) : OkB gs Y kv := fun p hp => by
  obtain ⟨t, q, s, e, hs, h1, h2, e2⟩ := h p hp
  exact ⟨t, q, s, e, sub s hs, h1, h2, S _ _ e2⟩
theorem mem_putK {kv : List (Key × V)} {k : Key} {v : V} {p : Key × V} (h : p ∈ putK kv k v) : p ∈ kv ∨ p = (k, v) := by
  unfold putK at h
  split at h
  · obtain ⟨q, hq, e⟩ := List.mem_map.mp h
    by_cases c : q.1 = k
    · rw [if_pos c] at e
      exact .inr (by rw [← e, c])
    · rw [if_neg c] at e
      exact .inl (e ▸ hq)
  · rcases List.mem_append.mp h with h | h
    · exact .inl h
    · exact .inr (List.mem_singleton.mp h)
theorem mem_valV {kv : List (Key × V)} {k : Key} {v : V} (h : valV kv k = some v) : (k, v) ∈ kv := by
  unfold valV at h
  obtain ⟨p, hf, rfl⟩ := Option.map_eq_some_iff.mp h
  have := List.find?_some hf
  have e : p.1 = k := of_decide_eq_true this
  have := List.mem_of_find?_eq_some hf
  rw [← e]
  exact this
theorem eq_emptyS {K : PySem.W.Frag} {H : Hp} {Q : VK} {a b : Addr} {xs : List V} {ss : List Sp3} (h : H a = some (.lst xs)) (al : AlS H xs ss) (k : H b = some (.lst [])) (q : Q (.bl ss.isEmpty) H) : rEqD K (.ref a) (.ref b) H Q :=
  ⟨_, .list [], .lst (SqL.of h) (als_dp al), .lst (xs := []) (SqL.of k) .nil, shapedS ss, rfl, by rw [eqv_nilS]; exact q⟩
theorem cut_ints (ts : List Int) (lo hi : Option Int) : ∃ us : List Int, cutV (ts.map V.int) lo hi = us.map V.int ∧ (∀ t ∈ us, t ∈ ts) ∧ us.length ≤ ts.length := by
  unfold cutV
  rw [← List.map_drop, ← List.map_take]
  exact ⟨_, rfl, fun t h => List.mem_of_mem_drop (List.mem_of_mem_take h), by rw [List.length_take, List.length_drop]; omega⟩
section
variable {P : Program} {w : World} {K : PySem.W.Frag} {mg : Str → Option Value} {base : Heap} {C : Addr}
def spTicks (C : Addr) (K : PySem.W.Frag) : Sp := fun vs H Q _ => ∃ p e fo x y W ps kvs hs rs xs, vs = [.ref p, .ref e, .ref fo, .int x, .int y] ∧ HsAt K C H p e W ps kvs hs ∧ AlR H W.xl rs ∧ (∀ r ∈ rs, GoodRel ps r) ∧ rs.length ≤ 5 ∧
  H fo = some (.lst xs) ∧ AlS H xs (spansM (Nb ps hs rs) x y) ∧ (spansM (Nb ps hs rs) x y).length ≤ 1001 ∧ 0 ≤ x ∧ x ≤ 9999 ∧ 0 ≤ y ∧ y ≤ 9999 ∧ y - x ≤ 1000 ∧ ∀ H', Same H H' → Q (.bl true) H'
theorem d_ticks (T : Txt mg) (A : At K mg "_law_ticks_right" sLawTicksRight) (dA : Def P w K mg base "broken" 7 ["works", "picture"] (spBroken C K)) (dP : Def P w K mg base "picture_at" 9 ["works", "histories", "time"] (spPicAt C K)) :
    Def P w K mg base "_law_ticks_right" 10 ["_law_works", "_law_histories_here", "_law_found", "_law_since", "_law_till"] (spTicks C K) := by
  refine mkDef A scLawTicksRight (fun _ _ _ _ _ _ us hl => match us, hl with | [_, _, _, _, _], _ => rfl) (fun vs H Q E ⟨_, _, _, _, _, _, _, _, _, _, _, e, _⟩ => by rw [e]; rfl)
    (fun f cdv A out s H vs Q E hr h => ?_)
  obtain ⟨p, e, fo, x, y, W, ps, kvs, hs, rs, xs, rfl, hh, alr, gr, r5, ef, al, fl, x0, x9, y0, y9, xy, k⟩ := h
  have hu : (A.deeper (envOfC "_law_ticks_right" (defScope sLawTicksRight) s.heap.objs.size f cdv)).units + 1 < cLine := hu_of hr
  refine ⟨_, (pss_cons (ps_set (i := 5) scLawTicksRight.nd rfl (.inl rfl) pe_dnewK)
    (pss_cons (ps_for PassesOwn.never rfl (pi_list (pv 2)) (pg_tup (by rfl) (pgs_cons (pg_name (i := 6) scLawTicksRight.nd rfl (.inl rfl)) (pgs_cons (pg_name (i := 7) scLawTicksRight.nd rfl (.inl rfl)) (pgs_cons (pg_name (i := 8) scLawTicksRight.nd rfl (.inl rfl)) pgs_nil))))
      (pss_cons (ps_for PassesOwn.never rfl (pi_list (pe_lst (pa_cons (pv 6) (pa_cons (pv 7) (pa_cons (pe_op op_fdiv (pe_op op_add (pv 6) (pv 7)) pe_int) pa_nil))))) (pg_name (i := 9) scLawTicksRight.nd rfl (.inl rfl))
        (pss_one (ps_dput hu (pv 5) (pv 9) (pe_callTy call_list_of (by rfl) T.list (by decide +kernel) (pa_cons (pv 8) pa_nil)) rfl)))
      (pss_one (ps_for PassesOwn.never rfl (pi_list (pe_lst (pa_cons (pe_op op_sub (pv 6) pe_int) (pa_cons (pe_op op_add (pv 7) pe_int) pa_nil)))) (pg_name (i := 9) scLawTicksRight.nd rfl (.inl rfl))
        (pss_one (ps_if (pt_cmpR (op_eqD hr.units) (pe_dget2 hu (pv 5) (pv 9) (pe_lst pa_nil) ⟨rfl, rfl, rfl, rfl⟩) (pe_callTy call_list_of (by rfl) T.list (by decide +kernel) (pa_cons (pv 8) pa_nil)) (nomark _))
          (pss_one (ps_ret pe_bl))
          pss_nil))))))
    (pss_cons (ps_lock (ps_for PassesOwn.never rfl (pi_items (pv 5)) (pg_tup (by rfl) (pgs_cons (pg_name (i := 9) scLawTicksRight.nd rfl (.inl rfl)) (pgs_cons (pg_name (i := 8) scLawTicksRight.nd rfl (.inl rfl)) pgs_nil)))
      (pss_one (ps_if (pt_cmpR (op_neD hr.units) (pe_d dA hr (by decide) (by rfl) (pa_cons (pv 0) (pa_cons (pe_d dP hr (by decide) (by rfl) (pa_cons (pv 0) (pa_cons (pv 1) (pa_cons (pv 9) pa_nil)))) pa_nil))) (pv 8) (nomark _))
        (pss_one (ps_ret pe_bl))
        pss_nil))))
    (pss_cons (ps_setLc (i := 10) (own := [("_law_time", 9)]) (g := gName 9) rfl scLawTicksRight.nd rfl rfl (sw_true rfl rfl rfl (by decide +kernel)) (pi_range2 (by rfl) T.range (pa_cons (pv 3) (pa_cons (pe_op op_add (pv 4) pe_int) pa_nil)))
        (blkOk_by (own := [("_law_time", 9)]) (N := ["_law_works", "_law_histories_here", "_law_found", "_law_since", "_law_till", "_law_broken_at", "_law_first", "_law_last", "_law_numbers", "_law_time", "_law_free", "_law_row"]) (sc := defScope sLawTicksRight) (by decide +kernel))
        (fun _ _ _ _ _ => (pg_name (i := 9) scLawTicksRight.nd rfl (.inr rfl))) (fun _ _ _ _ _ => (pts_one (pt_cmpR (op_eqDK (K := K) rfl hr.units) (pe_lc (own := [("_law_row", 11)]) (g := gName 11) rfl scLawTicksRight.nd (pi_listK (K := K) rfl (pv 2))
        (blkOk_by (own := [("_law_row", 11)]) (N := ["_law_works", "_law_histories_here", "_law_found", "_law_since", "_law_till", "_law_broken_at", "_law_first", "_law_last", "_law_numbers", "_law_time", "_law_free", "_law_row"]) (sc := { kind := ScopeKind.function, names := [(".0", NameKind.local), ("_law_time", NameKind.cell), ("_law_found", NameKind.cell)], isGenerator := false, isCoroutine := false }) (by decide +kernel))
        (fun _ _ _ _ _ => (pg_name (i := 11) scLawTicksRight.nd rfl (.inl rfl))) (fun _ _ _ _ _ => (pts_one (pt_chain op_le op_le (pe_ix (r := rIxT K) ix_tup (pv 11) pe_int (fun _ _ => rfl)) (pv 9) (pe_ix (r := rIxT K) ix_tup (pv 11) pe_int (fun _ _ => rfl)))))
        (fun _ _ _ _ _ => (pv 11))) (pe_lst pa_nil) (nomark _))))
        (fun _ _ _ _ _ => (pv 9)))
    (pss_one (ps_ret (pe_cmpR (op_eqD hr.units) (pe_lc (own := [("_law_time", 9)]) (g := gName 9) rfl scLawTicksRight.nd (pi_list (pe_op op_cat (pe_slice sl_list (pv 10) po_none (po_some pe_int)) (pe_slice sl_list (pv 10) (po_some (pe_un un_neg pe_int)) po_none)))
        (blkOk_by (own := [("_law_time", 9)]) (N := ["_law_works", "_law_histories_here", "_law_found", "_law_since", "_law_till", "_law_broken_at", "_law_first", "_law_last", "_law_numbers", "_law_time", "_law_free", "_law_row"]) (sc := defScope sLawTicksRight) (by decide +kernel))
        (fun _ _ _ _ _ => (pg_name (i := 9) scLawTicksRight.nd rfl (.inl rfl))) (fun _ _ _ _ _ => (pts_one (pt_cmpR (op_neDK (K := K) rfl hr.units) (pe_d dA hr (by decide) (by rfl) (pa_cons (pv 0) (pa_cons (pe_d dP hr (by decide) (by rfl) (pa_cons (pv 0) (pa_cons (pv 1) (pa_cons (pv 9) pa_nil)))) pa_nil))) (pe_lst pa_nil) (nomark _))))
        (fun _ _ _ _ _ => (pv 9))) (pe_lst pa_nil) (nomark _)))))))), ?_⟩
  have g : GoodSp (Nb ps hs rs) x (y + 1) (spansM (Nb ps hs rs) x y) := good_spans'
  generalize spansM (Nb ps hs rs) x y = fs at *
  have flen := al.length
  intro D nD
  have S1 := Same.laid (o := HO.dK []) nD
  have eD : upd H D (.dK []) D = some (.dK []) := upd_same
  generalize upd H D (.dK []) = H1 at *
  dsimp only [gName]
  have fD : fo ≠ D := ne_of_none ef nD
  have ef1 := S1 _ _ ef
  have al1 := al.same S1
  refine ⟨_, rfl, fo, rfl, ⟨_, SqL.of ef1⟩, ?_⟩
  refine for_it (walk_list (K := K) (a := fo) (xs := xs)) (fun i σ X => (∃ v6 v7 v8 v9 : Option V, σ = [some (.ref p), some (.ref e), some (.ref fo), some (.int x), some (.int y), some (.ref D), v6, v7, v8, v9, none, none]) ∧ Same (wo H1 D) (wo X D) ∧
      ∃ kv, X D = some (.dK kv) ∧ OkB (fs.take i) X kv ∧ kv.length ≤ 3 * i) ⟨⟨_, _, _, _, rfl⟩, Same.refl _, [], eD, (fun p hp => nomatch hp), by decide⟩ (fun i σ X _ h => SqL.of (wo_same _ _ (h.2.1 _ _ (wo_of fD ef1)))) ?_ ?_
  · rintro i v σ X0 X hi ⟨⟨v6, v7, v8, v9, rfl⟩, SX, kv, eX, ok, kl⟩ ⟨rfl, hx⟩
    obtain ⟨q, t, sp, rfl, hsp, eq, et⟩ := al1.get hx
    have spin : sp ∈ fs := List.mem_of_getElem? hsp
    obtain ⟨sne, sx, sle, sy, sN⟩ := g.in_ sp spin
    have qD : q ≠ D := fun z => by rw [z, eD] at eq; cases eq
    have tD : t ≠ D := fun z => by rw [z, eD] at et; cases et
    have eq' := wo_same _ _ (SX _ _ (wo_of qD eq))
    have et' := wo_same _ _ (SX _ _ (wo_of tD et))
    have ets : fs.take (i + 1) = fs.take i ++ [sp] := by rw [List.take_add_one, hsp]; rfl
    have sub : ∀ s ∈ fs.take i, s ∈ fs.take (i + 1) := fun s hs => by rw [ets]; exact List.mem_append_left _ hs
    have own : sp ∈ fs.take (i + 1) := by rw [ets]; exact List.mem_append_right _ (List.mem_singleton.mpr rfl)
    have i1 : i < 1001 := by omega
    refine ⟨q, _, rfl, SqT.of eq', rfl, _, _, rfl, _, _, rfl, _, _, rfl, rfl, ?_⟩
    dsimp only [gName]
    refine ⟨_, rfl, _, rfl, _, rfl, _, rfl, _, _, rfl, rfl, _, _, rfl, rfl, ⟨by decide, by decide⟩, by show 3 ≤ sizeLine; decide, fun L nL => ?_⟩
    have LD : L ≠ D := fun z => by rw [z, eX] at nL; cases nL
    have SL := Same.laid (o := HO.lst [V.int sp.1, .int sp.2.1, .int ((sp.1 + sp.2.1) / 2)]) nL
    have eL : upd X L (.lst [V.int sp.1, .int sp.2.1, .int ((sp.1 + sp.2.1) / 2)]) L = some (.lst [V.int sp.1, .int sp.2.1, .int ((sp.1 + sp.2.1) / 2)]) := upd_same
    have eXL := SL _ _ eX
    have okL : OkB (fs.take (i + 1)) (upd X L (.lst [V.int sp.1, .int sp.2.1, .int ((sp.1 + sp.2.1) / 2)])) kv := ok.imp (fun q xs e => SL _ _ e) sub
    have SXL : Same (wo H1 D) (wo (upd X L (.lst [V.int sp.1, .int sp.2.1, .int ((sp.1 + sp.2.1) / 2)])) D) := SX.trans (Same.wo SL)
    have etL := SL _ _ et'
    generalize upd X L (.lst [V.int sp.1, .int sp.2.1, .int ((sp.1 + sp.2.1) / 2)]) = XL at *
    refine ⟨L, rfl, ⟨_, SqL.of eL⟩, ?_⟩
    refine for_it (walk_list (K := K) (a := L) (xs := [V.int sp.1, .int sp.2.1, .int ((sp.1 + sp.2.1) / 2)])) (fun j σ Y => (∃ v9 : Option V, σ = [some (.ref p), some (.ref e), some (.ref fo), some (.int x), some (.int y), some (.ref D), some (.int sp.1), some (.int sp.2.1), some (.ref t), v9, none, none]) ∧
      Same (wo XL D) (wo Y D) ∧ ∃ kv, Y D = some (.dK kv) ∧ OkB (fs.take (i + 1)) Y kv ∧ kv.length ≤ 3 * i + j) ⟨⟨_, rfl⟩, Same.refl _, kv, eXL, okL, kl⟩ (fun j σ Y _ h => SqL.of (wo_same _ _ (h.2.1 _ _ (wo_of LD eL)))) ?_ ?_
    · rintro j v σ Y0 Y hj ⟨⟨v9, rfl⟩, SY, kv2, eY, ok2, kl2⟩ ⟨rfl, hxj⟩
      have hj3 : j < 3 := hj
      obtain ⟨tt, rfl, t0, t1⟩ : ∃ tt : Int, v = .int tt ∧ sp.1 ≤ tt ∧ tt ≤ sp.2.1 := by
        have := List.mem_of_getElem? hxj
        simp only [List.mem_cons, List.not_mem_nil, or_false] at this
        rcases this with rfl | rfl | rfl
        · exact ⟨_, rfl, Int.le_refl _, sle⟩
        · exact ⟨_, rfl, sle, Int.le_refl _⟩
        · exact ⟨_, rfl, by omega, by omega⟩
      have etY := wo_same _ _ (SY _ _ (wo_of tD etL))
      dsimp only [gName]
      refine ⟨_, rfl, t, _, rfl, .inr (SqT.of etY), fun l nl => ?_⟩
      have lD : l ≠ D := fun z => by rw [z, eY] at nl; cases nl
      have U := Same.laid (o := HO.lst (sp.2.2.map V.int)) nl
      have el : upd Y l (.lst (sp.2.2.map V.int)) l = some (.lst (sp.2.2.map V.int)) := upd_same
      generalize upd Y l (.lst (sp.2.2.map V.int)) = Y2 at *
      have eY2 := U _ _ eY
      refine ⟨_, rfl, _, rfl, D, _, rfl, DPut.k (k := .inl tt) eY2 (Nat.lt_of_le_of_lt (show kv2.length ≤ 4000 by omega) (by decide)), ⟨_, rfl⟩, ?_, _, upd_same, fun pp hp => ?_, ?_⟩
      · rw [wo_upd]
        exact SY.trans (Same.wo U)
      · have off : ∀ (q : Addr) xs, Y q = some (.lst xs) → upd Y2 D (.dK (putK kv2 (.inl tt) (.ref l))) q = some (.lst xs) := fun q xs e => (upd_ne (fun z => by rw [z, eY] at e; cases e)).trans (U _ _ e)
        rcases mem_putK hp with h | rfl
        · exact (ok2.imp off fun _ z => z) pp h
        · exact ⟨tt, l, sp, rfl, own, t0, t1, (upd_ne lD).trans el⟩
      · have := length_putK kv2 (.inl tt) (V.ref l)
        omega
    rintro σ Y ⟨⟨v9, rfl⟩, SY, kv2, eY, ok2, kl2⟩
    have kl2 : kv2.length ≤ 3 * i + 3 := kl2
    refine ⟨_, rfl, _, _, rfl, rfl, _, rfl, _, _, rfl, rfl, by show 2 ≤ sizeLine; decide, fun M nM => ?_⟩
    have MD : M ≠ D := fun z => by rw [z, eY] at nM; cases nM
    have SM := Same.laid (o := HO.lst [V.int (sp.1 - 1), .int (sp.2.1 + 1)]) nM
    have eM : upd Y M (.lst [V.int (sp.1 - 1), .int (sp.2.1 + 1)]) M = some (.lst [V.int (sp.1 - 1), .int (sp.2.1 + 1)]) := upd_same
    have eYM := SM _ _ eY
    have okM : OkB (fs.take (i + 1)) (upd Y M (.lst [V.int (sp.1 - 1), .int (sp.2.1 + 1)])) kv2 := ok2.imp (fun q xs e => SM _ _ e) fun _ z => z
    have SYM : Same (wo H1 D) (wo (upd Y M (.lst [V.int (sp.1 - 1), .int (sp.2.1 + 1)])) D) := SXL.trans (SY.trans (Same.wo SM))
    have etM := SM _ _ (wo_same _ _ (SY _ _ (wo_of tD etL)))
    generalize upd Y M (.lst [V.int (sp.1 - 1), .int (sp.2.1 + 1)]) = YM at *
    refine ⟨M, rfl, ⟨_, SqL.of eM⟩, ?_⟩
    refine for_it (walk_list (K := K) (a := M) (xs := [V.int (sp.1 - 1), .int (sp.2.1 + 1)])) (fun j σ Z => (∃ v9 : Option V, σ = [some (.ref p), some (.ref e), some (.ref fo), some (.int x), some (.int y), some (.ref D), some (.int sp.1), some (.int sp.2.1), some (.ref t), v9, none, none]) ∧ Same YM Z)
      ⟨⟨_, rfl⟩, Same.refl _⟩ (fun j σ Z _ h => SqL.of (h.2 _ _ eM)) ?_ ?_
    · rintro j v σ Z0 Z hj ⟨⟨v9', rfl⟩, SZ⟩ ⟨rfl, hxj⟩
      obtain ⟨tt, rfl, tb⟩ : ∃ tt : Int, v = .int tt ∧ (tt = sp.1 - 1 ∨ tt = sp.2.1 + 1) := by
        have := List.mem_of_getElem? hxj
        simp only [List.mem_cons, List.not_mem_nil, or_false] at this
        rcases this with rfl | rfl
        · exact ⟨_, rfl, .inl rfl⟩
        · exact ⟨_, rfl, .inr rfl⟩
      dsimp only [gName]
      have eZ := SZ _ _ eYM
      have etZ := SZ _ _ etM
      refine ⟨_, rfl, D, rfl, .inl ⟨_, .inl eZ⟩, _, rfl, by show 0 ≤ sizeLine; decide, fun z nz => ?_⟩
      have U := Same.laid (o := HO.lst []) nz
      have ez : upd Z z (.lst []) z = some (.lst []) := upd_same
      generalize upd Z z (.lst []) = Z2 at *
      refine ⟨valV kv2 (.inl tt), .inl ⟨kv2, .inl tt, .inl (U _ _ eZ), rfl, rfl⟩, ?_⟩
      obtain ⟨qv, ns, hv, eqv, nne⟩ : ∃ (qv : Addr) (ns : List Int), ((valV kv2 (.inl tt)).getD (.ref z)) = .ref qv ∧ Z2 qv = some (.lst (ns.map V.int)) ∧ ns ≠ sp.2.2 := by
        cases hval : valV kv2 (.inl tt) with
        | none => exact ⟨z, [], rfl, ez, fun h => sne h.symm⟩
        | some w =>
          obtain ⟨t', q', s', ep, hs', h1, h2, e2⟩ := okM _ (mem_valV hval)
          cases ep
          refine ⟨q', s'.2.2, rfl, U _ _ (SZ _ _ e2), ?_⟩
          rw [ets] at hs'
          rcases List.mem_append.mp hs' with hs' | hs'
          · have pw := g.pw
            rw [← List.take_append_drop (i + 1) fs, ets] at pw
            have p2 := (List.pairwise_append.mp (List.pairwise_append.mp pw).1).2.2 s' hs' sp (List.mem_singleton.mpr rfl)
            rcases tb with rfl | rfl
            · exact p2.2 (by omega)
            · have := p2.1
              omega
          · rw [List.mem_singleton.mp hs'] at h1 h2
            rcases tb with rfl | rfl <;> omega
      rw [hv]
      refine ⟨_, rfl, t, _, rfl, .inr (SqT.of (U _ _ etZ)), fun l nl => ?_⟩
      have U2 := Same.laid (o := HO.lst (sp.2.2.map V.int)) nl
      refine eq_lstI (U2 _ _ eqv) upd_same ⟨_, rfl, ?_⟩
      rw [decide_eq_false nne]
      exact iteF ⟨⟨_, rfl⟩, SZ.trans (U.trans U2)⟩
    rintro σ Z ⟨⟨v9', rfl⟩, SZ⟩
    exact ⟨⟨_, _, _, _, rfl⟩, SYM.trans (Same.wo SZ), kv2, SZ _ _ eYM, okM.imp (fun q xs e => SZ _ _ e) fun _ z => z, by omega⟩
  rintro σ X ⟨⟨v6, v7, v8, v9, rfl⟩, SX, kv, eX, ok, kl⟩
  rw [flen, List.take_length] at ok
  have SHX : Same H X := fun c o e => by
    have cD : c ≠ D := ne_of_none e nD
    exact wo_same _ _ (SX _ _ (wo_of cD (S1 _ _ e)))
  have wkOf : ∀ {Z Z1 : Hp} {b : Addr}, Same H Z → Same Z Z1 → Z b = none → WoP K C (wo Z1 b) p W ps := fun {Z Z1 b} SZ S5 nb =>
    (hh.same SZ).wk.same fun c o ec => by
      have e1 := wo_same _ _ ec
      exact wo_of (ne_of_none e1 nb) (S5 _ _ e1)
  refine ⟨D, _, eX, trivial, fun od => ?_⟩
  have eX1 : upd X D (.frz od (.dK kv)) D = some (.frz od (.dK kv)) := upd_same
  have SHX1 : Same H (upd X D (.frz od (.dK kv))) := Same.wo_upd SHX nD
  have okX1 : OkB fs (upd X D (.frz od (.dK kv))) kv := ok.imp (fun q xs e => (upd_ne (fun z => by rw [z, eX] at e; cases e)).trans e) fun _ z => z
  have SXX : Same (wo X D) (wo (upd X D (.frz od (.dK kv))) D) := by rw [wo_upd]; exact Same.refl _
  generalize upd X D (.frz od (.dK kv)) = X1 at *
  refine ⟨_, rfl, D, od, kv, rfl, eX1, ?_⟩
  refine for_it (walk_items (d := D) (o := od) (kvs := kv)) (fun j σ Z => (∃ v6 v7 v8 v9 : Option V, σ = [some (.ref p), some (.ref e), some (.ref fo), some (.int x), some (.int y), some (.ref D), v6, v7, v8, v9, none, none]) ∧ Same X1 Z) ⟨⟨_, _, _, _, rfl⟩, Same.refl _⟩ (fun j σ Z _ h => h.2 _ _ eX1) ?_ ?_
  · rintro j v σ Z0 Z hj ⟨⟨v6, v7, v8, v9, rfl⟩, SZ⟩ ⟨Tq, kx, y', rfl, nT, rfl, ekx, ey⟩
    have hjk : j < kv.length := hj
    replace ekx : Option.map (fun kv : Key × V => kV kv.fst) kv[j]? = some kx := ekx
    replace ey : Option.map Prod.snd kv[j]? = some y' := ey
    rw [List.getElem?_eq_getElem hjk] at ekx ey
    obtain ⟨tt, q, sp, epq, hs', h1, h2, eq2⟩ := okX1 _ (List.getElem_mem hjk)
    rw [epq] at ekx ey
    obtain rfl : kx = .int tt := (Option.some.inj ekx).symm
    obtain rfl : y' = .ref q := (Option.some.inj ey).symm
    have U := Same.laid (o := HO.tup [V.int tt, .ref q]) nT
    have eT : upd Z0 Tq (.tup [V.int tt, .ref q]) Tq = some (.tup [V.int tt, .ref q]) := upd_same
    generalize upd Z0 Tq (.tup [V.int tt, .ref q]) = Z at *
    have SZ1 := SZ.trans U
    have SHZ := SHX1.trans SZ1
    obtain ⟨sne, sx, sle, sy, sN⟩ := g.in_ sp hs'
    refine ⟨Tq, _, rfl, SqT.of eT, rfl, _, _, rfl, _, _, rfl, rfl, ?_⟩
    dsimp only [gName]
    refine ⟨_, rfl, _, rfl, _, rfl, _, rfl, p, e, tt, W, ps, kvs, hs, rfl, hh.same SHZ, ⟨by omega, by omega⟩, fun b Z1 S5 nb eb => ?_⟩
    refine ⟨p, b, W, ps, picM ps hs tt, rs, rfl, ⟨wkOf SHZ S5 nb, eb, picM_good hh.wk.g hh.g⟩, alr.same (SHZ.trans S5), gr, r5, fun N Z2 S6 nN eN => ?_⟩
    refine ⟨_, rfl, ne_lstI eN ((SZ1.trans (S5.trans S6)) _ _ eq2) ⟨_, rfl, ?_⟩⟩
    have hN : brk (picM ps hs tt) rs = sp.2.2 := sN tt h1 h2
    rw [decide_eq_true hN]
    exact iteF ⟨⟨_, _, _, _, rfl⟩, SZ1.trans (S5.trans S6)⟩
  rintro σ Z ⟨⟨v6, v7, v8, v9, rfl⟩, SZ⟩
  refine ⟨SZ _ _ eX1, ?_⟩
  have SHY : Same H (upd Z D (.dK kv)) := Same.wo_upd (SHX1.trans SZ) nD
  generalize upd Z D (.dK kv) = Y at *
  -- the ticks at which nothing is broken
  refine ⟨_, rfl, _, rfl, _, _, rfl, rfl, x, y + 1, rfl, by omega, fun B nB => ?_⟩
  generalize hn : (y + 1 - x).toNat = n
  refine lc_acc (walk_range (lo := x) (n := n)) nB (by omega) (fun i acc _ => ∃ ts : List Int, acc = ts.map V.int ∧ (∀ t ∈ ts, x ≤ t ∧ t ≤ y ∧ Nb ps hs rs t = []) ∧ ts.length ≤ i) ⟨[], rfl, (fun t h => nomatch h), by decide⟩ (fun _ _ => trivial) ?_ ?_
  · rintro i v Z0 Z acc hi SZ' eB hl ⟨ts, rfl, hts, tl⟩ ⟨rfl, rfl⟩ Fy Fn hy1 hn1
    refine ⟨rfl, ?_⟩
    have efZ := SZ' _ _ (SHY _ _ ef)
    have alZ := (al.same SHY).same SZ'
    refine ⟨_, rfl, fo, rfl, ⟨_, SqL.of efZ⟩, fun D2 nD2 => ?_⟩
    refine lc_acc (walk_list (K := K) (a := fo) (xs := xs)) nD2 (by omega) (fun j acc2 Z => AlS Z acc2 ((fs.take j).filter fun s => decide (s.1 ≤ x + i ∧ x + i ≤ s.2.1))) .nil (fun H' S => SqL.of (S _ _ efZ)) ?_ ?_
    · rintro j v W0 W1 acc2 hj SW eD2 hl2 alw ⟨rfl, hxj⟩ Gy Gn gy1 gn1
      obtain ⟨q, t, sp, rfl, hsp, eq, et⟩ := (alZ.same SW).get hxj
      have ets : fs.take (j + 1) = fs.take j ++ [sp] := by rw [List.take_add_one, hsp]; rfl
      have qD : q ≠ D2 := fun z => by rw [z, eD2] at eq; cases eq
      have tD : t ≠ D2 := fun z => by rw [z, eD2] at et; cases et
      refine ⟨rfl, ?_⟩
      have no : ¬ (sp.1 ≤ x + i ∧ x + i ≤ sp.2.1) → Gn W1 := fun c => gn1 _ (Same.refl _) (by
        rw [ets, List.filter_append, List.filter_cons, decide_eq_false c]
        simpa using alw)
      refine ⟨_, rfl, q, _, 0, .int sp.1, rfl, rfl, SqT.of eq, rfl, _, rfl, sp.1, x + i, rfl, rfl, _, rfl, ?_⟩
      by_cases c1 : sp.1 ≤ x + i
      · rw [decide_eq_true c1]
        refine iteT ⟨_, rfl, q, _, 1, .int sp.2.1, rfl, rfl, SqT.of eq, rfl, x + i, sp.2.1, rfl, rfl, _, rfl, ?_⟩
        by_cases c2 : x + i ≤ sp.2.1
        · rw [decide_eq_true c2]
          refine iteT ⟨_, rfl, gy1 _ _ (Same.refl _) ?_⟩
          rw [ets, List.filter_append, List.filter_cons, decide_eq_true ⟨c1, c2⟩]
          exact AlS.snoc alw (wo_of qD eq) (wo_of tD et)
        · rw [decide_eq_false c2]
          exact iteF (no fun z => c2 z.2)
      · rw [decide_eq_false c1]
        exact iteF ⟨_, rfl, iteF (no fun z => c1 z.1)⟩
    rintro Z1 acc2 S5 eD2 alw
    rw [flen, List.take_length] at alw
    refine ⟨by show 0 ≤ sizeLine; decide, fun z nz => ?_⟩
    have S6 := Same.laid (o := HO.lst []) nz
    have ez : upd Z1 z (.lst []) z = some (.lst []) := upd_same
    generalize upd Z1 z (.lst []) = Z2 at *
    refine eq_emptyS (S6 _ _ eD2) ((alw.same wo_same).same S6) ez ⟨_, rfl, ?_⟩
    have S56 := S5.trans S6
    by_cases c : fs.filter (fun s => decide (s.1 ≤ x + i ∧ x + i ≤ s.2.1)) = []
    · rw [c]
      refine iteT ⟨_, rfl, hy1 _ _ S56 ⟨ts ++ [x + i], by rw [List.map_append]; rfl, fun t ht => ?_, by simp; omega⟩⟩
      rcases List.mem_append.mp ht with ht | ht
      · exact hts t ht
      · rw [List.mem_singleton.mp ht]
        refine ⟨by omega, by omega, ?_⟩
        by_cases zz : Nb ps hs rs (x + i) = []
        · exact zz
        · obtain ⟨s, hs', h1, h2⟩ := g.cov (x + i) (by omega) (by omega) zz
          have := List.filter_eq_nil_iff.mp c s hs'
          exact absurd (decide_eq_true ⟨h1, h2⟩) this
    · have : (fs.filter (fun s => decide (s.1 ≤ x + i ∧ x + i ≤ s.2.1))).isEmpty = false := by
        cases e : fs.filter (fun s => decide (s.1 ≤ x + i ∧ x + i ≤ s.2.1)) with
        | nil => exact absurd e c
        | cons _ _ => rfl
      rw [this]
      exact iteF (hn1 _ S56 ⟨ts, rfl, hts, by omega⟩)
  rintro Y1 acc S5 eB ⟨ts, rfl, hts, tl⟩
  have SHY1 := SHY.trans S5
  dsimp only [gName]
  refine ⟨_, rfl, 3, rfl, B, _, rfl, SqL.of eB, fun L1 nL1 => ?_⟩
  obtain ⟨us1, ecut1, sub1, len1⟩ := cut_ints ts none (some 3)
  rw [ecut1]
  have S6 := Same.laid (o := HO.lst (us1.map V.int)) nL1
  have eL1 : upd Y1 L1 (.lst (us1.map V.int)) L1 = some (.lst (us1.map V.int)) := upd_same
  generalize upd Y1 L1 (.lst (us1.map V.int)) = Y2 at *
  refine ⟨_, rfl, 3, rfl, -3, rfl, B, _, rfl, SqL.of (S6 _ _ eB), fun L2 nL2 => ?_⟩
  obtain ⟨us2, ecut2, sub2, len2⟩ := cut_ints ts (some (-3)) none
  rw [ecut2]
  have S7 := Same.laid (o := HO.lst (us2.map V.int)) nL2
  have eL2 : upd Y2 L2 (.lst (us2.map V.int)) L2 = some (.lst (us2.map V.int)) := upd_same
  generalize upd Y2 L2 (.lst (us2.map V.int)) = Y3 at *
  refine ⟨L1, L2, _, _, rfl, rfl, S7 _ _ eL1, eL2, ?_, fun Cc nC => ?_⟩
  · simp only [List.length_map]
    exact Nat.le_trans (show us1.length + us2.length ≤ 4000 by omega) (by decide)
  have S8 := Same.laid (o := HO.lst (us1.map V.int ++ us2.map V.int)) nC
  have eC : upd Y3 Cc (.lst (us1.map V.int ++ us2.map V.int)) Cc = some (.lst (us1.map V.int ++ us2.map V.int)) := upd_same
  generalize upd Y3 Cc (.lst (us1.map V.int ++ us2.map V.int)) = Y4 at *
  rw [← List.map_append] at eC
  have SHY4 := SHY1.trans (S6.trans (S7.trans S8))
  refine ⟨Cc, rfl, ⟨_, SqL.of eC⟩, fun D3 nD3 => ?_⟩
  refine lc_acc (walk_list (K := K) (a := Cc) (xs := (us1 ++ us2).map V.int)) nD3 (by simp; omega) (fun i acc _ => acc = []) rfl (fun H' S => SqL.of (S _ _ eC)) ?_ ?_
  · rintro i v Z0 Z acc hi SZ' eB' hl rfl ⟨rfl, hxi⟩ Fy Fn hy1 hn1
    rw [List.getElem?_map] at hxi
    obtain ⟨tt, ett, rfl⟩ := Option.map_eq_some_iff.mp hxi
    obtain ⟨h1, h2, hN⟩ := hts tt (by
      rcases List.mem_append.mp (List.mem_of_getElem? ett) with z | z
      · exact sub1 _ z
      · exact sub2 _ z)
    have SHZ := SHY4.trans SZ'
    refine ⟨rfl, ?_⟩
    refine ⟨_, rfl, _, rfl, _, rfl, _, rfl, p, e, tt, W, ps, kvs, hs, rfl, hh.same SHZ, ⟨by omega, by omega⟩, fun b Z1 S5 nb eb => ?_⟩
    refine ⟨p, b, W, ps, picM ps hs tt, rs, rfl, ⟨wkOf SHZ S5 nb, eb, picM_good hh.wk.g hh.g⟩, alr.same (SHZ.trans S5), gr, r5, fun N Z2 S6 nN eN => ?_⟩
    refine ⟨by show 0 ≤ sizeLine; decide, fun z nz => ?_⟩
    have S7 := Same.laid (o := HO.lst []) nz
    have hN' : brk (picM ps hs tt) rs = [] := hN
    rw [hN'] at eN
    refine ne_lstI (ns := []) (ms := []) (S7 _ _ eN) upd_same ⟨_, rfl, ?_⟩
    exact iteF (hn1 _ (S5.trans (S6.trans S7)) rfl)
  rintro Y5 acc S9 eD3 rfl
  refine ⟨by show 0 ≤ sizeLine; decide, fun z nz => ?_⟩
  have S10 := Same.laid (o := HO.lst []) nz
  exact eq_lstI (ns := []) (ms := []) (S10 _ _ eD3) upd_same (k _ (SHY4.trans (S9.trans S10)))
end
end V51

set_option maxHeartbeats 8000000
namespace V51
open PySem PySem.Spec PyProof.Rows L2 Pw
structure SmS (s : Sp3) : Prop where
  a : 0 ≤ s.1 ∧ s.1 ≤ 99999
  b : 0 ≤ s.2.1 ∧ s.2.1 ≤ 99999
  n : ∀ i ∈ s.2.2, 0 ≤ i ∧ i ≤ 99999
  l : s.2.2.length ≤ 5
def spT (s : Sp3) : Str := tupleText [ti s.1, ti s.2.1, tupleText (s.2.2.map ti)]
theorem shw_alsp {K : PySem.W.Frag} {H : Hp} {vs : List V} {ss : List Sp3} (h : AlS H vs ss) (g : ∀ s ∈ ss, SmS s) : ∃ d n, d ≤ 2 ∧ n ≤ 13471 * ss.length ∧ ShwL K H vs d n (ss.map spT) := by
  induction h with
  | nil => exact ⟨0, 0, by decide, by decide, .nil⟩
  | @cons q t s vs ss e e2 _ ih =>
    obtain ⟨d, n, hd, hn, h1⟩ := ih fun x hx => g x (List.mem_cons_of_mem _ hx)
    have g0 := g s List.mem_cons_self
    have h2 := shw_ints (K := K) (H := H) s.2.2 g0.n
    have l := g0.l
    have h3 : Shw K H (.ref q) _ _ (spT s) := .tup e (.cons (.int _ (small_log g0.a.1 g0.a.2)) (.cons (.int _ (small_log g0.b.1 g0.b.2)) (.cons (.tup e2 h2) .nil)))
    refine ⟨_, _, ?_, ?_, .cons h3 h1⟩
    · omega
    · rw [List.length_cons]
      omega
theorem shw_sps {K : PySem.W.Frag} {H : Hp} {b : Addr} {vs : List V} {ss : List Sp3} (e : H b = some (.lst vs)) (h : AlS H vs ss) (g : ∀ s ∈ ss, SmS s) (l : ss.length ≤ 1001) :
    ∃ d n, Shw K H (.ref b) d n (listText (ss.map spT)) ∧ 0 < d ∧ n ≤ sizeLine ∧ d ≤ 60 := by
  obtain ⟨d, n, hd, hn, h1⟩ := shw_alsp (K := K) h g
  refine ⟨_, _, .lst e h1, Nat.succ_pos _, ?_, by omega⟩
  exact Nat.le_trans (show n + 2 ≤ 13471 * 1001 + 2 by have := Nat.mul_le_mul_left 13471 l; omega) (by decide)
theorem brk_small {l : List (Str × Int)} {rs : List Rel} (h : rs.length ≤ 5) : (brk l rs).length ≤ 5 ∧ ∀ i ∈ brk l rs, 0 ≤ i ∧ i ≤ 99999 := by
  unfold brk
  constructor
  · rw [List.length_map]
    refine Nat.le_trans (List.length_filter_le _ _) ?_
    rw [List.length_range]
    exact h
  · intro i hi
    obtain ⟨j, hj, rfl⟩ := List.mem_map.mp hi
    have := List.mem_range.mp (List.mem_filter.mp hj).1
    omega
theorem sm_spans {ps : List Pt} {hs : List (Str × List R3)} {rs : List Rel} {x y : Int} (h : rs.length ≤ 5) (x0 : 0 ≤ x) (y9 : y ≤ 9999) : ∀ s ∈ spansM (Nb ps hs rs) x y, SmS s := by
  intro s hs'
  obtain ⟨_, h1, h2, h3, h4⟩ := (good_spans' (N := Nb ps hs rs)).in_ s hs'
  have e := h4 s.1 (Int.le_refl _) h2
  obtain ⟨b1, b2⟩ := brk_small (l := picM ps hs s.1) h
  have e' : brk (picM ps hs s.1) rs = s.2.2 := e
  rw [e'] at b1 b2
  exact ⟨⟨by omega, by omega⟩, ⟨by omega, by omega⟩, b2, b1⟩
/-- where nothing was noted nothing is broken -/
theorem hold_none (r : Rel) : hold [] r = none := by
  unfold hold
  rw [if_neg]
  intro z
  cases r <;> simp [Rel.nms, wg] at z
theorem brk_nil (rs : List Rel) : brk [] rs = [] := by
  unfold brk
  rw [List.filter_eq_nil_iff.mpr]
  · rfl
  · intro i _ z
    have := of_decide_eq_true z
    cases e : rs[i]? with
    | none => rw [e] at this; cases this
    | some r => rw [e] at this; rw [show (some r).bind (hold []) = hold [] r from rfl, hold_none] at this; cases this
theorem spans_nil (ps : List Pt) (rs : List Rel) (x y : Int) : spansM (Nb ps [] rs) x y = [] := by
  have N0 : ∀ t, Nb ps [] rs t = [] := fun t => by
    unfold Nb
    have : picM ps [] t = [] := by
      unfold picM
      refine List.filterMap_eq_nil_iff.mpr fun pt _ => ?_
      rfl
    rw [this]
    exact brk_nil rs
  cases e : spansM (Nb ps [] rs) x y with
  | nil => rfl
  | cons s ss =>
    obtain ⟨h0, _, h2, _, h4⟩ := (good_spans' (N := Nb ps [] rs) (x := x) (y := y)).in_ s (by rw [e]; exact List.mem_cons_self)
    exact absurd ((h4 s.1 (Int.le_refl _) h2).symm.trans (N0 _)) h0
/-- histories, some ticks later -/
def later (z : Int) (rs : List R3) : List R3 := rs.map fun r => (r.1 + z, r.2)
def laterH (z : Int) (hs : List (Str × List R3)) : List (Str × List R3) := hs.map fun h => (h.1, later z h.2)
theorem later_good {z tk : Int} {ps : List Pt} {hs : List (Str × List R3)} (g : GoodHs ps hs) (b : ∀ h ∈ hs, h.2.length ≤ 20 ∧ ∀ r ∈ h.2, r.1 ≤ tk + 20) (z0 : 0 ≤ z) (tz : tk + z ≤ 9970) : GoodHs ps (laterH z hs) := by
  intro h hh
  obtain ⟨h', hh', rfl⟩ := List.mem_map.mp hh
  obtain ⟨pt, hpt, e, gi⟩ := g h' hh'
  obtain ⟨b1, b2⟩ := b h' hh'
  refine ⟨pt, hpt, e, ⟨⟨fun r hr => ?_, ?_, ?_⟩, ?_, fun r hr => ?_⟩⟩
  · obtain ⟨r', hr', rfl⟩ := List.mem_map.mp hr
    have := gi.h.all r' hr'
    have := b2 r' hr'
    exact ⟨by show 0 ≤ r'.1 + z; have := (gi.h.all r' hr').t0; omega, by show r'.1 + z ≤ 9999; omega, (gi.h.all r' hr').w0, (gi.h.all r' hr').w1, (gi.h.all r' hr').m⟩
  · show List.Pairwise _ (List.map _ h'.2)
    rw [List.pairwise_map]
    exact gi.h.rise.imp fun {a b} h => by show a.1 + z < b.1 + z; omega
  · show (List.map _ h'.2).length ≤ _
    rw [List.length_map]
    exact gi.h.len
  · show (List.map _ h'.2).length ≤ _
    rw [List.length_map]
    exact gi.len
  · obtain ⟨r', hr', rfl⟩ := List.mem_map.mp hr
    exact gi.hi r' hr'
theorem later_sigs {z : Int} {hs : List (Str × List R3)} {tk : Int} (b : ∀ h ∈ hs, h.2.length ≤ 20 ∧ ∀ r ∈ h.2, r.1 ≤ tk + 20) (l : hs.length ≤ 8) : sigs (laterH z hs) ≤ 160 := by
  have : ∀ l : List (Str × List R3), (∀ h ∈ l, h.2.length ≤ 20) → sigs (laterH z l) ≤ 20 * l.length := by
    intro l
    induction l with
    | nil => intro _; simp [sigs, laterH]
    | cons h l ih =>
      intro hb
      have h1 := ih fun x hx => hb x (List.mem_cons_of_mem _ hx)
      have h2 := hb h List.mem_cons_self
      unfold sigs laterH at h1 ⊢
      simp only [List.map_cons, List.sum_cons, List.length_cons, later, List.length_map] at h1 ⊢
      omega
  have := this hs fun h hh => (b h hh).1
  omega
end V51

/-! A dict that is walked where it was made: frozen from then on. -/
namespace Pw
open PySem PySem.Spec PyProof.Rows L2
def tFrz (te : TE) : TE := fun σ H Q => te σ H fun x H1 => ∃ (d : Addr) (kvs : List (Key × V)), x = .ref d ∧ H1 d = some (.dK kvs) ∧ ∀ od, Q x (upd H1 d (.frz od (.dK kvs)))
theorem pe_frz {X : Cx} {e : Expr} {te : TE} (h : PE X e te) : PE X e (tFrz te) := by
  refine ⟨fun pins s σ H Q I hw => ?_⟩
  refine thn (h.run pins s σ H _ I hw) fun v s1 hx => ?_
  obtain ⟨x, H1, I1, r1, d, kvs, ex, hd, q⟩ := hx
  obtain ⟨od, I2⟩ := I1.lock hd trivial
  exact ⟨x, _, I2, r1, q od⟩
theorem putK_again {kvs : List (Key × V)} {k : Key} {v u : V} (h : k ∉ kvs.map Prod.fst) : putK (kvs ++ [(k, v)]) k u = kvs ++ [(k, u)] := by
  unfold putK
  have : ((kvs ++ [(k, v)]).any fun kv => decide (kv.1 = k)) = true := List.any_eq_true.mpr ⟨(k, v), List.mem_append_right _ (List.mem_singleton.mpr rfl), decide_eq_true rfl⟩
  rw [if_pos this, List.map_append]
  congr 1
  · refine (List.map_congr_left fun p hp => ?_).trans (List.map_id _)
    have : p.1 ≠ k := fun z => h (List.mem_map.mpr ⟨p, hp, z⟩)
    simp [this]
  · simp
end Pw

set_option maxHeartbeats 16000000
namespace V51
open PySem PySem.Spec PyProof.Rows L2 Pw

theorem valV_last {kvs : List (Key × V)} {k : Key} {v : V} (h : k ∉ kvs.map Prod.fst) : valV (kvs ++ [(k, v)]) k = some v := by
  unfold valV
  rw [List.find?_append]
  have : (kvs.find? fun p => decide (p.1 = k)) = none := List.find?_eq_none.mpr fun p hp e => h (List.mem_map.mpr ⟨p, hp, of_decide_eq_true e⟩)
  rw [this]
  simp
theorem AlR.wo {H : Hp} {p : Addr} {n : Nat} {vs : List V} {rs : List Rel} (h : AlR H vs rs) (hb : BoxAt H p n) : AlR (Pw.wo H p) vs rs := by
  obtain ⟨us, eb⟩ := hb.lst
  exact h.imp fun q xs eq => wo_of (fun z => by rw [z, eb] at eq; cases eq) eq
section
variable {P : Program} {w : World} {K : PySem.W.Frag} {mg : Str → Option Value} {base : Heap} {C d1 d2 d3 d4 : Addr}
abbrev spWr (K : PySem.W.Frag) (C : Addr) : Sp := spInitW K C fP Pt.nm fP Pt.nm (spNone K) (spNone2 K) (spNone K) (spRels K)
abbrev gR (d1 d2 d3 : Addr) : List V → List V → List V := fun vs zs => vs ++ [V.ref d1, .ref d2, .ref d3] ++ zs
def spLaw (K : PySem.W.Frag) : Sp := fun vs H Q _ => ∃ (a : Addr) (ns : List Int), vs = [.ref a] ∧ SqL K H a (ns.map V.int) ∧ ns.length ≤ 63 ∧ ∀ H', Q (.bl true) H'
theorem ok_law {f : Addr} {fd : FuncData} (F : Fun K "law" "law" sLaw f fd) (T : Txt mg) (Wc : WoC K C)
    (dWr : MadeK P w K mg base "Works" C 8 ["self", "points", "rules", "causes", "commands", "relations"] 1 ["relations"] (gR d1 d2 d3) (spWr K C))
    (hd1 : ∀ H, SqT K H d1 []) (hd2 : ∀ H, SqT K H d2 []) (hd3 : ∀ H, SqT K H d3 [])
    (dCell : Def P w K mg base "_law_cell" 1 ["_law_script", "_law_k"] (spCell K)) (dBox : Def P w K mg base "_law_box" 1 ["_law_cell_here"] (spBox K))
    (dt : Def P w K mg base "_law_take" 1 ["_law_box_here", "_law_many"] (spTake K)) (dN : Def P w K mg base "_law_names" 2 ["_law_box_here", "_law_many"] (spNames K))
    (dP : Def P w K mg base "_law_points" 2 ["_law_box_here", "_law_names_here", "_law_levels"] (spPtsL K)) (dB : Def P w K mg base "_law_bonds" 3 ["_law_box_here", "_law_points_here"] (spBonds K))
    (dH : Def P w K mg base "_law_histories" 3 ["_law_box_here", "_law_points_here", "_law_ticks"] (spHists K))
    (dS : Def P w K mg base "spans" 9 ["works", "histories", "since", "till"] (spSpans C K)) (dLs : Def P w K mg base "_law_spans" 4 ["_law_points_here", "_law_bonds_here", "_law_histories_here", "_law_since", "_law_till"] (spLSp K))
    (dA : Def P w K mg base "_law_spans_of_all" 4 ["_law_points_here", "_law_bonds_here", "_law_histories_here"] (spLAll K))
    (dTk : Def P w K mg base "_law_ticks_right" 10 ["_law_works", "_law_histories_here", "_law_found", "_law_since", "_law_till"] (spTicks C K)) :
    FnG P w K mg base CX0 12 f fd ["_law_script"] (spLaw K) := by
  refine okG F scLaw (fun vs H Q E ⟨_, _, e, _⟩ => by rw [e]; rfl) (fun cdv A out s H vs Q E gd hr h => ?_)
  obtain ⟨a, ns, rfl, hS, hlen, k⟩ := h
  have hu := hr.units
  have hu1 : (A.deeper (envOfC "law" (defScope sLaw) s.heap.objs.size f cdv)).units + 1 < cLine := by omega
  refine ⟨_, (pss_cons (ps_for PassesOwn.never rfl (pi_range1 (by rfl) T.range (pa_cons (pe_callB (call_max2 rfl) (by rfl) T.max PyProof.Rows.boot_max (pa_cons pe_int (pa_cons (pe_callB (call_min2 rfl) (by rfl) T.min PyProof.Rows.boot_min (pa_cons pe_int (pa_cons (pe_callB call_len_seq (by rfl) T.len PySem.boot_len (pa_cons (pv 0) pa_nil)) pa_nil))) pa_nil))) pa_nil)) (pg_name (i := 1) scLaw.nd rfl (.inl rfl))
      (pss_cons (ps_set (i := 2) scLaw.nd rfl (.inl rfl) (pe_d dBox hr (by decide) (by rfl) (pa_cons (pe_d dCell hr (by decide) (by rfl) (pa_cons (pv 0) (pa_cons (pv 1) pa_nil))) pa_nil)))
      (pss_cons (ps_set (i := 3) scLaw.nd rfl (.inl rfl) (pe_d dP hr (by decide) (by rfl) (pa_cons (pv 2) (pa_cons (pe_d dN hr (by decide) (by rfl) (pa_cons (pv 2) (pa_cons (pe_op op_add pe_int (pe_d dt hr (by decide) (by rfl) (pa_cons (pv 2) (pa_cons pe_int pa_nil)))) pa_nil))) (pa_cons pe_int pa_nil)))))
      (pss_cons (ps_set (i := 4) scLaw.nd rfl (.inl rfl) (pe_d dB hr (by decide) (by rfl) (pa_cons (pv 2) (pa_cons (pv 3) pa_nil))))
      (pss_cons (ps_par (i := 5) (j := 6) rfl scLaw.nd rfl rfl (by decide) rfl rfl (pa_cons (pe_mk dWr hr (by decide) (by rfl) (pa_cons (pv 3) pa_nil) (pk_cons (pv 4) pk_nil)) (pa_cons (pe_op op_add pe_int (pe_d dt hr (by decide) (by rfl) (pa_cons (pv 2) (pa_cons pe_int pa_nil)))) pa_nil)) rfl)
      (pss_cons (ps_set (i := 7) scLaw.nd rfl (.inr rfl) (pe_ix ix_list (pe_lst (pa_cons pe_int (pa_cons pe_int (pa_cons pe_int (pa_cons pe_int pa_nil))))) (pe_d dt hr (by decide) (by rfl) (pa_cons (pv 2) (pa_cons pe_int pa_nil))) (fun _ _ => rfl)))
      (pss_cons (ps_set (i := 8) scLaw.nd rfl (.inl rfl) pe_dnewK)
      (pss_cons (ps_for PassesOwn.never rfl (pi_items (pe_frz (pe_d dH hr (by decide) (by rfl) (pa_cons (pv 2) (pa_cons (pv 3) (pa_cons (pv 6) pa_nil)))))) (pg_tup (by rfl) (pgs_cons (pg_name (i := 9) scLaw.nd rfl (.inl rfl)) (pgs_cons (pg_name (i := 10) scLaw.nd rfl (.inl rfl)) pgs_nil)))
        (pss_cons (ps_dput hu1 (pv 8) (pv 9) (pe_lc (own := [("_law_time", 17), ("_law_worth", 18), ("_law_tone", 19)]) (g := (gTup K 3 (gCons (gName 17) (gCons (gName 18) (gCons (gName 19) gNil))))) (tt := tYes) rfl scLaw.nd (pi_sq (pv 10))
        (blkOk_by (own := [("_law_time", 17), ("_law_worth", 18), ("_law_tone", 19)]) (N := ["_law_script", "_law_k", "_law_box_here", "_law_points_here", "_law_bonds_here", "_law_works", "_law_ticks", "_law_shift", "_law_histories_here", "_law_name", "_law_row", "_law_kept", "_law_turn", "_law_since", "_law_till", "_law_due", "_law_found", "_law_time", "_law_worth", "_law_tone"]) (sc := defScope sLaw) (by decide +kernel))
        (fun _ _ _ _ _ => (pg_tup (by rfl) (pgs_cons (pg_name (i := 17) scLaw.nd rfl (.inl rfl)) (pgs_cons (pg_name (i := 18) scLaw.nd rfl (.inl rfl)) (pgs_cons (pg_name (i := 19) scLaw.nd rfl (.inl rfl)) pgs_nil))))) (fun _ _ _ _ _ => pts_nil)
        (fun _ _ _ _ _ => (pe_tup (pa_cons (pe_op op_add (pv 17) (pv 7)) (pa_cons (pv 18) (pa_cons (pv 19) pa_nil)))))) rfl)
        (pss_one (ps_if (pt_cmpR op_eq (pe_d dt hr (by decide) (by rfl) (pa_cons (pv 2) (pa_cons pe_int pa_nil))) pe_int (nomark _))
          (pss_one (ps_dput hu1 (pv 8) (pv 9) (pe_callTy call_tuple_of (by rfl) T.tuple (by decide +kernel) (pa_cons (pe_dget hu1 (pv 8) (pv 9) (fun _ _ => rfl)) pa_nil)) rfl))
          pss_nil))))
      (pss_cons (ps_set (i := 11) scLaw.nd rfl (.inl rfl) (pe_callB (call_repr gd hu) (by rfl) T.repr PyProof.Rows.boot_repr (pa_cons (pv 8) pa_nil)))
      (pss_cons (ps_if (pt_cmpR op_ne (pe_callB (call_repr gd hu) (by rfl) T.repr PyProof.Rows.boot_repr (pa_cons (pe_d dS hr (by decide) (by rfl) (pa_cons (pv 5) (pa_cons (pv 8) (pa_cons pe_int (pa_cons pe_int pa_nil))))) pa_nil)) (pe_callB (call_repr gd hu) (by rfl) T.repr PyProof.Rows.boot_repr (pa_cons (pe_d dA hr (by decide) (by rfl) (pa_cons (pv 3) (pa_cons (pv 4) (pa_cons (pv 8) pa_nil)))) pa_nil)) (nomark _))
        (pss_one (ps_ret pe_bl))
        pss_nil)
      (pss_cons (ps_for PassesOwn.never rfl (pi_range1 (by rfl) T.range (pa_cons pe_int pa_nil)) (pg_name (i := 12) scLaw.nd rfl (.inl rfl))
        (pss_cons (ps_par (i := 13) (j := 14) rfl scLaw.nd rfl rfl (by decide) rfl rfl (pa_cons (pe_op op_add (pv 7) (pe_d dt hr (by decide) (by rfl) (pa_cons (pv 2) (pa_cons (pv 6) pa_nil)))) (pa_cons (pe_op op_add (pv 7) (pe_d dt hr (by decide) (by rfl) (pa_cons (pv 2) (pa_cons (pe_op op_add (pv 6) pe_int) pa_nil)))) pa_nil)) rfl)
        (pss_cons (ps_set (i := 13) scLaw.nd rfl (.inl rfl) (pe_ix ix_list (pe_lst (pa_cons (pv 13) (pa_cons (pe_callB (call_max2 rfl) (by rfl) T.max PyProof.Rows.boot_max (pa_cons pe_int (pa_cons (pe_op op_sub (pv 7) pe_int) pa_nil))) pa_nil))) (pe_op op_mod (pv 12) pe_int) (fun _ _ => rfl)))
        (pss_cons (ps_set (i := 15) scLaw.nd rfl (.inl rfl) (pe_d dLs hr (by decide) (by rfl) (pa_cons (pv 3) (pa_cons (pv 4) (pa_cons (pv 8) (pa_cons (pv 13) (pa_cons (pv 14) pa_nil)))))))
        (pss_cons (ps_set (i := 16) scLaw.nd rfl (.inl rfl) (pe_d dS hr (by decide) (by rfl) (pa_cons (pv 5) (pa_cons (pv 8) (pa_cons (pv 13) (pa_cons (pv 14) pa_nil))))))
        (pss_cons (ps_if (PW.pt (pw_or (pt_cmpR op_ne (pe_callB (call_repr gd hu) (by rfl) T.repr PyProof.Rows.boot_repr (pa_cons (pv 16) pa_nil)) (pe_callB (call_repr gd hu) (by rfl) T.repr PyProof.Rows.boot_repr (pa_cons (pv 15) pa_nil)) (nomark _)) (pw_or1 (pt_not (pt_val (pe_d dTk hr (by decide) (by rfl) (pa_cons (pv 5) (pa_cons (pv 8) (pa_cons (pv 16) (pa_cons (pv 13) (pa_cons (pv 14) pa_nil)))))))))))
          (pss_one (ps_ret pe_bl))
          pss_nil)
        (pss_cons (ps_expr (pe_bm PySem.F.plainAttrs_list PySem.F.slot_list_append PySem.F.type_list_append mt_append (pv 16) (pa_cons pe_str pa_nil)))
        (pss_one (ps_if (PW.pt (pw_or (pt_cmpR op_ne (pe_callB (call_repr gd hu) (by rfl) T.repr PyProof.Rows.boot_repr (pa_cons (pe_d dS hr (by decide) (by rfl) (pa_cons (pv 5) (pa_cons (pv 8) (pa_cons (pv 13) (pa_cons (pv 14) pa_nil))))) pa_nil)) (pe_callB (call_repr gd hu) (by rfl) T.repr PyProof.Rows.boot_repr (pa_cons (pv 15) pa_nil)) (nomark _)) (pw_or1 (pt_cmpR op_ne (pe_callB (call_repr gd hu) (by rfl) T.repr PyProof.Rows.boot_repr (pa_cons (pv 8) pa_nil)) (pv 11) (nomark _)))))
          (pss_one (ps_ret pe_bl))
          pss_nil)))))))))
      (pss_one (ps_if (PW.pt (pw_or (pt_cmpR (op_neD hr.units) (pe_d dS hr (by decide) (by rfl) (pa_cons (pv 5) (pa_cons (pv 8) (pa_cons pe_int (pa_cons pe_int pa_nil))))) (pe_lst pa_nil) (nomark _)) (pw_or1 (pt_cmpR (op_neD hr.units) (pe_d dS hr (by decide) (by rfl) (pa_cons (pv 5) (pa_cons pe_dnewK (pa_cons pe_int (pa_cons pe_int pa_nil))))) (pe_lst pa_nil) (nomark _)))))
        (pss_one (ps_ret pe_bl))
        pss_nil)))))))))))))
    (pss_one (ps_ret pe_bl))), ?_⟩
  refine ⟨_, rfl, a, _, rfl, .inl hS, 4, _, rfl, 2, _, rfl, ?_⟩
  rw [List.length_map]
  obtain ⟨mm, em, hm⟩ : ∃ mm : Nat, (if (2 : Int) < (if (ns.length : Int) < 4 then (ns.length : Int) else 4) then (if (ns.length : Int) < 4 then (ns.length : Int) else 4) else 2) = (mm : Int) ∧ mm ≤ 6 := by
    by_cases h1 : (ns.length : Int) < 4
    · rw [if_pos h1]
      by_cases h2 : (2 : Int) < (ns.length : Int)
      · exact ⟨ns.length, by rw [if_pos h2], by omega⟩
      · exact ⟨2, by rw [if_neg h2]; rfl, by omega⟩
    · exact ⟨4, by rw [if_neg h1]; rfl, by omega⟩
  rw [em]
  refine ⟨(mm : Int), rfl, by omega, by omega, ?_⟩
  refine for_it (walk_range (lo := 0) (n := mm)) (fun i σ X => (∃ v1 v2 v3 v4 v5 v6 v7 v8 v9 v10 v11 v12 v13 v14 v15 v16 : Option V, σ = [some (.ref a), v1, v2, v3, v4, v5, v6, v7, v8, v9, v10, v11, v12, v13, v14, v15, v16, none, none, none]) ∧ Same H X) ⟨⟨_, _, _, _, _, _, _, _, _, _, _, _, _, _, _, _, rfl⟩, Same.refl _⟩
    (fun _ _ _ _ _ => trivial) ?_ (fun σ X h => k X)
  rintro i v σ X0 X hi ⟨⟨v1, v2, v3, v4, v5, v6, v7, v8, v9, v10, v11, v12, v13, v14, v15, v16, rfl⟩, SX⟩ ⟨rfl, rfl⟩
  dsimp only [gName]
  -- the box, the points, the bonds
  refine ⟨_, rfl, _, rfl, a, ns, 0 + (i : Int), rfl, Same.seq SX hS, hlen, by omega, by omega, fun c => ⟨c, rfl, fun p X1 np S1 hb1 => ?_⟩⟩
  refine ⟨_, rfl, _, rfl, _, rfl, p, 6, _, rfl, hb1, by omega, by decide, by decide, fun j1 X2 a1 b1 hb2 B2 => ?_⟩
  refine ⟨1, j1, rfl, rfl, p, 1 + j1, _, rfl, by omega, by omega, hb2, by omega, fun na X3 css nna nap hb3 B3 ena cl ndc good => ?_⟩
  refine ⟨p, na, 6, _, css, rfl, hb3, by omega, nap, ena, ndc, good, by omega, by omega, fun b X4 ps nb bp hb4 B4 hps gps pl => ?_⟩
  dsimp only [gName]
  have B14 : But p X1 X4 := B2.trans (B3.trans B4)
  refine ⟨_, rfl, _, rfl, p, b, _, ps, rfl, hb4, by omega, bp, hps, gps, fun bo X5 xs rs nbo bop hb5 B5 ebo alr gr l5 => ?_⟩
  dsimp only [gName]
  have B15 : But p X1 X5 := B14.trans B5
  have hps5 : LT fP X5 b ps := LT.but hps hb4 bp B5
  obtain ⟨xp, eb, alp⟩ := hps5.ex
  -- the works
  refine ⟨_, rfl, _, rfl, rfl, rfl, fun x dx nx ndx nex => ?_⟩
  have U1 := Same.laid (o := HO.own x) ndx
  have nx1 : upd X5 dx (.own x) x = none := (upd_ne nex.symm).trans nx
  have U2 := Same.laid (o := HO.ins C dx []) nx1
  have ex : upd (upd X5 dx (.own x)) x (.ins C dx []) x = some (.ins C dx []) := upd_same
  have S56 : Same X5 (upd (upd X5 dx (.own x)) x (.ins C dx [])) := U1.trans U2
  generalize upd (upd X5 dx (.own x)) x (.ins C dx []) = X6 at *
  refine ⟨x, b, d1, d2, d3, bo, dx, xp, [], [], [], xs, ps, [], [], rfl, ex, .inl (SqL.of (S56 _ _ eb)), alp.same S56, gps, .inr (hd1 _), .nil, .nil, by decide, .inr (hd2 _), .inr (hd3 _), .nil, .nil, by decide, .inl (SqL.of (S56 _ _ ebo)),
    (fun d H1 Q1 F h k => ⟨d1, .ref d, rfl, .inr (hd1 _), k⟩), (fun d H1 Q1 F h k => ⟨d2, d, rfl, .inr (hd2 _), h, k⟩), (fun d H1 Q1 F h k => ⟨d3, .ref d, rfl, .inr (hd3 _), k⟩), (fun d H1 Q1 F h k => ?_), fun X7 hwo F7 => ⟨rfl, ?_⟩⟩
  · exact ⟨bo, d, xs, rs, ps, xp, rfl, F.sq ex (.inl (SqL.of (S56 _ _ ebo))), (alr.same S56).imp (fun q ys e => F q _ (fun z => by rw [z, ex] at e; cases e) e), gr, gps, l5, h, F.al ex (alp.same S56), k⟩
  have S57 : Same X5 X7 := fun q o e => F7 q o (ne_of_none e nx) (S56 _ _ e)
  have hb7 := hb5.keep S57
  have hW : WoP K C X7 x ⟨xp, kvs Pt.nm ps xp, [], [], [], [], [], xs⟩ ps := ⟨hwo, rfl, alp.same S57, gps⟩
  have hxl : (⟨xp, kvs Pt.nm ps xp, [], [], [], [], [], xs⟩ : Wks).xl = xs := rfl
  clear hwo F7 S56 U1 U2 ex
  generalize (⟨xp, kvs Pt.nm ps xp, [], [], [], [], [], xs⟩ : Wks) = W at hW hxl
  refine ⟨_, rfl, p, 56, _, rfl, hb7, by omega, by decide, by decide, fun j2 X8 a2 b2 hb8 B8 => ?_⟩
  refine ⟨5, j2, rfl, rfl, _, _, rfl, ?_⟩
  dsimp only [gName]
  generalize htk : (5 : Int) + j2 = tk at *
  have tk0 : 5 ≤ tk := by omega
  have tk1 : tk ≤ 60 := by omega
  -- all of them off the box
  have kW : WoP K C (Pw.wo X8 p) x W ps := (WoP_off hW hb7).same B8
  have kP : LT fP (Pw.wo X8 p) b ps := (LT.wo (hps5.same S57) bp hb7).same B8
  have kB : Pw.wo X8 p bo = some (.lst xs) := B8 _ _ (wo_of bop (S57 _ _ ebo))
  have kR : AlR (Pw.wo X8 p) xs rs := (AlR.wo (alr.same S57) hb7).same B8
  have B18 : But p X1 X8 := B15.trans ((Same.but S57).trans B8)
  -- how much later
  refine ⟨by show 4 ≤ sizeLine; decide, fun L nL => ?_⟩
  have Lp := hb8.ne nL
  have S9 := Same.laid (o := HO.lst [V.int 0, .int 0, .int 990, .int 9900]) nL
  have eL : upd X8 L (.lst [V.int 0, .int 0, .int 990, .int 9900]) L = some (.lst [V.int 0, .int 0, .int 990, .int 9900]) := upd_same
  have hb9 := hb8.keep S9
  generalize upd X8 L (.lst [V.int 0, .int 0, .int 990, .int 9900]) = X9 at *
  refine ⟨_, rfl, p, 4, _, rfl, hb9, by omega, by decide, by decide, fun j3 XA a3 b3 hbA BA => ?_⟩
  obtain ⟨y0, hy0, aty⟩ := menu (xs := [V.int 0, .int 0, .int 990, .int 9900]) a3 (by simpa using b3)
  obtain ⟨z, rfl, z0, z1⟩ : ∃ m : Int, y0 = .int m ∧ 0 ≤ m ∧ m ≤ 9900 := by
    simp only [List.mem_cons, List.not_mem_nil, or_false] at hy0
    rcases hy0 with rfl | rfl | rfl | rfl
    · exact ⟨_, rfl, by decide, by decide⟩
    · exact ⟨_, rfl, by decide, by decide⟩
    · exact ⟨_, rfl, by decide, by decide⟩
    · exact ⟨_, rfl, by decide, by decide⟩
  refine ⟨L, _, j3, _, rfl, rfl, SqL.of (BA.at Lp eL), aty, ?_⟩
  clear aty hy0
  dsimp only [gName]
  have B8A : But p X8 XA := (Same.but S9).trans BA
  -- the dict
  intro D nD
  have Dp := hbA.ne nD
  have SD := Same.laid (o := HO.dK []) nD
  have eD : upd XA D (.dK []) D = some (.dK []) := upd_same
  have hbD := hbA.laid (o := HO.dK []) nD
  generalize upd XA D (.dK []) = XB at *
  dsimp only [gName]
  obtain ⟨c0, hc0, hc1⟩ : ∃ c0 : Nat, BoxAt XB p c0 ∧ c0 ≤ 1000 := ⟨_, hbD, by omega⟩
  have B8B : But p X8 XB := B8A.trans (Same.but SD)
  refine ⟨_, rfl, _, rfl, _, rfl, p, b, tk, c0, ps, rfl, hc0, by omega, bp, (kP.same B8B).same wo_same, gps, by omega, by omega, fun d XC kvs hs nd dp hbC BC ed ha gh ndh hl hbd => ?_⟩
  have eDC := BC.at Dp eD
  have dD : d ≠ D := fun z => by rw [z, eD] at nd; cases nd
  refine ⟨d, kvs, rfl, ed, fun od => ?_⟩
  have haD : HA (Pw.wo (Pw.wo (upd XC d (.frz od (.dK kvs))) p) D) kvs hs := HA.imp ha fun q o e hl => by
    obtain ⟨qp, e1⟩ := wo_at e
    have qd : q ≠ d := fun z => by
      rw [z, ed] at e1
      cases e1
      rcases hl with ⟨_, h⟩ | ⟨_, h⟩ <;> cases h
    have qD : q ≠ D := fun z => by
      rw [z, eDC] at e1
      cases e1
      rcases hl with ⟨_, h⟩ | ⟨_, h⟩ <;> cases h
    exact wo_of qD (wo_of qp ((upd_ne qd).trans e1))
  have hbF : BoxAt (upd XC d (.frz od (.dK kvs))) p (c0 + 1000) := hbC.set dp
  have edF : upd XC d (.frz od (.dK kvs)) d = some (.frz od (.dK kvs)) := upd_same
  have eDF : upd XC d (.frz od (.dK kvs)) D = some (.dK []) := (upd_ne dD.symm).trans eDC
  have S8F : Same (Pw.wo X8 p) (Pw.wo (Pw.wo (upd XC d (.frz od (.dK kvs))) p) D) := fun q o e => by
    obtain ⟨qp, e1⟩ := wo_at e
    have e2 := B8A _ _ e
    have qD : q ≠ D := fun z => by
      rw [z] at e2
      have := wo_same _ _ e2
      rw [nD] at this
      cases this
    have e3 := BC _ _ (wo_of qp (SD _ _ (wo_same _ _ e2)))
    have qd : q ≠ d := fun z => by
      have := SD _ _ (wo_same _ _ e2)
      rw [z, nd] at this
      cases this
    exact wo_of qD (wo_of qp ((upd_ne qd).trans (wo_same _ _ e3)))
  generalize upd XC d (.frz od (.dK kvs)) = XF at *
  have kl := ha.length
  refine ⟨d, od, kvs, rfl, edF, ?_⟩
  refine for_it (walk_items (d := d) (o := od) (kvs := kvs)) (fun j σ Y => (∃ v9 v10 v11 v12 v13 v14 v15 v16 : Option V, σ = [some (.ref a), some (.int (0 + (i : Int))), some (.ref p), some (.ref b), some (.ref bo), some (.ref x), some (.int tk), some (.int z), some (.ref D), v9, v10, v11, v12, v13, v14, v15, v16, none, none, none]) ∧
      BoxAt Y p (c0 + 1000 + j) ∧ Same (Pw.wo (Pw.wo XF p) D) (Pw.wo (Pw.wo Y p) D) ∧ ∃ kw, Y D = some (.dK kw) ∧ HA (Pw.wo (Pw.wo Y p) D) kw (laterH z (hs.take j)))
    ⟨⟨_, _, _, _, _, _, _, _, rfl⟩, hbF, Same.refl _, [], eDF, .nil⟩ (fun j σ Y _ h => wo_same _ _ (wo_same _ _ (h.2.2.1 _ _ (wo_of dD (wo_of dp edF))))) ?_ ?_
  · rintro j v σ Y0 Y hj ⟨⟨v9, v10, v11, v12, v13, v14, v15, v16, rfl⟩, hbY, SY, kw, eY, haY⟩ ⟨Tq, kx, y', rfl, nT, rfl, ekx, ey⟩
    have hjk : j < kvs.length := hj
    obtain ⟨nm, rs', ra, ek, ev, ehs, hls⟩ := (haD.same SY).get (i := j) (k := (kvs[j]).1) (v := (kvs[j]).2) (List.getElem?_eq_getElem hjk)
    replace ekx : Option.map (fun kv : Key × V => kV kv.fst) kvs[j]? = some kx := ekx
    replace ey : Option.map Prod.snd kvs[j]? = some y' := ey
    rw [List.getElem?_eq_getElem hjk] at ekx ey
    obtain rfl : kx = kV (.inr nm) := by
      rw [← Option.some.inj ekx]
      show kV (kvs[j]).1 = _
      rw [ek]
    obtain rfl : y' = .ref ra := (Option.some.inj ey).symm.trans ev
    have UT := Same.laid (o := HO.tup [kV (.inr nm), .ref ra]) nT
    have eT : upd Y0 Tq (.tup [kV (.inr nm), .ref ra]) Tq = some (.tup [kV (.inr nm), .ref ra]) := upd_same
    have hin : (nm, rs') ∈ hs := List.mem_of_getElem? ehs
    obtain ⟨pt, hpt, en, gpt⟩ := gh _ hin
    have r20 : rs'.length ≤ 20 := (hbd _ hin).1
    have hls0 : LS f3 (upd Y0 Tq (.tup [kV (.inr nm), .ref ra])) ra rs' := ((hls.same wo_same).same wo_same).same UT
    have hb1 := hbY.keep UT
    have eY1 := UT _ _ eY
    have S1Y : Same (Pw.wo (Pw.wo XF p) D) (Pw.wo (Pw.wo (upd Y0 Tq (.tup [kV (.inr nm), .ref ra])) p) D) := SY.trans (Same.wo (Same.wo UT))
    have ha1 : HA (Pw.wo (Pw.wo (upd Y0 Tq (.tup [kV (.inr nm), .ref ra])) p) D) kw (laterH z (hs.take j)) := haY.same (Same.wo (Same.wo UT))
    generalize upd Y0 Tq (.tup [kV (.inr nm), .ref ra]) = Y at *
    refine ⟨Tq, _, rfl, SqT.of eT, rfl, _, _, rfl, _, _, rfl, rfl, ?_⟩
    dsimp only [gName]
    have et : hs.take (j + 1) = hs.take j ++ [(nm, rs')] := by rw [List.take_add_one, ehs]; rfl
    have elat : laterH z (hs.take (j + 1)) = laterH z (hs.take j) ++ [(nm, later z rs')] := by rw [et]; unfold laterH; rw [List.map_append]; rfl
    have kwl : kw.length ≤ 8 := by
      have h1 := ha1.length
      unfold laterH at h1
      rw [List.length_map, List.length_take] at h1
      omega
    have nin : (Sum.inr nm : Key) ∉ kw.map Prod.fst := fun zz => by
      rw [ha1.keys] at zz
      obtain ⟨s, hs', e⟩ := List.mem_map.mp zz
      have e := Sum.inr.inj e
      subst e
      unfold laterH at hs'
      rw [List.map_map] at hs'
      have e2 : (List.map (Prod.fst ∘ fun h : Str × List R3 => (h.1, later z h.2)) (hs.take j)) = (hs.map Prod.fst).take j := by rw [List.map_take]; rfl
      rw [e2] at hs'
      exact nodup_take ndh (by rw [List.getElem?_map, ehs]; rfl) hs'
    obtain ⟨vr, sq, alr'⟩ := LS.sq (K := K) hls0
    have lr := alr'.length
    refine ⟨_, rfl, ra, vr, rfl, sq, fun J Gd hG wk E nE => ?_⟩
    refine lc_acc wk nE (by omega) (fun i acc X => Al f3 X acc (later z (rs'.take i))) .nil hG ?_ ?_
    · rintro i2 v Z0 Z acc hi2 SZ eE hl2 hA ⟨rfl, hx2⟩ Fy Fn hy1 _
      obtain ⟨q2, r, rfl, hr', er⟩ := (alr'.same SZ).get hx2
      refine ⟨q2, _, rfl, SqT.of er, rfl, _, _, rfl, _, _, rfl, _, _, rfl, rfl, ?_⟩
      refine ⟨rfl, ?_⟩
      unfold tYes
      refine iteT ?_
      refine ⟨_, rfl, _, rfl, _, _, rfl, rfl, _, rfl, _, rfl, by show 3 ≤ sizeLine; decide, fun q3 n3 => ?_⟩
      refine hy1 _ _ (Same.laid n3) ?_
      have qE : q3 ≠ E := fun zz => by rw [zz, eE] at n3; cases n3
      have e2 : later z (rs'.take (i2 + 1)) = later z (rs'.take i2) ++ [(r.1 + z, r.2)] := by
        unfold later
        rw [List.take_add_one, hr', List.map_append]
        rfl
      rw [e2]
      exact Al.snoc (hA.same (Same.wo (Same.laid n3))) (r := ((r.1 + z, r.2) : R3)) (wo_of qE upd_same)
    rintro Y2 acc S2 eE hA
    rw [show vr.length = rs'.length from lr, List.take_length] at hA
    have hA' := hA.same wo_same
    have eY2 := S2 _ _ eY1
    have ED : E ≠ D := fun zz => by rw [zz, eY1] at nE; cases nE
    have Ep := hb1.ne nE
    have S2Y := S1Y.trans (Same.wo (Same.wo S2))
    have ha2 := ha1.same (Same.wo (Same.wo S2))
    have hb2 := hb1.keep S2
    have off : ∀ {q : Addr} {o : HO}, Y2 q = some o → ((∃ vs, o = .lst vs) ∨ ∃ vs, o = .tup vs) → q ≠ p → q ≠ D ∧ Pw.wo (Pw.wo Y2 p) D q = some o := fun {q o} e hl qp => by
      have qD : q ≠ D := fun zz => by
        rw [zz, eY2] at e
        cases e
        rcases hl with ⟨_, h⟩ | ⟨_, h⟩ <;> cases h
      exact ⟨qD, wo_of qD (wo_of qp e)⟩
    have alE : Al f3 (Pw.wo (Pw.wo Y2 p) D) acc (later z rs') := hA'.imp fun q ys e => by
      obtain ⟨us, ebx⟩ := hb2.lst
      exact (off e (.inr ⟨_, rfl⟩) (fun zz => by rw [zz, ebx] at e; cases e)).2
    have lE : LS f3 (Pw.wo (Pw.wo Y2 p) D) E (later z rs') := .inl ⟨acc, (off eE (.inl ⟨_, rfl⟩) Ep).2, alE⟩
    have kwl' : kw.length < sizeLine := Nat.lt_of_le_of_lt kwl (by decide)
    refine ⟨_, rfl, _, rfl, D, _, rfl, DPut.k (k := .inr nm) eY2 kwl', ?_⟩
    rw [putK_new nin]
    have hb3 := hb2.set (o := HO.dK (kw ++ [(.inr nm, .ref E)])) Dp
    have eY3 : upd Y2 D (.dK (kw ++ [(.inr nm, .ref E)])) D = some (.dK (kw ++ [(.inr nm, .ref E)])) := upd_same
    have eE3 : upd Y2 D (.dK (kw ++ [(.inr nm, .ref E)])) E = some (.lst acc) := (upd_ne ED).trans eE
    have w3 : Pw.wo (Pw.wo (upd Y2 D (.dK (kw ++ [(.inr nm, .ref E)]))) p) D = Pw.wo (Pw.wo Y2 p) D := by rw [wo_swap Dp, wo_upd]
    generalize upd Y2 D (.dK (kw ++ [(.inr nm, .ref E)])) = Y3 at *
    rw [← w3] at S2Y ha2 alE lE
    refine ⟨_, rfl, p, 2, _, rfl, hb3, by omega, by decide, by decide, fun j4 Y4 a4 b4 hb4' B4' => ?_⟩
    have eY4 := B4'.at Dp eY3
    have eE4 := B4'.at Ep eE3
    have SB := Same.wo (p := D) B4'
    refine ⟨rfl, _, rfl, ?_⟩
    refine ite2 (fun _ => ?_) (fun _ => ?_)
    · refine ⟨_, rfl, _, rfl, D, .ref E, rfl, .inl ⟨_, .inr nm, .inl eY4, rfl, (valV_last nin).symm⟩, ?_⟩
      refine ⟨E, acc, rfl, .inl ⟨SqL.of eE4, fun l nl => ?_⟩⟩
      have U := Same.laid (o := HO.tup acc) nl
      have lp := hb4'.ne nl
      have lD : l ≠ D := (ne_of_none eY4 nl).symm
      have el : upd Y4 l (.tup acc) l = some (.tup acc) := upd_same
      have eY5 := U _ _ eY4
      have hb5' := hb4'.keep U
      have SB5 := SB.trans (Same.wo (Same.wo U))
      generalize upd Y4 l (.tup acc) = Y5 at *
      refine ⟨_, rfl, _, rfl, D, _, rfl, DPut.k (k := .inr nm) eY5 (by rw [List.length_append]; exact Nat.lt_of_le_of_lt (show kw.length + 1 ≤ 9 by omega) (by decide)), ⟨_, _, _, _, _, _, _, _, rfl⟩, ?_, ?_, kw ++ [(.inr nm, .ref l)], ?_, ?_⟩
      · exact (hb5'.set Dp).up (by omega)
      · rw [wo_swap Dp, wo_upd]
        exact S2Y.trans SB5
      · rw [upd_same, putK_again nin]
      · rw [wo_swap Dp, wo_upd, elat]
        exact HA.snoc (ha2.same SB5) (.inr ⟨acc, wo_of lD (wo_of lp el), alE.same SB5⟩)
    · refine ⟨⟨_, _, _, _, _, _, _, _, rfl⟩, hb4'.up (by omega), S2Y.trans SB, kw ++ [(.inr nm, .ref E)], eY4, ?_⟩
      rw [elat]
      exact HA.snoc (ha2.same SB) (lE.same SB)
  rintro σ Y ⟨⟨v9, v10, v11, v12, v13, v14, v15, v16, rfl⟩, hbY, SY, kw, eY, haY⟩
  rw [show kvs.length = hs.length from kl, List.take_length] at haY
  have SB : Same (Pw.wo X8 p) (Pw.wo (Pw.wo Y p) D) := S8F.trans SY
  have hbY' : BoxAt Y p (c0 + 1010) := hbY.up (by omega)
  have eYp : Pw.wo Y p D = some (.dK kw) := wo_of Dp eY
  have ghz : GoodHs ps (laterH z hs) := later_good gh hbd z0 (by omega)
  have sgz : sigs (laterH z hs) ≤ 160 := later_sigs hbd hl
  have hlz : (laterH z hs).length ≤ 8 := by unfold laterH; rw [List.length_map]; exact hl
  generalize laterH z hs = hz at *
  have B1Y : But p X1 Y := fun q o e => wo_same _ _ (SB _ _ (B18 _ _ e))
  have hHs : HsAt K C (Pw.wo Y p) x D W ps kw hz := ⟨kW.same SB, eYp, haY, ghz⟩
  have hLw : LwAt K (Pw.wo Y p) b bo D ps rs kw hz := ⟨(kP.same SB).same wo_same, gps, ⟨xs, wo_same _ _ (SB _ _ kB), (kR.same SB).same wo_same⟩, gr, l5, eYp, haY.same wo_same, ghz⟩
  have hAl : AlR (Pw.wo Y p) W.xl rs := by rw [hxl]; exact (kR.same SB).same wo_same
  clear SB SY S8F haD ha kW kP kB kR hW haY
  -- its text
  have gr' : ∀ x ∈ hz, (∀ r ∈ x.2, GoodR r) ∧ x.2.length ≤ 100 := fun x hx => by
    obtain ⟨pt, _, _, g⟩ := ghz x hx
    exact ⟨g.h.all, g.len⟩
  have gn : ∀ x ∈ hz, OkName x.1 := fun x hx => by
    obtain ⟨pt, hpt, e, _⟩ := ghz x hx
    exact e ▸ (gps.all pt hpt).nm
  obtain ⟨ld, ln, lt, shE, pE, nE, dE⟩ := shw_hists (K := K) eYp hLw.ha gr' gn hlz
  refine ⟨_, rfl, .ref D, ld, ln, lt, rfl, Shw.same wo_same shE, fun _ _ => pE, nE, dE, ?_⟩
  dsimp only [gName]
  -- all ticks that there are
  refine ⟨_, rfl, _, rfl, x, D, 0, 9999, W, ps, kw, hz, rs, rfl, hHs.same wo_same, by omega, hAl.same wo_same, gr, l5, ⟨by decide, by decide⟩, ⟨by decide, by decide⟩, fun l1 Z1 xs1 S1' n1 e1 al1 len1 => ?_⟩
  have sm := sm_spans (ps := ps) (hs := hz) (x := 0) (y := 9999) l5 (by decide) (by decide)
  obtain ⟨q1, m1, sh1, p1, k1, r1⟩ := shw_sps (K := K) e1 al1 sm len1
  generalize htx : listText ((spansM (Nb ps hz rs) 0 9999).map spT) = tx at sh1
  refine ⟨.ref l1, q1, m1, tx, rfl, sh1, fun _ _ => p1, k1, r1, ?_⟩
  refine ⟨_, rfl, _, rfl, _, rfl, b, bo, D, ps, rs, kw, hz, rfl, (hLw.same wo_same).same S1', by omega, fun l2 Z2 xs2 S2' n2 e2 al2 => ?_⟩
  obtain ⟨q2, m2, sh2, p2, k2, r2⟩ := shw_sps (K := K) e2 al2 sm len1
  rw [htx] at sh2
  refine ⟨.ref l2, q2, m2, tx, rfl, sh2, fun _ _ => p2, k2, r2, rfl, _, rfl, ?_⟩
  refine ite2 (fun h => absurd h (by simp)) (fun _ => ?_)
  have BZ2 : But p Y Z2 := Same.but (S1'.trans S2')
  obtain ⟨c1, hc1', hc2⟩ : ∃ c1 : Nat, BoxAt Z2 p c1 ∧ c1 ≤ 3000 := ⟨_, hbY'.keep (S1'.trans S2'), by omega⟩
  -- four spans of time
  refine ⟨(4 : Int), rfl, by decide, by decide, ?_⟩
  refine for_it (walk_range (lo := 0) (n := 4)) (fun j σ Z => (∃ v12 v13 v14 v15 v16 : Option V, σ = [some (.ref a), some (.int (0 + (i : Int))), some (.ref p), some (.ref b), some (.ref bo), some (.ref x), some (.int tk), some (.int z), some (.ref D), v9, v10, some (.str lt), v12, v13, v14, v15, v16, none, none, none]) ∧
      But p Y Z ∧ BoxAt Z p (c1 + 2 * j)) ⟨⟨_, _, _, _, _, rfl⟩, BZ2, hc1'⟩ (fun _ _ _ _ _ => trivial) ?_ ?_
  · rintro j v σ Z0 Z hj ⟨⟨v12, v13, v14, v15, v16, rfl⟩, BZ, hbZ⟩ ⟨rfl, rfl⟩
    dsimp only [gName]
    refine ⟨_, rfl, _, rfl, _, rfl, p, tk, _, rfl, hbZ, by omega, by omega, Int.lt_of_le_of_lt (show tk ≤ 60 by omega) (by decide), fun j3 Z3 a3 b3 hb3 B3 => ?_⟩
    refine ⟨_, _, rfl, rfl, ?_⟩
    refine ⟨_, rfl, _, rfl, _, rfl, _, _, rfl, rfl, p, _, _, rfl, hb3, by omega, by omega, Int.lt_of_le_of_lt (show tk + 20 ≤ 80 by omega) (by decide), fun j4 Z4 a4 b4 hb4 B4 => ?_⟩
    refine ⟨_, _, rfl, rfl, _, _, rfl, ?_⟩
    dsimp only [gName]
    -- since, as the turn says
    refine ⟨_, rfl, _, rfl, _, _, rfl, rfl, 0, _, rfl, by show 2 ≤ sizeLine; decide, fun L2 nL2 => ?_⟩
    obtain ⟨mx, emx, mx0, mx1, mx2⟩ : ∃ u : Int, (if (0 : Int) < z - 5 then z - 5 else 0) = u ∧ 0 ≤ u ∧ u ≤ z + 60 ∧ z - 5 ≤ u := ⟨_, rfl, by split <;> omega, by split <;> omega, by split <;> omega⟩
    have emx' : (if z - 5 > (0 : Int) then z - 5 else 0) = mx := emx
    dsimp only [gName]
    first
      | rw [emx'] at *
      | rw [emx] at *
    have U2 := Same.laid (o := HO.lst [V.int (z + j3), .int mx]) nL2
    have eL2 : upd Z4 L2 (.lst [V.int (z + j3), .int mx]) L2 = some (.lst [V.int (z + j3), .int mx]) := upd_same
    have hb5 := hb4.keep U2
    have BZ5 : But p Y (upd Z4 L2 (.lst [V.int (z + j3), .int mx])) := BZ.trans (B3.trans (B4.trans (Same.but U2)))
    generalize upd Z4 L2 (.lst [V.int (z + j3), .int mx]) = Z5 at *
    obtain ⟨y0, hy0, aty⟩ := menu (xs := [V.int (z + j3), .int mx]) (Int.emod_nonneg (0 + (j : Int)) (by decide : (2 : Int) ≠ 0)) (by have := Int.emod_lt_of_pos (0 + (j : Int)) (by decide : (0 : Int) < 2); exact this)
    obtain ⟨sx, rfl, sx0, sx1, sx2⟩ : ∃ m : Int, y0 = .int m ∧ 0 ≤ m ∧ m ≤ z + 60 ∧ z - 5 ≤ m := by
      simp only [List.mem_cons, List.not_mem_nil, or_false] at hy0
      rcases hy0 with rfl | rfl
      · exact ⟨_, rfl, by omega, by omega, by omega⟩
      · exact ⟨_, rfl, mx0, mx1, mx2⟩
    refine ⟨_, rfl, _, _, rfl, rfl, (by decide : (0 : Int) < 2), L2, _, _, _, rfl, rfl, SqL.of eL2, aty, ?_⟩
    clear aty hy0
    dsimp only [gName]
    generalize hsy : z + j4 = sy
    -- what is due, what is told
    refine ⟨_, rfl, _, rfl, _, rfl, _, rfl, _, rfl, b, bo, D, sx, sy, ps, rs, kw, hz, rfl, (hLw.same BZ5).same wo_same, by omega, by omega, by omega, by omega, by omega, fun lu Z6 xs3 S6 n3 e3 al3 => ?_⟩
    dsimp only [gName]
    have BZ6 := BZ5.trans (Same.but S6)
    refine ⟨_, rfl, _, rfl, _, rfl, _, rfl, x, D, sx, sy, W, ps, kw, hz, rs, rfl, (hHs.same BZ6).same wo_same, by omega, (hAl.same BZ6).same wo_same, gr, l5, ⟨by omega, by omega⟩, ⟨by omega, by omega⟩, fun lf Z7 xs4 S7 n4 e4 al4 len4 => ?_⟩
    dsimp only [gName]
    have sm2 := sm_spans (ps := ps) (hs := hz) (rs := rs) (x := sx) (y := sy) l5 (by omega) (by omega)
    obtain ⟨q4, m4, sh4, p4, k4, r4⟩ := shw_sps (K := K) e4 al4 sm2 len4
    obtain ⟨q3, m3, sh3, p3, k3, r3⟩ := shw_sps (K := K) e3 al3 sm2 len4
    generalize listText ((spansM (Nb ps hz rs) sx sy).map spT) = tx2 at sh4 sh3
    have BZ7 := BZ6.trans (Same.but S7)
    refine ⟨_, rfl, .ref lf, q4, m4, tx2, rfl, sh4, fun _ _ => p4, k4, r4, ?_⟩
    refine ⟨_, rfl, .ref lu, q3, m3, tx2, rfl, Shw.same S7 sh3, fun _ _ => p3, k3, r3, rfl, _, rfl, ?_⟩
    refine ite2 (fun h => absurd h (by simp)) (fun _ => ?_)
    refine ⟨_, rfl, _, rfl, _, rfl, _, rfl, _, rfl, x, D, lf, sx, sy, W, ps, kw, hz, rs, xs4, rfl, (hHs.same BZ7).same wo_same, (hAl.same BZ7).same wo_same, gr, l5, e4, al4, len4, by omega, by omega, by omega, by omega, by omega, fun Z8 S8 => ?_⟩
    refine ⟨true, rfl, iteF ?_⟩
    have e48 := S8 _ _ e4
    have lf6 : Z6 lf = none := n4
    have S69 : Same Z6 (upd Z8 lf (.lst (xs4 ++ [.str "more"]))) := Same.wo_upd (S7.trans S8) lf6
    refine ⟨_, rfl, .inl ⟨rfl, _, SqL.of e48⟩, lf, xs4, .str "more", rfl, rfl, e48, ?_, ?_⟩
    · rw [al4.length]
      exact Nat.lt_of_le_of_lt len4 (by decide)
    generalize upd Z8 lf (.lst (xs4 ++ [.str "more"])) = Z9 at *
    have BZ9 := BZ6.trans (Same.but S69)
    refine ⟨_, rfl, _, rfl, _, rfl, _, rfl, x, D, sx, sy, W, ps, kw, hz, rs, rfl, (hHs.same BZ9).same wo_same, by omega, (hAl.same BZ9).same wo_same, gr, l5, ⟨by omega, by omega⟩, ⟨by omega, by omega⟩, fun lg ZA xs5 SA n5 e5 al5 len5 => ?_⟩
    obtain ⟨q5, m5, sh5, p5, k5, r5⟩ := shw_sps (K := K) e5 al5 sm2 len4
    have sh3' := Shw.same (S69.trans SA) sh3
    obtain ⟨q6, m6, sh6, p6, k6, r6⟩ := shw_sps (K := K) ((S69.trans SA) _ _ e3) (al3.same (S69.trans SA)) sm2 len4
    generalize listText ((spansM (Nb ps hz rs) sx sy).map spT) = tx3 at sh5 sh6
    refine ⟨.ref lg, q5, m5, tx3, rfl, sh5, fun _ _ => p5, k5, r5, ?_⟩
    refine ⟨_, rfl, .ref lu, q6, m6, tx3, rfl, sh6, fun _ _ => p6, k6, r6, rfl, _, rfl, ?_⟩
    refine ite2 (fun h => absurd h (by simp)) (fun _ => ?_)
    have BZA := BZ9.trans (Same.but SA)
    refine ⟨_, rfl, .ref D, ld, ln, lt, rfl, Shw.same wo_same (Shw.same BZA shE), fun _ _ => pE, nE, dE, ?_⟩
    refine ⟨_, rfl, rfl, _, rfl, ?_⟩
    refine ite2 (fun h => absurd h (by simp)) (fun _ => ?_)
    exact ⟨⟨_, _, _, _, _, rfl⟩, BZA, ((hb5.keep S6).keep (S69.trans SA)).up (by omega)⟩
  rintro σ Z ⟨⟨v12, v13, v14, v15, v16, rfl⟩, BZ, hbZ⟩
  -- at last where there is none
  refine ⟨_, rfl, _, rfl, x, D, 9999, 9998, W, ps, kw, hz, rs, rfl, (hHs.same BZ).same wo_same, by omega, (hAl.same BZ).same wo_same, gr, l5, ⟨by decide, by decide⟩, ⟨by decide, by decide⟩, fun l3 Z3 xs3 S3 n3 e3 al3 _ => ?_⟩
  rw [spansM_no (by decide)] at al3
  refine ⟨by show 0 ≤ sizeLine; decide, fun z1 nz1 => ?_⟩
  have S4 := Same.laid (o := HO.lst []) nz1
  have ez1 : upd Z3 z1 (.lst []) z1 = some (.lst []) := upd_same
  generalize upd Z3 z1 (.lst []) = Z4 at *
  refine ne_emptyS (S4 _ _ e3) (al3.same S4) ez1 ⟨_, rfl, iteF ?_⟩
  refine ⟨_, rfl, fun Dn nDn => ?_⟩
  have S34 := S3.trans S4
  have BZ4 := BZ.trans (Same.but S34)
  have SDn := Same.laid (o := HO.dK []) nDn
  have eDn : upd Z4 Dn (.dK []) Dn = some (.dK []) := upd_same
  have wkn : WoP K C (Pw.wo (upd Z4 Dn (.dK [])) Dn) x W ps := hHs.wk.same fun q o e => by
    have e1 := wo_same _ _ (BZ4 _ _ (wo_same _ _ e))
    exact wo_of (ne_of_none e1 nDn) (SDn _ _ e1)
  generalize upd Z4 Dn (.dK []) = Z5 at *
  have BZ5 := BZ4.trans (Same.but SDn)
  refine ⟨x, Dn, 0, 50, W, ps, [], [], rs, rfl, ⟨wkn, eDn, .nil, (fun h hh => nomatch hh)⟩, by decide, (hAl.same BZ5).same wo_same, gr, l5, ⟨by decide, by decide⟩, ⟨by decide, by decide⟩, fun l5' Z6 xs6 S6 n6 e6 al6 _ => ?_⟩
  rw [spans_nil] at al6
  refine ⟨by show 0 ≤ sizeLine; decide, fun z2 nz2 => ?_⟩
  have S7 := Same.laid (o := HO.lst []) nz2
  have ez2 : upd Z6 z2 (.lst []) z2 = some (.lst []) := upd_same
  generalize upd Z6 z2 (.lst []) = Z7 at *
  refine ne_emptyS (S7 _ _ e6) (al6.same S7) ez2 ⟨_, rfl, iteF ?_⟩
  refine ⟨⟨_, _, _, _, _, _, _, _, _, _, _, _, _, _, _, _, rfl⟩, ?_⟩
  have BF : But p X1 Z7 := B1Y.trans (BZ5.trans (Same.but (S6.trans S7)))
  exact SX.trans fun q o eq => BF.at (ne_of_none eq np) (S1 _ _ eq)
end
end V51

namespace V51
open PySem PySem.Spec PyProof.Rows L2 Pw
theorem kbR {K : PySem.W.Frag} {d1 d2 d3 d4 f : Addr} {fd : FuncData} (F : FunD K "__init__" "Works.__init__" (defArgs mWorks_Init) (defBody mWorks_Init) (defScope mWorks_Init) [] [("rules", .ref d1), ("causes", .ref d2), ("commands", .ref d3), ("relations", .ref d4)] f fd) :
    ∃ g, KBn K fd ["self", "points", "rules", "causes", "commands", "relations"] 2 ["relations"] g (gR d1 d2 d3) := by
  obtain ⟨mv, h⟩ := kbn_of (ms := [("rules", .ref d1), ("causes", .ref d2), ("commands", .ref d3)]) (ps := ["self", "points", "rules", "causes", "commands", "relations"]) (ks := ["relations"]) (n := 2) F (fun us mv ws => us ++ mv ++ ws) (by simp) (fun q h => by
      simp only [List.mem_cons, List.not_mem_nil, or_false] at h ⊢
      rcases h with h | h | h <;> simp [h])
    (fun h1 h2 h3 => (h1.append h2).append h3) (fun D doc pm an cdv ct us mv ws l1 l2 l3 => by
      match us, mv, ws, l1, l2, l3 with
      | [a, b], [c, d, e], [g], _, _, _ =>
        exact ⟨_, _, _, _, _, _, rfl, rfl, _, _, _, _, _, _, rfl, rfl, _, _, _, _, _, _, rfl, rfl, rfl⟩)
  exact ⟨_, h⟩
-- END defs: Number=_is_number Check=_check_number Whole=is_whole Name=is_name OneOf=is_one_of Tuple=is_tuple List=is_list ListOf=is_list_of Time=is_time Level=is_level Mark=is_mark CTime=check_time Row=is_row Hist=is_history Rising=is_rising PointS=is_point_shape Once=_check_each_once ByName=by_name Points=check_points Rules=check_rules RuleS=is_rule_shape Causes=check_causes CauseS=is_cause_shape Leads=_leads_to_itself Commands=check_commands CommandS=is_command_shape WorthOf=is_worth_of Locks=_check_locks Relations=check_relations RelS=is_relation_shape PtsRel=points_of_relation WorksC=check_works RHolds=relation_holds CPic=_check_picture BrkIn=_broken_in Brk=broken RowAt=row_at HistOf=_is_history_of CHist=_check_histories PicIn=_picture_in PicAt=picture_at Spans=spans Stretches=_stretches AddSpan=_add_span Cell=_law_cell Box=_law_box Take=_law_take LNames=_law_names LPoints=_law_points Mixed=_law_mixed Bonds=_law_bonds LIn=_law_in LHolds=_law_holds LBroken=_law_broken History=_law_history Histories=_law_histories LPicAt=_law_picture_at LSpans=_law_spans LAll=_law_spans_of_all LTicks=_law_ticks_right
theorem fin {P : Program} {w : World} {K : PySem.W.Frag} {mg : Str → Option Value} {fa C fi d1 d2 d3 d4 : Addr} {fdi : FuncData} (hfa : mg "law" = some (.ref fa)) (T : Txt mg) (W : WoC K C) (Wq : WoQ K C) (hC : mg "Works" = some (.ref C))
    (M : Mk K C fi) (FI : FunD K "__init__" "Works.__init__" (defArgs mWorks_Init) (defBody mWorks_Init) (defScope mWorks_Init) [] [("rules", .ref d1), ("causes", .ref d2), ("commands", .ref d3), ("relations", .ref d4)] fi fdi)
    (hd1 : ∀ H, SqT K H d1 []) (hd2 : ∀ H, SqT K H d2 []) (hd3 : ∀ H, SqT K H d3 []) (hd4 : ∀ H, SqT K H d4 [])
    (mPts : AtMt K C "points" "Works.points" mWorks_Points)
    (mHasP : AtMt K C "has_point" "Works.has_point" mWorks_HasPoint)
    (mPoint : AtMt K C "point" "Works.point" mWorks_Point)
    (mIsW : AtMt K C "is_worth" "Works.is_worth" mWorks_IsWorth)
    (mRels : AtMt K C "relations" "Works.relations" mWorks_Relations)
    (aNumber : At K mg "_is_number" sIsNumber)
    (aCheck : At K mg "_check_number" sCheckNumber)
    (aWhole : At K mg "is_whole" sIsWhole)
    (aName : At K mg "is_name" sIsName)
    (aOneOf : At K mg "is_one_of" sIsOneOf)
    (aTuple : At K mg "is_tuple" sIsTuple)
    (aList : At K mg "is_list" sIsList)
    (aListOf : At K mg "is_list_of" sIsListOf)
    (aTime : At K mg "is_time" sIsTime)
    (aLevel : At K mg "is_level" sIsLevel)
    (aMark : At K mg "is_mark" sIsMark)
    (aCTime : At K mg "check_time" sCheckTime)
    (aRow : At K mg "is_row" sIsRow)
    (aHist : At K mg "is_history" sIsHistory)
    (aRising : At K mg "is_rising" sIsRising)
    (aPointS : At K mg "is_point_shape" sIsPointShape)
    (aOnce : At K mg "_check_each_once" sCheckEachOnce)
    (aByName : At K mg "by_name" sByName)
    (aPoints : At K mg "check_points" sCheckPoints)
    (aRules : At K mg "check_rules" sCheckRules)
    (aRuleS : At K mg "is_rule_shape" sIsRuleShape)
    (aCauses : At K mg "check_causes" sCheckCauses)
    (aCauseS : At K mg "is_cause_shape" sIsCauseShape)
    (aLeads : At K mg "_leads_to_itself" sLeadsToItself)
    (aCommands : At K mg "check_commands" sCheckCommands)
    (aCommandS : At K mg "is_command_shape" sIsCommandShape)
    (aWorthOf : At K mg "is_worth_of" sIsWorthOf)
    (aLocks : At K mg "_check_locks" sCheckLocks)
    (aRelations : At K mg "check_relations" sCheckRelations)
    (aRelS : At K mg "is_relation_shape" sIsRelationShape)
    (aPtsRel : At K mg "points_of_relation" sPointsOfRelation)
    (aWorksC : At K mg "check_works" sCheckWorks)
    (aRHolds : At K mg "relation_holds" sRelationHolds)
    (aCPic : At K mg "_check_picture" sCheckPicture)
    (aBrkIn : At K mg "_broken_in" sBrokenIn)
    (aBrk : At K mg "broken" sBroken)
    (aRowAt : At K mg "row_at" sRowAt)
    (aHistOf : At K mg "_is_history_of" sIsHistoryOf)
    (aCHist : At K mg "_check_histories" sCheckHistories)
    (aPicIn : At K mg "_picture_in" sPictureIn)
    (aPicAt : At K mg "picture_at" sPictureAt)
    (aSpans : At K mg "spans" sSpans)
    (aStretches : At K mg "_stretches" sStretches)
    (aAddSpan : At K mg "_add_span" sAddSpan)
    (aCell : At K mg "_law_cell" sLawCell)
    (aBox : At K mg "_law_box" sLawBox)
    (aTake : At K mg "_law_take" sLawTake)
    (aLNames : At K mg "_law_names" sLawNames)
    (aLPoints : At K mg "_law_points" sLawPoints)
    (aMixed : At K mg "_law_mixed" sLawMixed)
    (aBonds : At K mg "_law_bonds" sLawBonds)
    (aLIn : At K mg "_law_in" sLawIn)
    (aLHolds : At K mg "_law_holds" sLawHolds)
    (aLBroken : At K mg "_law_broken" sLawBroken)
    (aHistory : At K mg "_law_history" sLawHistory)
    (aHistories : At K mg "_law_histories" sLawHistories)
    (aLPicAt : At K mg "_law_picture_at" sLawPictureAt)
    (aLSpans : At K mg "_law_spans" sLawSpans)
    (aLAll : At K mg "_law_spans_of_all" sLawSpansOfAll)
    (aLTicks : At K mg "_law_ticks_right" sLawTicksRight)
    (aLaw : At K mg "law" sLaw) :
    ∃ fd : FuncData, (∀ (s : Shared) (v : Value), BindsTo s fd ⟨[v], []⟩ [("_law_script", v)]) ∧
      ∀ base : Heap, K.In base → base.Ns mainGlobals mg → FnG P w K mg base CX0 12 fa fd ["_law_script"] (spLaw K) := by
  obtain ⟨f, fd, F, m⟩ := aLaw.ex
  cases hfa.symm.trans m
  have F' := F
  obtain ⟨oc, od, kV, doc, pm, an, cdv, ct, osl, rfl, lk, hcd⟩ := F.ex
  refine ⟨PySem.W.fnOf "law" "law" (defArgs sLaw) (defBody sLaw) (defScope sLaw) .none kV doc pm an cdv ct, fun s v => .of_eq rfl, fun base _ _ => ?_⟩
  have dNumber : Def P w K mg base "_is_number" 1 ["thing"] (spNumber K) := d_number T aNumber
  have dCheck := d_check aCheck dNumber
  have dWhole := d_whole aWhole dNumber dCheck
  have dTuple : Def P w K mg base "is_tuple" 1 ["thing", "many"] (spTupN K) := d_tuple T aTuple
  have dOne : Def P w K mg base "is_one_of" 1 ["thing", "words"] (spOne K) := d_oneof T aOneOf
  have dName : Def P w K mg base "is_name" 1 ["thing"] (spName K) := d_name T aName
  have dTime := d_time T aTime dWhole
  have dLevel := d_level T aLevel dWhole
  have dMark := d_mark aMark dOne
  have dCT := d_ctime aCTime dTime
  have dRow := d_row aRow dTuple dTime dLevel dMark
  have dHist := d_history T aHist dRow (d_rising T aRising)
  have dList : Def P w K mg base "is_list" 1 ["thing", "least", "most"] (spList K) := d_list T aList
  have dPS := d_pointS aPointS dTuple dName dOne
  have dPts := d_points T aPoints aListOf dList dPS (d_once T aOnce)
  have dR0 := d_rules0 T aRules aRuleS aListOf dList
  have dC0 := d_causes0 T aCauses aCauseS aLeads aListOf dList
  have dM0 := d_commands0 T aCommands aCommandS aWorthOf aLocks aListOf dList
  have dRS : Def P w K mg base "is_relation_shape" 4 ["thing"] spRelS := d_relS T aRelS dTuple dName dOne aListOf dList
  have dPR : Def P w K mg base "points_of_relation" 1 ["relation"] (spPtsRel K) := d_ptsRel T aPtsRel
  have dRl := d_rels T aRelations aListOf dList dRS dPR (d_once T aOnce)
  obtain ⟨g2, hg2⟩ := kbR FI
  have dWr : MadeK P w K mg base "Works" C 8 ["self", "points", "rules", "causes", "commands", "relations"] 1 ["relations"] (gR d1 d2 d3) (spWr K C) :=
    ⟨fi, fdi, g2, hC, M, hg2, ok_initW T W FI dPts (fun f nm => d_byName aByName) dR0 dC0 dM0 (by decide) dRl (fun r => ⟨_, rfl⟩) (fun r => ⟨_, rfl⟩)⟩
  have dWO := d_worthOf T aWorthOf dWhole
  have eHas := d_hasP W mHasP dName
  have ePt := d_point W mPoint eHas
  have eIsW := d_isWorth W mIsW ePt dWO
  have eRl : DefM P w K mg base C "relations" 1 ["self"] (spRl C K) := d_rl T W mRels
  have dWC : Def P w K mg base "check_works" 1 ["thing"] (spWorksC C K) := d_worksC T W Wq hC aWorksC
  have dCP := d_cPic T W aCPic dWC eHas eIsW
  have dBI := d_brkIn T aBrkIn (d_holds T aRHolds dPR)
  have dBr := d_broken W aBrk dCP eRl dBI
  have dt : Def P w K mg base "_law_take" 1 ["_law_box_here", "_law_many"] (spTake K) := d_take aTake
  have dmx := d_mixed T aMixed dt
  have dI : Def P w K mg base "_law_in" 1 ["_law_bond"] (spIn1 K) := d_lin T aLIn
  have dLH := d_lholds T aLHolds dI
  have ePts : DefM P w K mg base C "points" 1 ["self"] (spPts C K) := d_pts T W mPts
  have dRA : Def P w K mg base "row_at" 1 ["history", "at"] (spRowAt K) := d_rowAt T aRowAt
  have dHO := d_histOf T W aHistOf dHist eIsW
  have dCH := d_cHist T W aCHist dWC eHas dHO
  have dPI := d_picIn T W aPicIn ePts dRA
  have dPA := d_picAt aPicAt dCH dCT dPI
  have dSp := d_spans T W aSpans dCH dCT eRl (d_str T aStretches) dPI dBI (d_addSp T aAddSpan)
  have dLP : Def P w K mg base "_law_picture_at" 1 ["_law_points_here", "_law_histories_here", "_law_time"] (spLPic K) := d_lpic T aLPicAt
  have dLB := d_lbrk T aLBroken dLH
  exact ok_law F' T W dWr hd1 hd2 hd3 (d_cell T aCell) (d_box T aBox) dt (d_names T aLNames dt) (d_ptsL T aLPoints dt) (d_bonds T aBonds dt dmx) (d_hists T aHistories dt dmx (d_hist1 T aHistory dt)) dSp (d_lsp T aLSpans dLB dLP) (d_lall T aLAll dLB dLP) (d_ticks T aLTicks dBr dPA)
end V51

namespace V51
open PySem PySem.Spec PyProof.Rows L2 Pw
theorem facts {P : Program} {w : World} {K : PySem.W.Frag} {h : Heap} {mg : Str → Option Value} {f : Addr} (X : K.In h) (G : h.Ns mainGlobals mg) (hfa : mg ("law" : Str) = some (.ref f)) (c : SaysB fb fn K) :
    ∃ fd : FuncData, (∀ (s : Shared) (v : Value), BindsTo s fd ⟨[v], []⟩ [("_law_script", v)]) ∧ ∀ base : Heap, K.In base → base.Ns mainGlobals mg → FnG P w K mg base CX0 12 f fd ["_law_script"] (spLaw K) := by
  have z_KeyError : PySem.W.nsIn K mainGlobals "KeyError" = some none := He.eqO_ok (c.fact (f := (He.Fa.free "KeyError").ok) 0 rfl)
  have z_ValueError : PySem.W.nsIn K mainGlobals "ValueError" = some none := He.eqO_ok (c.fact (f := (He.Fa.free "ValueError").ok) 1 rfl)
  have z_all : PySem.W.nsIn K mainGlobals "all" = some none := He.eqO_ok (c.fact (f := (He.Fa.free "all").ok) 2 rfl)
  have z_bool : PySem.W.nsIn K mainGlobals "bool" = some none := He.eqO_ok (c.fact (f := (He.Fa.free "bool").ok) 3 rfl)
  have z_dict : PySem.W.nsIn K mainGlobals "dict" = some none := He.eqO_ok (c.fact (f := (He.Fa.free "dict").ok) 4 rfl)
  have z_enumerate : PySem.W.nsIn K mainGlobals "enumerate" = some none := He.eqO_ok (c.fact (f := (He.Fa.free "enumerate").ok) 5 rfl)
  have z_int : PySem.W.nsIn K mainGlobals "int" = some none := He.eqO_ok (c.fact (f := (He.Fa.free "int").ok) 6 rfl)
  have z_isinstance : PySem.W.nsIn K mainGlobals "isinstance" = some none := He.eqO_ok (c.fact (f := (He.Fa.free "isinstance").ok) 7 rfl)
  have z_len : PySem.W.nsIn K mainGlobals "len" = some none := He.eqO_ok (c.fact (f := (He.Fa.free "len").ok) 8 rfl)
  have z_list : PySem.W.nsIn K mainGlobals "list" = some none := He.eqO_ok (c.fact (f := (He.Fa.free "list").ok) 9 rfl)
  have z_max : PySem.W.nsIn K mainGlobals "max" = some none := He.eqO_ok (c.fact (f := (He.Fa.free "max").ok) 10 rfl)
  have z_min : PySem.W.nsIn K mainGlobals "min" = some none := He.eqO_ok (c.fact (f := (He.Fa.free "min").ok) 11 rfl)
  have z_range : PySem.W.nsIn K mainGlobals "range" = some none := He.eqO_ok (c.fact (f := (He.Fa.free "range").ok) 12 rfl)
  have z_repr : PySem.W.nsIn K mainGlobals "repr" = some none := He.eqO_ok (c.fact (f := (He.Fa.free "repr").ok) 13 rfl)
  have z_reversed : PySem.W.nsIn K mainGlobals "reversed" = some none := He.eqO_ok (c.fact (f := (He.Fa.free "reversed").ok) 14 rfl)
  have z_sorted : PySem.W.nsIn K mainGlobals "sorted" = some none := He.eqO_ok (c.fact (f := (He.Fa.free "sorted").ok) 15 rfl)
  have z_str : PySem.W.nsIn K mainGlobals "str" = some none := He.eqO_ok (c.fact (f := (He.Fa.free "str").ok) 16 rfl)
  have z_sum : PySem.W.nsIn K mainGlobals "sum" = some none := He.eqO_ok (c.fact (f := (He.Fa.free "sum").ok) 17 rfl)
  have z_tuple : PySem.W.nsIn K mainGlobals "tuple" = some none := He.eqO_ok (c.fact (f := (He.Fa.free "tuple").ok) 18 rfl)
  have z_zip : PySem.W.nsIn K mainGlobals "zip" = some none := He.eqO_ok (c.fact (f := (He.Fa.free "zip").ok) 19 rfl)
  have T : Txt mg :=
    {KeyError := PySem.W.mg_none_of X G z_KeyError, ValueError := PySem.W.mg_none_of X G z_ValueError, all := PySem.W.mg_none_of X G z_all, bool := PySem.W.mg_none_of X G z_bool, dict := PySem.W.mg_none_of X G z_dict, enumerate := PySem.W.mg_none_of X G z_enumerate, int := PySem.W.mg_none_of X G z_int, isinstance := PySem.W.mg_none_of X G z_isinstance, len := PySem.W.mg_none_of X G z_len, list := PySem.W.mg_none_of X G z_list, max := PySem.W.mg_none_of X G z_max, min := PySem.W.mg_none_of X G z_min, range := PySem.W.mg_none_of X G z_range, repr := PySem.W.mg_none_of X G z_repr, reversed := PySem.W.mg_none_of X G z_reversed, sorted := PySem.W.mg_none_of X G z_sorted, str := PySem.W.mg_none_of X G z_str, sum := PySem.W.mg_none_of X G z_sum, tuple := PySem.W.mg_none_of X G z_tuple, zip := PySem.W.mg_none_of X G z_zip, cMOST_TIME := He.int_ok X G (c.fact (f := (He.Fa.int "MOST_TIME" 9999).ok) 20 rfl), cMOST_LEVEL := He.int_ok X G (c.fact (f := (He.Fa.int "MOST_LEVEL" 63).ok) 21 rfl), c_MOST_NAME := He.int_ok X G (c.fact (f := (He.Fa.int "_MOST_NAME" 8).ok) 22 rfl), c_MOST_LOCKS := He.int_ok X G (c.fact (f := (He.Fa.int "_MOST_LOCKS" 4).ok) 23 rfl), c_MOST_PARTS := He.int_ok X G (c.fact (f := (He.Fa.int "_MOST_PARTS" 3).ok) 24 rfl), c_MOST_HOLD := He.int_ok X G (c.fact (f := (He.Fa.int "_MOST_HOLD" 99).ok) 25 rfl), c_MOST_RANK := He.int_ok X G (c.fact (f := (He.Fa.int "_MOST_RANK" 3).ok) 26 rfl), c_MOST_WITHIN := He.int_ok X G (c.fact (f := (He.Fa.int "_MOST_WITHIN" 999).ok) 27 rfl), c_MOST_PLACES := He.int_ok X G (c.fact (f := (He.Fa.int "_MOST_PLACES" 3).ok) 28 rfl), c_MOST_POINTS := He.int_ok X G (c.fact (f := (He.Fa.int "_MOST_POINTS" 8).ok) 29 rfl), c_MOST_RULES := He.int_ok X G (c.fact (f := (He.Fa.int "_MOST_RULES" 6).ok) 30 rfl), c_MOST_CAUSES := He.int_ok X G (c.fact (f := (He.Fa.int "_MOST_CAUSES" 8).ok) 31 rfl), c_MOST_COMMANDS := He.int_ok X G (c.fact (f := (He.Fa.int "_MOST_COMMANDS" 4).ok) 32 rfl), c_MOST_RELATIONS := He.int_ok X G (c.fact (f := (He.Fa.int "_MOST_RELATIONS" 5).ok) 33 rfl), c_MOST_SIGNS := He.int_ok X G (c.fact (f := (He.Fa.int "_MOST_SIGNS" 100).ok) 34 rfl)}
  have aNumber : At K mg "_is_number" sIsNumber := atOf X G (c.fact (f := (He.Fa.glo "_is_number").ok) 35 rfl) (c.def_ (d := dfN "_is_number" sIsNumber) 0 rfl)
  have aCheck : At K mg "_check_number" sCheckNumber := atOf X G (c.fact (f := (He.Fa.glo "_check_number").ok) 36 rfl) (c.def_ (d := dfN "_check_number" sCheckNumber) 1 rfl)
  have aWhole : At K mg "is_whole" sIsWhole := atOf X G (c.fact (f := (He.Fa.glo "is_whole").ok) 37 rfl) (c.def_ (d := dfN "is_whole" sIsWhole) 2 rfl)
  have aName : At K mg "is_name" sIsName := atOf X G (c.fact (f := (He.Fa.glo "is_name").ok) 38 rfl) (c.def_ (d := dfN "is_name" sIsName) 3 rfl)
  have aOneOf : At K mg "is_one_of" sIsOneOf := atOf X G (c.fact (f := (He.Fa.glo "is_one_of").ok) 39 rfl) (c.def_ (d := dfN "is_one_of" sIsOneOf) 4 rfl)
  have aTuple : At K mg "is_tuple" sIsTuple := atOf X G (c.fact (f := (He.Fa.glo "is_tuple").ok) 40 rfl) (c.def_ (d := dfN "is_tuple" sIsTuple) 5 rfl)
  have aList : At K mg "is_list" sIsList := atOf X G (c.fact (f := (He.Fa.glo "is_list").ok) 41 rfl) (c.def_ (d := dfN "is_list" sIsList) 6 rfl)
  have aListOf : At K mg "is_list_of" sIsListOf := atOf X G (c.fact (f := (He.Fa.glo "is_list_of").ok) 42 rfl) (c.def_ (d := dfN "is_list_of" sIsListOf) 7 rfl)
  have aTime : At K mg "is_time" sIsTime := atOf X G (c.fact (f := (He.Fa.glo "is_time").ok) 43 rfl) (c.def_ (d := dfN "is_time" sIsTime) 8 rfl)
  have aLevel : At K mg "is_level" sIsLevel := atOf X G (c.fact (f := (He.Fa.glo "is_level").ok) 44 rfl) (c.def_ (d := dfN "is_level" sIsLevel) 9 rfl)
  have aMark : At K mg "is_mark" sIsMark := atOf X G (c.fact (f := (He.Fa.glo "is_mark").ok) 45 rfl) (c.def_ (d := dfN "is_mark" sIsMark) 10 rfl)
  have aCTime : At K mg "check_time" sCheckTime := atOf X G (c.fact (f := (He.Fa.glo "check_time").ok) 46 rfl) (c.def_ (d := dfN "check_time" sCheckTime) 11 rfl)
  have aRow : At K mg "is_row" sIsRow := atOf X G (c.fact (f := (He.Fa.glo "is_row").ok) 47 rfl) (c.def_ (d := dfN "is_row" sIsRow) 12 rfl)
  have aHist : At K mg "is_history" sIsHistory := atOf X G (c.fact (f := (He.Fa.glo "is_history").ok) 48 rfl) (c.def_ (d := dfN "is_history" sIsHistory) 13 rfl)
  have aRising : At K mg "is_rising" sIsRising := atOf X G (c.fact (f := (He.Fa.glo "is_rising").ok) 49 rfl) (c.def_ (d := dfN "is_rising" sIsRising) 14 rfl)
  have aPointS : At K mg "is_point_shape" sIsPointShape := atOf X G (c.fact (f := (He.Fa.glo "is_point_shape").ok) 50 rfl) (c.def_ (d := dfN "is_point_shape" sIsPointShape) 15 rfl)
  have aOnce : At K mg "_check_each_once" sCheckEachOnce := atOf X G (c.fact (f := (He.Fa.glo "_check_each_once").ok) 51 rfl) (c.def_ (d := dfN "_check_each_once" sCheckEachOnce) 16 rfl)
  have aByName : At K mg "by_name" sByName := atOf X G (c.fact (f := (He.Fa.glo "by_name").ok) 52 rfl) (c.def_ (d := dfN "by_name" sByName) 17 rfl)
  have aPoints : At K mg "check_points" sCheckPoints := atOf X G (c.fact (f := (He.Fa.glo "check_points").ok) 53 rfl) (c.def_ (d := dfN "check_points" sCheckPoints) 18 rfl)
  have aRules : At K mg "check_rules" sCheckRules := atOf X G (c.fact (f := (He.Fa.glo "check_rules").ok) 54 rfl) (c.def_ (d := dfN "check_rules" sCheckRules) 19 rfl)
  have aRuleS : At K mg "is_rule_shape" sIsRuleShape := atOf X G (c.fact (f := (He.Fa.glo "is_rule_shape").ok) 55 rfl) (c.def_ (d := dfN "is_rule_shape" sIsRuleShape) 20 rfl)
  have aCauses : At K mg "check_causes" sCheckCauses := atOf X G (c.fact (f := (He.Fa.glo "check_causes").ok) 56 rfl) (c.def_ (d := dfN "check_causes" sCheckCauses) 21 rfl)
  have aCauseS : At K mg "is_cause_shape" sIsCauseShape := atOf X G (c.fact (f := (He.Fa.glo "is_cause_shape").ok) 57 rfl) (c.def_ (d := dfN "is_cause_shape" sIsCauseShape) 22 rfl)
  have aLeads : At K mg "_leads_to_itself" sLeadsToItself := atOf X G (c.fact (f := (He.Fa.glo "_leads_to_itself").ok) 58 rfl) (c.def_ (d := dfN "_leads_to_itself" sLeadsToItself) 23 rfl)
  have aCommands : At K mg "check_commands" sCheckCommands := atOf X G (c.fact (f := (He.Fa.glo "check_commands").ok) 59 rfl) (c.def_ (d := dfN "check_commands" sCheckCommands) 24 rfl)
  have aCommandS : At K mg "is_command_shape" sIsCommandShape := atOf X G (c.fact (f := (He.Fa.glo "is_command_shape").ok) 60 rfl) (c.def_ (d := dfN "is_command_shape" sIsCommandShape) 25 rfl)
  have aWorthOf : At K mg "is_worth_of" sIsWorthOf := atOf X G (c.fact (f := (He.Fa.glo "is_worth_of").ok) 61 rfl) (c.def_ (d := dfN "is_worth_of" sIsWorthOf) 26 rfl)
  have aLocks : At K mg "_check_locks" sCheckLocks := atOf X G (c.fact (f := (He.Fa.glo "_check_locks").ok) 62 rfl) (c.def_ (d := dfN "_check_locks" sCheckLocks) 27 rfl)
  have aRelations : At K mg "check_relations" sCheckRelations := atOf X G (c.fact (f := (He.Fa.glo "check_relations").ok) 63 rfl) (c.def_ (d := dfN "check_relations" sCheckRelations) 28 rfl)
  have aRelS : At K mg "is_relation_shape" sIsRelationShape := atOf X G (c.fact (f := (He.Fa.glo "is_relation_shape").ok) 64 rfl) (c.def_ (d := dfN "is_relation_shape" sIsRelationShape) 29 rfl)
  have aPtsRel : At K mg "points_of_relation" sPointsOfRelation := atOf X G (c.fact (f := (He.Fa.glo "points_of_relation").ok) 65 rfl) (c.def_ (d := dfN "points_of_relation" sPointsOfRelation) 30 rfl)
  have aWorksC : At K mg "check_works" sCheckWorks := atOf X G (c.fact (f := (He.Fa.glo "check_works").ok) 66 rfl) (c.def_ (d := dfN "check_works" sCheckWorks) 31 rfl)
  have aRHolds : At K mg "relation_holds" sRelationHolds := atOf X G (c.fact (f := (He.Fa.glo "relation_holds").ok) 67 rfl) (c.def_ (d := dfN "relation_holds" sRelationHolds) 32 rfl)
  have aCPic : At K mg "_check_picture" sCheckPicture := atOf X G (c.fact (f := (He.Fa.glo "_check_picture").ok) 68 rfl) (c.def_ (d := dfN "_check_picture" sCheckPicture) 33 rfl)
  have aBrkIn : At K mg "_broken_in" sBrokenIn := atOf X G (c.fact (f := (He.Fa.glo "_broken_in").ok) 69 rfl) (c.def_ (d := dfN "_broken_in" sBrokenIn) 34 rfl)
  have aBrk : At K mg "broken" sBroken := atOf X G (c.fact (f := (He.Fa.glo "broken").ok) 70 rfl) (c.def_ (d := dfN "broken" sBroken) 35 rfl)
  have aRowAt : At K mg "row_at" sRowAt := atOf X G (c.fact (f := (He.Fa.glo "row_at").ok) 71 rfl) (c.def_ (d := dfN "row_at" sRowAt) 36 rfl)
  have aHistOf : At K mg "_is_history_of" sIsHistoryOf := atOf X G (c.fact (f := (He.Fa.glo "_is_history_of").ok) 72 rfl) (c.def_ (d := dfN "_is_history_of" sIsHistoryOf) 37 rfl)
  have aCHist : At K mg "_check_histories" sCheckHistories := atOf X G (c.fact (f := (He.Fa.glo "_check_histories").ok) 73 rfl) (c.def_ (d := dfN "_check_histories" sCheckHistories) 38 rfl)
  have aPicIn : At K mg "_picture_in" sPictureIn := atOf X G (c.fact (f := (He.Fa.glo "_picture_in").ok) 74 rfl) (c.def_ (d := dfN "_picture_in" sPictureIn) 39 rfl)
  have aPicAt : At K mg "picture_at" sPictureAt := atOf X G (c.fact (f := (He.Fa.glo "picture_at").ok) 75 rfl) (c.def_ (d := dfN "picture_at" sPictureAt) 40 rfl)
  have aSpans : At K mg "spans" sSpans := atOf X G (c.fact (f := (He.Fa.glo "spans").ok) 76 rfl) (c.def_ (d := dfN "spans" sSpans) 41 rfl)
  have aStretches : At K mg "_stretches" sStretches := atOf X G (c.fact (f := (He.Fa.glo "_stretches").ok) 77 rfl) (c.def_ (d := dfN "_stretches" sStretches) 42 rfl)
  have aAddSpan : At K mg "_add_span" sAddSpan := atOf X G (c.fact (f := (He.Fa.glo "_add_span").ok) 78 rfl) (c.def_ (d := dfN "_add_span" sAddSpan) 43 rfl)
  have aCell : At K mg "_law_cell" sLawCell := atOf X G (c.fact (f := (He.Fa.glo "_law_cell").ok) 79 rfl) (c.def_ (d := dfN "_law_cell" sLawCell) 44 rfl)
  have aBox : At K mg "_law_box" sLawBox := atOf X G (c.fact (f := (He.Fa.glo "_law_box").ok) 80 rfl) (c.def_ (d := dfN "_law_box" sLawBox) 45 rfl)
  have aTake : At K mg "_law_take" sLawTake := atOf X G (c.fact (f := (He.Fa.glo "_law_take").ok) 81 rfl) (c.def_ (d := dfN "_law_take" sLawTake) 46 rfl)
  have aLNames : At K mg "_law_names" sLawNames := atOf X G (c.fact (f := (He.Fa.glo "_law_names").ok) 82 rfl) (c.def_ (d := dfN "_law_names" sLawNames) 47 rfl)
  have aLPoints : At K mg "_law_points" sLawPoints := atOf X G (c.fact (f := (He.Fa.glo "_law_points").ok) 83 rfl) (c.def_ (d := dfN "_law_points" sLawPoints) 48 rfl)
  have aMixed : At K mg "_law_mixed" sLawMixed := atOf X G (c.fact (f := (He.Fa.glo "_law_mixed").ok) 84 rfl) (c.def_ (d := dfN "_law_mixed" sLawMixed) 49 rfl)
  have aBonds : At K mg "_law_bonds" sLawBonds := atOf X G (c.fact (f := (He.Fa.glo "_law_bonds").ok) 85 rfl) (c.def_ (d := dfN "_law_bonds" sLawBonds) 50 rfl)
  have aLIn : At K mg "_law_in" sLawIn := atOf X G (c.fact (f := (He.Fa.glo "_law_in").ok) 86 rfl) (c.def_ (d := dfN "_law_in" sLawIn) 51 rfl)
  have aLHolds : At K mg "_law_holds" sLawHolds := atOf X G (c.fact (f := (He.Fa.glo "_law_holds").ok) 87 rfl) (c.def_ (d := dfN "_law_holds" sLawHolds) 52 rfl)
  have aLBroken : At K mg "_law_broken" sLawBroken := atOf X G (c.fact (f := (He.Fa.glo "_law_broken").ok) 88 rfl) (c.def_ (d := dfN "_law_broken" sLawBroken) 53 rfl)
  have aHistory : At K mg "_law_history" sLawHistory := atOf X G (c.fact (f := (He.Fa.glo "_law_history").ok) 89 rfl) (c.def_ (d := dfN "_law_history" sLawHistory) 54 rfl)
  have aHistories : At K mg "_law_histories" sLawHistories := atOf X G (c.fact (f := (He.Fa.glo "_law_histories").ok) 90 rfl) (c.def_ (d := dfN "_law_histories" sLawHistories) 55 rfl)
  have aLPicAt : At K mg "_law_picture_at" sLawPictureAt := atOf X G (c.fact (f := (He.Fa.glo "_law_picture_at").ok) 91 rfl) (c.def_ (d := dfN "_law_picture_at" sLawPictureAt) 56 rfl)
  have aLSpans : At K mg "_law_spans" sLawSpans := atOf X G (c.fact (f := (He.Fa.glo "_law_spans").ok) 92 rfl) (c.def_ (d := dfN "_law_spans" sLawSpans) 57 rfl)
  have aLAll : At K mg "_law_spans_of_all" sLawSpansOfAll := atOf X G (c.fact (f := (He.Fa.glo "_law_spans_of_all").ok) 93 rfl) (c.def_ (d := dfN "_law_spans_of_all" sLawSpansOfAll) 58 rfl)
  have aLTicks : At K mg "_law_ticks_right" sLawTicksRight := atOf X G (c.fact (f := (He.Fa.glo "_law_ticks_right").ok) 94 rfl) (c.def_ (d := dfN "_law_ticks_right" sLawTicksRight) 59 rfl)
  have aLaw : At K mg "law" sLaw := atOf X G (c.fact (f := (He.Fa.glo "law").ok) 95 rfl) (c.def_ (d := dfN "law" sLaw) 60 rfl)
  have hC : mg "Works" = some (.ref (He.ga K "Works")) := He.glo_ok X G (c.fact (f := (He.Fa.glo "Works").ok) 98 rfl)
  have W : WoC K (He.ga K "Works") := ⟨He.cls_ok (c.fact (f := (He.Fa.cls "Works").ok) 99 rfl), He.noat_ok (c.fact (f := (He.Fa.noat "Works" "_points").ok) 101 rfl), He.noat_ok (c.fact (f := (He.Fa.noat "Works" "_point_by_name").ok) 102 rfl), He.noat_ok (c.fact (f := (He.Fa.noat "Works" "_rules").ok) 103 rfl), He.noat_ok (c.fact (f := (He.Fa.noat "Works" "_rule_by_name").ok) 104 rfl), He.noat_ok (c.fact (f := (He.Fa.noat "Works" "_causes").ok) 105 rfl), He.noat_ok (c.fact (f := (He.Fa.noat "Works" "_commands").ok) 106 rfl), He.noat_ok (c.fact (f := (He.Fa.noat "Works" "_command_by_name").ok) 107 rfl), He.noat_ok (c.fact (f := (He.Fa.noat "Works" "_relations").ok) 108 rfl)⟩
  have Wq : WoQ K (He.ga K "Works") := ⟨He.eqO_ok (c.fact (f := (fun K => He.eqO (PySem.W.findIn K (.ref (He.ga K "Works")) "__class__") (some (some (.builtin "object.__class__"))))) 118 rfl), He.eqO_ok (c.fact (f := hnB) 96 rfl), of_decide_eq_true (c.fact (f := htB) 97 rfl), of_decide_eq_true (c.fact (f := (fun K => decide (PySem.W.mroIn K (He.ga K "Works") (.type "object") = some true))) 119 rfl), of_decide_eq_true (c.fact (f := (fun K => decide (PySem.W.kitOne K (.ref (He.ga K "Works")) (.ref (He.ga K "Works")) = some true))) 120 rfl)⟩
  obtain ⟨fdi, FI⟩ := (c.def_ (d := dfMK "Works" "__init__" "Works.__init__" mWorks_Init [("rules", .adr (dAd "rules")), ("causes", .adr (dAd "causes")), ("commands", .adr (dAd "commands")), ("relations", .adr (dAd "relations"))]) 66 rfl)
  have mPts : AtMt K (He.ga K "Works") "points" "Works.points" mWorks_Points := atMtOf (c.fact (f := (He.Fa.meth "Works" "points").ok) 109 rfl) (c.def_ (d := dfM "Works" "points" "Works.points" mWorks_Points) 61 rfl)
  have mHasP : AtMt K (He.ga K "Works") "has_point" "Works.has_point" mWorks_HasPoint := atMtOf (c.fact (f := (He.Fa.meth "Works" "has_point").ok) 110 rfl) (c.def_ (d := dfM "Works" "has_point" "Works.has_point" mWorks_HasPoint) 62 rfl)
  have mPoint : AtMt K (He.ga K "Works") "point" "Works.point" mWorks_Point := atMtOf (c.fact (f := (He.Fa.meth "Works" "point").ok) 111 rfl) (c.def_ (d := dfM "Works" "point" "Works.point" mWorks_Point) 63 rfl)
  have mIsW : AtMt K (He.ga K "Works") "is_worth" "Works.is_worth" mWorks_IsWorth := atMtOf (c.fact (f := (He.Fa.meth "Works" "is_worth").ok) 112 rfl) (c.def_ (d := dfM "Works" "is_worth" "Works.is_worth" mWorks_IsWorth) 64 rfl)
  have mRels : AtMt K (He.ga K "Works") "relations" "Works.relations" mWorks_Relations := atMtOf (c.fact (f := (He.Fa.meth "Works" "relations").ok) 113 rfl) (c.def_ (d := dfM "Works" "relations" "Works.relations" mWorks_Relations) 65 rfl)
  exact fin hfa T W Wq hC (He.mkr_ok (c.fact (f := (He.Fa.mkr "Works").ok) 100 rfl)) FI (dNo_ok (c.fact (f := (dNo "rules")) 114 rfl)) (dNo_ok (c.fact (f := (dNo "causes")) 115 rfl)) (dNo_ok (c.fact (f := (dNo "commands")) 116 rfl)) (dNo_ok (c.fact (f := (dNo "relations")) 117 rfl)) mPts mHasP mPoint mIsW mRels aNumber aCheck aWhole aName aOneOf aTuple aList aListOf aTime aLevel aMark aCTime aRow aHist aRising aPointS aOnce aByName aPoints aRules aRuleS aCauses aCauseS aLeads aCommands aCommandS aWorthOf aLocks aRelations aRelS aPtsRel aWorksC aRHolds aCPic aBrkIn aBrk aRowAt aHistOf aCHist aPicIn aPicAt aSpans aStretches aAddSpan aCell aBox aTake aLNames aLPoints aMixed aBonds aLIn aLHolds aLBroken aHistory aHistories aLPicAt aLSpans aLAll aLTicks aLaw
end V51

set_option maxHeartbeats 0
open PySem PySem.W PySem.Calls PyProof.Rows
theorem PySem.Challenge.cw_panelwatch_k51_whole_spans_tick_by_tick_holds : PySem.Challenge.rw_panelwatch_k51_whole_spans_tick_by_tick.Holds := by
  w_on; o_law
  refine HandSHeadRun.head_any (r := OpenLaw.row PySem.Challenge.rw_panelwatch_k51_whole_spans_tick_by_tick) (q := view (OpenLaw.row PySem.Challenge.rw_panelwatch_k51_whole_spans_tick_by_tick).prog [106]) (H := V51.hk) (ob := V51.ob) (M := 30000) (loose := V51.loose)
    (d := HandSHeadRun.topDef (OpenLaw.row PySem.Challenge.rw_panelwatch_k51_whole_spans_tick_by_tick).prog 106) (kwd := []) V51.ob_eq
    (by kernel_rfl) (fun s => by kernel_rfl) V51.run (by kernel_rfl) (by kernel_rfl) (by kernel_rfl) (by rfl) (by first | assumption | decide +kernel) (by decide +kernel) ⟨rfl, rfl, rfl, rfl, rfl, by decide +kernel⟩ ?hw ?hc
  case hw => w_witness2
  case hc =>
    refine Pw.walkE (l := PySem.Challenge.rw_panelwatch_k51_whole_spans_tick_by_tick) (n := 63) (k := 12) (x := "_law_script") (CX := L2.CX0) rfl (by decide) (by kernel_rfl) ⟨rfl, by decide, by decide⟩ ?F (fun _ _ _ _ z => z)
    intro w mg fa h Y G hmg0
    obtain ⟨K, KX, c⟩ := Y
    have hmg : mg ("law" : PySem.Str) = some (.ref fa) := by
      have e : (HandSHeadRun.topDef (OpenLaw.row PySem.Challenge.rw_panelwatch_k51_whole_spans_tick_by_tick).prog 106).name = ("law" : PySem.Str) := by kernel_rfl
      rw [← e]
      exact hmg0
    obtain ⟨fd, hb, hF⟩ := V51.facts (P := (PySem.Challenge.rw_panelwatch_k51_whole_spans_tick_by_tick).prog) (w := w) KX G hmg c
    exact ⟨K, fd, V51.spLaw K, KX, hb, fun H a ns hl _ hS => ⟨a, ns, rfl, hS, hl, fun _ => rfl⟩, hF⟩

