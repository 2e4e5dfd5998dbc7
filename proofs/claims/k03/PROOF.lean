import PyProof.Rows.All
import Wide.All
import OpenK.AllK
import Wide.FinOn
import HandS.ForSpec
import HandS.Comp
import HandS.Dict
import HandS.Iter
import HandS.Text
import HandS.IsInst
import HandS.Wide
import HandS.ExcInit
import HandS.ExcIs
import PyProof.ExcStrAll.ValueError
import PyProof.ReprRoads
import PyProof.CallFns
import HandS.Walk
import HandS.Defaults
import PyProof.ExcBaseAll.LookupError
import PyProof.ExcBaseAll.ValueError
import KE.KExcInit
import HandS.MakeKw
import HandS.ExcField
import HandS.ExcValue
import HandS.TryMany
import PySem.Challenge.RW_panelwatch_k03_refusals_apart
import PyProof.StrLawsRepr
import HandS.Head0
import HandS.Head1
import HandS.Head2
import HandS.HeadEnd
import HandS.HeadHook1
import HandS.HeadHook2
set_option Elab.async false
set_option linter.all false
set_option maxRecDepth 100000
set_option maxHeartbeats 4000000
/-! The layer of defs that are called where no display is under way (nothing is being shown around them). -/
namespace Pw
open PySem PySem.Spec PyProof.Rows L2

/-- a def's promise where nothing is being shown around its call -/
structure FnG (P : Program) (w : World) (K : PySem.W.Frag) (mg : Str → Option Value)
    (base : Heap) (CX : CXT) (k : Nat) (f : Addr) (fd : FuncData) (ps : List Str) (sp : Sp) : Prop where
  len : ∀ vs H Q E, sp vs H Q E →
    vs.length = ps.length
  run : ∀ (A : Around) (out : List Env) (s : Shared) (H : Hp) (ar : Args) (us : List Value)
    (vs : List V) (Q : VK) (E : XK), A.guards = some [] → Room k A →
    Env0 P w K mg base A out s H → BindsTo s fd ar (ps.zip us) → Vals vs us → sp vs H Q E →
    codeAny (model P w) A (.call (.ref f) ar) (CR CX out P w H s Q E) s

section
variable {P : Program} {w : World} {K : PySem.W.Frag} {mg : Str → Option Value} {base : Heap}

theorem FnG.of {CX : CXT} {k : Nat} {f : Addr} {fd : FuncData} {ps : List Str} {sp : Sp}
    (F : FnOk P w K mg base CX k f fd ps sp) : FnG P w K mg base CX k f fd ps sp :=
  ⟨F.len, fun A out s H ar us vs Q E _ hr e0 hb r hs => F.run A out s H ar us vs Q E hr e0 hb r hs⟩

theorem fnG_of {CX : CXT} {k : Nat} {f : Addr} {name qual : Str} {params : Arguments}
    {body : List Stmt} {scope : Scope} {dV kV doc pm cdv ct oc : Value} {an od : Option Addr}
    {osl : Array (Option Value)} {N ps : List Str} {sp : Sp}
    (lk : K.lookup f = some ⟨oc, od, .func (PySem.W.fnOf name qual params body scope dV kV doc pm an cdv ct), osl⟩)
    (hcd : PySem.W.codeIn K cdv qual = true) (S : FnScope N ps scope)
    (len : ∀ vs H Q E, sp vs H Q E → vs.length = ps.length)
    (hb0 : ∀ (A : Around) (out : List Env) (s : Shared) (H : Hp) (vs : List V) (Q : VK) (E : XK),
      A.guards = some [] → Room k (A.deeper (envOfC qual scope s.heap.objs.size f cdv)) → sp vs H Q E →
      ∃ t, PSs (cxOf CX P w K mg base N qual scope f cdv A out s H E) body t ∧
        t { nx := fun _ H' => Q .non H', rt := Q } (start N vs) H) :
    FnG P w K mg base CX (k + 1) f (PySem.W.fnOf name qual params body scope dV kV doc pm an cdv ct) ps sp := by
  refine ⟨len, fun A out s H ar us vs Q E gd hr e0 hbn r hs0 => ?_⟩
  have hlen := len _ _ _ _ hs0
  have old : ∀ b o, base.get? b = some o → s.heap.get? b = some o := fun b o e => (e0.bs b o e).1
  have KX : K.In s.heap := e0.mod.kin.keeps old
  have lim : s.heap.NoLimit := e0.mod.nolimit.keeps old
  have kinds : ∀ y ∈ ps.zip us, scope.names.lookup y.1 = some .local ∨
      (scope.names.lookup y.1 = some .cell ∧
        ((cellsFrom (s.heap.objs.size + 1) scope.names []).lookup y.1).isSome = true) := by
    intro ⟨n, v⟩ hy
    rcases S.par n (List.of_mem_zip hy).1 with z | z
    · exact .inl z
    · exact .inr ⟨z, PySem.W.cellsFrom_some _ _ _ (.inl z)⟩
  refine codeAny_call_function hr.depth (KX _ _ lk) rfl S.co S.gen rfl
    (PySem.W.codeRec_of KX hcd) (hbn _ _ _ _ ?_)
  refine wpAny_newFunctionEnv_cells S.kind kinds fun env he s1 x => ?_
  subst he
  refine ⟨lim.keeps x.toInCall.keep, codeAny_func ?_⟩
  obtain ⟨t, T, q0⟩ := hb0 A out s H vs Q E gd (hr.deeper _) hs0
  have J0 : Inv (cxOf CX P w K mg base N qual scope f cdv A out s H E) [] (start N vs) H s1 :=
    inv_start S hr.hd e0 hlen r x
  refine wpAny_mono (T.run [] s1 (start N vs) H _ J0 q0) (fun fl s' hs => ?_) fun e s' hs => hs
  have fin : ∀ {σ' : L2.St} {H' : Hp} {v : V} {u : Value},
      Inv (cxOf CX P w K mg base N qual scope f cdv A out s H E) [] σ' H' s' →
      RelV v u → Q v H' → CE out P w H s Q u s' :=
    fun {σ' H' v u} J rv q => ⟨v, H', J.os, J.bare, J.base, J.hok, rv, q⟩
  match fl, hs with
  | .ret u, ⟨v, σ', H', J, rv, q⟩ => exact fin J rv q
  | .next, ⟨σ', H', J, q⟩ => exact fin (v := V.non) (u := Value.none) J rfl q
  | .brk, ⟨_, _, _, q⟩ => exact False.elim q
  | .cont, ⟨_, _, _, q⟩ => exact False.elim q

/-- the rule for a def, where nothing is being shown around it -/
theorem okG {x qual : Str} {st : Stmt} {f : Addr} {fd : FuncData} {N ps : List Str} {k : Nat} {sp : Sp}
    (F : Fun K x qual st f fd) (S : FnScope N ps (defScope st))
    (len : ∀ vs H Q E, sp vs H Q E → vs.length = ps.length)
    (hb0 : ∀ (cdv : Value) (A : Around) (out : List Env) (s : Shared) (H : Hp) (vs : List V) (Q : VK) (E : XK),
      A.guards = some [] →
      Room k (A.deeper (envOfC qual (defScope st) s.heap.objs.size f cdv)) → sp vs H Q E →
      ∃ t, PSs (cxOf CX0 P w K mg base N qual (defScope st) f cdv A out s H E).nox (defBody st) t ∧
        t { nx := fun _ H' => Q .non H', rt := Q } (start N vs) H) :
    FnG P w K mg base CX0 (k + 1) f fd ps sp := by
  obtain ⟨oc, od, kV, doc, pm, an, cdv, ct, osl, rfl, lk, hcd⟩ := F.ex
  refine fnG_of lk hcd S len fun A out s H vs Q E gd hr hs0 => ?_
  obtain ⟨t, h, q⟩ := hb0 cdv A out s H vs Q E gd hr hs0
  exact ⟨t, h.nox, q⟩
end

section
variable {X : Cx} {CX : CXT} {k : Nat} {f : Addr} {fd : FuncData} {ps : List Str} {sp : Sp}
  {dvs : List V} {ds : List Value} {E : XK} {x : Str} {p pos : Pos} {e : Expr} {es : List Expr} {t : TA}

theorem run_fnG {pins : List (Addr × Obj)} {σ : L2.St} {H : Hp} {s : Shared} {Q : VK} {us : List Value} {vs : List V}
    (F : FnG X.prog X.w X.K X.mg X.base CX k f fd ps sp) (gd : X.A.guards = some []) (hr : Room k X.A)
    (hb : Binds X.K fd ps ds) (hd : Vals dvs ds) (hx : Passes CX X E)
    (I : Inv X pins σ H s) (r : Vals vs us) (h : sp (vs ++ dvs) H Q E) :
    wpAny (model X.prog X.w) X.A (call (.ref f) us) (EP X pins σ Q) X.xe s := by
  have r2 : Vals (vs ++ dvs) (us ++ ds) := r.append hd
  have hlen : (us ++ ds).length = ps.length := r2.length ▸ F.len _ _ _ _ h
  refine wpAny_call (codeAny_mono (F.run X.A X.stack s H ⟨us, []⟩ (us ++ ds) (vs ++ dvs) Q E gd hr
    I.env0 (hb s us I.kIn hlen) r2 h) fun r s' hq => ?_)
  match r, hq with
  | .error e, hq => exact hx pins σ H s e s' I hq
  | .ok (.ret u), hq => exact I.after hq
  | .ok .next, hq => exact False.elim hq
  | .ok .brk, hq => exact False.elim hq
  | .ok .cont, hq => exact False.elim hq

/-- f(..), f a def whose promise stands where nothing is being shown -/
theorem pe_callG (F : FnG X.prog X.w X.K X.mg X.base CX k f fd ps sp) (gd : X.A.guards = some []) (hr : Room k X.A)
    (hg : Gl X x) (hm : X.mg x = some (.ref f)) (hk : PySem.W.keepIn X.K (.ref f) = true)
    (hb : Binds X.K fd ps ds) (hd : Vals dvs ds) (hx : Passes CX X E) (ha : PA X (e :: es) t)
    (hdb : (x == ("__debug__" : Str)) = false := by decide)
    (he : starEach (e :: es) X.env = (false, eval e X.env) :: starEach es X.env := by rfl)
    (hpl : (backTo pos (starEach es X.env)).any (·.1) = false := by rfl) :
    PE X (.Call (.Name x p) (e :: es) [] pos) (tCall sp dvs E t) :=
  ⟨fun pins s σ H Q I h => wpAny_Call_Name_kw (ld_glob I hg hm (PySem.W.callWith_K (h₀ := X.base)
    I.ok.mod.kin hk (thn (ha.run pos pins s σ H _ I h) fun us s1 ⟨vs, H1, I1, r, q⟩ =>
      ⟨I1.kIn, run_fnG F gd hr hb hd hx I1 r q⟩) he hpl) hdb)⟩
end

/-- the end: the law's promise, at the heap behind the top, nothing being shown -/
theorem law_callG {P : Program} {w : World} {K : PySem.W.Frag} {mg mb : Str → Option Value} {CX : CXT} {k : Nat}
    {fa a : Addr} {fd : FuncData} {x : Str} {sp : Sp} {s₁ : Shared} {vs : List Value} {ns : List Int}
    (KX : K.In s₁.heap) (hns : s₁.heap.Ns mainGlobals mg) (hb : s₁.heap.Ns builtinsNs mb)
    (hbb : ∀ x : Str, x ≠ "__name__" → mb x = bootBuiltins x) (hlim : s₁.heap.NoLimit) (hg : s₁.gens = #[])
    (ha : s₁.heap.get? a = some { cls := .type "list", data := .seq vs.toArray }) (hi : IntsAre vs ns)
    (hl : ns.length ≤ sizeLine) (hr : Room k callerA)
    (F : ∀ base : Heap, K.In base → base.Ns mainGlobals mg → FnG P w K mg base CX k fa fd [x] sp)
    (hbind : ∀ (s : Shared) (u : Value), BindsTo s fd ⟨[u], []⟩ [(x, u)])
    (hsp : ∀ H : Hp, Only H → SqL K H a (ns.map V.int) → sp [.ref a] H (fun v _ => v = .bl true) fun _ _ _ => False)
    (hCX : ∀ H e s', CX [] H s₁ (fun _ _ _ => False) e s' → False) :
    codeAny (model P w) callerA (.call (.ref fa) ⟨[.ref a], []⟩)
      (fun r s' => r = .ok (.ret (.bool true)) ∧ OldK s₁.heap s'.heap ∧ s'.os = s₁.os ∧ AllBare s'.gens) s₁ := by
  have rv := vals_ints hi
  have lenV := hi.length
  have core : ∀ H : Hp, Only H → SqL K H a (ns.map V.int) → HOk P w H s₁.heap → (∀ b, H b ≠ none → b = a) →
      (H a ≠ none → K.lookup a = none) → codeAny (model P w) callerA (.call (.ref fa) ⟨[.ref a], []⟩)
      (fun r s' => r = .ok (.ret (.bool true)) ∧ OldK s₁.heap s'.heap ∧ s'.os = s₁.os ∧ AllBare s'.gens) s₁ := by
    intro H hO hS hok hA hK
    have loose : ∀ {b : Addr} {o : Obj} {es : Array DictEntry} {ep : Nat}, s₁.heap.get? b = some o →
        o.data = .dict es ep → H b = none := by
      intro b o es ep e d
      cases q : H b with
      | none => rfl
      | some u =>
        obtain rfl : b = a := hA b (fun z => nomatch q.symm.trans z)
        cases ha.symm.trans e
        exact nomatch (show Data.seq vs.toArray _ = Data.dict es ep from d)
    have nsK : ∀ {b : Addr} {m : Str → Option Value}, s₁.heap.Ns b m → (hidT s₁.heap H).Ns b m :=
      fun {b m} ⟨o, es, ep, e, d, r⟩ => ⟨o, es, ep, hidT_get e (loose e d), d, r⟩
    have hKb : K.In (hidT s₁.heap H) := by
      intro b o e
      refine hidT_get (KX b o e) ?_
      cases q : H b with
      | none => rfl
      | some u =>
        obtain rfl : b = a := hA b (fun z => nomatch q.symm.trans z)
        exact nomatch (hK (fun z => nomatch q.symm.trans z)).symm.trans e
    have hM : Mod K mg (hidT s₁.heap H) :=
      ⟨hKb, nsK hns, ⟨mb, nsK hb, hbb⟩, hlim.elim fun mc h => ⟨mc, nsK h.1, h.2⟩⟩
    have e0 : Env0 P w K mg (hidT s₁.heap H) callerA [] s₁ H :=
      ⟨rfl, hM, fun b o e => of_hidT e, Nat.le_of_eq (hidT_size _ _), trivial,
        fun b hb => (nomatch (show b ∈ ([] : List Addr) from hb)), hok, .of_eq hg⟩
    refine codeAny_mono ((F _ hKb (nsK hns)).run callerA [] s₁ H ⟨[.ref a], []⟩ [.ref a] [.ref a] _ _ rfl hr e0
      (hbind s₁ (.ref a)) (.cons rfl .nil) (hsp H hO hS)) fun r s' h => ?_
    match r, h with
    | .error e, h => exact (hCX H e s' h).elim
    | .ok .next, h => exact False.elim h
    | .ok .brk, h => exact False.elim h
    | .ok .cont, h => exact False.elim h
    | .ok (.ret u), ⟨v, H', os, bare, un, hok', r', q⟩ =>
      obtain rfl : v = .bl true := q
      obtain rfl : u = Value.bool true := r'
      refine ⟨rfl, OldK.of_keep fun b o e => ?_, os, bare⟩
      cases q : H b with
      | none => exact un.keep b o e q (fun z => (nomatch (show b ∈ ([] : List Addr) from z))) (by simp)
      | some u =>
        rcases hO b with z | ⟨ob, xs, z⟩
        · exact nomatch q.symm.trans z
        · have e1 := (hok b _ z).1
          have e2 := (hok' b _ (un.frzs b ob _ z)).1
          cases e.symm.trans e1
          exact e2
  cases hk : K.lookup a with
  | some o =>
    cases ha.symm.trans (KX a o hk)
    exact core (fun _ => none) (fun _ => .inl rfl)
      (.inr ⟨_, vs.toArray, _, hk, rfl, rfl, rfl, by rw [List.size_toArray, lenV]; exact hl, by simpa using rv⟩)
      (fun b u z => nomatch (show (none : Option HO) = some u from z)) (fun b z => absurd rfl z) fun z => absurd rfl z
  | none =>
    refine core (fun b => if b = a then
        some (.frz { cls := .type "list", data := .seq vs.toArray } (.lst (ns.map V.int))) else none) (fun b => ?_)
      (.inl (.inr ⟨{ cls := .type "list", data := .seq vs.toArray }, if_pos rfl⟩)) (fun b u z => ?_) (fun b z => ?_)
      fun _ => hk
    · by_cases hba : b = a
      · exact .inr ⟨_, _, if_pos hba⟩
      · exact .inl (if_neg hba)
    · by_cases hba : b = a
      · have z' := (if_pos hba).symm.trans z
        cases z'
        subst hba
        exact ⟨ha, by rw [List.length_map]; exact hl, vs, _, rv, ha⟩
      · exact nomatch (if_neg hba).symm.trans z
    · by_cases hba : b = a
      · exact hba
      · exact absurd (if_neg hba) z

theorem walkG {l : PySem.W.OpenLaw} {n k : Nat} {q : Program} {loose : List Str}
    {XP : (Str → Option Value) → Heap → Prop} {YP : World → Heap → Prop} {d : DefRec} {K : Params → PySem.W.Frag}
    {CX : World → CXT} {sp : World → Sp} {x : Str} (hn : l.most = some n) (hn2 : n ≤ sizeLine)
    (hdf : d.params.defaults = []) (hr : Room k callerA) (hY : ∀ (w : World) (h : Heap), YP w h → (K w.params).In h)
    (F : ∀ (w : World) (mg : Str → Option Value) (fa : Addr) (h : Heap), (K w.params).In h → h.Ns mainGlobals mg →
      mg d.name = some (.ref fa) → ∃ fd : FuncData, (∀ (s : Shared) (u : Value), BindsTo s fd ⟨[u], []⟩ [(x, u)]) ∧
        ∀ base : Heap, (K w.params).In base → base.Ns mainGlobals mg →
          FnG l.prog w (K w.params) mg base (CX w) k fa fd [x] (sp w))
    (hsp : ∀ (w : World) (H : Hp) (a : Addr) (ns : List Int), ns.length ≤ n → Only H →
      SqL (K w.params) H a (ns.map V.int) → sp w [.ref a] H (fun v _ => v = .bl true) fun _ _ _ => False)
    (hCX : ∀ (w : World) (H : Hp) (s : Shared) (e : Value) (s' : Shared), CX w [] H s (fun _ _ _ => False) e s' → False) :
    PySem.W.WalkO q loose XP YP l.row.toRowW d [] (fun f vs => PySem.call f vs) := by
  refine Att.attach_call hn hdf fun w s₀ s₁ mg mb fa o pm cd doc a vs ns G Y ho hd hcd hmg hobj hints hlen hg => ?_
  have KX := hY w _ Y
  obtain ⟨fd, hbn, hF⟩ := F w mg fa _ KX G.T.g hmg
  exact law_callG KX G.T.g G.T.b G.T.builtins G.T.nolimit hg hobj hints (Nat.le_trans hlen hn2) hr hF hbn
    (fun H hO hS => hsp w H a ns hlen hO hS) fun H e s' => hCX w H s₁ e s'
end Pw

/-! Exceptions of one's own as values: made by their own __init__, which calls that of the class above it by name; their args are tracked. -/
namespace Pw
open PySem PySem.Spec PyProof.Rows L2

/-- the object of an exception: its class, its dict, where its args lie -/
abbrev exOb (C : Addr) (d : Option Addr) (t : Addr) : Obj :=
  { cls := .ref C, dict := d, data := .fields #[.ref t, .none, .none, .none, .bool false, .none] }
/-- at e: an exception of the class at C; its args are the tuple at t -/
def exq (e C : Addr) (d : Option Addr) (t : Addr) : HO := .ext fun h => h.get? e = some (exOb C d t)
theorem exq_own {e C x t : Addr} {d : Option Addr} : exq e C d t ≠ .own x := fun z => by
  have z' : HO.ext _ = HO.own x := z
  cases z'
theorem exq_tup {e C t : Addr} {d : Option Addr} {xs : List V} : exq e C d t ≠ .tup xs := fun z => by
  have z' : HO.ext _ = HO.tup xs := z
  cases z'
theorem exq_lst {e C t : Addr} {d : Option Addr} {xs : List V} : exq e C d t ≠ .lst xs := fun z => by
  have z' : HO.ext _ = HO.lst xs := z
  cases z'
theorem exq_frz {e C t : Addr} {d : Option Addr} {o : Obj} {u : HO} : exq e C d t ≠ .frz o u := fun z => by
  have z' : HO.ext _ = HO.frz o u := z
  cases z'
theorem exq_tbl {e C t : Addr} {d : Option Addr} {ps : Array Value} : exq e C d t ≠ .tbl ps := fun z => by
  have z' : HO.ext _ = HO.tbl ps := z
  cases z'
theorem exq_ok {P : Program} {w : World} {H : Hp} {h : Heap} {e C t : Addr} {d : Option Addr}
    (he : h.get? e = some (exOb C d t)) : ObjOk P w H h e (exq e C d t) :=
  ⟨he, ⟨_, he⟩, fun _ _ z k => k _ z⟩
theorem exq_at {P : Program} {w : World} {H : Hp} {h : Heap} {e C t : Addr} {d : Option Addr} (hok : HOk P w H h)
    (he : H e = some (exq e C d t)) : h.get? e = some (exOb C d t) := by
  have x : ObjOk P w H h e (.ext fun h => h.get? e = some (exOb C d t)) := hok e _ he
  exact x.1

section
variable {X : Cx} {pins : List (Addr × Obj)} {σ : L2.St} {H : Hp} {s : Shared} {a C t1 : Addr} {f : Str} {y : V}
  {u : Value} {E : Value → Shared → Prop} {A : Around}

/-- self.f = y, the first attribute -/
theorem eq_new {Q : Unit → Shared → Prop} (T : OexC X.K C) (I : Inv X pins σ H s) (e : H a = some (exq a C none t1))
    (hno : PySem.W.findIn X.K (.ref C) f = some none) (ry : RelV y u)
    (h : ∀ dx s', H dx = none → dx ≠ a →
      Inv X pins σ (upd (upd H dx (exd dx [(f, y)])) a (exq a C (some dx) t1)) s' → Q () s') :
    wpAny (model X.prog X.w) A (setAttr (.ref a) f u) Q E s := by
  obtain ⟨nm, q, N, bs, bm, sn, sub, ab, col, dd, k0, k1, k2, k3, k5, hC, hbm⟩ := T.cls
  have hcl : PySem.W.clsIn X.K C = some { name := nm, bases := bs, mro := .ref C :: bm, ns := N, qualname := q, hasDict := true, slotNames := sn, subclasses := sub, abstract := ab, collection := col, hasDel := false } := by
    unfold PySem.W.clsIn
    rw [hC] <;> rfl
  have ho := exq_at I.hok e
  obtain ⟨hp, g, d, t, os⟩ := s
  refine PySem.W.set_plain I.kIn (ox := exOb C none t1) (od := none) ⟨ho, rfl, rfl, trivial⟩ T.sa ?_
  refine PySem.HandSPX.exc_osa I.kIn ho hcl
    (show PySem.HandSPX.refsVE (.ref C :: bm) = true from hbm) rfl hno (fun h' tk' dx k dn dne hx hn => ?_)
  have hnd : H dx = none := I.hok.fresh dn
  have nd : ∀ {b : Addr} {o : Obj}, hp.get? b = some o → b ≠ dx :=
    fun {b o} q => Nat.ne_of_lt (Nat.lt_of_lt_of_le (Heap.lt_size q) dn)
  have na : ∀ {b : Addr}, H b = none → b ≠ a := fun {b} n z => by rw [z, e] at n; cases n
  have Un1 : Un X.fs [] H (upd (upd H dx (exd dx [(f, y)])) a (exq a C (some dx) t1)) hp h' := {
    keep := fun b o q n _ _ => k b o (na n) q
    slot := fun b o q n _ _ => ⟨o.slots, k b o (na n) q⟩
    free := fun b o q n _ => ((upd_ne (na n)).trans (upd_ne (nd q))).trans n
    there := fun b o q _ => by
      by_cases hb : b = a
      · exact ⟨_, hb ▸ hx⟩
      · exact ⟨o, k b o hb q⟩
    tups := fun b xs q => ((upd_ne (at_ne e q exq_tup)).trans (upd_ne (ne_of_none q hnd))).trans q
    frzs := fun b o v q => ((upd_ne (at_ne e q exq_frz)).trans (upd_ne (ne_of_none q hnd))).trans q
    tbls := fun b ps q => ⟨#[], by rw [upd_ne (at_ne e q exq_tbl), upd_ne (ne_of_none q hnd), q]; simp⟩ }
  refine h dx _ hnd dne (I.un (t' := tk') Un1 fun b o q => ?_)
  by_cases hb : b = a
  · subst hb
    cases upd_same.symm.trans q
    exact exq_ok hx
  · rw [upd_ne hb] at q
    by_cases hd : b = dx
    · subst hd
      cases upd_same.symm.trans q
      exact exd_ok hn (relO_put (fs := []) ry fun g => True.intro)
    · rw [upd_ne hd] at q
      refine (I.hok b o q).stay (fun c v hc z => k c v ?_ z)
        (fun c hc => ((upd_ne (at_ne e hc exq_own)).trans (upd_ne (ne_of_none hc hnd))).trans hc)
        (fun c xs hc => ((upd_ne (at_ne e hc exq_tup)).trans (upd_ne (ne_of_none hc hnd))).trans hc)
      rcases hc with hc | hc
      · exact hc ▸ hb
      · exact at_ne e hc exq_own

/-- ValueError.__init__(e, ..): its args are laid anew, at a place of their own -/
theorem init_args {prog : Program} {w : World} {A : Around} {R : Result → Shared → Prop} {h : Heap}
    {g : Array GenState} {d : Drawn} {t : Nat} {os : OsState} {nm q : Str} {C N : Addr} {bs bm bmB : List Value}
    {hdct : Bool} {sn : List Str} {sub : List Value} {ab : Bool} {col : Option Bool} {dd : Option Addr}
    {k0 k1 k2 k3 k5 : Option Value} {B newId initId : String} (F : ExcBaseFacts B newId initId bmB)
    (hT : ∀ X : String, bm.contains (.type X) = bmB.contains (.type X)) {e t0 : Addr} {rest : List Value}
    (hC : h.get? C = some (excClassObj nm q C N bs bm hdct sn sub ab col dd k0 k1 k2 k3 k5 newId))
    (he : h.get? e = some (exOb C none t0)) (hrest : rest.length ≤ sizeLine)
    (hq : ∀ h' t1, h.objs.size ≤ t1 → (∀ b o, b ≠ e → h.get? b = some o → h'.get? b = some o) →
      h'.get? e = some (exOb C none t1) → h'.get? t1 = some (PySem.W.kdv_tup rest) →
      R (.ok (.ret .none)) ⟨h', g, d, t, os⟩) :
    codeAny (model prog w) A (.call (.builtin initId) ⟨.ref e :: rest, []⟩) R ⟨h, g, d, t, os⟩ := by
  refine codeAny_call_builtin F.init.plain F.initEntry (PySem.HandSPX.check_init_own F hT hC he rfl ?_)
  have hes : e ≠ h.objs.size := Nat.ne_of_lt (Heap.lt_size he)
  wp_walk
  refine hq _ h.objs.size (Nat.le_refl _) (fun b o hb ho => ?_) ?_ ?_
  · exact (Heap.get?_update_other _ _ (Ne.symm hb)).trans (Heap.get?_push_of_some _ ho)
  · exact (Heap.get?_update_self _ (Heap.get?_push_of_some _ he) rfl).trans rfl
  · exact (Heap.get?_update_other _ _ hes).trans (Heap.get?_push_size _ rfl)

theorem eq_init {us : List Value} {ws : List V} {Q : Value → Shared → Prop} (T : OexC X.K C) (I : Inv X pins σ H s)
    (e : H a = some (exq a C none t1)) (hl : us.length ≤ sizeLine) (rw' : Vals ws us)
    (h : ∀ t2 s', H t2 = none → t2 ≠ a → Inv X pins σ (upd (upd H t2 (.tup ws)) a (exq a C none t2)) s' → Q .none s') :
    wpAny (model X.prog X.w) A (call (.builtin "ValueError.__init__") (.ref a :: us)) Q E s := by
  obtain ⟨nm, q, N, bs, bm, sn, sub, ab, col, dd, k0, k1, k2, k3, k5, hC, hbm⟩ := T.cls
  have ho := exq_at I.hok e
  obtain ⟨hp, g, d, t, os⟩ := s
  refine wpAny_call (init_args F.excBase_ValueError (fun Y => PySem.HandSPX.refsVE_contains Y bm hbm)
    (I.kIn _ _ hC) ho hl fun h' t2 hsz k hx ht => ?_)
  have nt : H t2 = none := I.hok.fresh hsz
  have nea : t2 ≠ a := (ne_of_none e nt).symm
  have na : ∀ {b : Addr}, H b = none → b ≠ a := fun {b} n z => by rw [z, e] at n; cases n
  have nd : ∀ {b : Addr} {o : Obj}, hp.get? b = some o → b ≠ t2 :=
    fun {b o} q => Nat.ne_of_lt (Nat.lt_of_lt_of_le (Heap.lt_size q) hsz)
  have Un1 : Un X.fs [] H (upd (upd H t2 (.tup ws)) a (exq a C none t2)) hp h' := {
    keep := fun b o q n _ _ => k b o (na n) q
    slot := fun b o q n _ _ => ⟨o.slots, k b o (na n) q⟩
    free := fun b o q n _ => ((upd_ne (na n)).trans (upd_ne (nd q))).trans n
    there := fun b o q _ => by
      by_cases hb : b = a
      · exact ⟨_, hb ▸ hx⟩
      · exact ⟨o, k b o hb q⟩
    tups := fun b xs q => ((upd_ne (at_ne e q exq_tup)).trans (upd_ne (ne_of_none q nt))).trans q
    frzs := fun b o v q => ((upd_ne (at_ne e q exq_frz)).trans (upd_ne (ne_of_none q nt))).trans q
    tbls := fun b ps q => ⟨#[], by rw [upd_ne (at_ne e q exq_tbl), upd_ne (ne_of_none q nt), q]; simp⟩ }
  refine h t2 _ nt nea (I.un (t' := t) Un1 fun b o q => ?_)
  by_cases hb : b = a
  · subst hb
    cases upd_same.symm.trans q
    exact exq_ok hx
  · rw [upd_ne hb] at q
    by_cases hd : b = t2
    · subst hd
      cases upd_same.symm.trans q
      exact ⟨by rw [Paired.length rw']; exact hl, us, rw', _, ht, rfl, _, rfl⟩
    · rw [upd_ne hd] at q
      refine (I.hok b o q).stay (fun c v hc z => k c v ?_ z)
        (fun c hc => ((upd_ne (at_ne e hc exq_own)).trans (upd_ne (ne_of_none hc nt))).trans hc)
        (fun c xs hc => ((upd_ne (at_ne e hc exq_tup)).trans (upd_ne (ne_of_none hc nt))).trans hc)
      rcases hc with hc | hc
      · exact hc ▸ hb
      · exact at_ne e hc exq_own
end

/-! ### the rules -/
/-- ValueError.__init__(self, ..) -/
def tVeq (K : PySem.W.Frag) (ta : TA) : TE := fun σ H Q => ta σ H fun vs H1 =>
  ∃ (a C t0 : Addr) (ws : List V), vs = .ref a :: ws ∧ ws.length ≤ 1000 ∧ OexC K C ∧ H1 a = some (exq a C none t0) ∧
    ∀ t2, H1 t2 = none → t2 ≠ a → Q .non (upd (upd H1 t2 (.tup ws)) a (exq a C none t2))
/-- self.f = e, the first attribute -/
def tEst (K : PySem.W.Frag) (f : Str) (to te : TE) : TS := fun D σ H => te σ H fun y H1 => to σ H1 fun x H2 =>
  ∃ a C t1 : Addr, x = .ref a ∧ OexC K C ∧ PySem.W.findIn K (.ref C) f = some none ∧ H2 a = some (exq a C none t1) ∧
    ∀ dx, H2 dx = none → dx ≠ a → D.nx σ (upd (upd H2 dx (exd dx [(f, y)])) a (exq a C (some dx) t1))
/-- C(e, ..) as a value -/
def tMkq (C : Addr) (sp : Sp) (dvs : List V) (ta : TA) : TE := fun σ H Q => ta σ H fun vs H1 => vs.length ≤ 1000 ∧
  ∀ t0 a, H1 t0 = none → H1 a = none → t0 ≠ a →
    sp (.ref a :: (vs ++ dvs)) (upd (upd H1 t0 (.tup vs)) a (exq a C none t0))
      (fun v H2 => v = .non ∧ Q (.ref a) H2) (fun _ _ _ => False)

section
variable {X : Cx} {o e : Expr} {es : List Expr} {to te : TE} {ta : TA} {f : Str} {p p' p1 p2 pos : Pos}
theorem pe_veq {pl : Sem Bool} (hg : Gl X "ValueError") (hm : X.mg "ValueError" = none)
    (vV : PySem.W.findCls X.K (.type "ValueError") (.type "type") "__init__" = some (.val (.builtin "ValueError.__init__")))
    (ha : PA X (e :: es) ta)
    (hc : eval (.Call (.Attribute (.Name "ValueError" p1) "__init__" p2) (e :: es) [] pos) X.env = (do
      let ov ← eval (.Name "ValueError" p1) X.env
      standAt p2.atName
      let (f, first) ← holding [ov] (getMethod ov "__init__" pl)
      callWith pos f first (backTo pos (starEach (e :: es) X.env)) (backToKw pos (keywordEach [] X.env))) := by rfl)
    (he : starEach (e :: es) X.env = (false, eval e X.env) :: starEach es X.env := by rfl)
    (hpl : (backTo pos (starEach es X.env)).any (·.1) = false := by rfl) :
    PE X (.Call (.Attribute (.Name "ValueError" p1) "__init__" p2) (e :: es) [] pos) (tVeq X.K ta) := by
  refine ⟨fun pins s σ H Q I h => ?_⟩
  refine PySem.W.methodCall_KW (ld_blt I hg hm PyProof.Rows.Boot.«ValueError» ?_ (by decide) (by decide)) hc
  obtain ⟨m, fr⟩ := I.fr
  refine PySem.W.method_type fr I.ok.mod.kin PySem.OEX.typ_VE (by decide +kernel) vV (by decide +kernel) ?_
  refine PyProof.Rows.callWith_method1 (first := []) (thn (ha.run pos pins _ σ H _ (I.tok _) h)
    fun us s1 ⟨vs, H1, I1, r1, a, C, t0, ws, ev, hl, T, ea, q⟩ => ?_) he hpl
  subst ev
  cases r1 with
  | @cons _ u0 _ ur ra rw' =>
    obtain rfl : u0 = Value.ref a := ra
    have hlen : ur.length ≤ sizeLine := by
      rw [← Paired.length rw', sizeLine_eq]
      omega
    exact eq_init T I1 ea hlen rw' fun t2 s' n1 n2 J => ⟨.non, _, J, rfl, q t2 n1 n2⟩

theorem ps_est (ho : PE X o to) (he : PE X e te)
    (hs : swapsWith e (some (.Attribute o f p')) pos.line X.env = pure false := by rfl) :
    PS X (.Assign [.Attribute o f p'] e pos) (tEst X.K f to te) := by
  refine ⟨fun pins s σ H D I h => ?_⟩
  refine plainObj_wpAny_Assign_Attribute (thn (he.run pins s σ H _ I h) fun v s1 ⟨y, H1, I1, r1, q1⟩ =>
    thn (ho.run pins s1 σ H1 _ I1 q1) fun u s2 ⟨x, H2, I2, r2, a, C, t1, ex, T, hno, ea, q⟩ => ?_) hs
  subst ex
  obtain rfl : u = Value.ref a := r2
  exact eq_new T I2 ea hno r1 fun dx s' n ne J => ⟨σ, _, J, q dx n ne⟩

/-- C.m(e, ..), C an own class, m a def of it: read off the class -/
theorem pe_off {x m : Str} {CX : CXT} {k : Nat} {C g : Addr} {fd : FuncData} {ps : List Str} {sp : Sp} {E : XK}
    {dvs : List V} {ds : List Value} {pl : Sem Bool} (hg : Gl X x) (hm : X.mg x = some (.ref C))
    (sg : PySem.W.specialIn X.K (.ref C) "__getattribute__" = some (some (.builtin "type.__getattribute__")))
    (rd : PySem.W.readsIn X.K C (.type "type") = true)
    (at_ : PySem.W.findCls X.K (.ref C) (.type "type") m = some (.val (.ref g)))
    (kg : PySem.W.keepIn X.K (.ref g) = true)
    (F : FnOk X.prog X.w X.K X.mg X.base CX k g fd ps sp) (hr : Room k X.A) (hb : Binds X.K fd ps ds)
    (hd : Vals dvs ds) (hx : Passes CX X E) (ha : PA X (e :: es) ta)
    (hdb : (x == ("__debug__" : Str)) = false := by decide)
    (hc : eval (.Call (.Attribute (.Name x p1) m p2) (e :: es) [] pos) X.env = (do
      let ov ← eval (.Name x p1) X.env
      standAt p2.atName
      let (f, first) ← holding [ov] (getMethod ov m pl)
      callWith pos f first (backTo pos (starEach (e :: es) X.env)) (backToKw pos (keywordEach [] X.env))) := by rfl)
    (he : starEach (e :: es) X.env = (false, eval e X.env) :: starEach es X.env := by rfl)
    (hpl : (backTo pos (starEach es X.env)).any (·.1) = false := by rfl) :
    PE X (.Call (.Attribute (.Name x p1) m p2) (e :: es) [] pos) (tCall sp dvs E ta) := by
  refine ⟨fun pins s σ H Q I h => ?_⟩
  refine PySem.W.methodCall_KW (ld_glob I hg hm ?_ hdb) hc
  refine PySem.W.method_cls I.kIn sg (PySem.W.cls_value I.kIn rd at_ rfl ?_)
  refine PySem.W.callWith_K (first := []) (h₀ := X.base) I.ok.mod.kin kg
    (thn (ha.run pos pins _ σ H _ (I.tok _) h) fun us s1 ⟨vs, H1, I1, r, q⟩ => ⟨I1.kIn, ?_⟩) he hpl
  exact run_fn F hr hb hd hx I1 r q

theorem pe_mkq {x : Str} {C fI : Addr} {k : Nat} {CX : CXT} {fd : FuncData} {ps : List Str} {sp : Sp}
    {ds : List Value} {dvs : List V} (T : OexC X.K C)
    (iC : PySem.W.findIn X.K (.ref C) "__init__" = some (some (.ref fI)))
    (tI : PySem.W.typeIn X.K (.ref fI) = some (.type "function"))
    (F1 : FnOk X.prog X.w X.K X.mg X.base CX k fI fd ps sp) (hr : Room (k + 1) X.A) (hb : Binds X.K fd ps ds)
    (hd : Vals dvs ds) (hx : Passes CX X (fun _ _ _ => False)) (hg : Gl X x) (hm : X.mg x = some (.ref C))
    (ha : PA X (e :: es) ta) (hdb : (x == ("__debug__" : Str)) = false := by decide)
    (he : starEach (e :: es) X.env = (false, eval e X.env) :: starEach es X.env := by rfl)
    (hpl : (backTo pos (starEach es X.env)).any (·.1) = false := by rfl) :
    PE X (.Call (.Name x p) (e :: es) [] pos) (tMkq C sp dvs ta) := by
  refine ⟨fun pins s σ H Q I h => ?_⟩
  obtain ⟨nm, q, N, bs, bm, sn, sub, ab, col, dd, k0, k1, k2, k3, k5, hC, hbm⟩ := T.cls
  refine wpAny_Call_Name_kw (ld_glob I hg hm ?_ hdb)
  refine PySem.W.callWith_K (h₀ := X.base) I.ok.mod.kin T.kC
    (thn (ha.run pos pins s σ H _ I h) fun us s1 ⟨vs, H1, I1, r1, hz, q1⟩ => ⟨I1.kIn, ?_⟩) he hpl
  show wpAny _ _ (call (.ref C) us) _ _ _
  obtain ⟨hp, g, dr, tk, os⟩ := s1
  have n0 : H1 hp.objs.size = none := I1.hok.fresh (Nat.le_refl _)
  have n1 : H1 (hp.objs.size + 1) = none := I1.hok.fresh (Nat.le_succ _)
  have hne : hp.objs.size ≠ hp.objs.size + 1 := Nat.ne_of_lt (Nat.lt_succ_self _)
  have hq := q1 hp.objs.size (hp.objs.size + 1) n0 n1 hne
  have hus : us.length ≤ sizeLine := by
    rw [← Paired.length r1, sizeLine_eq]
    omega
  have I2 : Inv X pins σ (upd H1 hp.objs.size (.tup vs)) ⟨hp.push (PySem.W.kdv_tup us), g, dr, tk, os⟩ :=
    I1.laid (t' := tk) (a := hp.objs.size) (o := .tup vs) (h' := hp.push (PySem.W.kdv_tup us))
      (fun b o z => Heap.get?_push_of_some _ z) (Nat.le_refl _)
      ⟨by rw [Paired.length r1]; exact hus, us, r1, _, Heap.get?_push_size _ rfl, rfl, _, rfl⟩
  have hget : ((hp.push (PySem.W.kdv_tup us)).push (exOb C none hp.objs.size)).get? (hp.objs.size + 1) =
      some (exOb C none hp.objs.size) := by heap_get
  have hsz2 : (hp.push (PySem.W.kdv_tup us)).objs.size ≤ hp.objs.size + 1 := by
    simp [Heap.push]
  have I3 : Inv X pins σ (upd (upd H1 hp.objs.size (.tup vs)) (hp.objs.size + 1) (exq (hp.objs.size + 1) C none hp.objs.size))
      ⟨(hp.push (PySem.W.kdv_tup us)).push (exOb C none hp.objs.size), g, dr, tk, os⟩ :=
    I2.laid (t' := tk) (a := hp.objs.size + 1) (o := exq (hp.objs.size + 1) C none hp.objs.size)
      (h' := (hp.push (PySem.W.kdv_tup us)).push (exOb C none hp.objs.size))
      (fun b o z => Heap.get?_push_of_some _ z) hsz2 (exq_ok hget)
  have r2 : Vals (V.ref (hp.objs.size + 1) :: (vs ++ dvs)) (Value.ref (hp.objs.size + 1) :: (us ++ ds)) :=
    .cons rfl (r1.append hd)
  have hl : (Value.ref (hp.objs.size + 1) :: us ++ ds).length = ps.length :=
    r2.length.symm.trans (F1.len _ _ _ _ hq)
  refine wpAny_call (PySem.HandSPX.call_own F.excBase_ValueError (fun Y => PySem.HandSPX.refsVE_contains Y bm hbm)
    (I1.kIn _ _ hC) (PySem.W.looks_findIn I1.kIn iC) (fun self => PySem.W.bind_fn I1.kIn self tI) hus
    (codeAny_mono (F1.run _ X.stack _ _ ⟨Value.ref (hp.objs.size + 1) :: us, []⟩
      (Value.ref (hp.objs.size + 1) :: (us ++ ds)) _ _ (fun _ _ _ => False) (hr.make C us []) (I3.env0.make C us [])
      (hb _ (Value.ref (hp.objs.size + 1) :: us) I3.kIn hl) r2 hq) fun r s' hq' => ?_))
  match r, hq' with
  | .error er, hq' => exact hx pins σ _ _ er s' I3 hq'
  | .ok (.ret u), hq' =>
    obtain ⟨v, H', I4, rv, ev, q3⟩ := I3.after hq'
    subst ev
    exact ⟨rv, ⟨V.ref (hp.objs.size + 1), H', I4, rfl, q3⟩⟩
  | .ok .next, hq' => exact False.elim hq'
  | .ok .brk, hq' => exact False.elim hq'
  | .ok .cont, hq' => exact False.elim hq'
end
end Pw

/-! What repr tells of a value: of data that are tracked, with exceptions of one's own among them. -/
namespace Pw
open PySem PySem.Spec PyProof.Rows L2
open Sem (wp)
open Builtin Builtin.Str Builtin.BaseException Builtin.Exceptions

/-- how a class's name stands in what is shown -/
def clsHead (n : Str) : Str := Str.ofString ((n.toString.cutAt '.').getLastD "")
/-- what the class of an exception must say, so that it is shown by its name and its args -/
structure ExR (K : PySem.W.Frag) (C : Addr) (nm : Str) : Prop where
  rep : PySem.W.findIn K (.ref C) "__repr__" = some (some (.builtin "BaseException.__repr__"))
  sub : PySem.W.subIn K (.ref C) (.type "BaseException") = some true
  nam : ∃ cd, PySem.W.clsIn K C = some cd ∧ cd.name = nm

mutual
/-- repr of the value is the text; the first number: how deep it is; the second: no less than the text's length -/
inductive Shw (K : PySem.W.Frag) (H : Hp) : V → Nat → Nat → Str → Prop
  | non : Shw K H .non 0 5 "None"
  | bl (b : Bool) : Shw K H (.bl b) 0 5 (if b then "True" else "False")
  | int (i : Int) (h : i.natAbs.log2 < 1920) : Shw K H (.int i) 0 1921 (toString i)
  | str (x : Str) (m : Nat) (h : (reprText x).length ≤ m) : Shw K H (.str x) 0 m (reprText x)
  | lst {a : Addr} {xs : List V} {d n : Nat} {ts : List Str} (e : H a = some (.lst xs)) (h : ShwL K H xs d n ts) :
      Shw K H (.ref a) (d + 1) (n + 2) (listText ts)
  | tup {a : Addr} {xs : List V} {d n : Nat} {ts : List Str} (e : H a = some (.tup xs)) (h : ShwL K H xs d n ts) :
      Shw K H (.ref a) (d + 1) (n + 3) (tupleText ts)
  | dct {a : Addr} {kvs : List (Key × V)} {d1 d2 n1 n2 : Nat} {ks vs : List Str} (e : H a = some (.dK kvs))
      (h1 : ShwL K H (kvs.map fun p => kV p.1) d1 n1 ks) (h2 : ShwL K H (kvs.map fun p => p.2) d2 n2 vs) :
      Shw K H (.ref a) (max d1 d2 + 1) (n1 + n2 + 2) (dictText (List.zipWith (fun k v : Str => k ++ ": " ++ v) ks vs))
  | exc {a C t : Addr} {d : Option Addr} {x nm : Str} {n1 n2 : Nat} (e : H a = some (exq a C d t))
      (et : H t = some (.tup [.str x])) (c : ExR K C nm) (l1 : (clsHead nm).length ≤ n1) (l2 : (reprText x).length ≤ n2) :
      Shw K H (.ref a) 0 (n1 + n2 + 2) (clsHead nm ++ "(" ++ reprText x ++ ")")
inductive ShwL (K : PySem.W.Frag) (H : Hp) : List V → Nat → Nat → List Str → Prop
  | nil : ShwL K H [] 0 0 []
  | cons {v : V} {vs : List V} {d e n m : Nat} {t : Str} {ts : List Str} (h : Shw K H v d n t) (hs : ShwL K H vs e m ts) :
      ShwL K H (v :: vs) (max d e) (n + 2 + m) (t :: ts)
end

theorem dK_lst {kvs : List (Key × V)} {xs : List V} : HO.dK kvs ≠ HO.lst xs := fun z => nomatch z
theorem dK_exq {kvs : List (Key × V)} {e C t : Addr} {d : Option Addr} : HO.dK kvs ≠ exq e C d t := fun z => by
  have z' : HO.dK kvs = HO.ext _ := z
  cases z'
section
variable {K : PySem.W.Frag} {H : Hp}
mutual
/-- a value is as deep as it is -/
theorem Shw.one : ∀ {v : V} {d n d' n' : Nat} {t t' : Str}, Shw K H v d n t → Shw K H v d' n' t' → d = d'
  | _, _, _, _, _, _, _, .non, .non => rfl
  | _, _, _, _, _, _, _, .bl _, .bl _ => rfl
  | _, _, _, _, _, _, _, .int _ _, .int _ _ => rfl
  | _, _, _, _, _, _, _, .str _ _ _, .str _ _ _ => rfl
  | _, _, _, _, _, _, _, .lst e h, .lst e' h' => by
    cases e.symm.trans e'
    rw [ShwL.one h h']
  | _, _, _, _, _, _, _, .lst e h, .tup e' h' => nomatch e.symm.trans e'
  | _, _, _, _, _, _, _, .lst e h, .dct e' _ _ => nomatch e.symm.trans e'
  | _, _, _, _, _, _, _, .lst e h, .exc e' _ _ _ _ => absurd (Option.some.inj (e.symm.trans e')).symm exq_lst
  | _, _, _, _, _, _, _, .tup e h, .lst e' h' => nomatch e.symm.trans e'
  | _, _, _, _, _, _, _, .tup e h, .tup e' h' => by
    cases e.symm.trans e'
    rw [ShwL.one h h']
  | _, _, _, _, _, _, _, .tup e h, .dct e' _ _ => nomatch e.symm.trans e'
  | _, _, _, _, _, _, _, .tup e h, .exc e' _ _ _ _ => absurd (Option.some.inj (e.symm.trans e')).symm exq_tup
  | _, _, _, _, _, _, _, .dct e _ _, .lst e' h' => nomatch e.symm.trans e'
  | _, _, _, _, _, _, _, .dct e _ _, .tup e' h' => nomatch e.symm.trans e'
  | _, _, _, _, _, _, _, .dct e h1 h2, .dct e' h1' h2' => by
    cases e.symm.trans e'
    rw [ShwL.one h1 h1', ShwL.one h2 h2']
  | _, _, _, _, _, _, _, .dct e _ _, .exc e' _ _ _ _ => absurd (Option.some.inj (e.symm.trans e')) dK_exq
  | _, _, _, _, _, _, _, .exc e _ _ _ _, .lst e' h' => absurd (Option.some.inj (e.symm.trans e')) exq_lst
  | _, _, _, _, _, _, _, .exc e _ _ _ _, .tup e' h' => absurd (Option.some.inj (e.symm.trans e')) exq_tup
  | _, _, _, _, _, _, _, .exc e _ _ _ _, .dct e' _ _ => absurd (Option.some.inj (e.symm.trans e')).symm dK_exq
  | _, _, _, _, _, _, _, .exc e _ _ _ _, .exc e' _ _ _ _ => rfl
theorem ShwL.one : ∀ {vs : List V} {d n d' n' : Nat} {ts ts' : List Str}, ShwL K H vs d n ts → ShwL K H vs d' n' ts' → d = d'
  | _, _, _, _, _, _, _, .nil, .nil => rfl
  | _, _, _, _, _, _, _, .cons h hs, .cons h' hs' => by rw [Shw.one h h', ShwL.one hs hs']
end

/-- the length of a join of texts, each with two signs more -/
theorem join_le (sep : Str) (hsep : sep.length = 2) : ∀ ts : List Str, (Str.join sep ts).length ≤ (ts.map fun t => t.length + 2).sum
  | [] => by
    show (Str.join sep []).length ≤ 0
    exact Nat.le_of_eq rfl
  | [x] => by
    show x.length ≤ _
    simp only [List.map_cons, List.map_nil, List.sum_cons, List.sum_nil]
    omega
  | x :: y :: r => by
    have ih := join_le sep hsep (y :: r)
    show (x ++ sep ++ Str.join sep (y :: r)).length ≤ _
    rw [strLen_append, strLen_append, hsep]
    simp only [List.map_cons, List.sum_cons] at ih ⊢
    omega
theorem textFrom_le : ∀ (ts : List Str) (i : Nat) (b : Str), (textFrom i b ts).length ≤ b.length + (ts.map fun t => t.length + 2).sum := by
  intro ts
  induction ts with
  | nil =>
    intro i b
    exact Nat.le_add_right _ _
  | cons t r ih =>
    intro i b
    have h := ih (i + 1) (b ++ Str.ofString (if 0 < i then ", " else "") ++ t)
    have e : textFrom i b (t :: r) = textFrom (i + 1) (b ++ Str.ofString (if 0 < i then ", " else "") ++ t) r := rfl
    rw [e]
    refine Nat.le_trans h ?_
    rw [strLen_append, strLen_append]
    have h2 : (Str.ofString (if 0 < i then ", " else "")).length ≤ 2 := by
      split <;> decide +kernel
    simp only [List.map_cons, List.sum_cons]
    omega
mutual
theorem Shw.len : ∀ {v : V} {d n : Nat} {t : Str}, Shw K H v d n t → t.length ≤ n
  | _, _, _, _, .non => by decide +kernel
  | _, _, _, _, .bl b => by cases b <;> decide +kernel
  | _, _, _, _, .int i h => int_text_len_1921 h
  | _, _, _, _, .str x m h => h
  | _, _, _, _, .lst (ts := ts) e h => by
    have h1 := ShwL.len h
    have h2 := textFrom_le ts 0 "["
    have e1 : ("[" : Str).length = 1 := rfl
    have e2 : (listText ts).length = (textFrom 0 "[" ts).length + 1 := by
      show (textFrom 0 "[" ts ++ "]").length = _
      rw [strLen_append]; rfl
    omega
  | _, _, _, _, .tup (ts := ts) e h => by
    have h1 := ShwL.len h
    have h2 := join_le ", " rfl ts
    unfold tupleText
    rw [strLen_append, strLen_append]
    have e1 : ("(" : Str).length = 1 := rfl
    have e2 : (Str.ofString (if (ts.length == 1) = true then ",)" else ")")).length ≤ 2 := by split <;> decide +kernel
    omega
  | _, _, _, _, .dct (ks := ks) (vs := vs) e h1 h2 => by
    have q1 := ShwL.len h1
    have q2 := ShwL.len h2
    have q3 := join_le ", " rfl (List.zipWith (fun k v : Str => k ++ ": " ++ v) ks vs)
    have q4 : ∀ (ks vs : List Str), ((List.zipWith (fun k v : Str => k ++ ": " ++ v) ks vs).map fun t => t.length + 2).sum ≤ (ks.map fun t => t.length + 2).sum + (vs.map fun t => t.length + 2).sum := by
      intro ks
      induction ks with
      | nil => intro vs; simp
      | cons k r ih =>
        intro vs
        cases vs with
        | nil => simp
        | cons v r' =>
          have i1 := ih r'
          have i2 : (k ++ (": " : Str) ++ v).length = k.length + 2 + v.length := by
            rw [strLen_append, strLen_append]; rfl
          simp only [List.zipWith_cons_cons, List.map_cons, List.sum_cons] at i1 ⊢
          omega
    have q5 := q4 ks vs
    unfold dictText
    rw [strLen_append, strLen_append]
    have e1 : ("{" : Str).length = 1 := rfl
    have e2 : ("}" : Str).length = 1 := rfl
    omega
  | _, _, _, _, .exc e et c l1 l2 => by
    rw [strLen_append, strLen_append, strLen_append]
    have e1 : ("(" : Str).length = 1 := rfl
    have e2 : (")" : Str).length = 1 := rfl
    omega
theorem ShwL.len : ∀ {vs : List V} {d n : Nat} {ts : List Str}, ShwL K H vs d n ts → (ts.map fun t => t.length + 2).sum ≤ n
  | _, _, _, _, .nil => Nat.le_refl _
  | _, _, _, _, .cons h hs => by
    have h1 := Shw.len h
    have h2 := ShwL.len hs
    simp only [List.map_cons, List.sum_cons]
    omega
end
end

/-! ### an exception of one's own is shown -/
section
variable {prog : Program} {w : World} {h₀ : Heap} {K : PySem.W.Frag} {C : Addr} {nm : Str}
theorem typ_at {M : Model} {h : Heap} {e t : Addr} {d : Option Addr} (he : h.get? e = some (exOb C d t)) :
    PySem.W.Looks M h (typeOf (.ref e)) (.ref C) := by
  intro A' Q' E' s' k q
  unfold typeOf
  exact wpAny_bind (wpAny_loadPart (k _ _ he) (wpAny_pure q))
/-- the displayed class, by name -/
theorem name_of {M : Model} {A : Around} {E : Value → Shared → Prop} {s : Shared} {e t : Addr} {d : Option Addr}
    {cd : ClassData} {Q : String → Shared → Prop} (X : K.In s.heap) (he : s.heap.get? e = some (exOb C d t))
    (hc : PySem.W.clsIn K C = some cd) (hq : Q cd.name.toString s) : wpAny M A (typeNameOfWhole (.ref e)) Q E s := by
  unfold typeNameOfWhole shownTypeOf
  have L0 : PySem.W.Looks M s.heap (typeOf (.ref e)) (.ref C) := typ_at he
  refine wpAny_bind (wpAny_bind (L0.here ?_))
  have e0 : (Value.ref C == Value.type "builtin_function_or_method") = false := rfl
  simp only [e0, Bool.false_eq_true, if_false]
  refine wpAny_pure ?_
  unfold typeNameWhole
  exact wpAny_bind ((PySem.W.looks_clsIn X hc).here (wpAny_pure hq))

theorem exc_body {A : Around} {E : Value → Shared → Prop} {s : Shared} {e t : Addr} {d : Option Addr} {cd : ClassData}
    {x : Str} {tk : Tok} {Q : Fin → Shared → Prop} (b : Nat) (X : K.In s.heap) (he : s.heap.get? e = some (exOb C d t))
    (ht : s.heap.TupAt t [.str x tk]) (hc : PySem.W.clsIn K C = some cd)
    (hq : Q (.done (.ret (.str (clsHead cd.name ++ "(" ++ reprText x ++ ")") (s.toks + 1)))) { s with toks := s.toks + 1 + 1 })
    (hsz : b + (clsHead cd.name ++ "(" ++ reprText x ++ ")").length ≤ sizeLine) :
    wpAny (model prog w) A (Builtin.bexcReprAt b ⟨[.ref e], []⟩) Q E s := by
  have e1 : b + (clsHead cd.name ++ Str.ofString "(" ++ reprText x ++ Str.ofString ")").length ≤ sizeLine := hsz
  have hsz2 : (clsHead cd.name ++ Str.ofString "(" ++ reprText x ++ Str.ofString ")").length ≤ sizeLine := by omega
  have eP : (Str.ofString "(").length = 1 := rfl
  rw [strLen_append, strLen_append, strLen_append, eP] at e1
  have hsz1 : (reprText x).length ≤ sizeLine := by omega
  have hpile : b + ((clsHead cd.name).length + 1) ≤ sizeLine := by omega
  obtain ⟨ot, k, hto, _, htd⟩ := id ht
  have args : ∀ {A' : Around} {E' : Value → Shared → Prop} {Q' : Value × List Value → Shared → Prop},
      Q' (.ref t, [.str x tk]) s → wpAny (model prog w) A' (bexcArgs (.ref e)) Q' E' s := fun {A' E' Q'} q => by
    unfold bexcArgs
    exact wpAny_bind (wpAny_field he rfl rfl (wpAny_bind (wpAny_seqItems hto htd (wpAny_pure q))))
  unfold Builtin.bexcReprAt
  unfold clsHead at hpile hsz2
  repeat (first | with_reducible refine name_of X he hc ?_ | with_reducible refine args ?_ | rw [pyReprUnder_leaf (v := .str x tk) hpile (by intro a; nofun)] | with_reducible refine wpAny_pyRepr_str ?_ | wp_step)
  exact hq

theorem ReprK.exq {e t : Addr} {d : Option Addr} {x : Str} {tk : Tok} (X : K.In h₀) (he : h₀.get? e = some (exOb C d t))
    (ht : h₀.TupAt t [.str x tk]) (R : ExR K C nm) :
    ReprK prog w [] h₀ 0 (.ref e) (clsHead nm ++ "(" ++ reprText x ++ ")") := by
  intro base hb A g E s Q hg hcl hu hk0 hQ
  obtain ⟨cd, hc, rfl⟩ := R.nam
  have X' : K.In s.heap := fun a o z => hk0 a o (X a o z)
  have he' := hk0 _ _ he
  have ht' : s.heap.TupAt t [.str x tk] := let ⟨o, k, h1, h2⟩ := ht; ⟨o, k, hk0 _ _ h1, h2⟩
  have L0 : PySem.W.Looks (model prog w) s.heap (typeOf (.ref e)) (.ref C) := typ_at he'
  have L1 := PySem.W.looks_findIn (M := model prog w) X' R.rep
  have sub : PySem.W.Looks (model prog w) s.heap (isInstance (.ref e) (.type "BaseException")) true :=
    L0.andThen (PySem.W.looks_subIn X' R.sub)
  refine wpAny_pyReprUnder_ref (by omega) ?_
  unfold pyReprObjUnder pyReprObjBy
  refine wpAny_bind (wpAny_cRoomFor (by omega) ?_)
  refine wpAny_bind (wpAny_bind (L0.here (L1.here ?_)))
  have last : wpAny (model prog w) A (call (.builtin "BaseException.__repr__.under") [.ref e, rawInt base])
      (fun v s' => ∃ y u, v = .str y u ∧ Q y s') E s := by
    refine wpAny_call (codeAny_call_builtin F.plain_bexc_repr_under F.entry_bexc_repr_under ?_)
    rw [F.check_bexc_repr_under]
    refine wpAny_pure ?_
    show wpAny _ _ (reprTwin "BaseException.__repr__" Builtin.bexcReprAt ⟨[.ref e, rawInt base], []⟩) _ _ _
    rw [reprTwin_eq]
    refine wpAny_bind (PySem.W.check_slot (i := "BaseException.__repr__") (owner := "BaseException") (n := "__repr__")
      (by decide +kernel) (by decide +kernel) sub (F.args_bexc_repr _) ?_)
    refine exc_body base X' he' ht' hc ?_ hb
    exact ⟨_, _, rfl, hQ s.heap _ fun _ _ z => z⟩
  simp only [Option.isNone_some, Bool.false_eq_true, if_false, callSpecialIfBoundBy?, bindSpecialIfBound?]
  refine wpAny_bind (wpAny_holding (wpAny_bind (wpAny_bind (wpAny_bind (L0.here (L1.here ?_))))))
  have fin : wpAny (model prog w) A (call (.builtin "BaseException.__repr__.under") [.ref e, rawInt base] >>= fun v => pure (some v))
      (fun r s' => wpAny (model prog w) A (match r with
        | some r => do
          if (← isInstance r (.type "str")) = true then pure r else
            raiseError "TypeError" s!"__repr__ returned non-string (type {← typeNameOf r})"
        | none => unsupported "repr:special-get-raises") (fun v s' => ∃ y u, v = .str y u ∧ Q y s') E s') E s :=
    wpAny_bind (wpAny_mono last (fun v s' z => by
      obtain ⟨y, u, rfl, q⟩ := z
      exact wpAny_pure (wpAny_bind (wpAny_isInstance (T := "str") (b := true) rfl isSubtype_str_str (wpAny_pure ⟨y, u, rfl, q⟩))))
      fun _ _ z => z)
  have bd : bindSpecial (.builtin "BaseException.__repr__") (.ref e) = pure (.builtin "BaseException.__repr__", [.ref e]) :=
    F.excStr_ValueError.repr.bind _
  dsimp only
  simp only [bd]
  refine wpAny_bind (wpAny_askSetting (wpAny_ite ?_))
  split
  · exact wpAny_bind (wpAny_pure (wpAny_pure fin))
  · exact wpAny_tryCatch (wpAny_bind (wpAny_pure (wpAny_pure fin)))
end
end Pw

namespace Pw
open PySem PySem.Spec PyProof.Rows L2

/-- places that are shown no deeper than that -/
def AtM (K : PySem.W.Frag) (H : Hp) (n : Nat) (bs : List Addr) : Prop :=
  ∀ b ∈ bs, ∃ d m t, Shw K H (.ref b) d m t ∧ d ≤ n
theorem AtM.mono {K : PySem.W.Frag} {H : Hp} {n m : Nat} {bs : List Addr} (h : AtM K H n bs) (l : n ≤ m) : AtM K H m bs :=
  fun b hb => let ⟨d, k, t, s, z⟩ := h b hb; ⟨d, k, t, s, Nat.le_trans z l⟩
theorem AtM.app {K : PySem.W.Frag} {H : Hp} {n : Nat} {as bs : List Addr} (h : AtM K H n as) (g : AtM K H n bs) :
    AtM K H n (as ++ bs) := fun b hb => (List.mem_append.mp hb).elim (h b) (g b)
theorem AtM.out {K : PySem.W.Frag} {H : Hp} {n d m : Nat} {a : Addr} {t : Str} {bs : List Addr} (h : AtM K H n bs)
    (s : Shw K H (.ref a) d m t) (l : n < d) : a ∉ bs := fun hm => by
  obtain ⟨d', m', t', s', z⟩ := h a hm
  have e := Shw.one s s'
  omega
theorem AtM.con {K : PySem.W.Frag} {H : Hp} {n d m : Nat} {a : Addr} {t : Str} {bs : List Addr} (h : AtM K H n bs)
    (s : Shw K H (.ref a) d m t) (l : n ≤ d) : AtM K H d (a :: bs) := fun b hb => by
  rcases List.mem_cons.mp hb with e | hb
  · subst e
    exact ⟨d, m, t, s, Nat.le_refl _⟩
  · exact (h.mono l) b hb

theorem pairs_keys {P : Program} {w : World} : ∀ {kvs : List (Key × V)} {vs : List (Key × Value)} {es : List DictEntry},
    KV kvs vs → PySem.Pairs (mixKind P w) es vs →
    Vals (kvs.map fun p => kV p.1) (es.map (·.key)) ∧ Vals (kvs.map fun p => p.2) (es.map (·.val))
  | _, _, _, .nil, .nil => ⟨.nil, .nil⟩
  | _, _, _, .cons (a := p) (b := q) h hs, .cons (e := e) hk hv ps => by
    obtain ⟨h1, h2⟩ := pairs_keys hs ps
    refine ⟨.cons ?_ h1, .cons ?_ h2⟩
    · have hk' : keyIs q.1 e.key = true := hk
      show RelV (kV p.1) e.key
      rw [h.1]
      rcases keyIs_shape hk' with ⟨i, t, e1, e2⟩ | ⟨x, t, e1, e2⟩
      · rw [e1, e2]; exact ⟨t, rfl⟩
      · rw [e1, e2]; exact ⟨t, rfl⟩
    · show RelV p.2 e.val
      rw [hv]; exact h.2

section
variable {P : Program} {w : World} {K : PySem.W.Frag} {H : Hp} {h : Heap}
mutual
theorem Shw.run (hok : HOk P w H h) (X : K.In h) : ∀ {v : V} {d n : Nat} {t : Str}, Shw K H v d n t → n ≤ sizeLine →
    ∀ u, RelV v u → ∃ bs, AtM K H d bs ∧ ReprK P w bs h d u t
  | _, _, _, _, .non, _, u, r => by
    obtain rfl : u = Value.none := r
    exact ⟨[], (fun _ z => nomatch z), .of_is ReprIs.none _ _ _⟩
  | _, _, _, _, .bl b, _, u, r => by
    obtain rfl : u = Value.bool b := r
    exact ⟨[], (fun _ z => nomatch z), .of_is (ReprIs.bool b) _ _ _⟩
  | _, _, _, _, .int i hi, _, u, r => by
    obtain ⟨t, rfl⟩ := (show ∃ t, u = Value.int i t from r)
    exact ⟨[], (fun _ z => nomatch z), .of_is (ReprIs.int t hi) _ _ _⟩
  | _, _, _, _, .str x m hm, hl, u, r => by
    obtain ⟨t, rfl⟩ := (show ∃ t, u = Value.str x t from r)
    exact ⟨[], (fun _ z => nomatch z), .of_is (ReprIs.str x t (Nat.le_trans hm hl)) _ _ _⟩
  | _, _, _, _, .lst (a := a) (xs := xs) (d := d) (ts := ts) e hs, hl, u, r => by
    obtain rfl : u = Value.ref a := r
    obtain ⟨_, its, k, rv, h1⟩ := (show ObjOk P w H h a (.lst xs) from hok a _ e)
    obtain ⟨bs, hb, hk⟩ := ShwL.run hok X hs (by omega) its rv
    have sh := Shw.lst e hs
    have hna := hb.out sh (Nat.lt_succ_self _)
    refine ⟨a :: bs, hb.con sh (Nat.le_succ _), ?_⟩
    cases its with
    | nil =>
      cases hk
      rw [listText_nil]
      exact ReprK.listEmpty h1 rfl rfl
    | cons y l => exact ReprK.list h1 rfl rfl hna (by simpa using hk.length_eq) (fun i z q => hk.item i z (by simpa using q))
  | _, _, _, _, .tup (a := a) (xs := xs) (d := d) (ts := ts) e hs, hl, u, r => by
    obtain rfl : u = Value.ref a := r
    obtain ⟨_, its, rv, o, h1, h2, k, h3⟩ := (show ObjOk P w H h a (.tup xs) from hok a _ e)
    obtain ⟨bs, hb, hk⟩ := ShwL.run hok X hs (by omega) its rv
    have sh := Shw.tup e hs
    exact ⟨a :: bs, hb.con sh (Nat.le_succ _), ReprK.tuple h1 h2 h3 (hb.out sh (Nat.lt_succ_self _)) (by simpa using hk)⟩
  | _, _, _, _, .dct (a := a) (kvs := kvs) (ks := ks) (vs := vs) e hs1 hs2, hl, u, r => by
    obtain rfl : u = Value.ref a := r
    obtain ⟨_, hsys, us, hkv, o, es, ep, h1, h2, h3, _, h4, _⟩ := (show ObjOk P w H h a (.dK kvs) from hok a _ e)
    obtain ⟨r1, r2⟩ := pairs_keys hkv h4
    obtain ⟨b1, hb1, k1⟩ := ShwL.run hok X hs1 (by omega) _ r1
    obtain ⟨b2, hb2, k2⟩ := ShwL.run hok X hs2 (by omega) _ r2
    have sh := Shw.dct e hs1 hs2
    have hb := (hb1.mono (Nat.le_max_left _ _)).app (hb2.mono (Nat.le_max_right _ _))
    exact ⟨a :: (b1 ++ b2), hb.con sh (Nat.le_succ _), ReprK.dict h1 h2.1 h3 hsys (hb.out sh (Nat.lt_succ_self _))
      (ReprEntriesK.of_two es.toList _ _ (k1.more_le (fun b z => List.mem_append_left _ z) (Nat.le_max_left _ _))
        (k2.more_le (fun b z => List.mem_append_right _ z) (Nat.le_max_right _ _)))⟩
  | _, _, _, _, .exc (a := a) (C := C) (t := t) e et c l1 l2, hl, u, r => by
    obtain rfl : u = Value.ref a := r
    obtain ⟨_, its, rv, o, h1, h2, k, h3⟩ := (show ObjOk P w H h t (.tup _) from hok t _ et)
    cases rv with
    | cons rx rr =>
      cases rr
      obtain ⟨tk, rfl⟩ := (show ∃ tk, _ = Value.str _ tk from rx)
      exact ⟨[], (fun _ z => nomatch z), ReprK.exq X (exq_at hok e) ⟨o, k, h1, h2, h3⟩ c⟩
theorem ShwL.run (hok : HOk P w H h) (X : K.In h) : ∀ {vs : List V} {d n : Nat} {ts : List Str}, ShwL K H vs d n ts → n ≤ sizeLine →
    ∀ us, Vals vs us → ∃ bs, AtM K H d bs ∧ ReprAllK P w bs h d us ts
  | _, _, _, _, .nil, _, us, r => by
    cases r
    exact ⟨[], (fun _ z => nomatch z), .nil⟩
  | _, _, _, _, .cons s ss, hl, us, r => by
    cases r with
    | cons rx rr =>
      obtain ⟨b1, hb1, k1⟩ := Shw.run hok X s (by omega) _ rx
      obtain ⟨b2, hb2, k2⟩ := ShwL.run hok X ss (by omega) _ rr
      refine ⟨b1 ++ b2, (hb1.mono (Nat.le_max_left _ _)).app (hb2.mono (Nat.le_max_right _ _)), .cons ?_ ?_⟩
      · exact (k1.more fun b z => List.mem_append_left _ z).level_le (Nat.le_max_left _ _)
      · exact k2.more_le (fun b z => List.mem_append_right _ z) (Nat.le_max_right _ _)
end
end

/-- repr(x): its text -/
def rRepr (K : PySem.W.Frag) : List V → Hp → VK → Prop := fun xs H Q => ∃ (x : V) (d n : Nat) (t : Str),
  xs = [x] ∧ Shw K H x d n t ∧ (∀ a, x = .ref a → 0 < d) ∧ n ≤ sizeLine ∧ d ≤ 60 ∧ Q (.str t) H
theorem call_repr {X : Cx} (gd : X.A.guards = some []) (hu : X.A.units + 64 < cLine) : CallR X (.builtin "repr") (rRepr X.K) := by
  intro pins s σ H xs us Q I r h
  obtain ⟨x, d, n, t, rfl, sh, hpos, hl, hd, q⟩ := h
  have hlen := Shw.len sh
  cases r with
  | cons rx rr =>
    cases rr
    rename_i u
    have hback : ∀ h' uu tk, (∀ b o, s.heap.get? b = some o → h'.get? b = some o) →
        EP X pins σ Q (.str t uu) { s with heap := h', toks := tk } := fun h' uu tk k =>
      ⟨.str t, H, I.kept k, ⟨uu, rfl⟩, q⟩
    cases sh with
    | non =>
      obtain rfl : u = Value.none := rx
      exact PySem.P.repr_of_none (hback s.heap _ _ fun _ _ z => z)
    | bl b =>
      obtain rfl : u = Value.bool b := rx
      exact PySem.P.repr_of_bool (hback s.heap _ _ fun _ _ z => z)
    | int i hi =>
      obtain ⟨tk, rfl⟩ := (show ∃ tk, u = Value.int i tk from rx)
      exact PySem.P.repr_of_int hi (hback s.heap _ _ fun _ _ z => z)
    | str z m hm =>
      obtain ⟨tk, rfl⟩ := (show ∃ tk, u = Value.str z tk from rx)
      exact PySem.P.repr_of_str (hback s.heap _ _ fun _ _ z => z) (Nat.le_trans hm hl)
    | @lst a ys d0 n0 ts e hs =>
      obtain rfl : u = Value.ref a := rx
      obtain ⟨_, its, k, rv, h1⟩ := (show ObjOk X.prog X.w H s.heap a (.lst ys) from I.hok a _ e)
      obtain ⟨bs, hb, hk⟩ := ShwL.run I.hok I.kIn hs (by omega) its rv
      have hna := hb.out (Shw.lst e hs) (Nat.lt_succ_self _)
      refine call_repr_slot (by omega) ⟨_, h1, rfl⟩ F.slot_list_repr.toG ?_
      cases its with
      | nil =>
        cases hk
        rw [listText_nil] at hback
        exact call_list_repr_empty ⟨_, h1, rfl⟩ h1 rfl ⟨_, _, rfl, hback s.heap _ _ fun _ _ z => z⟩
      | cons y l =>
        exact call_list_reprK h1 rfl rfl hna (by simpa using hk.length_eq) (fun i z q => hk.item i z (by simpa using q))
          (g := []) gd (fun b _ => Clear.nil b) (by show X.A.units + 1 + _ < _; omega) (fun _ _ z => z)
          (fun h' uu tk k => ⟨_, _, rfl, hback h' uu tk k⟩) (Nat.le_trans hlen hl)
    | @tup a ys d0 n0 ts e hs =>
      obtain rfl : u = Value.ref a := rx
      obtain ⟨_, its, rv, o, h1, h2, k, h3⟩ := (show ObjOk X.prog X.w H s.heap a (.tup ys) from I.hok a _ e)
      obtain ⟨bs, hb, hk⟩ := ShwL.run I.hok I.kIn hs (by omega) its rv
      have hna := hb.out (Shw.tup e hs) (Nat.lt_succ_self _)
      refine call_repr_slot (by omega) ⟨_, h1, h2⟩ F.slot_tuple_repr ?_
      exact call_tuple_reprK h1 h2 h3 hna (by simpa using hk)
        (g := []) gd (fun b _ => Clear.nil b) (by show X.A.units + 1 + _ < _; omega) (fun _ _ z => z)
        (fun h' uu tk k => ⟨_, _, rfl, hback h' uu tk k⟩) (Nat.le_trans hlen hl)
    | @dct a kvs d1 d2 n1 n2 ks vs e hs1 hs2 =>
      obtain rfl : u = Value.ref a := rx
      obtain ⟨_, hsys, us, hkv, o, es, ep, h1, h2, h3, _, h4, _⟩ := (show ObjOk X.prog X.w H s.heap a (.dK kvs) from I.hok a _ e)
      obtain ⟨r1, r2⟩ := pairs_keys hkv h4
      obtain ⟨b1, hb1, k1⟩ := ShwL.run I.hok I.kIn hs1 (by omega) _ r1
      obtain ⟨b2, hb2, k2⟩ := ShwL.run I.hok I.kIn hs2 (by omega) _ r2
      have hb := (hb1.mono (Nat.le_max_left d1 d2)).app (hb2.mono (Nat.le_max_right d1 d2))
      have hna := hb.out (Shw.dct e hs1 hs2) (Nat.lt_succ_self _)
      refine call_repr_slot (by omega) ⟨_, h1, h2.1⟩ F.slot_dict_repr ?_
      exact call_dict_reprK h1 h2.1 h3 hsys hna
        (ReprEntriesK.of_two es.toList _ _ (k1.more_le (fun b z => List.mem_append_left _ z) (Nat.le_max_left _ _))
          (k2.more_le (fun b z => List.mem_append_right _ z) (Nat.le_max_right _ _)))
        (g := []) gd (fun b _ => Clear.nil b) (by show X.A.units + 1 + _ < _; omega) (fun _ _ z => z)
        (fun h' uu tk k => ⟨_, _, rfl, hback h' uu tk k⟩) (Nat.le_trans hlen hl)
    | exc e et c l1 l2 => exact absurd (hpos _ rfl) (Nat.lt_irrefl 0)

/-! ### what is shown stays while what is tracked stays -/
section
variable {K : PySem.W.Frag} {H H' : Hp}
mutual
theorem Shw.same (S : Same H H') : ∀ {v : V} {d n : Nat} {t : Str}, Shw K H v d n t → Shw K H' v d n t
  | _, _, _, _, .non => .non
  | _, _, _, _, .bl b => .bl b
  | _, _, _, _, .int i h => .int i h
  | _, _, _, _, .str x m h => .str x m h
  | _, _, _, _, .lst e h => .lst (S _ _ e) (ShwL.same S h)
  | _, _, _, _, .tup e h => .tup (S _ _ e) (ShwL.same S h)
  | _, _, _, _, .dct e h1 h2 => .dct (S _ _ e) (ShwL.same S h1) (ShwL.same S h2)
  | _, _, _, _, .exc e et c l1 l2 => .exc (S _ _ e) (S _ _ et) c l1 l2
theorem ShwL.same (S : Same H H') : ∀ {vs : List V} {d n : Nat} {ts : List Str}, ShwL K H vs d n ts → ShwL K H' vs d n ts
  | _, _, _, _, .nil => .nil
  | _, _, _, _, .cons h hs => .cons (Shw.same S h) (ShwL.same S hs)
end
end
end Pw

namespace PySem.W
open PySem PySem.Calls PyProof.Rows Builtin Builtin.ObjectAttr Builtin.Getset_descriptor
section
variable {prog : Program} {w : World} {A : Around} {E : Value → Shared → Prop} {s : Shared} {K : Frag} {D x : Addr}
  {ox oD : Obj}
/-- e.__class__, e an exception of one's own that has its dict -/
theorem pw_class {Q : Option Value → Shared → Prop}
    (hga : findIn K (.ref D) "__getattribute__" = some (some (.builtin "BaseException.__getattribute__")))
    (hgt : findIn K (.ref D) "__getattr__" = some none)
    (hsub : subIn K (.ref D) (.type "BaseException") = some true)
    (hf : findObj K D (some oD) "__class__" =
      some (.bind (.builtin "getset_descriptor.__get__") (.builtin "object.__class__")))
    (hm : mroIn K D (.type "object") = some true) (X : K.In s.heap) (I : InstAt s.heap x ox D (some oD))
    (h : Q (some (.ref D)) { s with toks := s.toks + 1 }) :
    wpAny (model prog w) A (getAttr? (.ref x) "__class__") Q E s := by
  obtain ⟨hp, g, d, t, os⟩ := s
  have T0 := I.type (M := model prog w)
  have T1 := looks_findIn (M := model prog w) X hga
  have T2 := looks_findIn (M := model prog w) X hgt
  have T3 := looks_find (M := model prog w) X I hf
  have isE : Looks (model prog w) hp (isInstance (.ref x) (.type "BaseException")) true :=
    T0.andThen (looks_subIn X hsub)
  have z0 : (false && onTheHeap (Value.builtin "BaseException.__getattribute__")) = false := rfl
  have z2 : (Value.builtin "BaseException.__getattribute__" ==
    Value.builtin "object.__getattribute__") = false := by decide +kernel
  have z1 : (onTheHeap (Value.ref D) && Value.builtin "BaseException.__getattribute__" ==
    Value.builtin "object.__getattribute__") = false := by rw [z2]; rfl
  unfold getAttr? getAttrBy? getAttrBy
  refine wpAny_bind (wpAny_mkText (wpAny_bind (wpAny_attempt (wpAny_holding (wpAny_bind
    (T0.at (wpAny_bind (T1.at ?_))))))))
  show wpAny _ _ (if (onTheHeap (Value.ref D) && Value.builtin "BaseException.__getattribute__" ==
    Value.builtin "object.__getattribute__") = true then _ else _) _ _ _
  rw [z1, if_neg Bool.false_ne_true]
  unfold getAttrByItsOwn hookBefore
  refine wpAny_bind ?_
  rw [if_pos (show onTheHeap (Value.ref D) = true from rfl)]
  refine T2.at (wpAny_bind (wpAny_attempt (wpAny_holding ?_)))
  unfold callGetattribute
  rw [z0, if_neg Bool.false_ne_true]
  unfold boundAndCalled
  rw [PySem.F.excAttr_ValueError.ga.bind (.ref x)]
  refine wpAny_bind (wpAny_pure ?_)
  show wpAny _ _ (call (.builtin "BaseException.__getattribute__")
    [.ref x, .str "__class__" t]) _ _ _
  refine wpAny_call (codeAny_call_builtin PySem.F.excAttr_ValueError.ga.plain
    PySem.F.entry_bexc_ga ?_)
  refine @check_slot (model prog w) _ _ ⟨hp, g, d, t + 1, os⟩ "BaseException.__getattribute__"
    "BaseException" "__getattribute__" (.ref x) [.str "__class__" t] [] _ (by decide +kernel)
    (by decide +kernel) isE (PySem.F.args_bexc_ga (.ref x) (.str "__class__" t)) ?_
  unfold Builtin.«object.__getattribute__»
  refine wpAny_bind (wpAny_of_eq (a := ((Value.ref x : Value), [Value.str "__class__" t]))
    (by first | rfl | (simp only [slotArgs]; rfl)) ?_)
  refine wpAny_bind (wpAny_pure (wpAny_bind (T0.at (wpAny_bind (T3.at ?_)))))
  show wpAny _ _ (holding [Value.builtin "object.__class__"] (call (.builtin "getset_descriptor.__get__")
    [.builtin "object.__class__", .ref x, .ref D]) >>= ret) _ _ _
  refine wpAny_bind (wpAny_holding (wpAny_call (class_get (s := ⟨hp, g, d, t + 1, os⟩)
    (ox := ox) (od := some oD) X I hm ?_)))
  refine wpAny_pure ?_
  show wpAny _ _ (handedOut (.ref D)) _ _ _
  rw [handedOut_of (v := .ref D) rfl]
  first
    | exact wpAny_pure (wpAny_pure h)
    | exact wpAny_pure h
    | exact wpAny_pure (wpAny_bind (wpAny_pure (wpAny_pure h)))
end
end PySem.W

namespace Pw
open PySem PySem.Spec PyProof.Rows L2

theorem cls_of_dict {K : PySem.W.Frag} {D : Addr} (hd : PySem.W.hasDictIn K D = true) :
    (PySem.W.clsIn K D).isSome = true := by
  cases e : PySem.W.clsIn K D with
  | some _ => rfl
  | none =>
    unfold PySem.W.hasDictIn at hd
    rw [e] at hd
    cases hd

theorem kit_exq {K : PySem.W.Frag} {x D t dx : Addr} {oD : Obj} (C : ExcC K D) :
    PySem.W.KitX K (.ref x) (.ref D) (fun h => PySem.W.InstAt h x (exOb D (some dx) t) D (some oD)) where
  ty := fun _ _ _ I => I.type
  it := fun M h X _ => by
    obtain ⟨cd, hc⟩ := Option.isSome_iff_exists.mp (cls_of_dict C.hd)
    unfold PySem.W.clsIn at hc
    split at hc
    · rename_i ho
      intro A' Q' E' s' k q
      unfold isType loadHead
      exact wpAny_bind (wpAny_loadPart (k _ _ (X _ _ ho)) (wpAny_pure q))
    · cases hc
  ne := fun h tp dd its n sl X htp => by
    obtain ⟨cd, hc⟩ := Option.isSome_iff_exists.mp (cls_of_dict C.hd)
    refine Bool.eq_false_iff.mpr fun q => ?_
    obtain rfl : D = tp := Value.ref.inj (beq_iff_eq.mp q)
    unfold PySem.W.clsIn at hc
    split at hc
    · rename_i ho
      cases (X _ _ ho).symm.trans htp
    · cases hc
  ca := fun X I k => PySem.W.pw_class C.hg C.hk C.hs
    (PySem.W.findObj_data (cls_of_dict C.hd) C.ha C.hn C.ht) C.hm X I k

/-- a value's type, exceptions of one's own too -/
inductive TyQ (K : PySem.W.Frag) (H : Hp) : V → Value → Prop where
  | base {x : V} {t : Value} (h : TyX K H x t) : TyQ K H x t
  | exc {a D t dx : Addr} {fs : List (Str × V)} (e : H a = some (exq a D (some dx) t)) (ed : H dx = some (exd dx fs))
      (c : ExcC K D) : TyQ K H (.ref a) (.ref D)

/-- isinstance(x, c): one class -/
def rIsA (K : PySem.W.Frag) : List V → Hp → VK → Prop := fun xs H Q => ∃ (x c : V) (t u : Value) (b : Bool),
  xs = [x, c] ∧ ClsV c u ∧ TyQ K H x t ∧ PySem.W.kitOne K t u = some b ∧ Q (.bl b) H
theorem call_isa {X : Cx} : CallR X (.builtin "isinstance") (rIsA X.K) := by
  intro pins s σ H xs us Q I r h
  obtain ⟨x, c, t, u, b, rfl, k, ty, e, q⟩ := h
  cases ty with
  | base ty => exact call_isi pins s σ H _ us Q I r ⟨x, c, t, u, b, rfl, k, ty, e, q⟩
  | exc ex ed C =>
    obtain ⟨u1, u2, rfl, r1, r2⟩ := vals2 r
    obtain rfl := k.eq r2
    obtain rfl : u1 = Value.ref _ := r1
    have ha := exq_at I.hok ex
    obtain ⟨mA, ⟨oD, es, ep, hd, hr⟩, _⟩ := exd_at I.hok ed
    refine PySem.W.kia_one (kit_exq (oD := oD) C) I.kIn ⟨ha, rfl, rfl, hd⟩ e (fun z => nomatch z)
      fun tk => ⟨.bl b, H, I.tok tk, rfl, q⟩
end Pw

/-! Kinds of things, and short words for defs. -/
namespace Pw
open PySem PySem.Spec PyProof.Rows L2

/-! ### the kinds of things -/
/-- what an exception's class must say, so that it is told from the built-in kinds -/
structure ExT (K : PySem.W.Frag) (D : Addr) : Prop where
  c : ExcC K D
  int : PySem.W.kitOne K (.ref D) (.type "int") = some false
  bool : PySem.W.kitOne K (.ref D) (.type "bool") = some false
  str : PySem.W.kitOne K (.ref D) (.type "str") = some false
  tuple : PySem.W.kitOne K (.ref D) (.type "tuple") = some false
/-- a thing and its type -/
inductive Ty (K : PySem.W.Frag) (H : Hp) : V → Value → Prop where
  | non : Ty K H .non (.type "NoneType")
  | bl (b : Bool) : Ty K H (.bl b) (.type "bool")
  | int (i : Int) : Ty K H (.int i) (.type "int")
  | str (s : Str) : Ty K H (.str s) (.type "str")
  | lst {a : Addr} {xs : List V} (e : H a = some (.lst xs)) : Ty K H (.ref a) (.type "list")
  | tup {a : Addr} {xs : List V} (e : H a = some (.tup xs)) : Ty K H (.ref a) (.type "tuple")
  | dct {a : Addr} {kvs : List (Key × V)} (e : H a = some (.dK kvs)) : Ty K H (.ref a) (.type "dict")
  | exc {a D t dx : Addr} {fs : List (Str × V)} (e : H a = some (exq a D (some dx) t)) (ed : H dx = some (exd dx fs))
      (c : ExT K D) : Ty K H (.ref a) (.ref D)
theorem Ty.q {K : PySem.W.Frag} {H : Hp} {x : V} {t : Value} (h : Ty K H x t) : TyQ K H x t := by
  cases h with
  | non => exact .base (.base .non)
  | bl b => exact .base (.base (.bl b))
  | int i => exact .base (.base (.int i))
  | str s => exact .base (.base (.str s))
  | lst e => exact .base (.base (.lst e))
  | tup e => exact .base (.base (.tup e))
  | dct e => exact .base (.base (.dK e))
  | exc e ed c => exact .exc e ed c.c
theorem Ty.same {K : PySem.W.Frag} {H H' : Hp} {x : V} {t : Value} (S : Same H H') (h : Ty K H x t) : Ty K H' x t := by
  cases h with
  | non => exact .non
  | bl b => exact .bl b
  | int i => exact .int i
  | str s => exact .str s
  | lst e => exact .lst (S _ _ e)
  | tup e => exact .tup (S _ _ e)
  | dct e => exact .dct (S _ _ e)
  | exc e ed c => exact .exc (S _ _ e) (S _ _ ed) c
def numB : V → Bool
  | .int _ => true
  | _ => false
def blB : V → Bool
  | .bl _ => true
  | _ => false
def strB : V → Bool
  | .str _ => true
  | _ => false
def tupB (H : Hp) : V → Bool
  | .ref a => match H a with
    | some (.tup _) => true
    | _ => false
  | _ => false
theorem Ty.isInt {K : PySem.W.Frag} {H : Hp} {x : V} {t : Value} (h : Ty K H x t) :
    PySem.W.kitOne K t (.type "int") = some (numB x || blB x) := by
  cases h with
  | non  => exact (kit_ty (a := "NoneType") (b := "int") (r := false) (by decide +kernel) : _ = some false)
  | bl b => exact (kit_ty (a := "bool") (b := "int") (r := true) (by decide +kernel) : _ = some true)
  | int i => exact (kit_ty (a := "int") (b := "int") (r := true) (by decide +kernel) : _ = some true)
  | str s => exact (kit_ty (a := "str") (b := "int") (r := false) (by decide +kernel) : _ = some false)
  | lst e => exact (kit_ty (a := "list") (b := "int") (r := false) (by decide +kernel) : _ = some false)
  | tup e => exact (kit_ty (a := "tuple") (b := "int") (r := false) (by decide +kernel) : _ = some false)
  | dct e => exact (kit_ty (a := "dict") (b := "int") (r := false) (by decide +kernel) : _ = some false)
  | exc e ed c => exact c.int
theorem Ty.isBool {K : PySem.W.Frag} {H : Hp} {x : V} {t : Value} (h : Ty K H x t) :
    PySem.W.kitOne K t (.type "bool") = some (blB x) := by
  cases h with
  | non  => exact (kit_ty (a := "NoneType") (b := "bool") (r := false) (by decide +kernel) : _ = some false)
  | bl b => exact (kit_ty (a := "bool") (b := "bool") (r := true) (by decide +kernel) : _ = some true)
  | int i => exact (kit_ty (a := "int") (b := "bool") (r := false) (by decide +kernel) : _ = some false)
  | str s => exact (kit_ty (a := "str") (b := "bool") (r := false) (by decide +kernel) : _ = some false)
  | lst e => exact (kit_ty (a := "list") (b := "bool") (r := false) (by decide +kernel) : _ = some false)
  | tup e => exact (kit_ty (a := "tuple") (b := "bool") (r := false) (by decide +kernel) : _ = some false)
  | dct e => exact (kit_ty (a := "dict") (b := "bool") (r := false) (by decide +kernel) : _ = some false)
  | exc e ed c => exact c.bool
theorem Ty.isStr {K : PySem.W.Frag} {H : Hp} {x : V} {t : Value} (h : Ty K H x t) :
    PySem.W.kitOne K t (.type "str") = some (strB x) := by
  cases h with
  | non  => exact (kit_ty (a := "NoneType") (b := "str") (r := false) (by decide +kernel) : _ = some false)
  | bl b => exact (kit_ty (a := "bool") (b := "str") (r := false) (by decide +kernel) : _ = some false)
  | int i => exact (kit_ty (a := "int") (b := "str") (r := false) (by decide +kernel) : _ = some false)
  | str s => exact (kit_ty (a := "str") (b := "str") (r := true) (by decide +kernel) : _ = some true)
  | lst e => exact (kit_ty (a := "list") (b := "str") (r := false) (by decide +kernel) : _ = some false)
  | tup e => exact (kit_ty (a := "tuple") (b := "str") (r := false) (by decide +kernel) : _ = some false)
  | dct e => exact (kit_ty (a := "dict") (b := "str") (r := false) (by decide +kernel) : _ = some false)
  | exc e ed c => exact c.str
theorem Ty.isTuple {K : PySem.W.Frag} {H : Hp} {x : V} {t : Value} (h : Ty K H x t) :
    PySem.W.kitOne K t (.type "tuple") = some (tupB H x) := by
  cases h with
  | non  => exact (kit_ty (a := "NoneType") (b := "tuple") (r := false) (by decide +kernel) : _ = some false)
  | bl b => exact (kit_ty (a := "bool") (b := "tuple") (r := false) (by decide +kernel) : _ = some false)
  | int i => exact (kit_ty (a := "int") (b := "tuple") (r := false) (by decide +kernel) : _ = some false)
  | str s => exact (kit_ty (a := "str") (b := "tuple") (r := false) (by decide +kernel) : _ = some false)
  | @lst ad xs e =>
    have z : tupB H (.ref ad) = false := by simp only [tupB, e]
    rw [z]
    exact kit_ty (a := "list") (b := "tuple") (r := false) (by decide +kernel)
  | @tup ad xs e =>
    have z : tupB H (.ref ad) = true := by simp only [tupB, e]
    rw [z]
    exact kit_ty (a := "tuple") (b := "tuple") (r := true) (by decide +kernel)
  | @dct ad xs e =>
    have z : tupB H (.ref ad) = false := by simp only [tupB, e]
    rw [z]
    exact kit_ty (a := "dict") (b := "tuple") (r := false) (by decide +kernel)
  | @exc ad D t dx fs e ed c =>
    have z : tupB H (.ref ad) = false := by simp only [tupB, e]; rfl
    rw [z]
    exact c.tuple

/-! ### defs by name -/
section
variable (P : Program) (w : World) (K : PySem.W.Frag) (mg : Str → Option Value) (base : Heap)
/-- the def st of the text stands under its name x -/
structure At (x : Str) (st : Stmt) : Prop where
  ex : ∃ f fd, Fun K x x st f fd ∧ mg x = some (.ref f)
/-- under its name x a def stands that keeps the promise sp -/
structure Def (x : Str) (k : Nat) (ps : List Str) (sp : Sp) : Prop where
  ex : ∃ f fd, mg x = some (.ref f) ∧ PySem.W.keepIn K (.ref f) = true ∧ Binds K fd ps [] ∧
    FnOk P w K mg base CX0 k f fd ps sp
structure DefG (x : Str) (k : Nat) (ps : List Str) (sp : Sp) : Prop where
  ex : ∃ f fd, mg x = some (.ref f) ∧ PySem.W.keepIn K (.ref f) = true ∧ Binds K fd ps [] ∧
    FnG P w K mg base CX0 k f fd ps sp
end
section
variable {P : Program} {w : World} {K : PySem.W.Frag} {mg : Str → Option Value} {base : Heap}
theorem Def.mono {x : Str} {k j : Nat} {ps : List Str} {sp : Sp} (d : Def P w K mg base x k ps sp) (h : k ≤ j) :
    Def P w K mg base x j ps sp :=
  let ⟨f, fd, a, b, c, F⟩ := d.ex
  ⟨f, fd, a, b, c, F.mono h⟩
theorem mkDef {x : Str} {st : Stmt} {N ps : List Str} {k : Nat} {sp : Sp} (A : At K mg x st)
    (S : FnScope N ps (defScope st))
    (hb : ∀ (kV doc pm : Value) (an : Option Addr) (cdv ct : Value) (us : List Value), us.length = ps.length →
      bindArgs (PySem.W.fnOf x x (defArgs st) (defBody st) (defScope st) .none kV doc pm an cdv ct) ⟨us, []⟩ = pure (ps.zip us))
    (len : ∀ vs H Q E, sp vs H Q E → vs.length = ps.length)
    (body : ∀ (f : Addr) (cdv : Value) (A : Around) (out : List Env) (s : Shared) (H : Hp) (vs : List V) (Q : VK) (E : XK),
      Room k (A.deeper (envOfC x (defScope st) s.heap.objs.size f cdv)) → sp vs H Q E →
      ∃ t, PSs (cxOf CX0 P w K mg base N x (defScope st) f cdv A out s H E).nox (defBody st) t ∧
        t { nx := fun _ H' => Q .non H', rt := Q } (start N vs) H) : Def P w K mg base x (k + 1) ps sp := by
  obtain ⟨f, fd, F, m⟩ := A.ex
  exact ⟨f, fd, m, F.kp, F.binds hb, F.ok S len (body f)⟩
theorem mkDefG {x : Str} {st : Stmt} {N ps : List Str} {k : Nat} {sp : Sp} (A : At K mg x st)
    (S : FnScope N ps (defScope st))
    (hb : ∀ (kV doc pm : Value) (an : Option Addr) (cdv ct : Value) (us : List Value), us.length = ps.length →
      bindArgs (PySem.W.fnOf x x (defArgs st) (defBody st) (defScope st) .none kV doc pm an cdv ct) ⟨us, []⟩ = pure (ps.zip us))
    (len : ∀ vs H Q E, sp vs H Q E → vs.length = ps.length)
    (body : ∀ (f : Addr) (cdv : Value) (A : Around) (out : List Env) (s : Shared) (H : Hp) (vs : List V) (Q : VK) (E : XK),
      A.guards = some [] → Room k (A.deeper (envOfC x (defScope st) s.heap.objs.size f cdv)) → sp vs H Q E →
      ∃ t, PSs (cxOf CX0 P w K mg base N x (defScope st) f cdv A out s H E).nox (defBody st) t ∧
        t { nx := fun _ H' => Q .non H', rt := Q } (start N vs) H) : DefG P w K mg base x (k + 1) ps sp := by
  obtain ⟨f, fd, F, m⟩ := A.ex
  exact ⟨f, fd, m, F.kp, F.binds hb, okG F S len (body f)⟩
end
section
variable {X : Cx} {x : Str} {k j : Nat} {ps : List Str} {sp : Sp} {p pos : Pos} {e : Expr} {es : List Expr} {t : TA}
/-- x(e, ..), by the promise of the def under that name -/
theorem pe_d (D : Def X.prog X.w X.K X.mg X.base x k ps sp) (hr : Room j X.A) (hk : k ≤ j) (hg : Gl X x) (ha : PA X (e :: es) t)
    (hdb : (x == ("__debug__" : Str)) = false := by decide)
    (he : starEach (e :: es) X.env = (false, eval e X.env) :: starEach es X.env := by rfl)
    (hpl : (backTo pos (starEach es X.env)).any (·.1) = false := by rfl) :
    PE X (.Call (.Name x p) (e :: es) [] pos) (tCall sp [] E0 t) := by
  obtain ⟨f, fd, m, kp, b, F⟩ := D.ex
  exact pe_call F (hr.mono hk) hg m kp b .nil pass0 ha hdb he hpl
theorem pe_dG (D : DefG X.prog X.w X.K X.mg X.base x k ps sp) (gd : X.A.guards = some []) (hr : Room j X.A) (hk : k ≤ j) (hg : Gl X x)
    (ha : PA X (e :: es) t) (hdb : (x == ("__debug__" : Str)) = false := by decide)
    (he : starEach (e :: es) X.env = (false, eval e X.env) :: starEach es X.env := by rfl)
    (hpl : (backTo pos (starEach es X.env)).any (·.1) = false := by rfl) :
    PE X (.Call (.Name x p) (e :: es) [] pos) (tCall sp [] E0 t) := by
  obtain ⟨f, fd, m, kp, b, F⟩ := D.ex
  exact pe_callG F gd (hr.mono hk) hg m kp b .nil pass0 ha hdb he hpl
end

/-! ### heaps: all but one place stays -/
/-- the heap without one place -/
def wo (H : Hp) (p : Addr) : Hp := fun b => if b = p then none else H b
theorem wo_ne {H : Hp} {p b : Addr} (h : b ≠ p) : wo H p b = H b := if_neg h
theorem wo_same {H : Hp} {p : Addr} : Same (wo H p) H := fun b o e => by
  unfold wo at e
  split at e
  · cases e
  · exact e
theorem wo_at {H : Hp} {p b : Addr} {o : HO} (e : wo H p b = some o) : b ≠ p ∧ H b = some o := by
  unfold wo at e
  split at e
  · cases e
  · rename_i n
    exact ⟨n, e⟩
theorem wo_of {H : Hp} {p b : Addr} {o : HO} (n : b ≠ p) (e : H b = some o) : wo H p b = some o := (wo_ne n).trans e
/-- all that is tracked, but at p, stays -/
def But (p : Addr) (H H' : Hp) : Prop := Same (wo H p) (wo H' p)
theorem But.refl {p : Addr} {H : Hp} : But p H H := fun _ _ e => e
theorem But.trans {p : Addr} {H H1 H2 : Hp} (a : But p H H1) (b : But p H1 H2) : But p H H2 := fun c o h => b c o (a c o h)
theorem But.of {p : Addr} {H H' : Hp} (h : ∀ b o, b ≠ p → H b = some o → H' b = some o) : But p H H' := fun b o e =>
  let ⟨n, z⟩ := wo_at e
  wo_of n (h b o n z)
theorem But.at {p : Addr} {H H' : Hp} (h : But p H H') {b : Addr} {o : HO} (n : b ≠ p) (e : H b = some o) : H' b = some o :=
  (wo_at (h b o (wo_of n e))).2
theorem Same.but {p : Addr} {H H' : Hp} (h : Same H H') : But p H H' := But.of fun b o _ e => h b o e
theorem Same.laid {H : Hp} {q : Addr} {o : HO} (n : H q = none) : Same H (upd H q o) := fun b u e =>
  (upd_ne (ne_of_none e n)).trans e
theorem But.laid {p : Addr} {H : Hp} {q : Addr} {o : HO} (n : H q = none) : But p H (upd H q o) := Same.but (Same.laid n)
theorem But.set {p : Addr} {H : Hp} {o : HO} : But p H (upd H p o) := But.of fun b u n e => (upd_ne n).trans e
end Pw

/-! Exceptions over ValueError, LookupError and KeyError: as values, and raised. -/
namespace Pw
open PySem
/-- what __init__ of a built-in error must be -/
structure IniF (B initId : String) : Prop where
  split : splitId initId = some (B, "__init__")
  kind : builtinKind initId = some .slot
  row : Manifest.signature? initId =
    some ⟨.positional, "*", B, .self, [⟨"args", .varPos, false⟩]⟩
  plain : plainId initId = true
  star : (B != "*") = true
  entry : entryFor table initId = some Builtin.«BaseException.__init__»
theorem iniV : IniF "ValueError" "ValueError.__init__" :=
  ⟨F.excBase_ValueError.initSplit, F.excBase_ValueError.initKind, F.excBase_ValueError.initRow, F.excBase_ValueError.init.plain, by decide, F.excBase_ValueError.initEntry⟩
theorem iniL : IniF "LookupError" "LookupError.__init__" :=
  ⟨F.excBase_LookupError.initSplit, F.excBase_LookupError.initKind, F.excBase_LookupError.initRow, F.excBase_LookupError.init.plain, by decide, F.excBase_LookupError.initEntry⟩
theorem iniK : IniF "KeyError" "KeyError.__init__" where
  split := by kernel_rfl
  kind := by kernel_rfl
  row := by kernel_rfl
  plain := by decide +kernel
  star := by decide
  entry := entryFor_alias (id' := "BaseException.__init__") (by rw [fastTable_eq_tree]; kernel_rfl)
    (by first | rfl | decide +kernel) (by decide +kernel)
    (by rw [fastTable_eq_tree]; kernel_rfl)
abbrev veT : List Value := [.type "ValueError", .type "Exception", .type "BaseException", .type "object"]
abbrev leT : List Value := [.type "LookupError", .type "Exception", .type "BaseException", .type "object"]
abbrev keT : List Value := [.type "KeyError", .type "LookupError", .type "Exception", .type "BaseException", .type "object"]
/-- the classes behind an own one, and the maker of its instances -/
structure Fit (newId : String) (bm : List Value) : Prop where
  maker : ∃ B i bmB, ExcBaseFacts B newId i bmB ∧ bm.contains (.type B) = true
  noA : bm.contains (.type "AttributeError") = false
  noN : bm.contains (.type "NameError") = false
  obj : bm.contains (.type "object") = true
  pass : ∀ self, refuseLoop self "__setattr__" bm = pure ()
theorem fitV : Fit "ValueError.__new__" veT :=
  ⟨⟨_, _, _, F.excBase_ValueError, by decide +kernel⟩, by decide +kernel, by decide +kernel, by decide +kernel, F.store_ValueError.passes⟩
theorem fitL : Fit "LookupError.__new__" leT :=
  ⟨⟨_, _, _, F.excBase_LookupError, by decide +kernel⟩, by decide +kernel, by decide +kernel, by decide +kernel, F.store_LookupError.passes⟩
theorem fitK : Fit "LookupError.__new__" keT :=
  ⟨⟨_, _, _, F.excBase_LookupError, by decide +kernel⟩, by decide +kernel, by decide +kernel, by decide +kernel, fun self => by kernel_rfl⟩
theorem Fit.up {newId : String} {bm : List Value} (c : Addr) (h : Fit newId bm) : Fit newId (.ref c :: bm) := by
  obtain ⟨B, i, bmB, F, hB⟩ := h.maker
  have e : ∀ X : String, (Value.ref c :: bm).contains (.type X) = bm.contains (.type X) := fun X => by
    rw [List.contains_cons]; rfl
  exact ⟨⟨B, i, bmB, F, (e B).trans hB⟩, (e _).trans h.noA, (e _).trans h.noN, (e _).trans h.obj, fun self => by
    rw [refuseLoop_ref]
    exact h.pass self⟩
end Pw

namespace Pw
open PySem PySem.Spec PyProof.Rows L2

/-! ### such a class is called -/
section
variable {prog : Program} {w : World} {A : Around} {R : Result → Shared → Prop} {h : Heap} {g : Array GenState}
  {d : Drawn} {t : Nat} {os : OsState} {nm q : Str} {C N : Addr} {bs bm bmB : List Value} {hdct : Bool} {sn : List Str}
  {sub : List Value} {ab : Bool} {col : Option Bool} {dd : Option Addr} {k0 k1 k2 k3 k5 : Option Value} {B newId initId : String} {kw : List (Str × Value)}

theorem new_checkF {M : Model} {E : Value → Shared → Prop} (F : ExcBaseFacts B newId initId bmB)
    (hB : (Value.ref C :: bm).contains (.type B) = true) {rest : List Value} {Q : Unit → Shared → Prop}
    (hC : h.get? C = some (excClassObj nm q C N bs bm hdct sn sub ab col dd k0 k1 k2 k3 k5 newId)) (hq : Q () ⟨h, g, d, t, os⟩) :
    wpAny M A (checkBuiltinCall newId ⟨.ref C :: rest, kw⟩) Q E ⟨h, g, d, t, os⟩ := by
  have star := F.noStar
  simp only [checkBuiltinCall, F.newKind, F.newSplit, F.newRow]
  repeat (first
    | refine wpAny_loadPart_at hC ?_
    | (refine wpAny_isSubtype_exc hC ?_; rw [hB])
    | refine wpAny_staticBase_exc hC ?_
    | refine wpAny_madeBy_exc hC ?_
    | simp only [bne_self_eq_false, Bool.false_eq_true, if_false]
    | wp_step)
  exact hq

theorem newF (F : ExcBaseFacts B newId initId bmB) (hB : (Value.ref C :: bm).contains (.type B) = true)
    (hA : (Value.ref C :: bm).contains (.type "AttributeError") = false)
    (hN : (Value.ref C :: bm).contains (.type "NameError") = false) {rest : List Value}
    (hC : h.get? C = some (excClassObj nm q C N bs bm hdct sn sub ab col dd k0 k1 k2 k3 k5 newId))
    (hq : R (.ok (.ret (.ref (h.objs.size + 1)))) ⟨(h.push (PySem.W.kdv_tup rest)).push (exOb C none h.objs.size), g, d, t, os⟩)
    (hrest : rest.length ≤ sizeLine) :
    codeAny (model prog w) A (.builtin newId ⟨.ref C :: rest, kw⟩) R ⟨h, g, d, t, os⟩ := by
  have ends := F.ends
  refine codeAny_builtinAt F.entry ?_
  unfold Builtin.«BaseException.__new__»
  refine PySem.wpAt_bind ?_
  show PySem.wpAt _ _ _ (stack >>= _) _ _ _
  refine PySem.wpAt_bind (PySem.wpAt_stack fun p below => PySem.wpAt_of_wpAny ?_)
  wp_walk
  refine PySem.wpAt_of_wpAny ?_
  rw [F.owner]
  repeat (first
    | with_reducible refine wpAny_madeHere_exc F.canon hC ?_
    | with_reducible refine wpAny_loadPart_at hC ?_
    | (with_reducible refine wpAny_isSubtype_exc hC ?_; first | rw [hB] | rw [hA] | rw [hN])
    | wp_step)
  show R _ _
  rw [Heap.size_push]
  exact hq

theorem type_callF {E : Value → Shared → Prop} (F : ExcBaseFacts B newId initId bmB) (hB : (Value.ref C :: bm).contains (.type B) = true)
    (hA : (Value.ref C :: bm).contains (.type "AttributeError") = false)
    (hN : (Value.ref C :: bm).contains (.type "NameError") = false) {rest : List Value} {fI : Addr} {Q : Fin → Shared → Prop}
    (hC : h.get? C = some (excClassObj nm q C N bs bm hdct sn sub ab col dd k0 k1 k2 k3 k5 newId))
    (hi : PySem.W.Looks (model prog w) h (typeLookup (.ref C) "__init__") (some (.ref fI)))
    (hb : ∀ self, PySem.W.Looks (model prog w) h (bindSpecial (.ref fI) self) (.ref fI, [self])) (hrest : rest.length ≤ sizeLine)
    (hq : codeAny (model prog w) A (.call (.ref fI) ⟨.ref (h.objs.size + 1) :: rest, kw⟩)
      (fun r s' => match r with
        | .ok (.ret v) => v = .none ∧ Q (.done (.ret (.ref (h.objs.size + 1)))) s'
        | .ok _ => False
        | .error e => E e s')
      ⟨(h.push (PySem.W.kdv_tup rest)).push (exOb C none h.objs.size), g, d, t, os⟩) :
    wpAny (model prog w) A (Builtin.«type.__call__» ⟨.ref C :: rest, kw⟩) Q E ⟨h, g, d, t, os⟩ := by
  repeat (first
    | with_reducible refine wpAny_loadPart_at hC ?_
    | with_reducible refine wpAny_madeBy_exc hC ?_
    | wp_step)
  refine codeAny_call_builtin_code (Code.quiet_builtin _ F.quiet) (new_checkF F hB hC ?_)
  refine newF F hB hA hN hC ?_ hrest
  show wpAny _ _ _ _ _ _
  have k : ∀ b o, h.get? b = some o → ((h.push (PySem.W.kdv_tup rest)).push (exOb C none h.objs.size)).get? b = some o :=
    fun b o e => Heap.get?_push_of_some _ (Heap.get?_push_of_some _ e)
  have hC1 := k _ _ hC
  have hget : ((h.push (PySem.W.kdv_tup rest)).push (exOb C none h.objs.size)).get? (h.objs.size + 1) =
    some (exOb C none h.objs.size) := by heap_get
  have hcC : (Value.ref C :: bm).contains (.ref C) = true := by simp
  have i1 := hi.keeps k
  have b1 := (hb (.ref (h.objs.size + 1))).keeps k
  unfold isInstance
  repeat (first
    | with_reducible refine wpAny_loadPart_at hget ?_
    | (with_reducible refine wpAny_isSubtype_exc hC1 ?_; rw [hcC])
    | wp_step)
  show wpAny _ _ (typeLookup (.ref C) _) _ _ _
  refine i1.at (wpAny_holding (wpAny_bind (b1.at ?_)))
  refine wpAny_bind (wpAny_call (codeAny_mono hq fun r s' z => ?_))
  match r, z with
  | .error e, z => exact z
  | .ok (.ret v), ⟨hv, z⟩ =>
    subst hv
    first
      | exact wpAny_pure (wpAny_pure z)
      | (wp_walk; exact z)
  | .ok .next, z => exact z.elim
  | .ok .brk, z => exact z.elim
  | .ok .cont, z => exact z.elim

theorem call_ownF (F : ExcBaseFacts B newId initId bmB) (hB : (Value.ref C :: bm).contains (.type B) = true)
    (hA : (Value.ref C :: bm).contains (.type "AttributeError") = false)
    (hN : (Value.ref C :: bm).contains (.type "NameError") = false) {rest : List Value} {fI : Addr}
    (hC : h.get? C = some (excClassObj nm q C N bs bm hdct sn sub ab col dd k0 k1 k2 k3 k5 newId))
    (hi : PySem.W.Looks (model prog w) h (typeLookup (.ref C) "__init__") (some (.ref fI)))
    (hb : ∀ self, PySem.W.Looks (model prog w) h (bindSpecial (.ref fI) self) (.ref fI, [self])) (hrest : rest.length ≤ sizeLine)
    (hq : codeAny (model prog w) (A.under (.builtin "type.__call__" ⟨.ref C :: rest, kw⟩))
      (.call (.ref fI) ⟨.ref (h.objs.size + 1) :: rest, kw⟩) (PySem.W.InitBack (h.objs.size + 1) R)
      ⟨(h.push (PySem.W.kdv_tup rest)).push (exOb C none h.objs.size), g, d, t, os⟩) :
    codeAny (model prog w) A (.call (.ref C) ⟨rest, kw⟩) R ⟨h, g, d, t, os⟩ := by
  have f1 := tc_lookup
  have f2 := tc_bind (.ref C)
  have hTy : (⟨h, g, d, t, os⟩ : Shared).TypeIs (.ref C) "type" := ⟨_, hC, rfl⟩
  refine codeAny_of_tree ?_
  show wpAny _ _ (callAny (.ref C) _) _ _ _
  repeat (any_goals (first
    | assumption
    | with_reducible refine wpAny_loadPart_at hC ?_
    | wp_step))
  refine ⟨rfl, ?_⟩
  refine codeAny_call_builtin_at (Code.quiet_builtin _ (by decide +kernel)) entry_typeCall
    (wpAny_check_type_call_sub hC (type_callF F hB hA hN hC hi hb hrest ?_))
  refine codeAny_mono hq fun r s' z => ?_
  match r, z with
  | .error e, z => exact z
  | .ok (.ret v), z => exact z
  | .ok .next, z => exact z
  | .ok .brk, z => exact z
  | .ok .cont, z => exact z

/-- B.__init__(e, ..): the args are laid anew -/
theorem init_argsF (I : IniF B initId) (hB : (Value.ref C :: bm).contains (.type B) = true) {e t0 : Addr} {rest : List Value}
    (hC : h.get? C = some (excClassObj nm q C N bs bm hdct sn sub ab col dd k0 k1 k2 k3 k5 newId))
    (he : h.get? e = some (exOb C none t0)) (hrest : rest.length ≤ sizeLine)
    (hq : ∀ h' t1, h.objs.size ≤ t1 → (∀ b o, b ≠ e → h.get? b = some o → h'.get? b = some o) →
      h'.get? e = some (exOb C none t1) → h'.get? t1 = some (PySem.W.kdv_tup rest) →
      R (.ok (.ret .none)) ⟨h', g, d, t, os⟩) :
    codeAny (model prog w) A (.call (.builtin initId) ⟨.ref e :: rest, []⟩) R ⟨h, g, d, t, os⟩ := by
  refine codeAny_call_builtin I.plain I.entry ?_
  simp only [checkBuiltinCall, I.kind, I.split, I.row]
  have star := I.star
  repeat (first
    | with_reducible refine wpAny_loadPart_at he ?_
    | with_reducible refine wpAny_loadPart_at hC ?_
    | (with_reducible refine wpAny_isSubtype_exc hC ?_; rw [hB])
    | wp_step)
  refine wpAny_onRaise ?_
  have chk : ∀ (a b : String) (n : Nat), Bind.check ⟨.positional, "*", B, .self, [⟨"args", .varPos, false⟩]⟩ a b n
      (List.map (fun x => x.fst) ({ pos := Value.ref e :: rest } : Args).kw) = pure () :=
    fun a b n => check_star_args _ _ _ _ _ _
  rw [chk]
  refine wpAny_pure ?_
  have hes : e ≠ h.objs.size := Nat.ne_of_lt (Heap.lt_size he)
  wp_walk
  refine hq _ h.objs.size (Nat.le_refl _) (fun b o hb ho => ?_) ?_ ?_
  · exact (Heap.get?_update_other _ _ (Ne.symm hb)).trans (Heap.get?_push_of_some _ ho)
  · exact (Heap.get?_update_self _ (Heap.get?_push_of_some _ he) rfl).trans rfl
  · exact (Heap.get?_update_other _ _ hes).trans (Heap.get?_push_size _ rfl)
end
end Pw

/-! Exceptions of one's own over any of the three bases: stored in, made, read. -/
namespace Pw
open PySem PySem.Spec PyProof.Rows L2

/-- what the written part says of the class at C -/
structure OexF (K : PySem.W.Frag) (C : Addr) : Prop where
  cls : ∃ newId nm q N bs bm sn sub ab col dd k0 k1 k2 k3 k5,
    K.lookup C = some (excClassObj nm q C N bs bm true sn sub ab col dd k0 k1 k2 k3 k5 newId) ∧ Fit newId (.ref C :: bm)
  sa : PySem.W.findIn K (.ref C) "__setattr__" = some (some (.builtin "object.__setattr__"))
  exC : PySem.W.subIn K (.ref C) (.type "BaseException") = some true
  tyC : PySem.W.typeIn K (.ref C) = some (.type "type")
  kC : PySem.W.keepIn K (.ref C) = true

section
variable {prog : Program} {w : World} {A : Around} {R : Result → Shared → Prop} {hp : Heap} {g : Array GenState}
  {d : Drawn} {t : Nat} {os : OsState}
open PySem.Builtin PySem.Builtin.ObjectAttr in
/-- object.__setattr__ on an exception that has no dict yet -/
theorem osaF {K : PySem.W.Frag} {name : Str} {tk : Tok} {v : Value} {x C : Addr} {fv : Array Value} {cd : ClassData}
    (X : K.In hp) (hx : hp.get? x = some { cls := .ref C, data := .fields fv })
    (hcd : PySem.W.clsIn K C = some cd) (hne : cd.mro.isEmpty = false) (hob : cd.mro.contains (.type "object") = true)
    (hps : ∀ self, refuseLoop self "__setattr__" cd.mro = pure ()) (hh : cd.hasDict = true)
    (ha : PySem.W.findIn K (.ref C) name = some none)
    (hq : ∀ h' tk' dx, (∀ b o, b ≠ x → hp.get? b = some o → h'.get? b = some o) → hp.objs.size ≤ dx → dx ≠ x →
      h'.get? x = some { cls := .ref C, dict := some dx, data := .fields fv } →
      h'.Ns1 dx (fun y => if y = name then some v else none) → R (.ok (.ret .none)) ⟨h', g, d, tk', os⟩) :
    codeAny (model prog w) A (.call (.builtin "object.__setattr__") ⟨[.ref x, .str name tk, v], []⟩) R ⟨hp, g, d, t, os⟩ := by
  have I : PySem.W.InstAt hp x { cls := .ref C, data := .fields fv } C none := ⟨hx, rfl, rfl, trivial⟩
  have SF := F.store_object
  have hxs : x ≠ hp.objs.size := Nat.ne_of_lt (Heap.lt_size hx)
  have mo : PySem.W.mroIn K C (.type "object") = some true := by
    unfold PySem.W.mroIn
    rw [hcd, Option.bind_some, if_neg (by rw [hne]; decide), hob]
  have sub : PySem.W.Looks (model prog w) hp (isInstance (.ref x) (.type "object")) true :=
    I.type.andThen (PySem.W.looks_mroIn X mo)
  refine codeAny_call_builtin SF.slot.plain SF.entry ?_
  refine @PySem.W.check_slot (model prog w) _ _ ⟨hp, g, d, t, os⟩ "object.__setattr__" "object" "__setattr__" (.ref x)
    [.str name tk, v] [] _ SF.kind SF.split sub (SF.args (.ref x) (.str name tk) v) ?_
  have hmr : PySem.W.Looks (model prog w) hp (mroOf (.ref C)) cd.mro := (PySem.W.looks_clsIn X hcd).andThen .now
  have nt : PySem.W.Looks (model prog w) hp (storeTaker? none) none := .now
  have lc : PySem.W.Looks (model prog w) hp (classData C) cd := PySem.W.looks_clsIn X hcd
  rw [PySem.W.osa_eq, refuse_eq]
  refine wpAny_bind (wpAny_bind (I.type.at (wpAny_bind (hmr.at ?_))))
  rw [hps]
  refine wpAny_pure (wpAny_bind (I.type.at (wpAny_bind ((PySem.W.looks_findIn X ha).at (wpAny_bind (nt.at ?_))))))
  show wpAny _ _ (storeInOwnDict (.ref x) (.ref C) (.str name tk) name v false) _ _ _
  obtain ⟨nm, bs, mro, ns, qn, hd, sn, sb, ab, col, del⟩ := cd
  dsimp only at hh
  subst hh
  unfold storeInOwnDict ownDictForStores
  repeat (first
    | with_reducible refine PySem.HandSPX.store_in_new ?_ ?_
    | with_reducible refine wpAny_loadPart_at hx ?_
    | with_reducible refine lc.at ?_
    | wp_step)
  · exact ⟨_, #[], _, (Heap.get?_update_ne _ _ _ _ hxs.symm).trans (Heap.get?_push_at rfl rfl), rfl,
      fun e he => absurd he (by simp), fun _ => rfl⟩
  · intro h' tk' hn' hs
    have hx₁ : (hp.push { cls := .type "dict", data := .dict #[] }).get? x = some { cls := .ref C, data := .fields fv } :=
      Heap.get?_push_of_some _ hx
    refine hq h' tk' hp.objs.size (fun b o hb ho => ?_) (Nat.le_refl _) hxs.symm ?_ hn'
    · exact (hs.2 b (Nat.ne_of_lt (Heap.lt_size ho))).trans
        ((Heap.get?_update_ne _ _ _ _ hb).trans (Heap.get?_push_of_some _ ho))
    · exact (hs.2 x hxs).trans (Heap.get?_update_self _ hx₁ rfl)
end

section
variable {X : Cx} {pins : List (Addr × Obj)} {σ : L2.St} {H : Hp} {s : Shared} {a C t1 : Addr} {f : Str} {y : V}
  {u : Value} {E : Value → Shared → Prop} {A : Around}

/-- self.f = y, the first attribute -/
theorem eq_newF {Q : Unit → Shared → Prop} (T : OexF X.K C) (I : Inv X pins σ H s) (e : H a = some (exq a C none t1))
    (hno : PySem.W.findIn X.K (.ref C) f = some none) (ry : RelV y u)
    (h : ∀ dx s', H dx = none → dx ≠ a →
      Inv X pins σ (upd (upd H dx (exd dx [(f, y)])) a (exq a C (some dx) t1)) s' → Q () s') :
    wpAny (model X.prog X.w) A (setAttr (.ref a) f u) Q E s := by
  obtain ⟨newId, nm, q, N, bs, bm, sn, sub, ab, col, dd, k0, k1, k2, k3, k5, hC, ft⟩ := T.cls
  have hcl : PySem.W.clsIn X.K C = some { name := nm, bases := bs, mro := .ref C :: bm, ns := N, qualname := q, hasDict := true, slotNames := sn, subclasses := sub, abstract := ab, collection := col, hasDel := false } := by
    unfold PySem.W.clsIn
    rw [hC] <;> rfl
  have ho := exq_at I.hok e
  obtain ⟨hp, g, d, t, os⟩ := s
  refine PySem.W.set_plain I.kIn (ox := exOb C none t1) (od := none) ⟨ho, rfl, rfl, trivial⟩ T.sa ?_
  refine osaF I.kIn ho hcl rfl ft.obj ft.pass rfl hno (fun h' tk' dx k dn dne hx hn => ?_)
  have hnd : H dx = none := I.hok.fresh dn
  have nd : ∀ {b : Addr} {o : Obj}, hp.get? b = some o → b ≠ dx :=
    fun {b o} q => Nat.ne_of_lt (Nat.lt_of_lt_of_le (Heap.lt_size q) dn)
  have na : ∀ {b : Addr}, H b = none → b ≠ a := fun {b} n z => by rw [z, e] at n; cases n
  have Un1 : Un X.fs [] H (upd (upd H dx (exd dx [(f, y)])) a (exq a C (some dx) t1)) hp h' := {
    keep := fun b o q n _ _ => k b o (na n) q
    slot := fun b o q n _ _ => ⟨o.slots, k b o (na n) q⟩
    free := fun b o q n _ => ((upd_ne (na n)).trans (upd_ne (nd q))).trans n
    there := fun b o q _ => by
      by_cases hb : b = a
      · exact ⟨_, hb ▸ hx⟩
      · exact ⟨o, k b o hb q⟩
    tups := fun b xs q => ((upd_ne (at_ne e q exq_tup)).trans (upd_ne (ne_of_none q hnd))).trans q
    frzs := fun b o v q => ((upd_ne (at_ne e q exq_frz)).trans (upd_ne (ne_of_none q hnd))).trans q
    tbls := fun b ps q => ⟨#[], by rw [upd_ne (at_ne e q exq_tbl), upd_ne (ne_of_none q hnd), q]; simp⟩ }
  refine h dx _ hnd dne (I.un (t' := tk') Un1 fun b o q => ?_)
  by_cases hb : b = a
  · subst hb
    cases upd_same.symm.trans q
    exact exq_ok hx
  · rw [upd_ne hb] at q
    by_cases hd : b = dx
    · subst hd
      cases upd_same.symm.trans q
      exact exd_ok hn (relO_put (fs := []) ry fun g => True.intro)
    · rw [upd_ne hd] at q
      refine (I.hok b o q).stay (fun c v hc z => k c v ?_ z)
        (fun c hc => ((upd_ne (at_ne e hc exq_own)).trans (upd_ne (ne_of_none hc hnd))).trans hc)
        (fun c xs hc => ((upd_ne (at_ne e hc exq_tup)).trans (upd_ne (ne_of_none hc hnd))).trans hc)
      rcases hc with hc | hc
      · exact hc ▸ hb
      · exact at_ne e hc exq_own

/-- what the class stands above, from its own list -/
theorem has_of {K : PySem.W.Frag} {newId : String} {nm q : Str} {N : Addr} {bs bm : List Value} {sn : List Str}
    {sub : List Value} {ab : Bool} {col : Option Bool} {dd : Option Addr} {k0 k1 k2 k3 k5 : Option Value} {T : Value}
    (hC : K.lookup C = some (excClassObj nm q C N bs bm true sn sub ab col dd k0 k1 k2 k3 k5 newId))
    (m : PySem.W.mroIn K C T = some true) : (Value.ref C :: bm).contains T = true := by
  have hcl : PySem.W.clsIn K C = some { name := nm, bases := bs, mro := .ref C :: bm, ns := N, qualname := q, hasDict := true, slotNames := sn, subclasses := sub, abstract := ab, collection := col, hasDel := false } := by
    unfold PySem.W.clsIn
    rw [hC] <;> rfl
  unfold PySem.W.mroIn at m
  rw [hcl, Option.bind_some, if_neg (by show ¬ (false = true); decide)] at m
  exact Option.some.inj m

theorem eq_initF {B initId : String} {us : List Value} {ws : List V} {Q : Value → Shared → Prop} (J : IniF B initId)
    (T : OexF X.K C) (hB : PySem.W.mroIn X.K C (.type B) = some true) (I : Inv X pins σ H s)
    (e : H a = some (exq a C none t1)) (hl : us.length ≤ sizeLine) (rw' : Vals ws us)
    (h : ∀ t2 s', H t2 = none → t2 ≠ a → Inv X pins σ (upd (upd H t2 (.tup ws)) a (exq a C none t2)) s' → Q .none s') :
    wpAny (model X.prog X.w) A (call (.builtin initId) (.ref a :: us)) Q E s := by
  obtain ⟨newId, nm, q, N, bs, bm, sn, sub, ab, col, dd, k0, k1, k2, k3, k5, hC, ft⟩ := T.cls
  have ho := exq_at I.hok e
  obtain ⟨hp, g, d, t, os⟩ := s
  refine wpAny_call (init_argsF J (has_of hC hB) (I.kIn _ _ hC) ho hl fun h' t2 hsz k hx ht => ?_)
  have nt : H t2 = none := I.hok.fresh hsz
  have nea : t2 ≠ a := (ne_of_none e nt).symm
  have na : ∀ {b : Addr}, H b = none → b ≠ a := fun {b} n z => by rw [z, e] at n; cases n
  have nd : ∀ {b : Addr} {o : Obj}, hp.get? b = some o → b ≠ t2 :=
    fun {b o} q => Nat.ne_of_lt (Nat.lt_of_lt_of_le (Heap.lt_size q) hsz)
  have Un1 : Un X.fs [] H (upd (upd H t2 (.tup ws)) a (exq a C none t2)) hp h' := {
    keep := fun b o q n _ _ => k b o (na n) q
    slot := fun b o q n _ _ => ⟨o.slots, k b o (na n) q⟩
    free := fun b o q n _ => ((upd_ne (na n)).trans (upd_ne (nd q))).trans n
    there := fun b o q _ => by
      by_cases hb : b = a
      · exact ⟨_, hb ▸ hx⟩
      · exact ⟨o, k b o hb q⟩
    tups := fun b xs q => ((upd_ne (at_ne e q exq_tup)).trans (upd_ne (ne_of_none q nt))).trans q
    frzs := fun b o v q => ((upd_ne (at_ne e q exq_frz)).trans (upd_ne (ne_of_none q nt))).trans q
    tbls := fun b ps q => ⟨#[], by rw [upd_ne (at_ne e q exq_tbl), upd_ne (ne_of_none q nt), q]; simp⟩ }
  refine h t2 _ nt nea (I.un (t' := t) Un1 fun b o q => ?_)
  by_cases hb : b = a
  · subst hb
    cases upd_same.symm.trans q
    exact exq_ok hx
  · rw [upd_ne hb] at q
    by_cases hd : b = t2
    · subst hd
      cases upd_same.symm.trans q
      exact ⟨by rw [Paired.length rw']; exact hl, us, rw', _, ht, rfl, _, rfl⟩
    · rw [upd_ne hd] at q
      refine (I.hok b o q).stay (fun c v hc z => k c v ?_ z)
        (fun c hc => ((upd_ne (at_ne e hc exq_own)).trans (upd_ne (ne_of_none hc nt))).trans hc)
        (fun c xs hc => ((upd_ne (at_ne e hc exq_tup)).trans (upd_ne (ne_of_none hc nt))).trans hc)
      rcases hc with hc | hc
      · exact hc ▸ hb
      · exact at_ne e hc exq_own
end

/-! ### the rules -/
/-- B.__init__(self, ..) -/
def tBeq (K : PySem.W.Frag) (B : String) (ta : TA) : TE := fun σ H Q => ta σ H fun vs H1 =>
  ∃ (a C t0 : Addr) (ws : List V), vs = .ref a :: ws ∧ ws.length ≤ 1000 ∧ OexF K C ∧
    PySem.W.mroIn K C (.type B) = some true ∧ H1 a = some (exq a C none t0) ∧
    ∀ t2, H1 t2 = none → t2 ≠ a → Q .non (upd (upd H1 t2 (.tup ws)) a (exq a C none t2))
/-- self.f = e, the first attribute -/
def tEstF (K : PySem.W.Frag) (f : Str) (to te : TE) : TS := fun D σ H => te σ H fun y H1 => to σ H1 fun x H2 =>
  ∃ a C t1 : Addr, x = .ref a ∧ OexF K C ∧ PySem.W.findIn K (.ref C) f = some none ∧ H2 a = some (exq a C none t1) ∧
    ∀ dx, H2 dx = none → dx ≠ a → D.nx σ (upd (upd H2 dx (exd dx [(f, y)])) a (exq a C (some dx) t1))
/-- the names of the three bases as the text reads them -/
structure BaseNm (B : String) (x : Str) (initId : String) : Prop where
  ini : IniF B initId
  boot : bootBuiltins x = some (.type B)
  typ : typeOf (.type B) = pure (.type "type")
  stub : Manifest.isStub B = false
  hand : PySem.W.handedIn (.builtin initId) = true
  dbg : (x == ("__debug__" : Str)) = false
  nme : x ≠ "__name__"
theorem nmV : BaseNm "ValueError" "ValueError" "ValueError.__init__" :=
  ⟨iniV, PyProof.Rows.Boot.«ValueError», by kernel_rfl, by decide +kernel, by decide +kernel, by decide, by decide⟩
theorem nmL : BaseNm "LookupError" "LookupError" "LookupError.__init__" :=
  ⟨iniL, by kernel_rfl, by kernel_rfl, by decide +kernel, by decide +kernel, by decide, by decide⟩
theorem nmK : BaseNm "KeyError" "KeyError" "KeyError.__init__" :=
  ⟨iniK, by kernel_rfl, by kernel_rfl, by decide +kernel, by decide +kernel, by decide, by decide⟩

section
variable {X : Cx} {o e : Expr} {es : List Expr} {to te : TE} {ta : TA} {f : Str} {p p' p1 p2 pos : Pos}
theorem pe_beq {B initId : String} {x : Str} {pl : Sem Bool} (N : BaseNm B x initId) (hg : Gl X x) (hm : X.mg x = none)
    (vV : PySem.W.findCls X.K (.type B) (.type "type") "__init__" = some (.val (.builtin initId)))
    (ha : PA X (e :: es) ta)
    (hc : eval (.Call (.Attribute (.Name x p1) "__init__" p2) (e :: es) [] pos) X.env = (do
      let ov ← eval (.Name x p1) X.env
      standAt p2.atName
      let (f, first) ← holding [ov] (getMethod ov "__init__" pl)
      callWith pos f first (backTo pos (starEach (e :: es) X.env)) (backToKw pos (keywordEach [] X.env))) := by rfl)
    (he : starEach (e :: es) X.env = (false, eval e X.env) :: starEach es X.env := by rfl)
    (hpl : (backTo pos (starEach es X.env)).any (·.1) = false := by rfl) :
    PE X (.Call (.Attribute (.Name x p1) "__init__" p2) (e :: es) [] pos) (tBeq X.K B ta) := by
  refine ⟨fun pins s σ H Q I h => ?_⟩
  refine PySem.W.methodCall_KW (ld_blt I hg hm N.boot ?_ N.nme N.dbg) hc
  obtain ⟨m, fr⟩ := I.fr
  refine PySem.W.method_type fr I.ok.mod.kin N.typ N.stub vV N.hand ?_
  refine PyProof.Rows.callWith_method1 (first := []) (thn (ha.run pos pins _ σ H _ (I.tok _) h)
    fun us s1 ⟨vs, H1, I1, r1, a, C, t0, ws, ev, hl, T, hB, ea, q⟩ => ?_) he hpl
  subst ev
  cases r1 with
  | @cons _ u0 _ ur ra rw' =>
    obtain rfl : u0 = Value.ref a := ra
    have hlen : ur.length ≤ sizeLine := by
      rw [← Paired.length rw', sizeLine_eq]
      omega
    exact eq_initF N.ini T hB I1 ea hlen rw' fun t2 s' n1 n2 J => ⟨.non, _, J, rfl, q t2 n1 n2⟩

theorem ps_estF (ho : PE X o to) (he : PE X e te)
    (hs : swapsWith e (some (.Attribute o f p')) pos.line X.env = pure false := by rfl) :
    PS X (.Assign [.Attribute o f p'] e pos) (tEstF X.K f to te) := by
  refine ⟨fun pins s σ H D I h => ?_⟩
  refine plainObj_wpAny_Assign_Attribute (thn (he.run pins s σ H _ I h) fun v s1 ⟨y, H1, I1, r1, q1⟩ =>
    thn (ho.run pins s1 σ H1 _ I1 q1) fun u s2 ⟨x, H2, I2, r2, a, C, t1, ex, T, hno, ea, q⟩ => ?_) hs
  subst ex
  obtain rfl : u = Value.ref a := r2
  exact eq_newF T I2 ea hno r1 fun dx s' n ne J => ⟨σ, _, J, q dx n ne⟩

/-- the class called, its own __init__ keeping sp: us by place, kw by name; as: what its __init__ binds behind self -/
theorem own_call {pins : List (Addr × Obj)} {σ : L2.St} {H1 : Hp} {s1 : Shared} {C fI : Addr} {k : Nat} {CX : CXT} {fd : FuncData}
    {ps : List Str} {sp : Sp} {us as : List Value} {kw : List (Str × Value)} {vs avs : List V} {Q : VK} (T : OexF X.K C)
    (iC : PySem.W.findIn X.K (.ref C) "__init__" = some (some (.ref fI)))
    (tI : PySem.W.typeIn X.K (.ref fI) = some (.type "function"))
    (F1 : FnOk X.prog X.w X.K X.mg X.base CX k fI fd ps sp) (hr : Room (k + 1) X.A)
    (hb : ∀ (s : Shared) (self : Value), X.K.In s.heap → (self :: as).length = ps.length →
      BindsTo s fd ⟨self :: us, kw⟩ (ps.zip (self :: as)))
    (hx : Passes CX X (fun _ _ _ => False)) (I1 : Inv X pins σ H1 s1) (r1 : Vals vs us) (r2 : Vals avs as)
    (hz : vs.length ≤ 1000)
    (q1 : ∀ t0 a, H1 t0 = none → H1 a = none → t0 ≠ a →
      sp (.ref a :: avs) (upd (upd H1 t0 (.tup vs)) a (exq a C none t0))
        (fun v H2 => v = .non ∧ Q (.ref a) H2) (fun _ _ _ => False)) :
    wpAny (model X.prog X.w) X.A (call (.ref C) us kw) (EP X pins σ Q) X.xe s1 := by
  obtain ⟨newId, nm, q, N, bs, bm, sn, sub, ab, col, dd, k0, k1, k2, k3, k5, hC, ft⟩ := T.cls
  obtain ⟨B, i, bmB, EF, hB⟩ := ft.maker
  obtain ⟨hp, g, dr, tk, os⟩ := s1
  have n0 : H1 hp.objs.size = none := I1.hok.fresh (Nat.le_refl _)
  have n1 : H1 (hp.objs.size + 1) = none := I1.hok.fresh (Nat.le_succ _)
  have hne : hp.objs.size ≠ hp.objs.size + 1 := Nat.ne_of_lt (Nat.lt_succ_self _)
  have hq := q1 hp.objs.size (hp.objs.size + 1) n0 n1 hne
  have hus : us.length ≤ sizeLine := by
    rw [← Paired.length r1, sizeLine_eq]
    omega
  have I2 : Inv X pins σ (upd H1 hp.objs.size (.tup vs)) ⟨hp.push (PySem.W.kdv_tup us), g, dr, tk, os⟩ :=
    I1.laid (t' := tk) (a := hp.objs.size) (o := .tup vs) (h' := hp.push (PySem.W.kdv_tup us))
      (fun b o z => Heap.get?_push_of_some _ z) (Nat.le_refl _)
      ⟨by rw [Paired.length r1]; exact hus, us, r1, _, Heap.get?_push_size _ rfl, rfl, _, rfl⟩
  have hget : ((hp.push (PySem.W.kdv_tup us)).push (exOb C none hp.objs.size)).get? (hp.objs.size + 1) =
      some (exOb C none hp.objs.size) := by heap_get
  have hsz2 : (hp.push (PySem.W.kdv_tup us)).objs.size ≤ hp.objs.size + 1 := by
    simp [Heap.push]
  have I3 : Inv X pins σ (upd (upd H1 hp.objs.size (.tup vs)) (hp.objs.size + 1) (exq (hp.objs.size + 1) C none hp.objs.size))
      ⟨(hp.push (PySem.W.kdv_tup us)).push (exOb C none hp.objs.size), g, dr, tk, os⟩ :=
    I2.laid (t' := tk) (a := hp.objs.size + 1) (o := exq (hp.objs.size + 1) C none hp.objs.size)
      (h' := (hp.push (PySem.W.kdv_tup us)).push (exOb C none hp.objs.size))
      (fun b o z => Heap.get?_push_of_some _ z) hsz2 (exq_ok hget)
  have r3 : Vals (V.ref (hp.objs.size + 1) :: avs) (Value.ref (hp.objs.size + 1) :: as) := .cons rfl r2
  have hl : (Value.ref (hp.objs.size + 1) :: as).length = ps.length :=
    r3.length.symm.trans (F1.len _ _ _ _ hq)
  refine wpAny_call (call_ownF EF hB ft.noA ft.noN (I1.kIn _ _ hC) (PySem.W.looks_findIn I1.kIn iC)
    (fun self => PySem.W.bind_fn I1.kIn self tI) hus
    (codeAny_mono (F1.run _ X.stack _ _ ⟨Value.ref (hp.objs.size + 1) :: us, kw⟩
      (Value.ref (hp.objs.size + 1) :: as) _ _ (fun _ _ _ => False) (hr.make C us kw) (I3.env0.make C us kw)
      (hb _ (Value.ref (hp.objs.size + 1)) I3.kIn hl) r3 hq) fun r s' hq' => ?_))
  match r, hq' with
  | .error er, hq' => exact hx pins σ _ _ er s' I3 hq'
  | .ok (.ret u), hq' =>
    obtain ⟨v, H', I4, rv, ev, q3⟩ := I3.after hq'
    subst ev
    exact ⟨rv, ⟨V.ref (hp.objs.size + 1), H', I4, rfl, q3⟩⟩
  | .ok .next, hq' => exact False.elim hq'
  | .ok .brk, hq' => exact False.elim hq'
  | .ok .cont, hq' => exact False.elim hq'

/-- C(e, ..) -/
theorem pe_mkqF {x : Str} {C fI : Addr} {k : Nat} {CX : CXT} {fd : FuncData} {ps : List Str} {sp : Sp}
    {ds : List Value} {dvs : List V} (T : OexF X.K C)
    (iC : PySem.W.findIn X.K (.ref C) "__init__" = some (some (.ref fI)))
    (tI : PySem.W.typeIn X.K (.ref fI) = some (.type "function"))
    (F1 : FnOk X.prog X.w X.K X.mg X.base CX k fI fd ps sp) (hr : Room (k + 1) X.A) (hb : Binds X.K fd ps ds)
    (hd : Vals dvs ds) (hx : Passes CX X (fun _ _ _ => False)) (hg : Gl X x) (hm : X.mg x = some (.ref C))
    (ha : PA X (e :: es) ta) (hdb : (x == ("__debug__" : Str)) = false := by decide)
    (he : starEach (e :: es) X.env = (false, eval e X.env) :: starEach es X.env := by rfl)
    (hpl : (backTo pos (starEach es X.env)).any (·.1) = false := by rfl) :
    PE X (.Call (.Name x p) (e :: es) [] pos) (tMkq C sp dvs ta) := by
  refine ⟨fun pins s σ H Q I h => ?_⟩
  refine wpAny_Call_Name_kw (ld_glob I hg hm ?_ hdb)
  exact PySem.W.callWith_K (h₀ := X.base) I.ok.mod.kin T.kC
    (thn (ha.run pos pins s σ H _ I h) fun us s1 ⟨vs, H1, I1, r1, hz, q1⟩ =>
      ⟨I1.kIn, own_call T iC tI F1 hr (fun s self X hl => hb s (self :: us) X hl) hx I1 r1 (r1.append hd) hz q1⟩) he hpl

/-- C(f = e): by the name of its field -/
def tMkqK (C : Addr) (sp : Sp) (te : TE) : TE := fun σ H Q => tCons te tNil σ H fun zs H1 => ∃ v, zs = [v] ∧
  ∀ t0 a, H1 t0 = none → H1 a = none → t0 ≠ a →
    sp [.ref a, v] (upd (upd H1 t0 (.tup [])) a (exq a C none t0)) (fun v H2 => v = .non ∧ Q (.ref a) H2) (fun _ _ _ => False)
theorem pe_mkqK {x n self : Str} {C fI : Addr} {k : Nat} {CX : CXT} {fd : FuncData} {sp : Sp} {kp : Pos} (T : OexF X.K C)
    (iC : PySem.W.findIn X.K (.ref C) "__init__" = some (some (.ref fI)))
    (tI : PySem.W.typeIn X.K (.ref fI) = some (.type "function"))
    (F1 : FnOk X.prog X.w X.K X.mg X.base CX k fI fd [self, n] sp) (hr : Room (k + 1) X.A)
    (hb : ∀ (s : Shared) (a b : Value), X.K.In s.heap → BindsTo s fd ⟨[a], [(n, b)]⟩ [(self, a), (n, b)])
    (hx : Passes CX X (fun _ _ _ => False)) (hg : Gl X x) (hm : X.mg x = some (.ref C))
    (he : PE X e te) (hdb : (x == ("__debug__" : Str)) = false := by decide)
    (hall : (backToKw pos (keywordEach [⟨some n, e, kp⟩] X.env)).all (·.1.isSome) = true := by rfl)
    (hks : (backToKw pos (keywordEach [⟨some n, e, kp⟩] X.env)).filterMap (·.1) = [n] := by rfl)
    (hpl : ((backTo pos (starEach [] X.env)).any (·.1) || (backToKw pos (keywordEach [⟨some n, e, kp⟩] X.env)).any (·.1.isNone)) = false := by rfl) :
    PE X (.Call (.Name x p) [] [⟨some n, e, kp⟩] pos) (tMkqK C sp te) := by
  refine ⟨fun pins s σ H Q I h => ?_⟩
  refine wpAny_Call_Name_kw (ld_glob I hg hm ?_ hdb)
  refine PySem.W.callWith_KW0 (h₀ := X.base) I.ok.mod.kin T.kC hall ?_ hpl
  have P : PK X [⟨some n, e, kp⟩] (tCons te tNil) := pk_cons he pk_nil
  refine thn (P.run pos pins s σ H _ I h) fun ws s2 ⟨zs, H2, I2, rz, v, ev, q2⟩ => ⟨I2.kIn, ?_⟩
  subst ev
  obtain ⟨u, rfl, ru⟩ : ∃ u, ws = [u] ∧ RelV v u := by
    cases rz with
    | cons r1 r2 => cases r2; exact ⟨_, rfl, r1⟩
  rw [hks]
  exact own_call (us := []) (as := [u]) T iC tI F1 hr (fun s a X _ => hb s a u X) hx I2 .nil (.cons ru .nil) (Nat.zero_le _) q2

/-- e.f, the error at e with its dict -/
def tQget (K : PySem.W.Frag) (f : Str) (te : TE) : TE := fun σ H Q => te σ H fun x H1 =>
  ∃ (a C d t : Addr) (fs : List (Str × V)) (v : V), x = .ref a ∧ XfC K C ∧ PySem.W.findIn K (.ref C) f = some none ∧
    H1 a = some (exq a C (some d) t) ∧ H1 d = some (exd d fs) ∧ fs.lookup f = some v ∧ Q v H1
theorem pe_qget {te : TE} (he : PE X e te)
    (hb : attributeBase e f X.env (eval e X.env) = eval e X.env := by rfl) :
    PE X (.Attribute e f pos) (tQget X.K f te) := by
  refine ⟨fun pins s σ H Q I h => ?_⟩
  refine attr_of hb (thn (he.run pins s σ H _ I h) fun u s1 hh => ?_)
  obtain ⟨x, H1, I1, rx, a, C, dd, t, fs, v, rfl, T, hno, ea, ed, l, q⟩ := hh
  obtain rfl : u = Value.ref a := rx
  obtain ⟨mA, hns, hr⟩ := exd_at I1.hok ed
  obtain ⟨od, ho, hl⟩ := lookIn_ns hns
  obtain ⟨u, hu, ru⟩ := RelO.some_of (v := v) (o := mA f) (by rw [← l]; exact hr f)
  have J : PySem.W.InstAt s1.heap a (exOb C (some dd) t) C (some od) := ⟨exq_at I1.hok ea, rfl, rfl, ho⟩
  exact PySem.HandSPX.exc_get I1.kIn J T.ga T.gg T.exC (PySem.W.findObj_own T.hdC hno rfl (by rw [hl, hu])) (handed_of ru)
    ⟨v, H1, I1.tok _, ru, q⟩
end

/-! ### isinstance, the error may be without a dict -/
inductive TyE (K : PySem.W.Frag) (H : Hp) : V → Value → Prop where
  | base {x : V} {t : Value} (h : TyQ K H x t) : TyE K H x t
  | bare {a D t : Addr} (e : H a = some (exq a D none t)) (c : ExcC K D) : TyE K H (.ref a) (.ref D)
def rIsE2 (K : PySem.W.Frag) : List V → Hp → VK → Prop := fun xs H Q => ∃ (x c : V) (t u : Value) (b : Bool),
  xs = [x, c] ∧ ClsV c u ∧ TyE K H x t ∧ PySem.W.kitOne K t u = some b ∧ Q (.bl b) H
theorem call_ise {X : Cx} : CallR X (.builtin "isinstance") (rIsE2 X.K) := by
  intro pins s σ H xs us Q I r h
  obtain ⟨x, c, t, u, b, rfl, k, ty, e, q⟩ := h
  cases ty with
  | base ty => exact call_isa pins s σ H _ us Q I r ⟨x, c, t, u, b, rfl, k, ty, e, q⟩
  | bare ex C =>
    obtain ⟨u1, u2, rfl, r1, r2⟩ := vals2 r
    obtain rfl := k.eq r2
    obtain rfl : u1 = Value.ref _ := r1
    have ha := exq_at I.hok ex
    refine PySem.W.kia_one (PySem.W.handS_kitx_exc C.hg C.hk C.hs C.hd C.ha C.hn C.ht C.hm) I.kIn ⟨ha, rfl, rfl, trivial⟩ e (fun z => nomatch z)
      fun tk => ⟨.bl b, H, I.tok tk, rfl, q⟩
end Pw

/-! Such an error is raised: what was known of it as a value is let go, its dict stands as an error's dict. -/
namespace Pw
open PySem PySem.Spec PyProof.Rows L2
theorem exd_frz' {e : Addr} {fs : List (Str × V)} {o : Obj} {u : HO} : exd e fs ≠ .frz o u := fun z => by
  have z' : HO.ext _ = HO.frz o u := z
  cases z'
theorem exd_tbl' {e : Addr} {fs : List (Str × V)} {ps : Array Value} : exd e fs ≠ .tbl ps := fun z => by
  have z' : HO.ext _ = HO.tbl ps := z
  cases z'
section
variable {X : Cx} {pins : List (Addr × Obj)} {σ : L2.St} {H : Hp} {s : Shared}
theorem toXd {d : Addr} {fs : List (Str × V)} (I : Inv X pins σ H s) (ed : H d = some (exd d fs)) :
    Inv X pins σ (upd H d (.xd fs)) s := by
  have nd : ∀ {b : Addr}, H b = none → b ≠ d := fun {b} n z => by rw [z, ed] at n; cases n
  have U : Un X.fs [] H (upd H d (.xd fs)) s.heap s.heap := {
    keep := fun b o q n _ _ => q
    slot := fun b o q n _ _ => ⟨o.slots, q⟩
    free := fun b o q n _ => (upd_ne (nd n)).trans n
    there := fun b o q _ => ⟨o, q⟩
    tups := fun b xs q => (upd_ne (at_ne ed q exd_tup)).trans q
    frzs := fun b o v q => (upd_ne (at_ne ed q exd_frz')).trans q
    tbls := fun b ps q => ⟨#[], by rw [upd_ne (at_ne ed q exd_tbl'), q]; simp⟩ }
  have hk : HOk X.prog X.w (upd H d (.xd fs)) s.heap := fun b o q => by
    by_cases hb : b = d
    · subst hb
      cases upd_same.symm.trans q
      exact exd_at I.hok ed
    · rw [upd_ne hb] at q
      exact (I.hok b o q).stay (fun c v _ z => z) (fun c hc => (upd_ne (at_ne ed hc exd_own)).trans hc)
        (fun c xs hc => (upd_ne (at_ne ed hc exd_tup)).trans hc)
  exact I.un (t' := s.toks) U hk
/-- what is asked where such an error is raised -/
def tRq (H0 : Hp) (K0 : PySem.W.Frag) (te : TE) : L2.St → Hp → XK → Prop := fun σ H Q => te σ H fun x H1 => ∃ a C t : Addr, x = .ref a ∧ Fr0 H0 a ∧
  PySem.W.subIn K0 (.ref C) (.type "BaseException") = some true ∧ PySem.W.typeIn K0 (.ref C) = some (.type "type") ∧ ((H1 a = some (exq a C none t) ∧ Q (.ref C) none (delH H1 a)) ∨
    ∃ (d : Addr) (fs : List (Str × V)), d ≠ a ∧ H1 a = some (exq a C (some d) t) ∧ H1 d = some (exd d fs) ∧
      Q (.ref C) (some d) (upd (delH H1 a) d (.xd fs)))
theorem pmk_q {e : Expr} {te : TE} {H0 : Hp} {K0 : PySem.W.Frag} (hH : X.H_0 = H0) (hK : X.K = K0) (hx : X.ex = []) (he : PE X e te) : PMk X e (tRq H0 K0 te) := by
  subst hH
  subst hK
  intro pins s σ H Q I h
  refine wpAny_mono (he.run pins s σ H _ I h) (fun u s1 hu => ?_) fun _ _ x => x
  obtain ⟨v, H1, I1, r1, a, C, t, rfl, h0, r2, r3, q | ⟨d, fs, hda, ea, ed, q⟩⟩ := hu
  · have hr : Raises X (.ref C) := raises_own r2 r3
    obtain ⟨ea, q⟩ := q
    cases r1
    have ho := exq_at I1.hok ea
    obtain ⟨G, gs, ga, J⟩ := I1.untrack ea h0 hx
    exact ⟨a, _, _, { s1 with heap := G }, delH H1 a, .ref C, none, rfl, J, gs, ga, ho, ⟨rfl, rfl⟩, rfl, rfl, delH_same, rfl, I1.bare, hr, q⟩
  · have hr : Raises X (.ref C) := raises_own r2 r3
    cases r1
    have ho := exq_at I1.hok ea
    obtain ⟨G, gs, ga, J⟩ := I1.untrack ea h0 hx
    have J2 := toXd (d := d) (fs := fs) J ((delH_ne hda).trans ed)
    exact ⟨a, _, _, { s1 with heap := G }, upd (delH H1 a) d (.xd fs), .ref C, some d, rfl, J2, gs, ga, ho, ⟨rfl, rfl⟩, rfl, rfl,
      (upd_ne hda.symm).trans delH_same, rfl, I1.bare, hr, q⟩
end
end Pw

/-! The refusals: how each is made. -/
namespace K3
open PySem PySem.Spec PyProof.Rows L2 Pw
def top (i : Nat) : Stmt := PySem.Challenge.pw_panelwatch_k03_refusals_apart.main.body.getD i (.Pass ⟨0, 0, 0, 0⟩)
/-- a family of refusals, by its name: read as a class, and made -/
structure Fam (K : PySem.W.Frag) (mg : Str → Option Value) (x : Str) (q : Str) (B : String) (st : Stmt) (C f : Addr) : Prop where
  mgC : mg x = some (.ref C)
  oex : OexF K C
  hB : PySem.W.mroIn K C (.type B) = some true
  sg : PySem.W.specialIn K (.ref C) "__getattribute__" = some (some (.builtin "type.__getattribute__"))
  rd : PySem.W.readsIn K C (.type "type") = true
  at_ : PySem.W.findCls K (.ref C) (.type "type") "__init__" = some (.val (.ref f))
  iC : PySem.W.findIn K (.ref C) "__init__" = some (some (.ref f))
  tI : PySem.W.typeIn K (.ref f) = some (.type "function")
  fn : ∃ fd, Fun K "__init__" q st f fd
/-- how a built-in base's __init__ is read -/
structure Bas (K : PySem.W.Frag) (mg : Str → Option Value) (B : String) (x : Str) (initId : String) : Prop where
  nm : BaseNm B x initId
  free : mg x = none
  vV : PySem.W.findCls K (.type B) (.type "type") "__init__" = some (.val (.builtin initId))
/-- a refusal's class as it stands -/
structure Cl (K : PySem.W.Frag) (mg : Str → Option Value) (x q field : Str) (B : String) (st : Stmt) (C : Addr) : Prop where
  mgC : mg x = some (.ref C)
  oex : OexF K C
  hB : PySem.W.mroIn K C (.type B) = some true
  nF : PySem.W.findIn K (.ref C) field = some none
  fn : ∃ f fd, PySem.W.findIn K (.ref C) "__init__" = some (some (.ref f)) ∧
    PySem.W.typeIn K (.ref f) = some (.type "function") ∧ Fun K "__init__" q st f fd

section
variable {P : Program} {w : World} {K : PySem.W.Frag} {mg : Str → Option Value} {base : Heap}
/-- a family's __init__(self, text) -/
def spFam (K : PySem.W.Frag) (B : String) : Sp := fun vs H Q _ => ∃ a C t0 x, vs = [.ref a, .str x] ∧ OexF K C ∧
  PySem.W.mroIn K C (.type B) = some true ∧ H a = some (exq a C none t0) ∧
  ∀ t2, H t2 = none → t2 ≠ a → Q .non (upd (upd H t2 (.tup [.str x])) a (exq a C none t2))
/-- a refusal's __init__(self, field): the text x0 becomes its args -/
def spX (K : PySem.W.Frag) (B : String) (field x0 : Str) : Sp := fun vs H Q _ => ∃ a C t0 y, vs = [.ref a, y] ∧ OexF K C ∧
  PySem.W.mroIn K C (.type B) = some true ∧ H a = some (exq a C none t0) ∧
  PySem.W.findIn K (.ref C) field = some none ∧
  ∀ t2 dx, H t2 = none → t2 ≠ a → H dx = none → dx ≠ a → dx ≠ t2 →
    Q .non (upd (upd (upd (upd H t2 (.tup [.str x0])) a (exq a C none t2)) dx (exd dx [(field, y)])) a (exq a C (some dx) t2))
theorem fin_x {field x0 : Str} {H : Hp} {a C : Addr} {y : V} {Q : V → Hp → Prop} {σ : L2.St}
    {D : Ends} (hD : ∀ H', Q .non H' → D.nx σ H')
    (k : ∀ t2 dx, H t2 = none → t2 ≠ a → H dx = none → dx ≠ a → dx ≠ t2 →
      Q .non (upd (upd (upd (upd H t2 (.tup [.str x0])) a (exq a C none t2)) dx (exd dx [(field, y)])) a (exq a C (some dx) t2)))
    {t2 : Addr} (n2 : H t2 = none) (ne : t2 ≠ a) {dx : Addr}
    (nx : upd (upd H t2 (.tup [.str x0])) a (exq a C none t2) dx = none) (nxa : dx ≠ a) :
    D.nx σ (upd (upd (upd (upd H t2 (.tup [.str x0])) a (exq a C none t2)) dx (exd dx [(field, y)])) a (exq a C (some dx) t2)) := by
  have e1 : dx ≠ t2 := fun z => by
    rw [z, upd_ne ne, upd_same] at nx
    cases nx
  have e2 : H dx = none := by
    rw [upd_ne nxa, upd_ne e1] at nx
    exact nx
  exact hD _ (k t2 dx n2 ne e2 nxa e1)
/-- a class that makes refusals -/
structure Mk3 (P : Program) (w : World) (K : PySem.W.Frag) (mg : Str → Option Value) (base : Heap) (x : Str) (C : Addr) (B : String)
    (field txt : Str) : Prop where
  mgC : mg x = some (.ref C)
  oex : OexF K C
  hB : PySem.W.mroIn K C (.type B) = some true
  nF : PySem.W.findIn K (.ref C) field = some none
  fn : ∃ f fd, PySem.W.findIn K (.ref C) "__init__" = some (some (.ref f)) ∧
    PySem.W.typeIn K (.ref f) = some (.type "function") ∧
    FnOk P w K mg base CX0 2 f fd ["self", field] (spX K B field txt) ∧ Binds K fd ["self", field] [] ∧
    ∀ (s : Shared) (a b : Value), K.In s.heap → BindsTo s fd ⟨[a], [(field, b)]⟩ [("self", a), (field, b)]
abbrev s1 : Stmt := inClass (top 1) 0
theorem sc1 : FnScope ["self", "text"] ["self", "text"] (defScope s1) := ⟨rfl, rfl, rfl, by decide +kernel, rfl, by decide +kernel, by decide +kernel⟩
theorem ok1 {f : Addr} {fd : FuncData} (N : Bas K mg "ValueError" "ValueError" "ValueError.__init__") (F : Fun K "__init__" "PanelError.__init__" s1 f fd) :
    FnOk P w K mg base CX0 1 f fd ["self", "text"] (spFam K "ValueError") := by
  refine F.ok sc1 (fun vs H Q E ⟨a, C, t0, x, e, _⟩ => by rw [e]; rfl) (fun cdv A outer s H vs Q E hr h => ?_)
  obtain ⟨a, C, t0, x, rfl, T, hB, ea, k⟩ := h
  refine ⟨_, pss_one (ps_expr (pe_beq N.nm (by rfl) N.free N.vV (pa_cons (pv 0) (pa_cons (pv 1) pa_nil)))), ?_⟩
  exact ⟨_, rfl, _, rfl, a, C, t0, [.str x], rfl, (by show 1 ≤ 1000; decide), T, hB, ea, k⟩
abbrev s2 : Stmt := inClass (top 2) 0
theorem sc2 : FnScope ["self", "text"] ["self", "text"] (defScope s2) := ⟨rfl, rfl, rfl, by decide +kernel, rfl, by decide +kernel, by decide +kernel⟩
theorem ok2 {f : Addr} {fd : FuncData} (N : Bas K mg "KeyError" "KeyError" "KeyError.__init__") (F : Fun K "__init__" "Absent.__init__" s2 f fd) :
    FnOk P w K mg base CX0 1 f fd ["self", "text"] (spFam K "KeyError") := by
  refine F.ok sc2 (fun vs H Q E ⟨a, C, t0, x, e, _⟩ => by rw [e]; rfl) (fun cdv A outer s H vs Q E hr h => ?_)
  obtain ⟨a, C, t0, x, rfl, T, hB, ea, k⟩ := h
  refine ⟨_, pss_one (ps_expr (pe_beq N.nm (by rfl) N.free N.vV (pa_cons (pv 0) (pa_cons (pv 1) pa_nil)))), ?_⟩
  exact ⟨_, rfl, _, rfl, a, C, t0, [.str x], rfl, (by show 1 ≤ 1000; decide), T, hB, ea, k⟩
abbrev s3 : Stmt := inClass (top 3) 0
theorem sc3 : FnScope ["self", "text"] ["self", "text"] (defScope s3) := ⟨rfl, rfl, rfl, by decide +kernel, rfl, by decide +kernel, by decide +kernel⟩
theorem ok3 {f : Addr} {fd : FuncData} (N : Bas K mg "LookupError" "LookupError" "LookupError.__init__") (F : Fun K "__init__" "Barred.__init__" s3 f fd) :
    FnOk P w K mg base CX0 1 f fd ["self", "text"] (spFam K "LookupError") := by
  refine F.ok sc3 (fun vs H Q E ⟨a, C, t0, x, e, _⟩ => by rw [e]; rfl) (fun cdv A outer s H vs Q E hr h => ?_)
  obtain ⟨a, C, t0, x, rfl, T, hB, ea, k⟩ := h
  refine ⟨_, pss_one (ps_expr (pe_beq N.nm (by rfl) N.free N.vV (pa_cons (pv 0) (pa_cons (pv 1) pa_nil)))), ?_⟩
  exact ⟨_, rfl, _, rfl, a, C, t0, [.str x], rfl, (by show 1 ≤ 1000; decide), T, hB, ea, k⟩
abbrev s6 : Stmt := inClass (top 6) 0
theorem sc6 : FnScope ["self", "found"] ["self", "found"] (defScope s6) := ⟨rfl, rfl, rfl, by decide +kernel, rfl, by decide +kernel, by decide +kernel⟩
theorem mk6 {C CB fB : Addr} (N : Bas K mg "ValueError" "ValueError" "ValueError.__init__") (B : Fam K mg "PanelError" "PanelError.__init__" "ValueError" s1 CB fB)
    (E : Cl K mg "NoTime" "NoTime.__init__" "found" "ValueError" s6 C) : Mk3 P w K mg base "NoTime" C "ValueError" "found" "this is no time that will do" := by
  obtain ⟨f, fd, i1, t1, F⟩ := E.fn
  obtain ⟨fdB, FB⟩ := B.fn
  have bB := FB.binds (ps := ["self", "text"]) fun _ _ _ _ _ _ us hl => match us, hl with | [_, _], _ => rfl
  have G : FnOk P w K mg base CX0 1 fB fdB ["self", "text"] (spFam K "ValueError") := ok1 N FB
  have G2 : FnOk P w K mg base CX0 2 f fd ["self", "found"] (spX K "ValueError" "found" "this is no time that will do") := by
    refine F.ok sc6 (fun vs H Q E ⟨a, C, t0, x, e, _⟩ => by rw [e]; rfl) (fun cdv A outer s H vs Q E hr h => ?_)
    obtain ⟨a, C, t0, y, rfl, T, hB, ea, nF, k⟩ := h
    refine ⟨_, pss_cons (ps_expr (pe_off (by rfl) B.mgC B.sg B.rd B.at_ FB.kp G hr bB .nil pass0 (pa_cons (pv 0) (pa_cons pe_str pa_nil))))
      (pss_one (ps_estF (pv 0) (pv 1))), ?_⟩
    refine ⟨_, rfl, a, C, t0, _, rfl, T, hB, ea, fun t2 n2 ne => ?_⟩
    exact ⟨_, rfl, _, rfl, a, C, t2, rfl, T, nF, upd_same, fun dx nx nxa => fin_x (fun _ q => q) k n2 ne nx nxa⟩
  refine ⟨E.mgC, E.oex, E.hB, E.nF, f, fd, i1, t1, G2, F.binds fun _ _ _ _ _ _ us hl => match us, hl with | [_, _], _ => rfl, fun s a b _ => ?_⟩
  obtain ⟨oc, od, kV, doc, pm, an, cdv, ct, osl, rfl, lk, hcd⟩ := F.ex
  exact .of_eq rfl
abbrev s7 : Stmt := inClass (top 7) 0
theorem sc7 : FnScope ["self", "found"] ["self", "found"] (defScope s7) := ⟨rfl, rfl, rfl, by decide +kernel, rfl, by decide +kernel, by decide +kernel⟩
theorem mk7 {C CB fB : Addr} (N : Bas K mg "ValueError" "ValueError" "ValueError.__init__") (B : Fam K mg "PanelError" "PanelError.__init__" "ValueError" s1 CB fB)
    (E : Cl K mg "NoWorth" "NoWorth.__init__" "found" "ValueError" s7 C) : Mk3 P w K mg base "NoWorth" C "ValueError" "found" "this is no worth" := by
  obtain ⟨f, fd, i1, t1, F⟩ := E.fn
  obtain ⟨fdB, FB⟩ := B.fn
  have bB := FB.binds (ps := ["self", "text"]) fun _ _ _ _ _ _ us hl => match us, hl with | [_, _], _ => rfl
  have G : FnOk P w K mg base CX0 1 fB fdB ["self", "text"] (spFam K "ValueError") := ok1 N FB
  have G2 : FnOk P w K mg base CX0 2 f fd ["self", "found"] (spX K "ValueError" "found" "this is no worth") := by
    refine F.ok sc7 (fun vs H Q E ⟨a, C, t0, x, e, _⟩ => by rw [e]; rfl) (fun cdv A outer s H vs Q E hr h => ?_)
    obtain ⟨a, C, t0, y, rfl, T, hB, ea, nF, k⟩ := h
    refine ⟨_, pss_cons (ps_expr (pe_off (by rfl) B.mgC B.sg B.rd B.at_ FB.kp G hr bB .nil pass0 (pa_cons (pv 0) (pa_cons pe_str pa_nil))))
      (pss_one (ps_estF (pv 0) (pv 1))), ?_⟩
    refine ⟨_, rfl, a, C, t0, _, rfl, T, hB, ea, fun t2 n2 ne => ?_⟩
    exact ⟨_, rfl, _, rfl, a, C, t2, rfl, T, nF, upd_same, fun dx nx nxa => fin_x (fun _ q => q) k n2 ne nx nxa⟩
  refine ⟨E.mgC, E.oex, E.hB, E.nF, f, fd, i1, t1, G2, F.binds fun _ _ _ _ _ _ us hl => match us, hl with | [_, _], _ => rfl, fun s a b _ => ?_⟩
  obtain ⟨oc, od, kV, doc, pm, an, cdv, ct, osl, rfl, lk, hcd⟩ := F.ex
  exact .of_eq rfl
abbrev s8 : Stmt := inClass (top 8) 0
theorem sc8 : FnScope ["self", "found"] ["self", "found"] (defScope s8) := ⟨rfl, rfl, rfl, by decide +kernel, rfl, by decide +kernel, by decide +kernel⟩
theorem mk8 {C CB fB : Addr} (N : Bas K mg "ValueError" "ValueError" "ValueError.__init__") (B : Fam K mg "PanelError" "PanelError.__init__" "ValueError" s1 CB fB)
    (E : Cl K mg "NoMark" "NoMark.__init__" "found" "ValueError" s8 C) : Mk3 P w K mg base "NoMark" C "ValueError" "found" "this is no mark" := by
  obtain ⟨f, fd, i1, t1, F⟩ := E.fn
  obtain ⟨fdB, FB⟩ := B.fn
  have bB := FB.binds (ps := ["self", "text"]) fun _ _ _ _ _ _ us hl => match us, hl with | [_, _], _ => rfl
  have G : FnOk P w K mg base CX0 1 fB fdB ["self", "text"] (spFam K "ValueError") := ok1 N FB
  have G2 : FnOk P w K mg base CX0 2 f fd ["self", "found"] (spX K "ValueError" "found" "this is no mark") := by
    refine F.ok sc8 (fun vs H Q E ⟨a, C, t0, x, e, _⟩ => by rw [e]; rfl) (fun cdv A outer s H vs Q E hr h => ?_)
    obtain ⟨a, C, t0, y, rfl, T, hB, ea, nF, k⟩ := h
    refine ⟨_, pss_cons (ps_expr (pe_off (by rfl) B.mgC B.sg B.rd B.at_ FB.kp G hr bB .nil pass0 (pa_cons (pv 0) (pa_cons pe_str pa_nil))))
      (pss_one (ps_estF (pv 0) (pv 1))), ?_⟩
    refine ⟨_, rfl, a, C, t0, _, rfl, T, hB, ea, fun t2 n2 ne => ?_⟩
    exact ⟨_, rfl, _, rfl, a, C, t2, rfl, T, nF, upd_same, fun dx nx nxa => fin_x (fun _ q => q) k n2 ne nx nxa⟩
  refine ⟨E.mgC, E.oex, E.hB, E.nF, f, fd, i1, t1, G2, F.binds fun _ _ _ _ _ _ us hl => match us, hl with | [_, _], _ => rfl, fun s a b _ => ?_⟩
  obtain ⟨oc, od, kV, doc, pm, an, cdv, ct, osl, rfl, lk, hcd⟩ := F.ex
  exact .of_eq rfl
abbrev s9 : Stmt := inClass (top 9) 0
theorem sc9 : FnScope ["self", "found"] ["self", "found"] (defScope s9) := ⟨rfl, rfl, rfl, by decide +kernel, rfl, by decide +kernel, by decide +kernel⟩
theorem mk9 {C CB fB : Addr} (N : Bas K mg "ValueError" "ValueError" "ValueError.__init__") (B : Fam K mg "PanelError" "PanelError.__init__" "ValueError" s1 CB fB)
    (E : Cl K mg "NoNumber" "NoNumber.__init__" "found" "ValueError" s9 C) : Mk3 P w K mg base "NoNumber" C "ValueError" "found" "this is no number that will do" := by
  obtain ⟨f, fd, i1, t1, F⟩ := E.fn
  obtain ⟨fdB, FB⟩ := B.fn
  have bB := FB.binds (ps := ["self", "text"]) fun _ _ _ _ _ _ us hl => match us, hl with | [_, _], _ => rfl
  have G : FnOk P w K mg base CX0 1 fB fdB ["self", "text"] (spFam K "ValueError") := ok1 N FB
  have G2 : FnOk P w K mg base CX0 2 f fd ["self", "found"] (spX K "ValueError" "found" "this is no number that will do") := by
    refine F.ok sc9 (fun vs H Q E ⟨a, C, t0, x, e, _⟩ => by rw [e]; rfl) (fun cdv A outer s H vs Q E hr h => ?_)
    obtain ⟨a, C, t0, y, rfl, T, hB, ea, nF, k⟩ := h
    refine ⟨_, pss_cons (ps_expr (pe_off (by rfl) B.mgC B.sg B.rd B.at_ FB.kp G hr bB .nil pass0 (pa_cons (pv 0) (pa_cons pe_str pa_nil))))
      (pss_one (ps_estF (pv 0) (pv 1))), ?_⟩
    refine ⟨_, rfl, a, C, t0, _, rfl, T, hB, ea, fun t2 n2 ne => ?_⟩
    exact ⟨_, rfl, _, rfl, a, C, t2, rfl, T, nF, upd_same, fun dx nx nxa => fin_x (fun _ q => q) k n2 ne nx nxa⟩
  refine ⟨E.mgC, E.oex, E.hB, E.nF, f, fd, i1, t1, G2, F.binds fun _ _ _ _ _ _ us hl => match us, hl with | [_, _], _ => rfl, fun s a b _ => ?_⟩
  obtain ⟨oc, od, kV, doc, pm, an, cdv, ct, osl, rfl, lk, hcd⟩ := F.ex
  exact .of_eq rfl
abbrev s10 : Stmt := inClass (top 10) 0
theorem sc10 : FnScope ["self", "found"] ["self", "found"] (defScope s10) := ⟨rfl, rfl, rfl, by decide +kernel, rfl, by decide +kernel, by decide +kernel⟩
theorem mk10 {C CB fB : Addr} (N : Bas K mg "ValueError" "ValueError" "ValueError.__init__") (B : Fam K mg "PanelError" "PanelError.__init__" "ValueError" s1 CB fB)
    (E : Cl K mg "NoTruth" "NoTruth.__init__" "found" "ValueError" s10 C) : Mk3 P w K mg base "NoTruth" C "ValueError" "found" "this is neither True nor False" := by
  obtain ⟨f, fd, i1, t1, F⟩ := E.fn
  obtain ⟨fdB, FB⟩ := B.fn
  have bB := FB.binds (ps := ["self", "text"]) fun _ _ _ _ _ _ us hl => match us, hl with | [_, _], _ => rfl
  have G : FnOk P w K mg base CX0 1 fB fdB ["self", "text"] (spFam K "ValueError") := ok1 N FB
  have G2 : FnOk P w K mg base CX0 2 f fd ["self", "found"] (spX K "ValueError" "found" "this is neither True nor False") := by
    refine F.ok sc10 (fun vs H Q E ⟨a, C, t0, x, e, _⟩ => by rw [e]; rfl) (fun cdv A outer s H vs Q E hr h => ?_)
    obtain ⟨a, C, t0, y, rfl, T, hB, ea, nF, k⟩ := h
    refine ⟨_, pss_cons (ps_expr (pe_off (by rfl) B.mgC B.sg B.rd B.at_ FB.kp G hr bB .nil pass0 (pa_cons (pv 0) (pa_cons pe_str pa_nil))))
      (pss_one (ps_estF (pv 0) (pv 1))), ?_⟩
    refine ⟨_, rfl, a, C, t0, _, rfl, T, hB, ea, fun t2 n2 ne => ?_⟩
    exact ⟨_, rfl, _, rfl, a, C, t2, rfl, T, nF, upd_same, fun dx nx nxa => fin_x (fun _ q => q) k n2 ne nx nxa⟩
  refine ⟨E.mgC, E.oex, E.hB, E.nF, f, fd, i1, t1, G2, F.binds fun _ _ _ _ _ _ us hl => match us, hl with | [_, _], _ => rfl, fun s a b _ => ?_⟩
  obtain ⟨oc, od, kV, doc, pm, an, cdv, ct, osl, rfl, lk, hcd⟩ := F.ex
  exact .of_eq rfl
abbrev s11 : Stmt := inClass (top 11) 0
theorem sc11 : FnScope ["self", "found"] ["self", "found"] (defScope s11) := ⟨rfl, rfl, rfl, by decide +kernel, rfl, by decide +kernel, by decide +kernel⟩
theorem mk11 {C CB fB : Addr} (N : Bas K mg "ValueError" "ValueError" "ValueError.__init__") (B : Fam K mg "PanelError" "PanelError.__init__" "ValueError" s1 CB fB)
    (E : Cl K mg "NoList" "NoList.__init__" "found" "ValueError" s11 C) : Mk3 P w K mg base "NoList" C "ValueError" "found" "this is no list that will do" := by
  obtain ⟨f, fd, i1, t1, F⟩ := E.fn
  obtain ⟨fdB, FB⟩ := B.fn
  have bB := FB.binds (ps := ["self", "text"]) fun _ _ _ _ _ _ us hl => match us, hl with | [_, _], _ => rfl
  have G : FnOk P w K mg base CX0 1 fB fdB ["self", "text"] (spFam K "ValueError") := ok1 N FB
  have G2 : FnOk P w K mg base CX0 2 f fd ["self", "found"] (spX K "ValueError" "found" "this is no list that will do") := by
    refine F.ok sc11 (fun vs H Q E ⟨a, C, t0, x, e, _⟩ => by rw [e]; rfl) (fun cdv A outer s H vs Q E hr h => ?_)
    obtain ⟨a, C, t0, y, rfl, T, hB, ea, nF, k⟩ := h
    refine ⟨_, pss_cons (ps_expr (pe_off (by rfl) B.mgC B.sg B.rd B.at_ FB.kp G hr bB .nil pass0 (pa_cons (pv 0) (pa_cons pe_str pa_nil))))
      (pss_one (ps_estF (pv 0) (pv 1))), ?_⟩
    refine ⟨_, rfl, a, C, t0, _, rfl, T, hB, ea, fun t2 n2 ne => ?_⟩
    exact ⟨_, rfl, _, rfl, a, C, t2, rfl, T, nF, upd_same, fun dx nx nxa => fin_x (fun _ q => q) k n2 ne nx nxa⟩
  refine ⟨E.mgC, E.oex, E.hB, E.nF, f, fd, i1, t1, G2, F.binds fun _ _ _ _ _ _ us hl => match us, hl with | [_, _], _ => rfl, fun s a b _ => ?_⟩
  obtain ⟨oc, od, kV, doc, pm, an, cdv, ct, osl, rfl, lk, hcd⟩ := F.ex
  exact .of_eq rfl
abbrev s12 : Stmt := inClass (top 12) 0
theorem sc12 : FnScope ["self", "found"] ["self", "found"] (defScope s12) := ⟨rfl, rfl, rfl, by decide +kernel, rfl, by decide +kernel, by decide +kernel⟩
theorem mk12 {C CB fB : Addr} (N : Bas K mg "ValueError" "ValueError" "ValueError.__init__") (B : Fam K mg "PanelError" "PanelError.__init__" "ValueError" s1 CB fB)
    (E : Cl K mg "NoPoints" "NoPoints.__init__" "found" "ValueError" s12 C) : Mk3 P w K mg base "NoPoints" C "ValueError" "found" "this is no list of points" := by
  obtain ⟨f, fd, i1, t1, F⟩ := E.fn
  obtain ⟨fdB, FB⟩ := B.fn
  have bB := FB.binds (ps := ["self", "text"]) fun _ _ _ _ _ _ us hl => match us, hl with | [_, _], _ => rfl
  have G : FnOk P w K mg base CX0 1 fB fdB ["self", "text"] (spFam K "ValueError") := ok1 N FB
  have G2 : FnOk P w K mg base CX0 2 f fd ["self", "found"] (spX K "ValueError" "found" "this is no list of points") := by
    refine F.ok sc12 (fun vs H Q E ⟨a, C, t0, x, e, _⟩ => by rw [e]; rfl) (fun cdv A outer s H vs Q E hr h => ?_)
    obtain ⟨a, C, t0, y, rfl, T, hB, ea, nF, k⟩ := h
    refine ⟨_, pss_cons (ps_expr (pe_off (by rfl) B.mgC B.sg B.rd B.at_ FB.kp G hr bB .nil pass0 (pa_cons (pv 0) (pa_cons pe_str pa_nil))))
      (pss_one (ps_estF (pv 0) (pv 1))), ?_⟩
    refine ⟨_, rfl, a, C, t0, _, rfl, T, hB, ea, fun t2 n2 ne => ?_⟩
    exact ⟨_, rfl, _, rfl, a, C, t2, rfl, T, nF, upd_same, fun dx nx nxa => fin_x (fun _ q => q) k n2 ne nx nxa⟩
  refine ⟨E.mgC, E.oex, E.hB, E.nF, f, fd, i1, t1, G2, F.binds fun _ _ _ _ _ _ us hl => match us, hl with | [_, _], _ => rfl, fun s a b _ => ?_⟩
  obtain ⟨oc, od, kV, doc, pm, an, cdv, ct, osl, rfl, lk, hcd⟩ := F.ex
  exact .of_eq rfl
abbrev s13 : Stmt := inClass (top 13) 0
theorem sc13 : FnScope ["self", "found"] ["self", "found"] (defScope s13) := ⟨rfl, rfl, rfl, by decide +kernel, rfl, by decide +kernel, by decide +kernel⟩
theorem mk13 {C CB fB : Addr} (N : Bas K mg "ValueError" "ValueError" "ValueError.__init__") (B : Fam K mg "PanelError" "PanelError.__init__" "ValueError" s1 CB fB)
    (E : Cl K mg "NoRules" "NoRules.__init__" "found" "ValueError" s13 C) : Mk3 P w K mg base "NoRules" C "ValueError" "found" "this is no list of rules" := by
  obtain ⟨f, fd, i1, t1, F⟩ := E.fn
  obtain ⟨fdB, FB⟩ := B.fn
  have bB := FB.binds (ps := ["self", "text"]) fun _ _ _ _ _ _ us hl => match us, hl with | [_, _], _ => rfl
  have G : FnOk P w K mg base CX0 1 fB fdB ["self", "text"] (spFam K "ValueError") := ok1 N FB
  have G2 : FnOk P w K mg base CX0 2 f fd ["self", "found"] (spX K "ValueError" "found" "this is no list of rules") := by
    refine F.ok sc13 (fun vs H Q E ⟨a, C, t0, x, e, _⟩ => by rw [e]; rfl) (fun cdv A outer s H vs Q E hr h => ?_)
    obtain ⟨a, C, t0, y, rfl, T, hB, ea, nF, k⟩ := h
    refine ⟨_, pss_cons (ps_expr (pe_off (by rfl) B.mgC B.sg B.rd B.at_ FB.kp G hr bB .nil pass0 (pa_cons (pv 0) (pa_cons pe_str pa_nil))))
      (pss_one (ps_estF (pv 0) (pv 1))), ?_⟩
    refine ⟨_, rfl, a, C, t0, _, rfl, T, hB, ea, fun t2 n2 ne => ?_⟩
    exact ⟨_, rfl, _, rfl, a, C, t2, rfl, T, nF, upd_same, fun dx nx nxa => fin_x (fun _ q => q) k n2 ne nx nxa⟩
  refine ⟨E.mgC, E.oex, E.hB, E.nF, f, fd, i1, t1, G2, F.binds fun _ _ _ _ _ _ us hl => match us, hl with | [_, _], _ => rfl, fun s a b _ => ?_⟩
  obtain ⟨oc, od, kV, doc, pm, an, cdv, ct, osl, rfl, lk, hcd⟩ := F.ex
  exact .of_eq rfl
abbrev s14 : Stmt := inClass (top 14) 0
theorem sc14 : FnScope ["self", "found"] ["self", "found"] (defScope s14) := ⟨rfl, rfl, rfl, by decide +kernel, rfl, by decide +kernel, by decide +kernel⟩
theorem mk14 {C CB fB : Addr} (N : Bas K mg "ValueError" "ValueError" "ValueError.__init__") (B : Fam K mg "PanelError" "PanelError.__init__" "ValueError" s1 CB fB)
    (E : Cl K mg "NoCauses" "NoCauses.__init__" "found" "ValueError" s14 C) : Mk3 P w K mg base "NoCauses" C "ValueError" "found" "this is no list of causes" := by
  obtain ⟨f, fd, i1, t1, F⟩ := E.fn
  obtain ⟨fdB, FB⟩ := B.fn
  have bB := FB.binds (ps := ["self", "text"]) fun _ _ _ _ _ _ us hl => match us, hl with | [_, _], _ => rfl
  have G : FnOk P w K mg base CX0 1 fB fdB ["self", "text"] (spFam K "ValueError") := ok1 N FB
  have G2 : FnOk P w K mg base CX0 2 f fd ["self", "found"] (spX K "ValueError" "found" "this is no list of causes") := by
    refine F.ok sc14 (fun vs H Q E ⟨a, C, t0, x, e, _⟩ => by rw [e]; rfl) (fun cdv A outer s H vs Q E hr h => ?_)
    obtain ⟨a, C, t0, y, rfl, T, hB, ea, nF, k⟩ := h
    refine ⟨_, pss_cons (ps_expr (pe_off (by rfl) B.mgC B.sg B.rd B.at_ FB.kp G hr bB .nil pass0 (pa_cons (pv 0) (pa_cons pe_str pa_nil))))
      (pss_one (ps_estF (pv 0) (pv 1))), ?_⟩
    refine ⟨_, rfl, a, C, t0, _, rfl, T, hB, ea, fun t2 n2 ne => ?_⟩
    exact ⟨_, rfl, _, rfl, a, C, t2, rfl, T, nF, upd_same, fun dx nx nxa => fin_x (fun _ q => q) k n2 ne nx nxa⟩
  refine ⟨E.mgC, E.oex, E.hB, E.nF, f, fd, i1, t1, G2, F.binds fun _ _ _ _ _ _ us hl => match us, hl with | [_, _], _ => rfl, fun s a b _ => ?_⟩
  obtain ⟨oc, od, kV, doc, pm, an, cdv, ct, osl, rfl, lk, hcd⟩ := F.ex
  exact .of_eq rfl
abbrev s15 : Stmt := inClass (top 15) 0
theorem sc15 : FnScope ["self", "found"] ["self", "found"] (defScope s15) := ⟨rfl, rfl, rfl, by decide +kernel, rfl, by decide +kernel, by decide +kernel⟩
theorem mk15 {C CB fB : Addr} (N : Bas K mg "ValueError" "ValueError" "ValueError.__init__") (B : Fam K mg "PanelError" "PanelError.__init__" "ValueError" s1 CB fB)
    (E : Cl K mg "NoCommands" "NoCommands.__init__" "found" "ValueError" s15 C) : Mk3 P w K mg base "NoCommands" C "ValueError" "found" "this is no list of commands" := by
  obtain ⟨f, fd, i1, t1, F⟩ := E.fn
  obtain ⟨fdB, FB⟩ := B.fn
  have bB := FB.binds (ps := ["self", "text"]) fun _ _ _ _ _ _ us hl => match us, hl with | [_, _], _ => rfl
  have G : FnOk P w K mg base CX0 1 fB fdB ["self", "text"] (spFam K "ValueError") := ok1 N FB
  have G2 : FnOk P w K mg base CX0 2 f fd ["self", "found"] (spX K "ValueError" "found" "this is no list of commands") := by
    refine F.ok sc15 (fun vs H Q E ⟨a, C, t0, x, e, _⟩ => by rw [e]; rfl) (fun cdv A outer s H vs Q E hr h => ?_)
    obtain ⟨a, C, t0, y, rfl, T, hB, ea, nF, k⟩ := h
    refine ⟨_, pss_cons (ps_expr (pe_off (by rfl) B.mgC B.sg B.rd B.at_ FB.kp G hr bB .nil pass0 (pa_cons (pv 0) (pa_cons pe_str pa_nil))))
      (pss_one (ps_estF (pv 0) (pv 1))), ?_⟩
    refine ⟨_, rfl, a, C, t0, _, rfl, T, hB, ea, fun t2 n2 ne => ?_⟩
    exact ⟨_, rfl, _, rfl, a, C, t2, rfl, T, nF, upd_same, fun dx nx nxa => fin_x (fun _ q => q) k n2 ne nx nxa⟩
  refine ⟨E.mgC, E.oex, E.hB, E.nF, f, fd, i1, t1, G2, F.binds fun _ _ _ _ _ _ us hl => match us, hl with | [_, _], _ => rfl, fun s a b _ => ?_⟩
  obtain ⟨oc, od, kV, doc, pm, an, cdv, ct, osl, rfl, lk, hcd⟩ := F.ex
  exact .of_eq rfl
abbrev s16 : Stmt := inClass (top 16) 0
theorem sc16 : FnScope ["self", "found"] ["self", "found"] (defScope s16) := ⟨rfl, rfl, rfl, by decide +kernel, rfl, by decide +kernel, by decide +kernel⟩
theorem mk16 {C CB fB : Addr} (N : Bas K mg "ValueError" "ValueError" "ValueError.__init__") (B : Fam K mg "PanelError" "PanelError.__init__" "ValueError" s1 CB fB)
    (E : Cl K mg "NoRelations" "NoRelations.__init__" "found" "ValueError" s16 C) : Mk3 P w K mg base "NoRelations" C "ValueError" "found" "this is no list of relations" := by
  obtain ⟨f, fd, i1, t1, F⟩ := E.fn
  obtain ⟨fdB, FB⟩ := B.fn
  have bB := FB.binds (ps := ["self", "text"]) fun _ _ _ _ _ _ us hl => match us, hl with | [_, _], _ => rfl
  have G : FnOk P w K mg base CX0 1 fB fdB ["self", "text"] (spFam K "ValueError") := ok1 N FB
  have G2 : FnOk P w K mg base CX0 2 f fd ["self", "found"] (spX K "ValueError" "found" "this is no list of relations") := by
    refine F.ok sc16 (fun vs H Q E ⟨a, C, t0, x, e, _⟩ => by rw [e]; rfl) (fun cdv A outer s H vs Q E hr h => ?_)
    obtain ⟨a, C, t0, y, rfl, T, hB, ea, nF, k⟩ := h
    refine ⟨_, pss_cons (ps_expr (pe_off (by rfl) B.mgC B.sg B.rd B.at_ FB.kp G hr bB .nil pass0 (pa_cons (pv 0) (pa_cons pe_str pa_nil))))
      (pss_one (ps_estF (pv 0) (pv 1))), ?_⟩
    refine ⟨_, rfl, a, C, t0, _, rfl, T, hB, ea, fun t2 n2 ne => ?_⟩
    exact ⟨_, rfl, _, rfl, a, C, t2, rfl, T, nF, upd_same, fun dx nx nxa => fin_x (fun _ q => q) k n2 ne nx nxa⟩
  refine ⟨E.mgC, E.oex, E.hB, E.nF, f, fd, i1, t1, G2, F.binds fun _ _ _ _ _ _ us hl => match us, hl with | [_, _], _ => rfl, fun s a b _ => ?_⟩
  obtain ⟨oc, od, kV, doc, pm, an, cdv, ct, osl, rfl, lk, hcd⟩ := F.ex
  exact .of_eq rfl
abbrev s17 : Stmt := inClass (top 17) 0
theorem sc17 : FnScope ["self", "found"] ["self", "found"] (defScope s17) := ⟨rfl, rfl, rfl, by decide +kernel, rfl, by decide +kernel, by decide +kernel⟩
theorem mk17 {C CB fB : Addr} (N : Bas K mg "ValueError" "ValueError" "ValueError.__init__") (B : Fam K mg "PanelError" "PanelError.__init__" "ValueError" s1 CB fB)
    (E : Cl K mg "NoWorks" "NoWorks.__init__" "found" "ValueError" s17 C) : Mk3 P w K mg base "NoWorks" C "ValueError" "found" "these are no works" := by
  obtain ⟨f, fd, i1, t1, F⟩ := E.fn
  obtain ⟨fdB, FB⟩ := B.fn
  have bB := FB.binds (ps := ["self", "text"]) fun _ _ _ _ _ _ us hl => match us, hl with | [_, _], _ => rfl
  have G : FnOk P w K mg base CX0 1 fB fdB ["self", "text"] (spFam K "ValueError") := ok1 N FB
  have G2 : FnOk P w K mg base CX0 2 f fd ["self", "found"] (spX K "ValueError" "found" "these are no works") := by
    refine F.ok sc17 (fun vs H Q E ⟨a, C, t0, x, e, _⟩ => by rw [e]; rfl) (fun cdv A outer s H vs Q E hr h => ?_)
    obtain ⟨a, C, t0, y, rfl, T, hB, ea, nF, k⟩ := h
    refine ⟨_, pss_cons (ps_expr (pe_off (by rfl) B.mgC B.sg B.rd B.at_ FB.kp G hr bB .nil pass0 (pa_cons (pv 0) (pa_cons pe_str pa_nil))))
      (pss_one (ps_estF (pv 0) (pv 1))), ?_⟩
    refine ⟨_, rfl, a, C, t0, _, rfl, T, hB, ea, fun t2 n2 ne => ?_⟩
    exact ⟨_, rfl, _, rfl, a, C, t2, rfl, T, nF, upd_same, fun dx nx nxa => fin_x (fun _ q => q) k n2 ne nx nxa⟩
  refine ⟨E.mgC, E.oex, E.hB, E.nF, f, fd, i1, t1, G2, F.binds fun _ _ _ _ _ _ us hl => match us, hl with | [_, _], _ => rfl, fun s a b _ => ?_⟩
  obtain ⟨oc, od, kV, doc, pm, an, cdv, ct, osl, rfl, lk, hcd⟩ := F.ex
  exact .of_eq rfl
abbrev s18 : Stmt := inClass (top 18) 0
theorem sc18 : FnScope ["self", "found"] ["self", "found"] (defScope s18) := ⟨rfl, rfl, rfl, by decide +kernel, rfl, by decide +kernel, by decide +kernel⟩
theorem mk18 {C CB fB : Addr} (N : Bas K mg "ValueError" "ValueError" "ValueError.__init__") (B : Fam K mg "PanelError" "PanelError.__init__" "ValueError" s1 CB fB)
    (E : Cl K mg "NoLetter" "NoLetter.__init__" "found" "ValueError" s18 C) : Mk3 P w K mg base "NoLetter" C "ValueError" "found" "this is no letter that will do" := by
  obtain ⟨f, fd, i1, t1, F⟩ := E.fn
  obtain ⟨fdB, FB⟩ := B.fn
  have bB := FB.binds (ps := ["self", "text"]) fun _ _ _ _ _ _ us hl => match us, hl with | [_, _], _ => rfl
  have G : FnOk P w K mg base CX0 1 fB fdB ["self", "text"] (spFam K "ValueError") := ok1 N FB
  have G2 : FnOk P w K mg base CX0 2 f fd ["self", "found"] (spX K "ValueError" "found" "this is no letter that will do") := by
    refine F.ok sc18 (fun vs H Q E ⟨a, C, t0, x, e, _⟩ => by rw [e]; rfl) (fun cdv A outer s H vs Q E hr h => ?_)
    obtain ⟨a, C, t0, y, rfl, T, hB, ea, nF, k⟩ := h
    refine ⟨_, pss_cons (ps_expr (pe_off (by rfl) B.mgC B.sg B.rd B.at_ FB.kp G hr bB .nil pass0 (pa_cons (pv 0) (pa_cons pe_str pa_nil))))
      (pss_one (ps_estF (pv 0) (pv 1))), ?_⟩
    refine ⟨_, rfl, a, C, t0, _, rfl, T, hB, ea, fun t2 n2 ne => ?_⟩
    exact ⟨_, rfl, _, rfl, a, C, t2, rfl, T, nF, upd_same, fun dx nx nxa => fin_x (fun _ q => q) k n2 ne nx nxa⟩
  refine ⟨E.mgC, E.oex, E.hB, E.nF, f, fd, i1, t1, G2, F.binds fun _ _ _ _ _ _ us hl => match us, hl with | [_, _], _ => rfl, fun s a b _ => ?_⟩
  obtain ⟨oc, od, kV, doc, pm, an, cdv, ct, osl, rfl, lk, hcd⟩ := F.ex
  exact .of_eq rfl
abbrev s19 : Stmt := inClass (top 19) 0
theorem sc19 : FnScope ["self", "found"] ["self", "found"] (defScope s19) := ⟨rfl, rfl, rfl, by decide +kernel, rfl, by decide +kernel, by decide +kernel⟩
theorem mk19 {C CB fB : Addr} (N : Bas K mg "ValueError" "ValueError" "ValueError.__init__") (B : Fam K mg "PanelError" "PanelError.__init__" "ValueError" s1 CB fB)
    (E : Cl K mg "NoRoom" "NoRoom.__init__" "found" "ValueError" s19 C) : Mk3 P w K mg base "NoRoom" C "ValueError" "found" "this is no room" := by
  obtain ⟨f, fd, i1, t1, F⟩ := E.fn
  obtain ⟨fdB, FB⟩ := B.fn
  have bB := FB.binds (ps := ["self", "text"]) fun _ _ _ _ _ _ us hl => match us, hl with | [_, _], _ => rfl
  have G : FnOk P w K mg base CX0 1 fB fdB ["self", "text"] (spFam K "ValueError") := ok1 N FB
  have G2 : FnOk P w K mg base CX0 2 f fd ["self", "found"] (spX K "ValueError" "found" "this is no room") := by
    refine F.ok sc19 (fun vs H Q E ⟨a, C, t0, x, e, _⟩ => by rw [e]; rfl) (fun cdv A outer s H vs Q E hr h => ?_)
    obtain ⟨a, C, t0, y, rfl, T, hB, ea, nF, k⟩ := h
    refine ⟨_, pss_cons (ps_expr (pe_off (by rfl) B.mgC B.sg B.rd B.at_ FB.kp G hr bB .nil pass0 (pa_cons (pv 0) (pa_cons pe_str pa_nil))))
      (pss_one (ps_estF (pv 0) (pv 1))), ?_⟩
    refine ⟨_, rfl, a, C, t0, _, rfl, T, hB, ea, fun t2 n2 ne => ?_⟩
    exact ⟨_, rfl, _, rfl, a, C, t2, rfl, T, nF, upd_same, fun dx nx nxa => fin_x (fun _ q => q) k n2 ne nx nxa⟩
  refine ⟨E.mgC, E.oex, E.hB, E.nF, f, fd, i1, t1, G2, F.binds fun _ _ _ _ _ _ us hl => match us, hl with | [_, _], _ => rfl, fun s a b _ => ?_⟩
  obtain ⟨oc, od, kV, doc, pm, an, cdv, ct, osl, rfl, lk, hcd⟩ := F.ex
  exact .of_eq rfl
abbrev s20 : Stmt := inClass (top 20) 0
theorem sc20 : FnScope ["self", "found"] ["self", "found"] (defScope s20) := ⟨rfl, rfl, rfl, by decide +kernel, rfl, by decide +kernel, by decide +kernel⟩
theorem mk20 {C CB fB : Addr} (N : Bas K mg "ValueError" "ValueError" "ValueError.__init__") (B : Fam K mg "PanelError" "PanelError.__init__" "ValueError" s1 CB fB)
    (E : Cl K mg "NoTerm" "NoTerm.__init__" "found" "ValueError" s20 C) : Mk3 P w K mg base "NoTerm" C "ValueError" "found" "this is no term" := by
  obtain ⟨f, fd, i1, t1, F⟩ := E.fn
  obtain ⟨fdB, FB⟩ := B.fn
  have bB := FB.binds (ps := ["self", "text"]) fun _ _ _ _ _ _ us hl => match us, hl with | [_, _], _ => rfl
  have G : FnOk P w K mg base CX0 1 fB fdB ["self", "text"] (spFam K "ValueError") := ok1 N FB
  have G2 : FnOk P w K mg base CX0 2 f fd ["self", "found"] (spX K "ValueError" "found" "this is no term") := by
    refine F.ok sc20 (fun vs H Q E ⟨a, C, t0, x, e, _⟩ => by rw [e]; rfl) (fun cdv A outer s H vs Q E hr h => ?_)
    obtain ⟨a, C, t0, y, rfl, T, hB, ea, nF, k⟩ := h
    refine ⟨_, pss_cons (ps_expr (pe_off (by rfl) B.mgC B.sg B.rd B.at_ FB.kp G hr bB .nil pass0 (pa_cons (pv 0) (pa_cons pe_str pa_nil))))
      (pss_one (ps_estF (pv 0) (pv 1))), ?_⟩
    refine ⟨_, rfl, a, C, t0, _, rfl, T, hB, ea, fun t2 n2 ne => ?_⟩
    exact ⟨_, rfl, _, rfl, a, C, t2, rfl, T, nF, upd_same, fun dx nx nxa => fin_x (fun _ q => q) k n2 ne nx nxa⟩
  refine ⟨E.mgC, E.oex, E.hB, E.nF, f, fd, i1, t1, G2, F.binds fun _ _ _ _ _ _ us hl => match us, hl with | [_, _], _ => rfl, fun s a b _ => ?_⟩
  obtain ⟨oc, od, kV, doc, pm, an, cdv, ct, osl, rfl, lk, hcd⟩ := F.ex
  exact .of_eq rfl
abbrev s21 : Stmt := inClass (top 21) 0
theorem sc21 : FnScope ["self", "found"] ["self", "found"] (defScope s21) := ⟨rfl, rfl, rfl, by decide +kernel, rfl, by decide +kernel, by decide +kernel⟩
theorem mk21 {C CB fB : Addr} (N : Bas K mg "ValueError" "ValueError" "ValueError.__init__") (B : Fam K mg "PanelError" "PanelError.__init__" "ValueError" s1 CB fB)
    (E : Cl K mg "NoId" "NoId.__init__" "found" "ValueError" s21 C) : Mk3 P w K mg base "NoId" C "ValueError" "found" "this is no id" := by
  obtain ⟨f, fd, i1, t1, F⟩ := E.fn
  obtain ⟨fdB, FB⟩ := B.fn
  have bB := FB.binds (ps := ["self", "text"]) fun _ _ _ _ _ _ us hl => match us, hl with | [_, _], _ => rfl
  have G : FnOk P w K mg base CX0 1 fB fdB ["self", "text"] (spFam K "ValueError") := ok1 N FB
  have G2 : FnOk P w K mg base CX0 2 f fd ["self", "found"] (spX K "ValueError" "found" "this is no id") := by
    refine F.ok sc21 (fun vs H Q E ⟨a, C, t0, x, e, _⟩ => by rw [e]; rfl) (fun cdv A outer s H vs Q E hr h => ?_)
    obtain ⟨a, C, t0, y, rfl, T, hB, ea, nF, k⟩ := h
    refine ⟨_, pss_cons (ps_expr (pe_off (by rfl) B.mgC B.sg B.rd B.at_ FB.kp G hr bB .nil pass0 (pa_cons (pv 0) (pa_cons pe_str pa_nil))))
      (pss_one (ps_estF (pv 0) (pv 1))), ?_⟩
    refine ⟨_, rfl, a, C, t0, _, rfl, T, hB, ea, fun t2 n2 ne => ?_⟩
    exact ⟨_, rfl, _, rfl, a, C, t2, rfl, T, nF, upd_same, fun dx nx nxa => fin_x (fun _ q => q) k n2 ne nx nxa⟩
  refine ⟨E.mgC, E.oex, E.hB, E.nF, f, fd, i1, t1, G2, F.binds fun _ _ _ _ _ _ us hl => match us, hl with | [_, _], _ => rfl, fun s a b _ => ?_⟩
  obtain ⟨oc, od, kV, doc, pm, an, cdv, ct, osl, rfl, lk, hcd⟩ := F.ex
  exact .of_eq rfl
abbrev s22 : Stmt := inClass (top 22) 0
theorem sc22 : FnScope ["self", "found"] ["self", "found"] (defScope s22) := ⟨rfl, rfl, rfl, by decide +kernel, rfl, by decide +kernel, by decide +kernel⟩
theorem mk22 {C CB fB : Addr} (N : Bas K mg "ValueError" "ValueError" "ValueError.__init__") (B : Fam K mg "PanelError" "PanelError.__init__" "ValueError" s1 CB fB)
    (E : Cl K mg "NoHearing" "NoHearing.__init__" "found" "ValueError" s22 C) : Mk3 P w K mg base "NoHearing" C "ValueError" "found" "this is no hearing" := by
  obtain ⟨f, fd, i1, t1, F⟩ := E.fn
  obtain ⟨fdB, FB⟩ := B.fn
  have bB := FB.binds (ps := ["self", "text"]) fun _ _ _ _ _ _ us hl => match us, hl with | [_, _], _ => rfl
  have G : FnOk P w K mg base CX0 1 fB fdB ["self", "text"] (spFam K "ValueError") := ok1 N FB
  have G2 : FnOk P w K mg base CX0 2 f fd ["self", "found"] (spX K "ValueError" "found" "this is no hearing") := by
    refine F.ok sc22 (fun vs H Q E ⟨a, C, t0, x, e, _⟩ => by rw [e]; rfl) (fun cdv A outer s H vs Q E hr h => ?_)
    obtain ⟨a, C, t0, y, rfl, T, hB, ea, nF, k⟩ := h
    refine ⟨_, pss_cons (ps_expr (pe_off (by rfl) B.mgC B.sg B.rd B.at_ FB.kp G hr bB .nil pass0 (pa_cons (pv 0) (pa_cons pe_str pa_nil))))
      (pss_one (ps_estF (pv 0) (pv 1))), ?_⟩
    refine ⟨_, rfl, a, C, t0, _, rfl, T, hB, ea, fun t2 n2 ne => ?_⟩
    exact ⟨_, rfl, _, rfl, a, C, t2, rfl, T, nF, upd_same, fun dx nx nxa => fin_x (fun _ q => q) k n2 ne nx nxa⟩
  refine ⟨E.mgC, E.oex, E.hB, E.nF, f, fd, i1, t1, G2, F.binds fun _ _ _ _ _ _ us hl => match us, hl with | [_, _], _ => rfl, fun s a b _ => ?_⟩
  obtain ⟨oc, od, kV, doc, pm, an, cdv, ct, osl, rfl, lk, hcd⟩ := F.ex
  exact .of_eq rfl
abbrev s23 : Stmt := inClass (top 23) 0
theorem sc23 : FnScope ["self", "found"] ["self", "found"] (defScope s23) := ⟨rfl, rfl, rfl, by decide +kernel, rfl, by decide +kernel, by decide +kernel⟩
theorem mk23 {C CB fB : Addr} (N : Bas K mg "ValueError" "ValueError" "ValueError.__init__") (B : Fam K mg "PanelError" "PanelError.__init__" "ValueError" s1 CB fB)
    (E : Cl K mg "NoHistory" "NoHistory.__init__" "found" "ValueError" s23 C) : Mk3 P w K mg base "NoHistory" C "ValueError" "found" "this is no history" := by
  obtain ⟨f, fd, i1, t1, F⟩ := E.fn
  obtain ⟨fdB, FB⟩ := B.fn
  have bB := FB.binds (ps := ["self", "text"]) fun _ _ _ _ _ _ us hl => match us, hl with | [_, _], _ => rfl
  have G : FnOk P w K mg base CX0 1 fB fdB ["self", "text"] (spFam K "ValueError") := ok1 N FB
  have G2 : FnOk P w K mg base CX0 2 f fd ["self", "found"] (spX K "ValueError" "found" "this is no history") := by
    refine F.ok sc23 (fun vs H Q E ⟨a, C, t0, x, e, _⟩ => by rw [e]; rfl) (fun cdv A outer s H vs Q E hr h => ?_)
    obtain ⟨a, C, t0, y, rfl, T, hB, ea, nF, k⟩ := h
    refine ⟨_, pss_cons (ps_expr (pe_off (by rfl) B.mgC B.sg B.rd B.at_ FB.kp G hr bB .nil pass0 (pa_cons (pv 0) (pa_cons pe_str pa_nil))))
      (pss_one (ps_estF (pv 0) (pv 1))), ?_⟩
    refine ⟨_, rfl, a, C, t0, _, rfl, T, hB, ea, fun t2 n2 ne => ?_⟩
    exact ⟨_, rfl, _, rfl, a, C, t2, rfl, T, nF, upd_same, fun dx nx nxa => fin_x (fun _ q => q) k n2 ne nx nxa⟩
  refine ⟨E.mgC, E.oex, E.hB, E.nF, f, fd, i1, t1, G2, F.binds fun _ _ _ _ _ _ us hl => match us, hl with | [_, _], _ => rfl, fun s a b _ => ?_⟩
  obtain ⟨oc, od, kV, doc, pm, an, cdv, ct, osl, rfl, lk, hcd⟩ := F.ex
  exact .of_eq rfl
abbrev s24 : Stmt := inClass (top 24) 0
theorem sc24 : FnScope ["self", "found"] ["self", "found"] (defScope s24) := ⟨rfl, rfl, rfl, by decide +kernel, rfl, by decide +kernel, by decide +kernel⟩
theorem mk24 {C CB fB : Addr} (N : Bas K mg "ValueError" "ValueError" "ValueError.__init__") (B : Fam K mg "PanelError" "PanelError.__init__" "ValueError" s1 CB fB)
    (E : Cl K mg "NoEvents" "NoEvents.__init__" "found" "ValueError" s24 C) : Mk3 P w K mg base "NoEvents" C "ValueError" "found" "these are no events" := by
  obtain ⟨f, fd, i1, t1, F⟩ := E.fn
  obtain ⟨fdB, FB⟩ := B.fn
  have bB := FB.binds (ps := ["self", "text"]) fun _ _ _ _ _ _ us hl => match us, hl with | [_, _], _ => rfl
  have G : FnOk P w K mg base CX0 1 fB fdB ["self", "text"] (spFam K "ValueError") := ok1 N FB
  have G2 : FnOk P w K mg base CX0 2 f fd ["self", "found"] (spX K "ValueError" "found" "these are no events") := by
    refine F.ok sc24 (fun vs H Q E ⟨a, C, t0, x, e, _⟩ => by rw [e]; rfl) (fun cdv A outer s H vs Q E hr h => ?_)
    obtain ⟨a, C, t0, y, rfl, T, hB, ea, nF, k⟩ := h
    refine ⟨_, pss_cons (ps_expr (pe_off (by rfl) B.mgC B.sg B.rd B.at_ FB.kp G hr bB .nil pass0 (pa_cons (pv 0) (pa_cons pe_str pa_nil))))
      (pss_one (ps_estF (pv 0) (pv 1))), ?_⟩
    refine ⟨_, rfl, a, C, t0, _, rfl, T, hB, ea, fun t2 n2 ne => ?_⟩
    exact ⟨_, rfl, _, rfl, a, C, t2, rfl, T, nF, upd_same, fun dx nx nxa => fin_x (fun _ q => q) k n2 ne nx nxa⟩
  refine ⟨E.mgC, E.oex, E.hB, E.nF, f, fd, i1, t1, G2, F.binds fun _ _ _ _ _ _ us hl => match us, hl with | [_, _], _ => rfl, fun s a b _ => ?_⟩
  obtain ⟨oc, od, kV, doc, pm, an, cdv, ct, osl, rfl, lk, hcd⟩ := F.ex
  exact .of_eq rfl
abbrev s25 : Stmt := inClass (top 25) 0
theorem sc25 : FnScope ["self", "found"] ["self", "found"] (defScope s25) := ⟨rfl, rfl, rfl, by decide +kernel, rfl, by decide +kernel, by decide +kernel⟩
theorem mk25 {C CB fB : Addr} (N : Bas K mg "ValueError" "ValueError" "ValueError.__init__") (B : Fam K mg "PanelError" "PanelError.__init__" "ValueError" s1 CB fB)
    (E : Cl K mg "NoPicture" "NoPicture.__init__" "found" "ValueError" s25 C) : Mk3 P w K mg base "NoPicture" C "ValueError" "found" "this is no picture" := by
  obtain ⟨f, fd, i1, t1, F⟩ := E.fn
  obtain ⟨fdB, FB⟩ := B.fn
  have bB := FB.binds (ps := ["self", "text"]) fun _ _ _ _ _ _ us hl => match us, hl with | [_, _], _ => rfl
  have G : FnOk P w K mg base CX0 1 fB fdB ["self", "text"] (spFam K "ValueError") := ok1 N FB
  have G2 : FnOk P w K mg base CX0 2 f fd ["self", "found"] (spX K "ValueError" "found" "this is no picture") := by
    refine F.ok sc25 (fun vs H Q E ⟨a, C, t0, x, e, _⟩ => by rw [e]; rfl) (fun cdv A outer s H vs Q E hr h => ?_)
    obtain ⟨a, C, t0, y, rfl, T, hB, ea, nF, k⟩ := h
    refine ⟨_, pss_cons (ps_expr (pe_off (by rfl) B.mgC B.sg B.rd B.at_ FB.kp G hr bB .nil pass0 (pa_cons (pv 0) (pa_cons pe_str pa_nil))))
      (pss_one (ps_estF (pv 0) (pv 1))), ?_⟩
    refine ⟨_, rfl, a, C, t0, _, rfl, T, hB, ea, fun t2 n2 ne => ?_⟩
    exact ⟨_, rfl, _, rfl, a, C, t2, rfl, T, nF, upd_same, fun dx nx nxa => fin_x (fun _ q => q) k n2 ne nx nxa⟩
  refine ⟨E.mgC, E.oex, E.hB, E.nF, f, fd, i1, t1, G2, F.binds fun _ _ _ _ _ _ us hl => match us, hl with | [_, _], _ => rfl, fun s a b _ => ?_⟩
  obtain ⟨oc, od, kV, doc, pm, an, cdv, ct, osl, rfl, lk, hcd⟩ := F.ex
  exact .of_eq rfl
abbrev s26 : Stmt := inClass (top 26) 0
theorem sc26 : FnScope ["self", "found"] ["self", "found"] (defScope s26) := ⟨rfl, rfl, rfl, by decide +kernel, rfl, by decide +kernel, by decide +kernel⟩
theorem mk26 {C CB fB : Addr} (N : Bas K mg "ValueError" "ValueError" "ValueError.__init__") (B : Fam K mg "PanelError" "PanelError.__init__" "ValueError" s1 CB fB)
    (E : Cl K mg "NoPlant" "NoPlant.__init__" "found" "ValueError" s26 C) : Mk3 P w K mg base "NoPlant" C "ValueError" "found" "this is no plant" := by
  obtain ⟨f, fd, i1, t1, F⟩ := E.fn
  obtain ⟨fdB, FB⟩ := B.fn
  have bB := FB.binds (ps := ["self", "text"]) fun _ _ _ _ _ _ us hl => match us, hl with | [_, _], _ => rfl
  have G : FnOk P w K mg base CX0 1 fB fdB ["self", "text"] (spFam K "ValueError") := ok1 N FB
  have G2 : FnOk P w K mg base CX0 2 f fd ["self", "found"] (spX K "ValueError" "found" "this is no plant") := by
    refine F.ok sc26 (fun vs H Q E ⟨a, C, t0, x, e, _⟩ => by rw [e]; rfl) (fun cdv A outer s H vs Q E hr h => ?_)
    obtain ⟨a, C, t0, y, rfl, T, hB, ea, nF, k⟩ := h
    refine ⟨_, pss_cons (ps_expr (pe_off (by rfl) B.mgC B.sg B.rd B.at_ FB.kp G hr bB .nil pass0 (pa_cons (pv 0) (pa_cons pe_str pa_nil))))
      (pss_one (ps_estF (pv 0) (pv 1))), ?_⟩
    refine ⟨_, rfl, a, C, t0, _, rfl, T, hB, ea, fun t2 n2 ne => ?_⟩
    exact ⟨_, rfl, _, rfl, a, C, t2, rfl, T, nF, upd_same, fun dx nx nxa => fin_x (fun _ q => q) k n2 ne nx nxa⟩
  refine ⟨E.mgC, E.oex, E.hB, E.nF, f, fd, i1, t1, G2, F.binds fun _ _ _ _ _ _ us hl => match us, hl with | [_, _], _ => rfl, fun s a b _ => ?_⟩
  obtain ⟨oc, od, kV, doc, pm, an, cdv, ct, osl, rfl, lk, hcd⟩ := F.ex
  exact .of_eq rfl
abbrev s27 : Stmt := inClass (top 27) 0
theorem sc27 : FnScope ["self", "found"] ["self", "found"] (defScope s27) := ⟨rfl, rfl, rfl, by decide +kernel, rfl, by decide +kernel, by decide +kernel⟩
theorem mk27 {C CB fB : Addr} (N : Bas K mg "ValueError" "ValueError" "ValueError.__init__") (B : Fam K mg "PanelError" "PanelError.__init__" "ValueError" s1 CB fB)
    (E : Cl K mg "NoLog" "NoLog.__init__" "found" "ValueError" s27 C) : Mk3 P w K mg base "NoLog" C "ValueError" "found" "this is no log" := by
  obtain ⟨f, fd, i1, t1, F⟩ := E.fn
  obtain ⟨fdB, FB⟩ := B.fn
  have bB := FB.binds (ps := ["self", "text"]) fun _ _ _ _ _ _ us hl => match us, hl with | [_, _], _ => rfl
  have G : FnOk P w K mg base CX0 1 fB fdB ["self", "text"] (spFam K "ValueError") := ok1 N FB
  have G2 : FnOk P w K mg base CX0 2 f fd ["self", "found"] (spX K "ValueError" "found" "this is no log") := by
    refine F.ok sc27 (fun vs H Q E ⟨a, C, t0, x, e, _⟩ => by rw [e]; rfl) (fun cdv A outer s H vs Q E hr h => ?_)
    obtain ⟨a, C, t0, y, rfl, T, hB, ea, nF, k⟩ := h
    refine ⟨_, pss_cons (ps_expr (pe_off (by rfl) B.mgC B.sg B.rd B.at_ FB.kp G hr bB .nil pass0 (pa_cons (pv 0) (pa_cons pe_str pa_nil))))
      (pss_one (ps_estF (pv 0) (pv 1))), ?_⟩
    refine ⟨_, rfl, a, C, t0, _, rfl, T, hB, ea, fun t2 n2 ne => ?_⟩
    exact ⟨_, rfl, _, rfl, a, C, t2, rfl, T, nF, upd_same, fun dx nx nxa => fin_x (fun _ q => q) k n2 ne nx nxa⟩
  refine ⟨E.mgC, E.oex, E.hB, E.nF, f, fd, i1, t1, G2, F.binds fun _ _ _ _ _ _ us hl => match us, hl with | [_, _], _ => rfl, fun s a b _ => ?_⟩
  obtain ⟨oc, od, kV, doc, pm, an, cdv, ct, osl, rfl, lk, hcd⟩ := F.ex
  exact .of_eq rfl
abbrev s28 : Stmt := inClass (top 28) 0
theorem sc28 : FnScope ["self", "found"] ["self", "found"] (defScope s28) := ⟨rfl, rfl, rfl, by decide +kernel, rfl, by decide +kernel, by decide +kernel⟩
theorem mk28 {C CB fB : Addr} (N : Bas K mg "ValueError" "ValueError" "ValueError.__init__") (B : Fam K mg "PanelError" "PanelError.__init__" "ValueError" s1 CB fB)
    (E : Cl K mg "NoDeed" "NoDeed.__init__" "found" "ValueError" s28 C) : Mk3 P w K mg base "NoDeed" C "ValueError" "found" "this is no deed" := by
  obtain ⟨f, fd, i1, t1, F⟩ := E.fn
  obtain ⟨fdB, FB⟩ := B.fn
  have bB := FB.binds (ps := ["self", "text"]) fun _ _ _ _ _ _ us hl => match us, hl with | [_, _], _ => rfl
  have G : FnOk P w K mg base CX0 1 fB fdB ["self", "text"] (spFam K "ValueError") := ok1 N FB
  have G2 : FnOk P w K mg base CX0 2 f fd ["self", "found"] (spX K "ValueError" "found" "this is no deed") := by
    refine F.ok sc28 (fun vs H Q E ⟨a, C, t0, x, e, _⟩ => by rw [e]; rfl) (fun cdv A outer s H vs Q E hr h => ?_)
    obtain ⟨a, C, t0, y, rfl, T, hB, ea, nF, k⟩ := h
    refine ⟨_, pss_cons (ps_expr (pe_off (by rfl) B.mgC B.sg B.rd B.at_ FB.kp G hr bB .nil pass0 (pa_cons (pv 0) (pa_cons pe_str pa_nil))))
      (pss_one (ps_estF (pv 0) (pv 1))), ?_⟩
    refine ⟨_, rfl, a, C, t0, _, rfl, T, hB, ea, fun t2 n2 ne => ?_⟩
    exact ⟨_, rfl, _, rfl, a, C, t2, rfl, T, nF, upd_same, fun dx nx nxa => fin_x (fun _ q => q) k n2 ne nx nxa⟩
  refine ⟨E.mgC, E.oex, E.hB, E.nF, f, fd, i1, t1, G2, F.binds fun _ _ _ _ _ _ us hl => match us, hl with | [_, _], _ => rfl, fun s a b _ => ?_⟩
  obtain ⟨oc, od, kV, doc, pm, an, cdv, ct, osl, rfl, lk, hcd⟩ := F.ex
  exact .of_eq rfl
abbrev s29 : Stmt := inClass (top 29) 0
theorem sc29 : FnScope ["self", "found"] ["self", "found"] (defScope s29) := ⟨rfl, rfl, rfl, by decide +kernel, rfl, by decide +kernel, by decide +kernel⟩
theorem mk29 {C CB fB : Addr} (N : Bas K mg "ValueError" "ValueError" "ValueError.__init__") (B : Fam K mg "PanelError" "PanelError.__init__" "ValueError" s1 CB fB)
    (E : Cl K mg "NoText" "NoText.__init__" "found" "ValueError" s29 C) : Mk3 P w K mg base "NoText" C "ValueError" "found" "this text writes nothing" := by
  obtain ⟨f, fd, i1, t1, F⟩ := E.fn
  obtain ⟨fdB, FB⟩ := B.fn
  have bB := FB.binds (ps := ["self", "text"]) fun _ _ _ _ _ _ us hl => match us, hl with | [_, _], _ => rfl
  have G : FnOk P w K mg base CX0 1 fB fdB ["self", "text"] (spFam K "ValueError") := ok1 N FB
  have G2 : FnOk P w K mg base CX0 2 f fd ["self", "found"] (spX K "ValueError" "found" "this text writes nothing") := by
    refine F.ok sc29 (fun vs H Q E ⟨a, C, t0, x, e, _⟩ => by rw [e]; rfl) (fun cdv A outer s H vs Q E hr h => ?_)
    obtain ⟨a, C, t0, y, rfl, T, hB, ea, nF, k⟩ := h
    refine ⟨_, pss_cons (ps_expr (pe_off (by rfl) B.mgC B.sg B.rd B.at_ FB.kp G hr bB .nil pass0 (pa_cons (pv 0) (pa_cons pe_str pa_nil))))
      (pss_one (ps_estF (pv 0) (pv 1))), ?_⟩
    refine ⟨_, rfl, a, C, t0, _, rfl, T, hB, ea, fun t2 n2 ne => ?_⟩
    exact ⟨_, rfl, _, rfl, a, C, t2, rfl, T, nF, upd_same, fun dx nx nxa => fin_x (fun _ q => q) k n2 ne nx nxa⟩
  refine ⟨E.mgC, E.oex, E.hB, E.nF, f, fd, i1, t1, G2, F.binds fun _ _ _ _ _ _ us hl => match us, hl with | [_, _], _ => rfl, fun s a b _ => ?_⟩
  obtain ⟨oc, od, kV, doc, pm, an, cdv, ct, osl, rfl, lk, hcd⟩ := F.ex
  exact .of_eq rfl
abbrev s30 : Stmt := inClass (top 30) 0
theorem sc30 : FnScope ["self", "found"] ["self", "found"] (defScope s30) := ⟨rfl, rfl, rfl, by decide +kernel, rfl, by decide +kernel, by decide +kernel⟩
theorem mk30 {C CB fB : Addr} (N : Bas K mg "ValueError" "ValueError" "ValueError.__init__") (B : Fam K mg "PanelError" "PanelError.__init__" "ValueError" s1 CB fB)
    (E : Cl K mg "NoLine" "NoLine.__init__" "found" "ValueError" s30 C) : Mk3 P w K mg base "NoLine" C "ValueError" "found" "this is no line" := by
  obtain ⟨f, fd, i1, t1, F⟩ := E.fn
  obtain ⟨fdB, FB⟩ := B.fn
  have bB := FB.binds (ps := ["self", "text"]) fun _ _ _ _ _ _ us hl => match us, hl with | [_, _], _ => rfl
  have G : FnOk P w K mg base CX0 1 fB fdB ["self", "text"] (spFam K "ValueError") := ok1 N FB
  have G2 : FnOk P w K mg base CX0 2 f fd ["self", "found"] (spX K "ValueError" "found" "this is no line") := by
    refine F.ok sc30 (fun vs H Q E ⟨a, C, t0, x, e, _⟩ => by rw [e]; rfl) (fun cdv A outer s H vs Q E hr h => ?_)
    obtain ⟨a, C, t0, y, rfl, T, hB, ea, nF, k⟩ := h
    refine ⟨_, pss_cons (ps_expr (pe_off (by rfl) B.mgC B.sg B.rd B.at_ FB.kp G hr bB .nil pass0 (pa_cons (pv 0) (pa_cons pe_str pa_nil))))
      (pss_one (ps_estF (pv 0) (pv 1))), ?_⟩
    refine ⟨_, rfl, a, C, t0, _, rfl, T, hB, ea, fun t2 n2 ne => ?_⟩
    exact ⟨_, rfl, _, rfl, a, C, t2, rfl, T, nF, upd_same, fun dx nx nxa => fin_x (fun _ q => q) k n2 ne nx nxa⟩
  refine ⟨E.mgC, E.oex, E.hB, E.nF, f, fd, i1, t1, G2, F.binds fun _ _ _ _ _ _ us hl => match us, hl with | [_, _], _ => rfl, fun s a b _ => ?_⟩
  obtain ⟨oc, od, kV, doc, pm, an, cdv, ct, osl, rfl, lk, hcd⟩ := F.ex
  exact .of_eq rfl
abbrev s31 : Stmt := inClass (top 31) 0
theorem sc31 : FnScope ["self", "found"] ["self", "found"] (defScope s31) := ⟨rfl, rfl, rfl, by decide +kernel, rfl, by decide +kernel, by decide +kernel⟩
theorem mk31 {C CB fB : Addr} (N : Bas K mg "ValueError" "ValueError" "ValueError.__init__") (B : Fam K mg "PanelError" "PanelError.__init__" "ValueError" s1 CB fB)
    (E : Cl K mg "Unlike" "Unlike.__init__" "found" "ValueError" s31 C) : Mk3 P w K mg base "Unlike" C "ValueError" "found" "this is unlike another one" := by
  obtain ⟨f, fd, i1, t1, F⟩ := E.fn
  obtain ⟨fdB, FB⟩ := B.fn
  have bB := FB.binds (ps := ["self", "text"]) fun _ _ _ _ _ _ us hl => match us, hl with | [_, _], _ => rfl
  have G : FnOk P w K mg base CX0 1 fB fdB ["self", "text"] (spFam K "ValueError") := ok1 N FB
  have G2 : FnOk P w K mg base CX0 2 f fd ["self", "found"] (spX K "ValueError" "found" "this is unlike another one") := by
    refine F.ok sc31 (fun vs H Q E ⟨a, C, t0, x, e, _⟩ => by rw [e]; rfl) (fun cdv A outer s H vs Q E hr h => ?_)
    obtain ⟨a, C, t0, y, rfl, T, hB, ea, nF, k⟩ := h
    refine ⟨_, pss_cons (ps_expr (pe_off (by rfl) B.mgC B.sg B.rd B.at_ FB.kp G hr bB .nil pass0 (pa_cons (pv 0) (pa_cons pe_str pa_nil))))
      (pss_one (ps_estF (pv 0) (pv 1))), ?_⟩
    refine ⟨_, rfl, a, C, t0, _, rfl, T, hB, ea, fun t2 n2 ne => ?_⟩
    exact ⟨_, rfl, _, rfl, a, C, t2, rfl, T, nF, upd_same, fun dx nx nxa => fin_x (fun _ q => q) k n2 ne nx nxa⟩
  refine ⟨E.mgC, E.oex, E.hB, E.nF, f, fd, i1, t1, G2, F.binds fun _ _ _ _ _ _ us hl => match us, hl with | [_, _], _ => rfl, fun s a b _ => ?_⟩
  obtain ⟨oc, od, kV, doc, pm, an, cdv, ct, osl, rfl, lk, hcd⟩ := F.ex
  exact .of_eq rfl
abbrev s32 : Stmt := inClass (top 32) 0
theorem sc32 : FnScope ["self", "found"] ["self", "found"] (defScope s32) := ⟨rfl, rfl, rfl, by decide +kernel, rfl, by decide +kernel, by decide +kernel⟩
theorem mk32 {C CB fB : Addr} (N : Bas K mg "ValueError" "ValueError" "ValueError.__init__") (B : Fam K mg "PanelError" "PanelError.__init__" "ValueError" s1 CB fB)
    (E : Cl K mg "Twice" "Twice.__init__" "found" "ValueError" s32 C) : Mk3 P w K mg base "Twice" C "ValueError" "found" "this stands ahead, too" := by
  obtain ⟨f, fd, i1, t1, F⟩ := E.fn
  obtain ⟨fdB, FB⟩ := B.fn
  have bB := FB.binds (ps := ["self", "text"]) fun _ _ _ _ _ _ us hl => match us, hl with | [_, _], _ => rfl
  have G : FnOk P w K mg base CX0 1 fB fdB ["self", "text"] (spFam K "ValueError") := ok1 N FB
  have G2 : FnOk P w K mg base CX0 2 f fd ["self", "found"] (spX K "ValueError" "found" "this stands ahead, too") := by
    refine F.ok sc32 (fun vs H Q E ⟨a, C, t0, x, e, _⟩ => by rw [e]; rfl) (fun cdv A outer s H vs Q E hr h => ?_)
    obtain ⟨a, C, t0, y, rfl, T, hB, ea, nF, k⟩ := h
    refine ⟨_, pss_cons (ps_expr (pe_off (by rfl) B.mgC B.sg B.rd B.at_ FB.kp G hr bB .nil pass0 (pa_cons (pv 0) (pa_cons pe_str pa_nil))))
      (pss_one (ps_estF (pv 0) (pv 1))), ?_⟩
    refine ⟨_, rfl, a, C, t0, _, rfl, T, hB, ea, fun t2 n2 ne => ?_⟩
    exact ⟨_, rfl, _, rfl, a, C, t2, rfl, T, nF, upd_same, fun dx nx nxa => fin_x (fun _ q => q) k n2 ne nx nxa⟩
  refine ⟨E.mgC, E.oex, E.hB, E.nF, f, fd, i1, t1, G2, F.binds fun _ _ _ _ _ _ us hl => match us, hl with | [_, _], _ => rfl, fun s a b _ => ?_⟩
  obtain ⟨oc, od, kV, doc, pm, an, cdv, ct, osl, rfl, lk, hcd⟩ := F.ex
  exact .of_eq rfl
abbrev s33 : Stmt := inClass (top 33) 0
theorem sc33 : FnScope ["self", "found"] ["self", "found"] (defScope s33) := ⟨rfl, rfl, rfl, by decide +kernel, rfl, by decide +kernel, by decide +kernel⟩
theorem mk33 {C CB fB : Addr} (N : Bas K mg "ValueError" "ValueError" "ValueError.__init__") (B : Fam K mg "PanelError" "PanelError.__init__" "ValueError" s1 CB fB)
    (E : Cl K mg "Ring" "Ring.__init__" "found" "ValueError" s33 C) : Mk3 P w K mg base "Ring" C "ValueError" "found" "this leads to itself" := by
  obtain ⟨f, fd, i1, t1, F⟩ := E.fn
  obtain ⟨fdB, FB⟩ := B.fn
  have bB := FB.binds (ps := ["self", "text"]) fun _ _ _ _ _ _ us hl => match us, hl with | [_, _], _ => rfl
  have G : FnOk P w K mg base CX0 1 fB fdB ["self", "text"] (spFam K "ValueError") := ok1 N FB
  have G2 : FnOk P w K mg base CX0 2 f fd ["self", "found"] (spX K "ValueError" "found" "this leads to itself") := by
    refine F.ok sc33 (fun vs H Q E ⟨a, C, t0, x, e, _⟩ => by rw [e]; rfl) (fun cdv A outer s H vs Q E hr h => ?_)
    obtain ⟨a, C, t0, y, rfl, T, hB, ea, nF, k⟩ := h
    refine ⟨_, pss_cons (ps_expr (pe_off (by rfl) B.mgC B.sg B.rd B.at_ FB.kp G hr bB .nil pass0 (pa_cons (pv 0) (pa_cons pe_str pa_nil))))
      (pss_one (ps_estF (pv 0) (pv 1))), ?_⟩
    refine ⟨_, rfl, a, C, t0, _, rfl, T, hB, ea, fun t2 n2 ne => ?_⟩
    exact ⟨_, rfl, _, rfl, a, C, t2, rfl, T, nF, upd_same, fun dx nx nxa => fin_x (fun _ q => q) k n2 ne nx nxa⟩
  refine ⟨E.mgC, E.oex, E.hB, E.nF, f, fd, i1, t1, G2, F.binds fun _ _ _ _ _ _ us hl => match us, hl with | [_, _], _ => rfl, fun s a b _ => ?_⟩
  obtain ⟨oc, od, kV, doc, pm, an, cdv, ct, osl, rfl, lk, hcd⟩ := F.ex
  exact .of_eq rfl
abbrev s4 : Stmt := inClass (top 4) 0
theorem sc4 : FnScope ["self", "many"] ["self", "many"] (defScope s4) := ⟨rfl, rfl, rfl, by decide +kernel, rfl, by decide +kernel, by decide +kernel⟩
theorem mk4 {C CB fB : Addr} (N : Bas K mg "ValueError" "ValueError" "ValueError.__init__") (B : Fam K mg "PanelError" "PanelError.__init__" "ValueError" s1 CB fB)
    (E : Cl K mg "TooMany" "TooMany.__init__" "many" "ValueError" s4 C) : Mk3 P w K mg base "TooMany" C "ValueError" "many" "these are too many" := by
  obtain ⟨f, fd, i1, t1, F⟩ := E.fn
  obtain ⟨fdB, FB⟩ := B.fn
  have bB := FB.binds (ps := ["self", "text"]) fun _ _ _ _ _ _ us hl => match us, hl with | [_, _], _ => rfl
  have G : FnOk P w K mg base CX0 1 fB fdB ["self", "text"] (spFam K "ValueError") := ok1 N FB
  have G2 : FnOk P w K mg base CX0 2 f fd ["self", "many"] (spX K "ValueError" "many" "these are too many") := by
    refine F.ok sc4 (fun vs H Q E ⟨a, C, t0, x, e, _⟩ => by rw [e]; rfl) (fun cdv A outer s H vs Q E hr h => ?_)
    obtain ⟨a, C, t0, y, rfl, T, hB, ea, nF, k⟩ := h
    refine ⟨_, pss_cons (ps_expr (pe_off (by rfl) B.mgC B.sg B.rd B.at_ FB.kp G hr bB .nil pass0 (pa_cons (pv 0) (pa_cons pe_str pa_nil))))
      (pss_one (ps_estF (pv 0) (pv 1))), ?_⟩
    refine ⟨_, rfl, a, C, t0, _, rfl, T, hB, ea, fun t2 n2 ne => ?_⟩
    exact ⟨_, rfl, _, rfl, a, C, t2, rfl, T, nF, upd_same, fun dx nx nxa => fin_x (fun _ q => q) k n2 ne nx nxa⟩
  refine ⟨E.mgC, E.oex, E.hB, E.nF, f, fd, i1, t1, G2, F.binds fun _ _ _ _ _ _ us hl => match us, hl with | [_, _], _ => rfl, fun s a b _ => ?_⟩
  obtain ⟨oc, od, kV, doc, pm, an, cdv, ct, osl, rfl, lk, hcd⟩ := F.ex
  exact .of_eq rfl
abbrev s5 : Stmt := inClass (top 5) 0
theorem sc5 : FnScope ["self", "at"] ["self", "at"] (defScope s5) := ⟨rfl, rfl, rfl, by decide +kernel, rfl, by decide +kernel, by decide +kernel⟩
theorem mk5 {C CB fB : Addr} (N : Bas K mg "ValueError" "ValueError" "ValueError.__init__") (B : Fam K mg "PanelError" "PanelError.__init__" "ValueError" s1 CB fB)
    (E : Cl K mg "NoRow" "NoRow.__init__" "at" "ValueError" s5 C) : Mk3 P w K mg base "NoRow" C "ValueError" "at" "there is no row that will do" := by
  obtain ⟨f, fd, i1, t1, F⟩ := E.fn
  obtain ⟨fdB, FB⟩ := B.fn
  have bB := FB.binds (ps := ["self", "text"]) fun _ _ _ _ _ _ us hl => match us, hl with | [_, _], _ => rfl
  have G : FnOk P w K mg base CX0 1 fB fdB ["self", "text"] (spFam K "ValueError") := ok1 N FB
  have G2 : FnOk P w K mg base CX0 2 f fd ["self", "at"] (spX K "ValueError" "at" "there is no row that will do") := by
    refine F.ok sc5 (fun vs H Q E ⟨a, C, t0, x, e, _⟩ => by rw [e]; rfl) (fun cdv A outer s H vs Q E hr h => ?_)
    obtain ⟨a, C, t0, y, rfl, T, hB, ea, nF, k⟩ := h
    refine ⟨_, pss_cons (ps_expr (pe_off (by rfl) B.mgC B.sg B.rd B.at_ FB.kp G hr bB .nil pass0 (pa_cons (pv 0) (pa_cons pe_str pa_nil))))
      (pss_one (ps_estF (pv 0) (pv 1))), ?_⟩
    refine ⟨_, rfl, a, C, t0, _, rfl, T, hB, ea, fun t2 n2 ne => ?_⟩
    exact ⟨_, rfl, _, rfl, a, C, t2, rfl, T, nF, upd_same, fun dx nx nxa => fin_x (fun _ q => q) k n2 ne nx nxa⟩
  refine ⟨E.mgC, E.oex, E.hB, E.nF, f, fd, i1, t1, G2, F.binds fun _ _ _ _ _ _ us hl => match us, hl with | [_, _], _ => rfl, fun s a b _ => ?_⟩
  obtain ⟨oc, od, kV, doc, pm, an, cdv, ct, osl, rfl, lk, hcd⟩ := F.ex
  exact .of_eq rfl
abbrev s34 : Stmt := inClass (top 34) 0
theorem sc34 : FnScope ["self", "found"] ["self", "found"] (defScope s34) := ⟨rfl, rfl, rfl, by decide +kernel, rfl, by decide +kernel, by decide +kernel⟩
theorem mk34 {C CB fB : Addr} (N : Bas K mg "KeyError" "KeyError" "KeyError.__init__") (B : Fam K mg "Absent" "Absent.__init__" "KeyError" s2 CB fB)
    (E : Cl K mg "NoPoint" "NoPoint.__init__" "found" "KeyError" s34 C) : Mk3 P w K mg base "NoPoint" C "KeyError" "found" "there is no such point" := by
  obtain ⟨f, fd, i1, t1, F⟩ := E.fn
  obtain ⟨fdB, FB⟩ := B.fn
  have bB := FB.binds (ps := ["self", "text"]) fun _ _ _ _ _ _ us hl => match us, hl with | [_, _], _ => rfl
  have G : FnOk P w K mg base CX0 1 fB fdB ["self", "text"] (spFam K "KeyError") := ok2 N FB
  have G2 : FnOk P w K mg base CX0 2 f fd ["self", "found"] (spX K "KeyError" "found" "there is no such point") := by
    refine F.ok sc34 (fun vs H Q E ⟨a, C, t0, x, e, _⟩ => by rw [e]; rfl) (fun cdv A outer s H vs Q E hr h => ?_)
    obtain ⟨a, C, t0, y, rfl, T, hB, ea, nF, k⟩ := h
    refine ⟨_, pss_cons (ps_expr (pe_off (by rfl) B.mgC B.sg B.rd B.at_ FB.kp G hr bB .nil pass0 (pa_cons (pv 0) (pa_cons pe_str pa_nil))))
      (pss_one (ps_estF (pv 0) (pv 1))), ?_⟩
    refine ⟨_, rfl, a, C, t0, _, rfl, T, hB, ea, fun t2 n2 ne => ?_⟩
    exact ⟨_, rfl, _, rfl, a, C, t2, rfl, T, nF, upd_same, fun dx nx nxa => fin_x (fun _ q => q) k n2 ne nx nxa⟩
  refine ⟨E.mgC, E.oex, E.hB, E.nF, f, fd, i1, t1, G2, F.binds fun _ _ _ _ _ _ us hl => match us, hl with | [_, _], _ => rfl, fun s a b _ => ?_⟩
  obtain ⟨oc, od, kV, doc, pm, an, cdv, ct, osl, rfl, lk, hcd⟩ := F.ex
  exact .of_eq rfl
abbrev s35 : Stmt := inClass (top 35) 0
theorem sc35 : FnScope ["self", "found"] ["self", "found"] (defScope s35) := ⟨rfl, rfl, rfl, by decide +kernel, rfl, by decide +kernel, by decide +kernel⟩
theorem mk35 {C CB fB : Addr} (N : Bas K mg "KeyError" "KeyError" "KeyError.__init__") (B : Fam K mg "Absent" "Absent.__init__" "KeyError" s2 CB fB)
    (E : Cl K mg "NoPlace" "NoPlace.__init__" "found" "KeyError" s35 C) : Mk3 P w K mg base "NoPlace" C "KeyError" "found" "there is no such place" := by
  obtain ⟨f, fd, i1, t1, F⟩ := E.fn
  obtain ⟨fdB, FB⟩ := B.fn
  have bB := FB.binds (ps := ["self", "text"]) fun _ _ _ _ _ _ us hl => match us, hl with | [_, _], _ => rfl
  have G : FnOk P w K mg base CX0 1 fB fdB ["self", "text"] (spFam K "KeyError") := ok2 N FB
  have G2 : FnOk P w K mg base CX0 2 f fd ["self", "found"] (spX K "KeyError" "found" "there is no such place") := by
    refine F.ok sc35 (fun vs H Q E ⟨a, C, t0, x, e, _⟩ => by rw [e]; rfl) (fun cdv A outer s H vs Q E hr h => ?_)
    obtain ⟨a, C, t0, y, rfl, T, hB, ea, nF, k⟩ := h
    refine ⟨_, pss_cons (ps_expr (pe_off (by rfl) B.mgC B.sg B.rd B.at_ FB.kp G hr bB .nil pass0 (pa_cons (pv 0) (pa_cons pe_str pa_nil))))
      (pss_one (ps_estF (pv 0) (pv 1))), ?_⟩
    refine ⟨_, rfl, a, C, t0, _, rfl, T, hB, ea, fun t2 n2 ne => ?_⟩
    exact ⟨_, rfl, _, rfl, a, C, t2, rfl, T, nF, upd_same, fun dx nx nxa => fin_x (fun _ q => q) k n2 ne nx nxa⟩
  refine ⟨E.mgC, E.oex, E.hB, E.nF, f, fd, i1, t1, G2, F.binds fun _ _ _ _ _ _ us hl => match us, hl with | [_, _], _ => rfl, fun s a b _ => ?_⟩
  obtain ⟨oc, od, kV, doc, pm, an, cdv, ct, osl, rfl, lk, hcd⟩ := F.ex
  exact .of_eq rfl
abbrev s36 : Stmt := inClass (top 36) 0
theorem sc36 : FnScope ["self", "found"] ["self", "found"] (defScope s36) := ⟨rfl, rfl, rfl, by decide +kernel, rfl, by decide +kernel, by decide +kernel⟩
theorem mk36 {C CB fB : Addr} (N : Bas K mg "KeyError" "KeyError" "KeyError.__init__") (B : Fam K mg "Absent" "Absent.__init__" "KeyError" s2 CB fB)
    (E : Cl K mg "NoRule" "NoRule.__init__" "found" "KeyError" s36 C) : Mk3 P w K mg base "NoRule" C "KeyError" "found" "there is no such rule" := by
  obtain ⟨f, fd, i1, t1, F⟩ := E.fn
  obtain ⟨fdB, FB⟩ := B.fn
  have bB := FB.binds (ps := ["self", "text"]) fun _ _ _ _ _ _ us hl => match us, hl with | [_, _], _ => rfl
  have G : FnOk P w K mg base CX0 1 fB fdB ["self", "text"] (spFam K "KeyError") := ok2 N FB
  have G2 : FnOk P w K mg base CX0 2 f fd ["self", "found"] (spX K "KeyError" "found" "there is no such rule") := by
    refine F.ok sc36 (fun vs H Q E ⟨a, C, t0, x, e, _⟩ => by rw [e]; rfl) (fun cdv A outer s H vs Q E hr h => ?_)
    obtain ⟨a, C, t0, y, rfl, T, hB, ea, nF, k⟩ := h
    refine ⟨_, pss_cons (ps_expr (pe_off (by rfl) B.mgC B.sg B.rd B.at_ FB.kp G hr bB .nil pass0 (pa_cons (pv 0) (pa_cons pe_str pa_nil))))
      (pss_one (ps_estF (pv 0) (pv 1))), ?_⟩
    refine ⟨_, rfl, a, C, t0, _, rfl, T, hB, ea, fun t2 n2 ne => ?_⟩
    exact ⟨_, rfl, _, rfl, a, C, t2, rfl, T, nF, upd_same, fun dx nx nxa => fin_x (fun _ q => q) k n2 ne nx nxa⟩
  refine ⟨E.mgC, E.oex, E.hB, E.nF, f, fd, i1, t1, G2, F.binds fun _ _ _ _ _ _ us hl => match us, hl with | [_, _], _ => rfl, fun s a b _ => ?_⟩
  obtain ⟨oc, od, kV, doc, pm, an, cdv, ct, osl, rfl, lk, hcd⟩ := F.ex
  exact .of_eq rfl
abbrev s37 : Stmt := inClass (top 37) 0
theorem sc37 : FnScope ["self", "found"] ["self", "found"] (defScope s37) := ⟨rfl, rfl, rfl, by decide +kernel, rfl, by decide +kernel, by decide +kernel⟩
theorem mk37 {C CB fB : Addr} (N : Bas K mg "KeyError" "KeyError" "KeyError.__init__") (B : Fam K mg "Absent" "Absent.__init__" "KeyError" s2 CB fB)
    (E : Cl K mg "NoCommand" "NoCommand.__init__" "found" "KeyError" s37 C) : Mk3 P w K mg base "NoCommand" C "KeyError" "found" "there is no such command" := by
  obtain ⟨f, fd, i1, t1, F⟩ := E.fn
  obtain ⟨fdB, FB⟩ := B.fn
  have bB := FB.binds (ps := ["self", "text"]) fun _ _ _ _ _ _ us hl => match us, hl with | [_, _], _ => rfl
  have G : FnOk P w K mg base CX0 1 fB fdB ["self", "text"] (spFam K "KeyError") := ok2 N FB
  have G2 : FnOk P w K mg base CX0 2 f fd ["self", "found"] (spX K "KeyError" "found" "there is no such command") := by
    refine F.ok sc37 (fun vs H Q E ⟨a, C, t0, x, e, _⟩ => by rw [e]; rfl) (fun cdv A outer s H vs Q E hr h => ?_)
    obtain ⟨a, C, t0, y, rfl, T, hB, ea, nF, k⟩ := h
    refine ⟨_, pss_cons (ps_expr (pe_off (by rfl) B.mgC B.sg B.rd B.at_ FB.kp G hr bB .nil pass0 (pa_cons (pv 0) (pa_cons pe_str pa_nil))))
      (pss_one (ps_estF (pv 0) (pv 1))), ?_⟩
    refine ⟨_, rfl, a, C, t0, _, rfl, T, hB, ea, fun t2 n2 ne => ?_⟩
    exact ⟨_, rfl, _, rfl, a, C, t2, rfl, T, nF, upd_same, fun dx nx nxa => fin_x (fun _ q => q) k n2 ne nx nxa⟩
  refine ⟨E.mgC, E.oex, E.hB, E.nF, f, fd, i1, t1, G2, F.binds fun _ _ _ _ _ _ us hl => match us, hl with | [_, _], _ => rfl, fun s a b _ => ?_⟩
  obtain ⟨oc, od, kV, doc, pm, an, cdv, ct, osl, rfl, lk, hcd⟩ := F.ex
  exact .of_eq rfl
abbrev s38 : Stmt := inClass (top 38) 0
theorem sc38 : FnScope ["self", "found"] ["self", "found"] (defScope s38) := ⟨rfl, rfl, rfl, by decide +kernel, rfl, by decide +kernel, by decide +kernel⟩
theorem mk38 {C CB fB : Addr} (N : Bas K mg "KeyError" "KeyError" "KeyError.__init__") (B : Fam K mg "Absent" "Absent.__init__" "KeyError" s2 CB fB)
    (E : Cl K mg "NotThere" "NotThere.__init__" "found" "KeyError" s38 C) : Mk3 P w K mg base "NotThere" C "KeyError" "found" "there is no such thing here" := by
  obtain ⟨f, fd, i1, t1, F⟩ := E.fn
  obtain ⟨fdB, FB⟩ := B.fn
  have bB := FB.binds (ps := ["self", "text"]) fun _ _ _ _ _ _ us hl => match us, hl with | [_, _], _ => rfl
  have G : FnOk P w K mg base CX0 1 fB fdB ["self", "text"] (spFam K "KeyError") := ok2 N FB
  have G2 : FnOk P w K mg base CX0 2 f fd ["self", "found"] (spX K "KeyError" "found" "there is no such thing here") := by
    refine F.ok sc38 (fun vs H Q E ⟨a, C, t0, x, e, _⟩ => by rw [e]; rfl) (fun cdv A outer s H vs Q E hr h => ?_)
    obtain ⟨a, C, t0, y, rfl, T, hB, ea, nF, k⟩ := h
    refine ⟨_, pss_cons (ps_expr (pe_off (by rfl) B.mgC B.sg B.rd B.at_ FB.kp G hr bB .nil pass0 (pa_cons (pv 0) (pa_cons pe_str pa_nil))))
      (pss_one (ps_estF (pv 0) (pv 1))), ?_⟩
    refine ⟨_, rfl, a, C, t0, _, rfl, T, hB, ea, fun t2 n2 ne => ?_⟩
    exact ⟨_, rfl, _, rfl, a, C, t2, rfl, T, nF, upd_same, fun dx nx nxa => fin_x (fun _ q => q) k n2 ne nx nxa⟩
  refine ⟨E.mgC, E.oex, E.hB, E.nF, f, fd, i1, t1, G2, F.binds fun _ _ _ _ _ _ us hl => match us, hl with | [_, _], _ => rfl, fun s a b _ => ?_⟩
  obtain ⟨oc, od, kV, doc, pm, an, cdv, ct, osl, rfl, lk, hcd⟩ := F.ex
  exact .of_eq rfl
abbrev s39 : Stmt := inClass (top 39) 0
theorem sc39 : FnScope ["self", "found"] ["self", "found"] (defScope s39) := ⟨rfl, rfl, rfl, by decide +kernel, rfl, by decide +kernel, by decide +kernel⟩
theorem mk39 {C CB fB : Addr} (N : Bas K mg "KeyError" "KeyError" "KeyError.__init__") (B : Fam K mg "Absent" "Absent.__init__" "KeyError" s2 CB fB)
    (E : Cl K mg "NotOnRoad" "NotOnRoad.__init__" "found" "KeyError" s39 C) : Mk3 P w K mg base "NotOnRoad" C "KeyError" "found" "this is not on the road" := by
  obtain ⟨f, fd, i1, t1, F⟩ := E.fn
  obtain ⟨fdB, FB⟩ := B.fn
  have bB := FB.binds (ps := ["self", "text"]) fun _ _ _ _ _ _ us hl => match us, hl with | [_, _], _ => rfl
  have G : FnOk P w K mg base CX0 1 fB fdB ["self", "text"] (spFam K "KeyError") := ok2 N FB
  have G2 : FnOk P w K mg base CX0 2 f fd ["self", "found"] (spX K "KeyError" "found" "this is not on the road") := by
    refine F.ok sc39 (fun vs H Q E ⟨a, C, t0, x, e, _⟩ => by rw [e]; rfl) (fun cdv A outer s H vs Q E hr h => ?_)
    obtain ⟨a, C, t0, y, rfl, T, hB, ea, nF, k⟩ := h
    refine ⟨_, pss_cons (ps_expr (pe_off (by rfl) B.mgC B.sg B.rd B.at_ FB.kp G hr bB .nil pass0 (pa_cons (pv 0) (pa_cons pe_str pa_nil))))
      (pss_one (ps_estF (pv 0) (pv 1))), ?_⟩
    refine ⟨_, rfl, a, C, t0, _, rfl, T, hB, ea, fun t2 n2 ne => ?_⟩
    exact ⟨_, rfl, _, rfl, a, C, t2, rfl, T, nF, upd_same, fun dx nx nxa => fin_x (fun _ q => q) k n2 ne nx nxa⟩
  refine ⟨E.mgC, E.oex, E.hB, E.nF, f, fd, i1, t1, G2, F.binds fun _ _ _ _ _ _ us hl => match us, hl with | [_, _], _ => rfl, fun s a b _ => ?_⟩
  obtain ⟨oc, od, kV, doc, pm, an, cdv, ct, osl, rfl, lk, hcd⟩ := F.ex
  exact .of_eq rfl
abbrev s40 : Stmt := inClass (top 40) 0
theorem sc40 : FnScope ["self", "found"] ["self", "found"] (defScope s40) := ⟨rfl, rfl, rfl, by decide +kernel, rfl, by decide +kernel, by decide +kernel⟩
theorem mk40 {C CB fB : Addr} (N : Bas K mg "LookupError" "LookupError" "LookupError.__init__") (B : Fam K mg "Barred" "Barred.__init__" "LookupError" s3 CB fB)
    (E : Cl K mg "Locked" "Locked.__init__" "found" "LookupError" s40 C) : Mk3 P w K mg base "Locked" C "LookupError" "found" "a lock does not hold" := by
  obtain ⟨f, fd, i1, t1, F⟩ := E.fn
  obtain ⟨fdB, FB⟩ := B.fn
  have bB := FB.binds (ps := ["self", "text"]) fun _ _ _ _ _ _ us hl => match us, hl with | [_, _], _ => rfl
  have G : FnOk P w K mg base CX0 1 fB fdB ["self", "text"] (spFam K "LookupError") := ok3 N FB
  have G2 : FnOk P w K mg base CX0 2 f fd ["self", "found"] (spX K "LookupError" "found" "a lock does not hold") := by
    refine F.ok sc40 (fun vs H Q E ⟨a, C, t0, x, e, _⟩ => by rw [e]; rfl) (fun cdv A outer s H vs Q E hr h => ?_)
    obtain ⟨a, C, t0, y, rfl, T, hB, ea, nF, k⟩ := h
    refine ⟨_, pss_cons (ps_expr (pe_off (by rfl) B.mgC B.sg B.rd B.at_ FB.kp G hr bB .nil pass0 (pa_cons (pv 0) (pa_cons pe_str pa_nil))))
      (pss_one (ps_estF (pv 0) (pv 1))), ?_⟩
    refine ⟨_, rfl, a, C, t0, _, rfl, T, hB, ea, fun t2 n2 ne => ?_⟩
    exact ⟨_, rfl, _, rfl, a, C, t2, rfl, T, nF, upd_same, fun dx nx nxa => fin_x (fun _ q => q) k n2 ne nx nxa⟩
  refine ⟨E.mgC, E.oex, E.hB, E.nF, f, fd, i1, t1, G2, F.binds fun _ _ _ _ _ _ us hl => match us, hl with | [_, _], _ => rfl, fun s a b _ => ?_⟩
  obtain ⟨oc, od, kV, doc, pm, an, cdv, ct, osl, rfl, lk, hcd⟩ := F.ex
  exact .of_eq rfl
abbrev s41 : Stmt := inClass (top 41) 0
theorem sc41 : FnScope ["self", "found"] ["self", "found"] (defScope s41) := ⟨rfl, rfl, rfl, by decide +kernel, rfl, by decide +kernel, by decide +kernel⟩
theorem mk41 {C CB fB : Addr} (N : Bas K mg "LookupError" "LookupError" "LookupError.__init__") (B : Fam K mg "Barred" "Barred.__init__" "LookupError" s3 CB fB)
    (E : Cl K mg "Down" "Down.__init__" "found" "LookupError" s41 C) : Mk3 P w K mg base "Down" C "LookupError" "found" "the room fell" := by
  obtain ⟨f, fd, i1, t1, F⟩ := E.fn
  obtain ⟨fdB, FB⟩ := B.fn
  have bB := FB.binds (ps := ["self", "text"]) fun _ _ _ _ _ _ us hl => match us, hl with | [_, _], _ => rfl
  have G : FnOk P w K mg base CX0 1 fB fdB ["self", "text"] (spFam K "LookupError") := ok3 N FB
  have G2 : FnOk P w K mg base CX0 2 f fd ["self", "found"] (spX K "LookupError" "found" "the room fell") := by
    refine F.ok sc41 (fun vs H Q E ⟨a, C, t0, x, e, _⟩ => by rw [e]; rfl) (fun cdv A outer s H vs Q E hr h => ?_)
    obtain ⟨a, C, t0, y, rfl, T, hB, ea, nF, k⟩ := h
    refine ⟨_, pss_cons (ps_expr (pe_off (by rfl) B.mgC B.sg B.rd B.at_ FB.kp G hr bB .nil pass0 (pa_cons (pv 0) (pa_cons pe_str pa_nil))))
      (pss_one (ps_estF (pv 0) (pv 1))), ?_⟩
    refine ⟨_, rfl, a, C, t0, _, rfl, T, hB, ea, fun t2 n2 ne => ?_⟩
    exact ⟨_, rfl, _, rfl, a, C, t2, rfl, T, nF, upd_same, fun dx nx nxa => fin_x (fun _ q => q) k n2 ne nx nxa⟩
  refine ⟨E.mgC, E.oex, E.hB, E.nF, f, fd, i1, t1, G2, F.binds fun _ _ _ _ _ _ us hl => match us, hl with | [_, _], _ => rfl, fun s a b _ => ?_⟩
  obtain ⟨oc, od, kV, doc, pm, an, cdv, ct, osl, rfl, lk, hcd⟩ := F.ex
  exact .of_eq rfl
abbrev s42 : Stmt := inClass (top 42) 0
theorem sc42 : FnScope ["self", "found"] ["self", "found"] (defScope s42) := ⟨rfl, rfl, rfl, by decide +kernel, rfl, by decide +kernel, by decide +kernel⟩
theorem mk42 {C CB fB : Addr} (N : Bas K mg "LookupError" "LookupError" "LookupError.__init__") (B : Fam K mg "Barred" "Barred.__init__" "LookupError" s3 CB fB)
    (E : Cl K mg "Stands" "Stands.__init__" "found" "LookupError" s42 C) : Mk3 P w K mg base "Stands" C "LookupError" "found" "the room stands" := by
  obtain ⟨f, fd, i1, t1, F⟩ := E.fn
  obtain ⟨fdB, FB⟩ := B.fn
  have bB := FB.binds (ps := ["self", "text"]) fun _ _ _ _ _ _ us hl => match us, hl with | [_, _], _ => rfl
  have G : FnOk P w K mg base CX0 1 fB fdB ["self", "text"] (spFam K "LookupError") := ok3 N FB
  have G2 : FnOk P w K mg base CX0 2 f fd ["self", "found"] (spX K "LookupError" "found" "the room stands") := by
    refine F.ok sc42 (fun vs H Q E ⟨a, C, t0, x, e, _⟩ => by rw [e]; rfl) (fun cdv A outer s H vs Q E hr h => ?_)
    obtain ⟨a, C, t0, y, rfl, T, hB, ea, nF, k⟩ := h
    refine ⟨_, pss_cons (ps_expr (pe_off (by rfl) B.mgC B.sg B.rd B.at_ FB.kp G hr bB .nil pass0 (pa_cons (pv 0) (pa_cons pe_str pa_nil))))
      (pss_one (ps_estF (pv 0) (pv 1))), ?_⟩
    refine ⟨_, rfl, a, C, t0, _, rfl, T, hB, ea, fun t2 n2 ne => ?_⟩
    exact ⟨_, rfl, _, rfl, a, C, t2, rfl, T, nF, upd_same, fun dx nx nxa => fin_x (fun _ q => q) k n2 ne nx nxa⟩
  refine ⟨E.mgC, E.oex, E.hB, E.nF, f, fd, i1, t1, G2, F.binds fun _ _ _ _ _ _ us hl => match us, hl with | [_, _], _ => rfl, fun s a b _ => ?_⟩
  obtain ⟨oc, od, kV, doc, pm, an, cdv, ct, osl, rfl, lk, hcd⟩ := F.ex
  exact .of_eq rfl
abbrev s43 : Stmt := inClass (top 43) 0
theorem sc43 : FnScope ["self", "found"] ["self", "found"] (defScope s43) := ⟨rfl, rfl, rfl, by decide +kernel, rfl, by decide +kernel, by decide +kernel⟩
theorem mk43 {C CB fB : Addr} (N : Bas K mg "LookupError" "LookupError" "LookupError.__init__") (B : Fam K mg "Barred" "Barred.__init__" "LookupError" s3 CB fB)
    (E : Cl K mg "NotNow" "NotNow.__init__" "found" "LookupError" s43 C) : Mk3 P w K mg base "NotNow" C "LookupError" "found" "this can't be done now" := by
  obtain ⟨f, fd, i1, t1, F⟩ := E.fn
  obtain ⟨fdB, FB⟩ := B.fn
  have bB := FB.binds (ps := ["self", "text"]) fun _ _ _ _ _ _ us hl => match us, hl with | [_, _], _ => rfl
  have G : FnOk P w K mg base CX0 1 fB fdB ["self", "text"] (spFam K "LookupError") := ok3 N FB
  have G2 : FnOk P w K mg base CX0 2 f fd ["self", "found"] (spX K "LookupError" "found" "this can't be done now") := by
    refine F.ok sc43 (fun vs H Q E ⟨a, C, t0, x, e, _⟩ => by rw [e]; rfl) (fun cdv A outer s H vs Q E hr h => ?_)
    obtain ⟨a, C, t0, y, rfl, T, hB, ea, nF, k⟩ := h
    refine ⟨_, pss_cons (ps_expr (pe_off (by rfl) B.mgC B.sg B.rd B.at_ FB.kp G hr bB .nil pass0 (pa_cons (pv 0) (pa_cons pe_str pa_nil))))
      (pss_one (ps_estF (pv 0) (pv 1))), ?_⟩
    refine ⟨_, rfl, a, C, t0, _, rfl, T, hB, ea, fun t2 n2 ne => ?_⟩
    exact ⟨_, rfl, _, rfl, a, C, t2, rfl, T, nF, upd_same, fun dx nx nxa => fin_x (fun _ q => q) k n2 ne nx nxa⟩
  refine ⟨E.mgC, E.oex, E.hB, E.nF, f, fd, i1, t1, G2, F.binds fun _ _ _ _ _ _ us hl => match us, hl with | [_, _], _ => rfl, fun s a b _ => ?_⟩
  obtain ⟨oc, od, kV, doc, pm, an, cdv, ct, osl, rfl, lk, hcd⟩ := F.ex
  exact .of_eq rfl
end
end K3

/-! The table of the refusals: which is of which class. -/
namespace K3
open PySem PySem.Spec PyProof.Rows L2 Pw
/-- the family of the refusal p: 40, 41, 42; a family is its own -/
def famOf (p : Nat) : Nat := if p < 30 then 40 else if p < 36 then 41 else if p < 40 then 42 else p
def tailOf (p : Nat) : List Value := if p = 40 then veT else if p = 41 then keT else leT
/-- whether what is of the class p is of the class q -/
def tab (p q : Nat) : Bool := p == q || famOf p == q
/-- a class as it stands: what it stands above -/
structure Look (K : PySem.W.Frag) (C : Addr) (m : List Value) : Prop where
  cls : ∃ cd, PySem.W.clsIn K C = some cd ∧ cd.mro = .ref C :: m
  tyC : PySem.W.typeIn K (.ref C) = some (.type "type")
section
variable {K : PySem.W.Frag} {C D : Addr} {m m' : List Value}
theorem Look.mro (h : Look K C m) (v : Value) : PySem.W.mroIn K C v = some ((Value.ref C :: m).contains v) := by
  obtain ⟨cd, h1, h2⟩ := h.cls
  unfold PySem.W.mroIn
  rw [h1, Option.bind_some, h2]
  rfl
theorem Look.kit (h : Look K C m) (g : Look K D m') :
    PySem.W.kitOne K (.ref C) (.ref D) = some ((Value.ref C :: m).contains (.ref D)) := by
  obtain ⟨cd, h1, h2⟩ := g.cls
  unfold PySem.W.kitOne PySem.W.kitCls
  by_cases e : (Value.ref C == Value.ref D) = true
  · rw [if_pos e]
    obtain rfl := Value.ref.inj (beq_iff_eq.mp e)
    simp
  · rw [if_neg e]
    have e2 : ((PySem.W.clsIn K D).isSome && PySem.W.typeIn K (.ref D) == some (.type "type")) = true := by
      rw [h1, g.tyC]
      rfl
    simp only [e2, if_true]
    exact h.mro _
theorem Look.exm (h : Look K C m) (g : Look K D m') (hb : m'.contains (.type "BaseException") = true) (hne : C ≠ D) :
    PySem.W.exmOne K (.ref C) (.ref D) = some ((Value.ref C :: m).contains (.ref D)) := by
  obtain ⟨cd, h1, h2⟩ := g.cls
  have e2 : ((PySem.W.clsIn K D).isSome && PySem.W.typeIn K (.ref D) == some (.type "type")) = true := by
    rw [h1, g.tyC]
    rfl
  have e1 : PySem.W.subIn K (.ref D) (.type "BaseException") = some true := by
    show PySem.W.mroIn K D _ = _
    rw [g.mro, List.contains_cons, hb, Bool.or_true]
  unfold PySem.W.exmOne PySem.W.kitCls
  rw [e1, if_pos (by decide)]
  simp only [e2, if_true]
  exact h.mro _
theorem Look.exs (g : Look K D m') (hb : m'.contains (.type "BaseException") = true) :
    PySem.W.exmOne K (.ref D) (.ref D) = some true := by
  obtain ⟨cd, h1, h2⟩ := g.cls
  have e2 : ((PySem.W.clsIn K D).isSome && PySem.W.typeIn K (.ref D) == some (.type "type")) = true := by
    rw [h1, g.tyC]
    rfl
  have e1 : PySem.W.subIn K (.ref D) (.type "BaseException") = some true := by
    show PySem.W.mroIn K D _ = _
    rw [g.mro, List.contains_cons, hb, Bool.or_true]
  unfold PySem.W.exmOne PySem.W.kitCls
  rw [e1, if_pos (by decide)]
  simp only [e2, if_true]
  show PySem.W.mroIn K D _ = _
  rw [g.mro]
  simp
theorem Look.kitT (h : Look K C m) {T : String} (hk : PySem.W.kitMeta T = true) :
    PySem.W.kitOne K (.ref C) (.type T) = some (m.contains (.type T)) := by
  have e : (Value.ref C == Value.type T) = false := rfl
  unfold PySem.W.kitOne PySem.W.kitCls
  rw [e, if_neg Bool.false_ne_true]
  simp only [hk, if_true]
  show PySem.W.mroIn K C _ = _
  have e' : (Value.type T == Value.ref C) = false := rfl
  rw [h.mro, List.contains_cons, e', Bool.false_or]
end

/-- a family that makes refusals -/
structure MkF (P : Program) (w : World) (K : PySem.W.Frag) (mg : Str → Option Value) (base : Heap) (C : Addr) (B : String) : Prop where
  oex : OexF K C
  hB : PySem.W.mroIn K C (.type B) = some true
  fn : ∃ f fd, PySem.W.findIn K (.ref C) "__init__" = some (some (.ref f)) ∧
    PySem.W.typeIn K (.ref f) = some (.type "function") ∧
    FnOk P w K mg base CX0 1 f fd ["self", "text"] (spFam K B) ∧ Binds K fd ["self", "text"] []
section
variable (P : Program) (w : World) (K : PySem.W.Frag) (mg : Str → Option Value) (base : Heap) (C : Nat → Addr)
/-- the families and the refusals as they stand -/
structure Tab : Prop where
  inj : ∀ p, p < 43 → ∀ q, q < 43 → C p = C q → p = q
  low : ∀ p, p < 40 → Look K (C p) (.ref (C (famOf p)) :: tailOf (famOf p))
  top : ∀ p, 40 ≤ p → p < 43 → Look K (C p) (tailOf p)
  exc : ∀ p, p < 43 → ExcC K (C p)
  p40 : MkF P w K mg base (C 40) "ValueError"
  p41 : MkF P w K mg base (C 41) "KeyError"
  p42 : MkF P w K mg base (C 42) "LookupError"
  g0 : mg "NoTime" = some (.ref (C 0))
  g1 : mg "NoWorth" = some (.ref (C 1))
  g2 : mg "NoMark" = some (.ref (C 2))
  g3 : mg "NoNumber" = some (.ref (C 3))
  g4 : mg "NoTruth" = some (.ref (C 4))
  g5 : mg "NoList" = some (.ref (C 5))
  g6 : mg "NoPoints" = some (.ref (C 6))
  g7 : mg "NoRules" = some (.ref (C 7))
  g8 : mg "NoCauses" = some (.ref (C 8))
  g9 : mg "NoCommands" = some (.ref (C 9))
  g10 : mg "NoRelations" = some (.ref (C 10))
  g11 : mg "NoWorks" = some (.ref (C 11))
  g12 : mg "NoLetter" = some (.ref (C 12))
  g13 : mg "NoRoom" = some (.ref (C 13))
  g14 : mg "NoTerm" = some (.ref (C 14))
  g15 : mg "NoId" = some (.ref (C 15))
  g16 : mg "NoHearing" = some (.ref (C 16))
  g17 : mg "NoHistory" = some (.ref (C 17))
  g18 : mg "NoEvents" = some (.ref (C 18))
  g19 : mg "NoPicture" = some (.ref (C 19))
  g20 : mg "NoPlant" = some (.ref (C 20))
  g21 : mg "NoLog" = some (.ref (C 21))
  g22 : mg "NoDeed" = some (.ref (C 22))
  g23 : mg "NoText" = some (.ref (C 23))
  g24 : mg "NoLine" = some (.ref (C 24))
  g25 : mg "Unlike" = some (.ref (C 25))
  g26 : mg "Twice" = some (.ref (C 26))
  g27 : mg "Ring" = some (.ref (C 27))
  g28 : mg "TooMany" = some (.ref (C 28))
  g29 : mg "NoRow" = some (.ref (C 29))
  g30 : mg "NoPoint" = some (.ref (C 30))
  g31 : mg "NoPlace" = some (.ref (C 31))
  g32 : mg "NoRule" = some (.ref (C 32))
  g33 : mg "NoCommand" = some (.ref (C 33))
  g34 : mg "NotThere" = some (.ref (C 34))
  g35 : mg "NotOnRoad" = some (.ref (C 35))
  g36 : mg "Locked" = some (.ref (C 36))
  g37 : mg "Down" = some (.ref (C 37))
  g38 : mg "Stands" = some (.ref (C 38))
  g39 : mg "NotNow" = some (.ref (C 39))
  g40 : mg "PanelError" = some (.ref (C 40))
  g41 : mg "Absent" = some (.ref (C 41))
  g42 : mg "Barred" = some (.ref (C 42))
  m0 : Mk3 P w K mg base "NoTime" (C 0) "ValueError" "found" "this is no time that will do"
  m1 : Mk3 P w K mg base "NoWorth" (C 1) "ValueError" "found" "this is no worth"
  m2 : Mk3 P w K mg base "NoMark" (C 2) "ValueError" "found" "this is no mark"
  m3 : Mk3 P w K mg base "NoNumber" (C 3) "ValueError" "found" "this is no number that will do"
  m4 : Mk3 P w K mg base "NoTruth" (C 4) "ValueError" "found" "this is neither True nor False"
  m5 : Mk3 P w K mg base "NoList" (C 5) "ValueError" "found" "this is no list that will do"
  m6 : Mk3 P w K mg base "NoPoints" (C 6) "ValueError" "found" "this is no list of points"
  m7 : Mk3 P w K mg base "NoRules" (C 7) "ValueError" "found" "this is no list of rules"
  m8 : Mk3 P w K mg base "NoCauses" (C 8) "ValueError" "found" "this is no list of causes"
  m9 : Mk3 P w K mg base "NoCommands" (C 9) "ValueError" "found" "this is no list of commands"
  m10 : Mk3 P w K mg base "NoRelations" (C 10) "ValueError" "found" "this is no list of relations"
  m11 : Mk3 P w K mg base "NoWorks" (C 11) "ValueError" "found" "these are no works"
  m12 : Mk3 P w K mg base "NoLetter" (C 12) "ValueError" "found" "this is no letter that will do"
  m13 : Mk3 P w K mg base "NoRoom" (C 13) "ValueError" "found" "this is no room"
  m14 : Mk3 P w K mg base "NoTerm" (C 14) "ValueError" "found" "this is no term"
  m15 : Mk3 P w K mg base "NoId" (C 15) "ValueError" "found" "this is no id"
  m16 : Mk3 P w K mg base "NoHearing" (C 16) "ValueError" "found" "this is no hearing"
  m17 : Mk3 P w K mg base "NoHistory" (C 17) "ValueError" "found" "this is no history"
  m18 : Mk3 P w K mg base "NoEvents" (C 18) "ValueError" "found" "these are no events"
  m19 : Mk3 P w K mg base "NoPicture" (C 19) "ValueError" "found" "this is no picture"
  m20 : Mk3 P w K mg base "NoPlant" (C 20) "ValueError" "found" "this is no plant"
  m21 : Mk3 P w K mg base "NoLog" (C 21) "ValueError" "found" "this is no log"
  m22 : Mk3 P w K mg base "NoDeed" (C 22) "ValueError" "found" "this is no deed"
  m23 : Mk3 P w K mg base "NoText" (C 23) "ValueError" "found" "this text writes nothing"
  m24 : Mk3 P w K mg base "NoLine" (C 24) "ValueError" "found" "this is no line"
  m25 : Mk3 P w K mg base "Unlike" (C 25) "ValueError" "found" "this is unlike another one"
  m26 : Mk3 P w K mg base "Twice" (C 26) "ValueError" "found" "this stands ahead, too"
  m27 : Mk3 P w K mg base "Ring" (C 27) "ValueError" "found" "this leads to itself"
  m28 : Mk3 P w K mg base "TooMany" (C 28) "ValueError" "many" "these are too many"
  m29 : Mk3 P w K mg base "NoRow" (C 29) "ValueError" "at" "there is no row that will do"
  m30 : Mk3 P w K mg base "NoPoint" (C 30) "KeyError" "found" "there is no such point"
  m31 : Mk3 P w K mg base "NoPlace" (C 31) "KeyError" "found" "there is no such place"
  m32 : Mk3 P w K mg base "NoRule" (C 32) "KeyError" "found" "there is no such rule"
  m33 : Mk3 P w K mg base "NoCommand" (C 33) "KeyError" "found" "there is no such command"
  m34 : Mk3 P w K mg base "NotThere" (C 34) "KeyError" "found" "there is no such thing here"
  m35 : Mk3 P w K mg base "NotOnRoad" (C 35) "KeyError" "found" "this is not on the road"
  m36 : Mk3 P w K mg base "Locked" (C 36) "LookupError" "found" "a lock does not hold"
  m37 : Mk3 P w K mg base "Down" (C 37) "LookupError" "found" "the room fell"
  m38 : Mk3 P w K mg base "Stands" (C 38) "LookupError" "found" "the room stands"
  m39 : Mk3 P w K mg base "NotNow" (C 39) "LookupError" "found" "this can't be done now"
end
section
variable {P : Program} {w : World} {K : PySem.W.Frag} {mg : Str → Option Value} {base : Heap} {C : Nat → Addr}
theorem fam_lt : ∀ p, p < 43 → famOf p < 43 := by decide
theorem Tab.kit (T : Tab P w K mg base C) {p q : Nat} (hp : p < 43) (hq : q < 43) :
    PySem.W.kitOne K (.ref (C p)) (.ref (C q)) = some (tab p q) := by
  have lookAt : ∀ r, r < 43 → ∃ m, Look K (C r) m := fun r hr => by
    by_cases h : r < 40
    · exact ⟨_, T.low r h⟩
    · exact ⟨_, T.top r (by omega) hr⟩
  have eqb : ∀ r, r < 43 → (Value.ref (C q) == Value.ref (C r)) = (r == q) := fun r hr => by
    by_cases e : r = q
    · subst e
      simp
    · have : C q ≠ C r := fun z => e (T.inj q hq r hr z).symm
      rw [show (r == q) = false from by simp [e]]
      exact beq_eq_false_iff_ne.mpr fun z => this (Value.ref.inj z)
  have tl : ∀ r, (tailOf r).contains (Value.ref (C q)) = false := fun r => by
    unfold tailOf
    split
    · rfl
    · split <;> rfl
  obtain ⟨m', g⟩ := lookAt q hq
  by_cases h : p < 40
  · rw [(T.low p h).kit g, List.contains_cons, List.contains_cons, eqb p hp, eqb _ (fam_lt p hp), tl, Bool.or_false]
    rfl
  · rw [(T.top p (by omega) hp).kit g, List.contains_cons, eqb p hp, tl, Bool.or_false]
    have : famOf p = p := by
      unfold famOf
      rw [if_neg (by omega), if_neg (by omega), if_neg h]
    show _ = some (p == q || famOf p == q)
    rw [this, Bool.or_self]
theorem tails : ∀ p, p < 43 → ((tailOf (famOf p)).contains (.type "ValueError") = (famOf p == 40)) ∧
    ((tailOf (famOf p)).contains (.type "KeyError") = (famOf p == 41)) ∧
    ((tailOf (famOf p)).contains (.type "LookupError") = !(famOf p == 40)) := by decide +kernel
theorem tails1 : ∀ p, p < 43 → (p < 40 → True) ∧ (40 ≤ p → famOf p = p) := by decide
theorem Tab.kitT (T : Tab P w K mg base C) {p : Nat} (hp : p < 43) {Tn : String} (hk : PySem.W.kitMeta Tn = true) :
    PySem.W.kitOne K (.ref (C p)) (.type Tn) = some ((tailOf (famOf p)).contains (.type Tn)) := by
  by_cases h : p < 40
  · rw [(T.low p h).kitT hk, List.contains_cons]
    rfl
  · rw [(T.top p (by omega) hp).kitT hk, (tails1 p hp).2 (by omega)]

/-- what is of the class p, made: its field holds v -/
def Err (K : PySem.W.Frag) (C : Nat → Addr) (H : Hp) (p : Nat) (f : Str) (v : V) (x : V) : Prop :=
  ∃ a dx t, x = .ref a ∧ H a = some (exq a (C p) (some dx) t) ∧ H dx = some (exd dx [(f, v)])
/-- what is of the class p -/
def IsE (K : PySem.W.Frag) (C : Nat → Addr) (H : Hp) (p : Nat) (x : V) : Prop := p < 43 ∧ ∃ a d t, x = .ref a ∧
  H a = some (exq a (C p) d t) ∧ ∀ dx, d = some dx → ∃ fs, H dx = some (exd dx fs)
theorem IsE.keep {H H' : Hp} {p : Nat} {x : V} (h : IsE K C H p x) (S : Same H H') : IsE K C H' p x := by
  obtain ⟨l, a, d, t, e, e1, e2⟩ := h
  exact ⟨l, a, d, t, e, S _ _ e1, fun dx z => (e2 dx z).imp fun fs q => S _ _ q⟩
theorem IsE.ty {H : Hp} {p : Nat} {x : V} (h : IsE K C H p x) (T : Tab P w K mg base C) : TyE K H x (.ref (C p)) := by
  obtain ⟨l, a, d, t, rfl, e1, e2⟩ := h
  cases d with
  | none => exact .bare e1 (T.exc p l)
  | some dx =>
    obtain ⟨fs, e2⟩ := e2 dx rfl
    exact .base (.exc e1 e2 (T.exc p l))
theorem Err.keep {H H' : Hp} {p : Nat} {f : Str} {v x : V} (h : Err K C H p f v x) (S : Same H H') : Err K C H' p f v x := by
  obtain ⟨a, dx, t, e, e1, e2⟩ := h
  exact ⟨a, dx, t, e, S _ _ e1, S _ _ e2⟩
theorem Err.isE {H : Hp} {p : Nat} {f : Str} {v x : V} (h : Err K C H p f v x) (hp : p < 43) : IsE K C H p x := by
  obtain ⟨a, dx, t, rfl, e1, e2⟩ := h
  exact ⟨hp, a, some dx, t, rfl, e1, fun d z => by cases z; exact ⟨_, e2⟩⟩
end
end K3

/-! The law's looks at a refusal: of which class, of which family. -/
namespace K3
open PySem PySem.Spec PyProof.Rows L2 Pw
abbrev sFirst : Stmt := top 50
abbrev sLast : Stmt := top 51
abbrev sMadeF : Stmt := top 52
abbrev sMadeL : Stmt := top 53
abbrev sFams : Stmt := top 54
abbrev sFamOf : Stmt := top 55
section
variable {P : Program} {w : World} {K : PySem.W.Frag} {mg : Str → Option Value} {base : Heap} {C : Nat → Addr}
/-- isinstance(slot i, D), D an own class -/
theorem pe_isC {X : Cx} {i : Nat} {D : Addr} {x c : Str} {p p1 p2 p3 : Pos} (hm : X.mg "isinstance" = none) (hg : Gl X "isinstance")
    (hx : PE X (.Name x p2) (tVar i)) (hgc : Gl X c) (hc : X.mg c = some (.ref D)) (hd : (c == ("__debug__" : Str)) = false := by decide)
    (he : starEach [.Name x p2, .Name c p3] X.env = (false, eval (.Name x p2) X.env) :: starEach [.Name c p3] X.env := by rfl)
    (he2 : starEach [.Name c p3] X.env = (false, eval (.Name c p3) X.env) :: starEach [] X.env := by rfl)
    (hpl : (backTo p (starEach [.Name c p3] X.env)).any (·.1) = false := by rfl) :
    PE X (.Call (.Name "isinstance" p1) [.Name x p2, .Name c p3] [] p)
      (tCB (rIsE2 X.K) (tCons (tVar i) (tCons (tC (.ref D)) tNil))) :=
  pe_callB call_ise hg hm PyProof.Rows.boot_isinstance
    (pa_cons hx (pa_cons (pe_glob (v := .ref D) hgc hc rfl hd) pa_nil he2) he) (by decide) (by decide) he hpl
/-- isinstance(slot i, T), T a built-in one -/
theorem pe_isT {X : Cx} {i : Nat} {x c : Str} {Tn : String} {p p1 p2 p3 : Pos} (hm : X.mg "isinstance" = none) (hg : Gl X "isinstance")
    (hx : PE X (.Name x p2) (tVar i)) (hgc : Gl X c) (hc : X.mg c = none) (hv : bootBuiltins c = some (.type Tn))
    (hn : c ≠ "__name__" := by decide) (hd : (c == ("__debug__" : Str)) = false := by decide)
    (he : starEach [.Name x p2, .Name c p3] X.env = (false, eval (.Name x p2) X.env) :: starEach [.Name c p3] X.env := by rfl)
    (he2 : starEach [.Name c p3] X.env = (false, eval (.Name c p3) X.env) :: starEach [] X.env := by rfl)
    (hpl : (backTo p (starEach [.Name c p3] X.env)).any (·.1) = false := by rfl) :
    PE X (.Call (.Name "isinstance" p1) [.Name x p2, .Name c p3] [] p)
      (tCB (rIsE2 X.K) (tCons (tVar i) (tCons (tC (.ty Tn)) tNil))) :=
  pe_callB call_ise hg hm PyProof.Rows.boot_isinstance
    (pa_cons hx (pa_cons (pe_bltn hgc hc hv rfl hn hd) pa_nil he2) he) (by decide) (by decide) he hpl

/-- the names that the text calls -/
structure Txt (mg : Str → Option Value) : Prop where
  isinstance : mg "isinstance" = none
  len : mg "len" = none
  max : mg "max" = none
  min : mg "min" = none
  range : mg "range" = none
  repr : mg "repr" = none
  enumerate : mg "enumerate" = none
  dict : mg "dict" = none
  list : mg "list" = none
  value : mg "ValueError" = none
  key : mg "KeyError" = none
  lookup : mg "LookupError" = none

/-- the twenty truths from the class o on -/
def marks (p o : Nat) : List Bool := (List.range 20).map fun k => tab p (o + k)
def spMarks (K : PySem.W.Frag) (C : Nat → Addr) (o : Nat) : Sp := fun vs H Q _ => ∃ x p, vs = [x] ∧ IsE K C H p x ∧
  ∀ L H', Same H H' → H' L = some (.lst ((marks p o).map V.bl)) → Q (.ref L) H'
theorem scFirst : FnScope ["_law_e", "_law_gained"] ["_law_e"] (defScope sFirst) := ⟨rfl, rfl, rfl, by decide +kernel, rfl, by decide +kernel, by decide +kernel⟩
theorem d_first (Z : Txt mg) (T : Tab P w K mg base C) (A : At K mg "_law_marks_first" sFirst) :
    Def P w K mg base "_law_marks_first" 1 ["_law_e"] (spMarks K C 0) := by
  refine mkDef A scFirst (fun _ _ _ _ _ _ us hl => match us, hl with | [_], _ => rfl) (fun vs H Q E ⟨x, p, e, _⟩ => by rw [e]; rfl)
    (fun f cdv A out s H vs Q E hr h => ?_)
  obtain ⟨x, p, rfl, h, k⟩ := h
  refine' ⟨_, pss_cons ?s0 (pss_cons ?s1 (pss_cons ?s2 (pss_cons ?s3 (pss_cons ?s4 (pss_cons ?s5 (pss_cons ?s6 (pss_one (ps_ret (pv 1))))))))), ?rd⟩
  case s0 =>
    exact ps_set (i := 1) scFirst.nd rfl (.inl rfl) (pe_lst (pa_cons (pe_isC Z.isinstance (by rfl) (pv 0) (by rfl) T.g0) (pa_cons (pe_isC Z.isinstance (by rfl) (pv 0) (by rfl) T.g1) (pa_cons (pe_isC Z.isinstance (by rfl) (pv 0) (by rfl) T.g2) pa_nil))))
  case s1 =>
    exact ps_set (i := 1) scFirst.nd rfl (.inl rfl) (pe_op op_cat (pv 1) (pe_lst (pa_cons (pe_isC Z.isinstance (by rfl) (pv 0) (by rfl) T.g3) (pa_cons (pe_isC Z.isinstance (by rfl) (pv 0) (by rfl) T.g4) (pa_cons (pe_isC Z.isinstance (by rfl) (pv 0) (by rfl) T.g5) pa_nil)))))
  case s2 =>
    exact ps_set (i := 1) scFirst.nd rfl (.inl rfl) (pe_op op_cat (pv 1) (pe_lst (pa_cons (pe_isC Z.isinstance (by rfl) (pv 0) (by rfl) T.g6) (pa_cons (pe_isC Z.isinstance (by rfl) (pv 0) (by rfl) T.g7) (pa_cons (pe_isC Z.isinstance (by rfl) (pv 0) (by rfl) T.g8) pa_nil)))))
  case s3 =>
    exact ps_set (i := 1) scFirst.nd rfl (.inl rfl) (pe_op op_cat (pv 1) (pe_lst (pa_cons (pe_isC Z.isinstance (by rfl) (pv 0) (by rfl) T.g9) (pa_cons (pe_isC Z.isinstance (by rfl) (pv 0) (by rfl) T.g10) (pa_cons (pe_isC Z.isinstance (by rfl) (pv 0) (by rfl) T.g11) pa_nil)))))
  case s4 =>
    exact ps_set (i := 1) scFirst.nd rfl (.inl rfl) (pe_op op_cat (pv 1) (pe_lst (pa_cons (pe_isC Z.isinstance (by rfl) (pv 0) (by rfl) T.g12) (pa_cons (pe_isC Z.isinstance (by rfl) (pv 0) (by rfl) T.g13) (pa_cons (pe_isC Z.isinstance (by rfl) (pv 0) (by rfl) T.g14) pa_nil)))))
  case s5 =>
    exact ps_set (i := 1) scFirst.nd rfl (.inl rfl) (pe_op op_cat (pv 1) (pe_lst (pa_cons (pe_isC Z.isinstance (by rfl) (pv 0) (by rfl) T.g15) (pa_cons (pe_isC Z.isinstance (by rfl) (pv 0) (by rfl) T.g16) (pa_cons (pe_isC Z.isinstance (by rfl) (pv 0) (by rfl) T.g17) pa_nil)))))
  case s6 =>
    exact ps_set (i := 1) scFirst.nd rfl (.inl rfl) (pe_op op_cat (pv 1) (pe_lst (pa_cons (pe_isC Z.isinstance (by rfl) (pv 0) (by rfl) T.g18) (pa_cons (pe_isC Z.isinstance (by rfl) (pv 0) (by rfl) T.g19) pa_nil))))
  case rd =>
    refine ⟨_, rfl, x, .ref (C 0), .ref (C p), .ref (C 0), _, rfl, .own _, h.ty T, T.kit h.1 (by decide), ?_⟩
    refine ⟨_, rfl, x, .ref (C 1), .ref (C p), .ref (C 1), _, rfl, .own _, h.ty T, T.kit h.1 (by decide), ?_⟩
    refine ⟨_, rfl, x, .ref (C 2), .ref (C p), .ref (C 2), _, rfl, .own _, h.ty T, T.kit h.1 (by decide), ?_⟩
    refine ⟨by show 3 ≤ sizeLine; decide, fun L0 n0 => ?_⟩
    generalize q0 : upd H L0 (.lst [V.bl (tab p 0), V.bl (tab p 1), V.bl (tab p 2)]) = G0
    have S0 : Same H G0 := q0 ▸ Same.laid n0
    have e0 : G0 L0 = some (.lst [V.bl (tab p 0), V.bl (tab p 1), V.bl (tab p 2)]) := q0 ▸ upd_same
    have h0 := h.keep S0
    have S := S0
    have eL := e0
    refine ⟨_, rfl, _, rfl, x, .ref (C 3), .ref (C p), .ref (C 3), _, rfl, .own _, h0.ty T, T.kit h0.1 (by decide), ?_⟩
    refine ⟨_, rfl, x, .ref (C 4), .ref (C p), .ref (C 4), _, rfl, .own _, h0.ty T, T.kit h0.1 (by decide), ?_⟩
    refine ⟨_, rfl, x, .ref (C 5), .ref (C p), .ref (C 5), _, rfl, .own _, h0.ty T, T.kit h0.1 (by decide), ?_⟩
    refine ⟨by show 3 ≤ sizeLine; decide, fun L1 n1 => ?_⟩
    generalize q1 : upd G0 L1 (.lst [V.bl (tab p 3), V.bl (tab p 4), V.bl (tab p 5)]) = G1
    have S1 : Same G0 G1 := q1 ▸ Same.laid n1
    have e1 : G1 L1 = some (.lst [V.bl (tab p 3), V.bl (tab p 4), V.bl (tab p 5)]) := q1 ▸ upd_same
    have h1 := h0.keep S1
    refine ⟨L0, L1, [V.bl (tab p 0), V.bl (tab p 1), V.bl (tab p 2)], [V.bl (tab p 3), V.bl (tab p 4), V.bl (tab p 5)], rfl, rfl, S1 _ _ eL, e1, by show 6 ≤ sizeLine; decide, fun M1 m1 => ?_⟩
    generalize r1 : upd G1 M1 (.lst ([V.bl (tab p 0), V.bl (tab p 1), V.bl (tab p 2)] ++ [V.bl (tab p 3), V.bl (tab p 4), V.bl (tab p 5)])) = F1
    have R1 : Same G1 F1 := r1 ▸ Same.laid m1
    have f1 : F1 M1 = some (.lst ([V.bl (tab p 0), V.bl (tab p 1), V.bl (tab p 2)] ++ [V.bl (tab p 3), V.bl (tab p 4), V.bl (tab p 5)])) := r1 ▸ upd_same
    replace eL : F1 M1 = some (.lst [V.bl (tab p 0), V.bl (tab p 1), V.bl (tab p 2), V.bl (tab p 3), V.bl (tab p 4), V.bl (tab p 5)]) := f1
    replace S := S.trans (S1.trans R1)
    have i1 := h1.keep R1
    refine ⟨_, rfl, _, rfl, x, .ref (C 6), .ref (C p), .ref (C 6), _, rfl, .own _, i1.ty T, T.kit i1.1 (by decide), ?_⟩
    refine ⟨_, rfl, x, .ref (C 7), .ref (C p), .ref (C 7), _, rfl, .own _, i1.ty T, T.kit i1.1 (by decide), ?_⟩
    refine ⟨_, rfl, x, .ref (C 8), .ref (C p), .ref (C 8), _, rfl, .own _, i1.ty T, T.kit i1.1 (by decide), ?_⟩
    refine ⟨by show 3 ≤ sizeLine; decide, fun L2 n2 => ?_⟩
    generalize q2 : upd F1 L2 (.lst [V.bl (tab p 6), V.bl (tab p 7), V.bl (tab p 8)]) = G2
    have S2 : Same F1 G2 := q2 ▸ Same.laid n2
    have e2 : G2 L2 = some (.lst [V.bl (tab p 6), V.bl (tab p 7), V.bl (tab p 8)]) := q2 ▸ upd_same
    have h2 := i1.keep S2
    refine ⟨M1, L2, [V.bl (tab p 0), V.bl (tab p 1), V.bl (tab p 2), V.bl (tab p 3), V.bl (tab p 4), V.bl (tab p 5)], [V.bl (tab p 6), V.bl (tab p 7), V.bl (tab p 8)], rfl, rfl, S2 _ _ eL, e2, by show 9 ≤ sizeLine; decide, fun M2 m2 => ?_⟩
    generalize r2 : upd G2 M2 (.lst ([V.bl (tab p 0), V.bl (tab p 1), V.bl (tab p 2), V.bl (tab p 3), V.bl (tab p 4), V.bl (tab p 5)] ++ [V.bl (tab p 6), V.bl (tab p 7), V.bl (tab p 8)])) = F2
    have R2 : Same G2 F2 := r2 ▸ Same.laid m2
    have f2 : F2 M2 = some (.lst ([V.bl (tab p 0), V.bl (tab p 1), V.bl (tab p 2), V.bl (tab p 3), V.bl (tab p 4), V.bl (tab p 5)] ++ [V.bl (tab p 6), V.bl (tab p 7), V.bl (tab p 8)])) := r2 ▸ upd_same
    replace eL : F2 M2 = some (.lst [V.bl (tab p 0), V.bl (tab p 1), V.bl (tab p 2), V.bl (tab p 3), V.bl (tab p 4), V.bl (tab p 5), V.bl (tab p 6), V.bl (tab p 7), V.bl (tab p 8)]) := f2
    replace S := S.trans (S2.trans R2)
    have i2 := h2.keep R2
    refine ⟨_, rfl, _, rfl, x, .ref (C 9), .ref (C p), .ref (C 9), _, rfl, .own _, i2.ty T, T.kit i2.1 (by decide), ?_⟩
    refine ⟨_, rfl, x, .ref (C 10), .ref (C p), .ref (C 10), _, rfl, .own _, i2.ty T, T.kit i2.1 (by decide), ?_⟩
    refine ⟨_, rfl, x, .ref (C 11), .ref (C p), .ref (C 11), _, rfl, .own _, i2.ty T, T.kit i2.1 (by decide), ?_⟩
    refine ⟨by show 3 ≤ sizeLine; decide, fun L3 n3 => ?_⟩
    generalize q3 : upd F2 L3 (.lst [V.bl (tab p 9), V.bl (tab p 10), V.bl (tab p 11)]) = G3
    have S3 : Same F2 G3 := q3 ▸ Same.laid n3
    have e3 : G3 L3 = some (.lst [V.bl (tab p 9), V.bl (tab p 10), V.bl (tab p 11)]) := q3 ▸ upd_same
    have h3 := i2.keep S3
    refine ⟨M2, L3, [V.bl (tab p 0), V.bl (tab p 1), V.bl (tab p 2), V.bl (tab p 3), V.bl (tab p 4), V.bl (tab p 5), V.bl (tab p 6), V.bl (tab p 7), V.bl (tab p 8)], [V.bl (tab p 9), V.bl (tab p 10), V.bl (tab p 11)], rfl, rfl, S3 _ _ eL, e3, by show 12 ≤ sizeLine; decide, fun M3 m3 => ?_⟩
    generalize r3 : upd G3 M3 (.lst ([V.bl (tab p 0), V.bl (tab p 1), V.bl (tab p 2), V.bl (tab p 3), V.bl (tab p 4), V.bl (tab p 5), V.bl (tab p 6), V.bl (tab p 7), V.bl (tab p 8)] ++ [V.bl (tab p 9), V.bl (tab p 10), V.bl (tab p 11)])) = F3
    have R3 : Same G3 F3 := r3 ▸ Same.laid m3
    have f3 : F3 M3 = some (.lst ([V.bl (tab p 0), V.bl (tab p 1), V.bl (tab p 2), V.bl (tab p 3), V.bl (tab p 4), V.bl (tab p 5), V.bl (tab p 6), V.bl (tab p 7), V.bl (tab p 8)] ++ [V.bl (tab p 9), V.bl (tab p 10), V.bl (tab p 11)])) := r3 ▸ upd_same
    replace eL : F3 M3 = some (.lst [V.bl (tab p 0), V.bl (tab p 1), V.bl (tab p 2), V.bl (tab p 3), V.bl (tab p 4), V.bl (tab p 5), V.bl (tab p 6), V.bl (tab p 7), V.bl (tab p 8), V.bl (tab p 9), V.bl (tab p 10), V.bl (tab p 11)]) := f3
    replace S := S.trans (S3.trans R3)
    have i3 := h3.keep R3
    refine ⟨_, rfl, _, rfl, x, .ref (C 12), .ref (C p), .ref (C 12), _, rfl, .own _, i3.ty T, T.kit i3.1 (by decide), ?_⟩
    refine ⟨_, rfl, x, .ref (C 13), .ref (C p), .ref (C 13), _, rfl, .own _, i3.ty T, T.kit i3.1 (by decide), ?_⟩
    refine ⟨_, rfl, x, .ref (C 14), .ref (C p), .ref (C 14), _, rfl, .own _, i3.ty T, T.kit i3.1 (by decide), ?_⟩
    refine ⟨by show 3 ≤ sizeLine; decide, fun L4 n4 => ?_⟩
    generalize q4 : upd F3 L4 (.lst [V.bl (tab p 12), V.bl (tab p 13), V.bl (tab p 14)]) = G4
    have S4 : Same F3 G4 := q4 ▸ Same.laid n4
    have e4 : G4 L4 = some (.lst [V.bl (tab p 12), V.bl (tab p 13), V.bl (tab p 14)]) := q4 ▸ upd_same
    have h4 := i3.keep S4
    refine ⟨M3, L4, [V.bl (tab p 0), V.bl (tab p 1), V.bl (tab p 2), V.bl (tab p 3), V.bl (tab p 4), V.bl (tab p 5), V.bl (tab p 6), V.bl (tab p 7), V.bl (tab p 8), V.bl (tab p 9), V.bl (tab p 10), V.bl (tab p 11)], [V.bl (tab p 12), V.bl (tab p 13), V.bl (tab p 14)], rfl, rfl, S4 _ _ eL, e4, by show 15 ≤ sizeLine; decide, fun M4 m4 => ?_⟩
    generalize r4 : upd G4 M4 (.lst ([V.bl (tab p 0), V.bl (tab p 1), V.bl (tab p 2), V.bl (tab p 3), V.bl (tab p 4), V.bl (tab p 5), V.bl (tab p 6), V.bl (tab p 7), V.bl (tab p 8), V.bl (tab p 9), V.bl (tab p 10), V.bl (tab p 11)] ++ [V.bl (tab p 12), V.bl (tab p 13), V.bl (tab p 14)])) = F4
    have R4 : Same G4 F4 := r4 ▸ Same.laid m4
    have f4 : F4 M4 = some (.lst ([V.bl (tab p 0), V.bl (tab p 1), V.bl (tab p 2), V.bl (tab p 3), V.bl (tab p 4), V.bl (tab p 5), V.bl (tab p 6), V.bl (tab p 7), V.bl (tab p 8), V.bl (tab p 9), V.bl (tab p 10), V.bl (tab p 11)] ++ [V.bl (tab p 12), V.bl (tab p 13), V.bl (tab p 14)])) := r4 ▸ upd_same
    replace eL : F4 M4 = some (.lst [V.bl (tab p 0), V.bl (tab p 1), V.bl (tab p 2), V.bl (tab p 3), V.bl (tab p 4), V.bl (tab p 5), V.bl (tab p 6), V.bl (tab p 7), V.bl (tab p 8), V.bl (tab p 9), V.bl (tab p 10), V.bl (tab p 11), V.bl (tab p 12), V.bl (tab p 13), V.bl (tab p 14)]) := f4
    replace S := S.trans (S4.trans R4)
    have i4 := h4.keep R4
    refine ⟨_, rfl, _, rfl, x, .ref (C 15), .ref (C p), .ref (C 15), _, rfl, .own _, i4.ty T, T.kit i4.1 (by decide), ?_⟩
    refine ⟨_, rfl, x, .ref (C 16), .ref (C p), .ref (C 16), _, rfl, .own _, i4.ty T, T.kit i4.1 (by decide), ?_⟩
    refine ⟨_, rfl, x, .ref (C 17), .ref (C p), .ref (C 17), _, rfl, .own _, i4.ty T, T.kit i4.1 (by decide), ?_⟩
    refine ⟨by show 3 ≤ sizeLine; decide, fun L5 n5 => ?_⟩
    generalize q5 : upd F4 L5 (.lst [V.bl (tab p 15), V.bl (tab p 16), V.bl (tab p 17)]) = G5
    have S5 : Same F4 G5 := q5 ▸ Same.laid n5
    have e5 : G5 L5 = some (.lst [V.bl (tab p 15), V.bl (tab p 16), V.bl (tab p 17)]) := q5 ▸ upd_same
    have h5 := i4.keep S5
    refine ⟨M4, L5, [V.bl (tab p 0), V.bl (tab p 1), V.bl (tab p 2), V.bl (tab p 3), V.bl (tab p 4), V.bl (tab p 5), V.bl (tab p 6), V.bl (tab p 7), V.bl (tab p 8), V.bl (tab p 9), V.bl (tab p 10), V.bl (tab p 11), V.bl (tab p 12), V.bl (tab p 13), V.bl (tab p 14)], [V.bl (tab p 15), V.bl (tab p 16), V.bl (tab p 17)], rfl, rfl, S5 _ _ eL, e5, by show 18 ≤ sizeLine; decide, fun M5 m5 => ?_⟩
    generalize r5 : upd G5 M5 (.lst ([V.bl (tab p 0), V.bl (tab p 1), V.bl (tab p 2), V.bl (tab p 3), V.bl (tab p 4), V.bl (tab p 5), V.bl (tab p 6), V.bl (tab p 7), V.bl (tab p 8), V.bl (tab p 9), V.bl (tab p 10), V.bl (tab p 11), V.bl (tab p 12), V.bl (tab p 13), V.bl (tab p 14)] ++ [V.bl (tab p 15), V.bl (tab p 16), V.bl (tab p 17)])) = F5
    have R5 : Same G5 F5 := r5 ▸ Same.laid m5
    have f5 : F5 M5 = some (.lst ([V.bl (tab p 0), V.bl (tab p 1), V.bl (tab p 2), V.bl (tab p 3), V.bl (tab p 4), V.bl (tab p 5), V.bl (tab p 6), V.bl (tab p 7), V.bl (tab p 8), V.bl (tab p 9), V.bl (tab p 10), V.bl (tab p 11), V.bl (tab p 12), V.bl (tab p 13), V.bl (tab p 14)] ++ [V.bl (tab p 15), V.bl (tab p 16), V.bl (tab p 17)])) := r5 ▸ upd_same
    replace eL : F5 M5 = some (.lst [V.bl (tab p 0), V.bl (tab p 1), V.bl (tab p 2), V.bl (tab p 3), V.bl (tab p 4), V.bl (tab p 5), V.bl (tab p 6), V.bl (tab p 7), V.bl (tab p 8), V.bl (tab p 9), V.bl (tab p 10), V.bl (tab p 11), V.bl (tab p 12), V.bl (tab p 13), V.bl (tab p 14), V.bl (tab p 15), V.bl (tab p 16), V.bl (tab p 17)]) := f5
    replace S := S.trans (S5.trans R5)
    have i5 := h5.keep R5
    refine ⟨_, rfl, _, rfl, x, .ref (C 18), .ref (C p), .ref (C 18), _, rfl, .own _, i5.ty T, T.kit i5.1 (by decide), ?_⟩
    refine ⟨_, rfl, x, .ref (C 19), .ref (C p), .ref (C 19), _, rfl, .own _, i5.ty T, T.kit i5.1 (by decide), ?_⟩
    refine ⟨by show 2 ≤ sizeLine; decide, fun L6 n6 => ?_⟩
    generalize q6 : upd F5 L6 (.lst [V.bl (tab p 18), V.bl (tab p 19)]) = G6
    have S6 : Same F5 G6 := q6 ▸ Same.laid n6
    have e6 : G6 L6 = some (.lst [V.bl (tab p 18), V.bl (tab p 19)]) := q6 ▸ upd_same
    have h6 := i5.keep S6
    refine ⟨M5, L6, [V.bl (tab p 0), V.bl (tab p 1), V.bl (tab p 2), V.bl (tab p 3), V.bl (tab p 4), V.bl (tab p 5), V.bl (tab p 6), V.bl (tab p 7), V.bl (tab p 8), V.bl (tab p 9), V.bl (tab p 10), V.bl (tab p 11), V.bl (tab p 12), V.bl (tab p 13), V.bl (tab p 14), V.bl (tab p 15), V.bl (tab p 16), V.bl (tab p 17)], [V.bl (tab p 18), V.bl (tab p 19)], rfl, rfl, S6 _ _ eL, e6, by show 20 ≤ sizeLine; decide, fun M6 m6 => ?_⟩
    generalize r6 : upd G6 M6 (.lst ([V.bl (tab p 0), V.bl (tab p 1), V.bl (tab p 2), V.bl (tab p 3), V.bl (tab p 4), V.bl (tab p 5), V.bl (tab p 6), V.bl (tab p 7), V.bl (tab p 8), V.bl (tab p 9), V.bl (tab p 10), V.bl (tab p 11), V.bl (tab p 12), V.bl (tab p 13), V.bl (tab p 14), V.bl (tab p 15), V.bl (tab p 16), V.bl (tab p 17)] ++ [V.bl (tab p 18), V.bl (tab p 19)])) = F6
    have R6 : Same G6 F6 := r6 ▸ Same.laid m6
    have f6 : F6 M6 = some (.lst ([V.bl (tab p 0), V.bl (tab p 1), V.bl (tab p 2), V.bl (tab p 3), V.bl (tab p 4), V.bl (tab p 5), V.bl (tab p 6), V.bl (tab p 7), V.bl (tab p 8), V.bl (tab p 9), V.bl (tab p 10), V.bl (tab p 11), V.bl (tab p 12), V.bl (tab p 13), V.bl (tab p 14), V.bl (tab p 15), V.bl (tab p 16), V.bl (tab p 17)] ++ [V.bl (tab p 18), V.bl (tab p 19)])) := r6 ▸ upd_same
    replace eL : F6 M6 = some (.lst [V.bl (tab p 0), V.bl (tab p 1), V.bl (tab p 2), V.bl (tab p 3), V.bl (tab p 4), V.bl (tab p 5), V.bl (tab p 6), V.bl (tab p 7), V.bl (tab p 8), V.bl (tab p 9), V.bl (tab p 10), V.bl (tab p 11), V.bl (tab p 12), V.bl (tab p 13), V.bl (tab p 14), V.bl (tab p 15), V.bl (tab p 16), V.bl (tab p 17), V.bl (tab p 18), V.bl (tab p 19)]) := f6
    replace S := S.trans (S6.trans R6)
    have i6 := h6.keep R6
    exact ⟨_, rfl, k M6 F6 S eL⟩
theorem scLast : FnScope ["_law_e", "_law_gained"] ["_law_e"] (defScope sLast) := ⟨rfl, rfl, rfl, by decide +kernel, rfl, by decide +kernel, by decide +kernel⟩
theorem d_last (Z : Txt mg) (T : Tab P w K mg base C) (A : At K mg "_law_marks_last" sLast) :
    Def P w K mg base "_law_marks_last" 1 ["_law_e"] (spMarks K C 20) := by
  refine mkDef A scLast (fun _ _ _ _ _ _ us hl => match us, hl with | [_], _ => rfl) (fun vs H Q E ⟨x, p, e, _⟩ => by rw [e]; rfl)
    (fun f cdv A out s H vs Q E hr h => ?_)
  obtain ⟨x, p, rfl, h, k⟩ := h
  refine' ⟨_, pss_cons ?s0 (pss_cons ?s1 (pss_cons ?s2 (pss_cons ?s3 (pss_cons ?s4 (pss_cons ?s5 (pss_cons ?s6 (pss_one (ps_ret (pv 1))))))))), ?rd⟩
  case s0 =>
    exact ps_set (i := 1) scLast.nd rfl (.inl rfl) (pe_lst (pa_cons (pe_isC Z.isinstance (by rfl) (pv 0) (by rfl) T.g20) (pa_cons (pe_isC Z.isinstance (by rfl) (pv 0) (by rfl) T.g21) (pa_cons (pe_isC Z.isinstance (by rfl) (pv 0) (by rfl) T.g22) pa_nil))))
  case s1 =>
    exact ps_set (i := 1) scLast.nd rfl (.inl rfl) (pe_op op_cat (pv 1) (pe_lst (pa_cons (pe_isC Z.isinstance (by rfl) (pv 0) (by rfl) T.g23) (pa_cons (pe_isC Z.isinstance (by rfl) (pv 0) (by rfl) T.g24) (pa_cons (pe_isC Z.isinstance (by rfl) (pv 0) (by rfl) T.g25) pa_nil)))))
  case s2 =>
    exact ps_set (i := 1) scLast.nd rfl (.inl rfl) (pe_op op_cat (pv 1) (pe_lst (pa_cons (pe_isC Z.isinstance (by rfl) (pv 0) (by rfl) T.g26) (pa_cons (pe_isC Z.isinstance (by rfl) (pv 0) (by rfl) T.g27) (pa_cons (pe_isC Z.isinstance (by rfl) (pv 0) (by rfl) T.g28) pa_nil)))))
  case s3 =>
    exact ps_set (i := 1) scLast.nd rfl (.inl rfl) (pe_op op_cat (pv 1) (pe_lst (pa_cons (pe_isC Z.isinstance (by rfl) (pv 0) (by rfl) T.g29) (pa_cons (pe_isC Z.isinstance (by rfl) (pv 0) (by rfl) T.g30) (pa_cons (pe_isC Z.isinstance (by rfl) (pv 0) (by rfl) T.g31) pa_nil)))))
  case s4 =>
    exact ps_set (i := 1) scLast.nd rfl (.inl rfl) (pe_op op_cat (pv 1) (pe_lst (pa_cons (pe_isC Z.isinstance (by rfl) (pv 0) (by rfl) T.g32) (pa_cons (pe_isC Z.isinstance (by rfl) (pv 0) (by rfl) T.g33) (pa_cons (pe_isC Z.isinstance (by rfl) (pv 0) (by rfl) T.g34) pa_nil)))))
  case s5 =>
    exact ps_set (i := 1) scLast.nd rfl (.inl rfl) (pe_op op_cat (pv 1) (pe_lst (pa_cons (pe_isC Z.isinstance (by rfl) (pv 0) (by rfl) T.g35) (pa_cons (pe_isC Z.isinstance (by rfl) (pv 0) (by rfl) T.g36) (pa_cons (pe_isC Z.isinstance (by rfl) (pv 0) (by rfl) T.g37) pa_nil)))))
  case s6 =>
    exact ps_set (i := 1) scLast.nd rfl (.inl rfl) (pe_op op_cat (pv 1) (pe_lst (pa_cons (pe_isC Z.isinstance (by rfl) (pv 0) (by rfl) T.g38) (pa_cons (pe_isC Z.isinstance (by rfl) (pv 0) (by rfl) T.g39) pa_nil))))
  case rd =>
    refine ⟨_, rfl, x, .ref (C 20), .ref (C p), .ref (C 20), _, rfl, .own _, h.ty T, T.kit h.1 (by decide), ?_⟩
    refine ⟨_, rfl, x, .ref (C 21), .ref (C p), .ref (C 21), _, rfl, .own _, h.ty T, T.kit h.1 (by decide), ?_⟩
    refine ⟨_, rfl, x, .ref (C 22), .ref (C p), .ref (C 22), _, rfl, .own _, h.ty T, T.kit h.1 (by decide), ?_⟩
    refine ⟨by show 3 ≤ sizeLine; decide, fun L0 n0 => ?_⟩
    generalize q0 : upd H L0 (.lst [V.bl (tab p 20), V.bl (tab p 21), V.bl (tab p 22)]) = G0
    have S0 : Same H G0 := q0 ▸ Same.laid n0
    have e0 : G0 L0 = some (.lst [V.bl (tab p 20), V.bl (tab p 21), V.bl (tab p 22)]) := q0 ▸ upd_same
    have h0 := h.keep S0
    have S := S0
    have eL := e0
    refine ⟨_, rfl, _, rfl, x, .ref (C 23), .ref (C p), .ref (C 23), _, rfl, .own _, h0.ty T, T.kit h0.1 (by decide), ?_⟩
    refine ⟨_, rfl, x, .ref (C 24), .ref (C p), .ref (C 24), _, rfl, .own _, h0.ty T, T.kit h0.1 (by decide), ?_⟩
    refine ⟨_, rfl, x, .ref (C 25), .ref (C p), .ref (C 25), _, rfl, .own _, h0.ty T, T.kit h0.1 (by decide), ?_⟩
    refine ⟨by show 3 ≤ sizeLine; decide, fun L1 n1 => ?_⟩
    generalize q1 : upd G0 L1 (.lst [V.bl (tab p 23), V.bl (tab p 24), V.bl (tab p 25)]) = G1
    have S1 : Same G0 G1 := q1 ▸ Same.laid n1
    have e1 : G1 L1 = some (.lst [V.bl (tab p 23), V.bl (tab p 24), V.bl (tab p 25)]) := q1 ▸ upd_same
    have h1 := h0.keep S1
    refine ⟨L0, L1, [V.bl (tab p 20), V.bl (tab p 21), V.bl (tab p 22)], [V.bl (tab p 23), V.bl (tab p 24), V.bl (tab p 25)], rfl, rfl, S1 _ _ eL, e1, by show 6 ≤ sizeLine; decide, fun M1 m1 => ?_⟩
    generalize r1 : upd G1 M1 (.lst ([V.bl (tab p 20), V.bl (tab p 21), V.bl (tab p 22)] ++ [V.bl (tab p 23), V.bl (tab p 24), V.bl (tab p 25)])) = F1
    have R1 : Same G1 F1 := r1 ▸ Same.laid m1
    have f1 : F1 M1 = some (.lst ([V.bl (tab p 20), V.bl (tab p 21), V.bl (tab p 22)] ++ [V.bl (tab p 23), V.bl (tab p 24), V.bl (tab p 25)])) := r1 ▸ upd_same
    replace eL : F1 M1 = some (.lst [V.bl (tab p 20), V.bl (tab p 21), V.bl (tab p 22), V.bl (tab p 23), V.bl (tab p 24), V.bl (tab p 25)]) := f1
    replace S := S.trans (S1.trans R1)
    have i1 := h1.keep R1
    refine ⟨_, rfl, _, rfl, x, .ref (C 26), .ref (C p), .ref (C 26), _, rfl, .own _, i1.ty T, T.kit i1.1 (by decide), ?_⟩
    refine ⟨_, rfl, x, .ref (C 27), .ref (C p), .ref (C 27), _, rfl, .own _, i1.ty T, T.kit i1.1 (by decide), ?_⟩
    refine ⟨_, rfl, x, .ref (C 28), .ref (C p), .ref (C 28), _, rfl, .own _, i1.ty T, T.kit i1.1 (by decide), ?_⟩
    refine ⟨by show 3 ≤ sizeLine; decide, fun L2 n2 => ?_⟩
    generalize q2 : upd F1 L2 (.lst [V.bl (tab p 26), V.bl (tab p 27), V.bl (tab p 28)]) = G2
    have S2 : Same F1 G2 := q2 ▸ Same.laid n2
    have e2 : G2 L2 = some (.lst [V.bl (tab p 26), V.bl (tab p 27), V.bl (tab p 28)]) := q2 ▸ upd_same
    have h2 := i1.keep S2
    refine ⟨M1, L2, [V.bl (tab p 20), V.bl (tab p 21), V.bl (tab p 22), V.bl (tab p 23), V.bl (tab p 24), V.bl (tab p 25)], [V.bl (tab p 26), V.bl (tab p 27), V.bl (tab p 28)], rfl, rfl, S2 _ _ eL, e2, by show 9 ≤ sizeLine; decide, fun M2 m2 => ?_⟩
    generalize r2 : upd G2 M2 (.lst ([V.bl (tab p 20), V.bl (tab p 21), V.bl (tab p 22), V.bl (tab p 23), V.bl (tab p 24), V.bl (tab p 25)] ++ [V.bl (tab p 26), V.bl (tab p 27), V.bl (tab p 28)])) = F2
    have R2 : Same G2 F2 := r2 ▸ Same.laid m2
    have f2 : F2 M2 = some (.lst ([V.bl (tab p 20), V.bl (tab p 21), V.bl (tab p 22), V.bl (tab p 23), V.bl (tab p 24), V.bl (tab p 25)] ++ [V.bl (tab p 26), V.bl (tab p 27), V.bl (tab p 28)])) := r2 ▸ upd_same
    replace eL : F2 M2 = some (.lst [V.bl (tab p 20), V.bl (tab p 21), V.bl (tab p 22), V.bl (tab p 23), V.bl (tab p 24), V.bl (tab p 25), V.bl (tab p 26), V.bl (tab p 27), V.bl (tab p 28)]) := f2
    replace S := S.trans (S2.trans R2)
    have i2 := h2.keep R2
    refine ⟨_, rfl, _, rfl, x, .ref (C 29), .ref (C p), .ref (C 29), _, rfl, .own _, i2.ty T, T.kit i2.1 (by decide), ?_⟩
    refine ⟨_, rfl, x, .ref (C 30), .ref (C p), .ref (C 30), _, rfl, .own _, i2.ty T, T.kit i2.1 (by decide), ?_⟩
    refine ⟨_, rfl, x, .ref (C 31), .ref (C p), .ref (C 31), _, rfl, .own _, i2.ty T, T.kit i2.1 (by decide), ?_⟩
    refine ⟨by show 3 ≤ sizeLine; decide, fun L3 n3 => ?_⟩
    generalize q3 : upd F2 L3 (.lst [V.bl (tab p 29), V.bl (tab p 30), V.bl (tab p 31)]) = G3
    have S3 : Same F2 G3 := q3 ▸ Same.laid n3
    have e3 : G3 L3 = some (.lst [V.bl (tab p 29), V.bl (tab p 30), V.bl (tab p 31)]) := q3 ▸ upd_same
    have h3 := i2.keep S3
    refine ⟨M2, L3, [V.bl (tab p 20), V.bl (tab p 21), V.bl (tab p 22), V.bl (tab p 23), V.bl (tab p 24), V.bl (tab p 25), V.bl (tab p 26), V.bl (tab p 27), V.bl (tab p 28)], [V.bl (tab p 29), V.bl (tab p 30), V.bl (tab p 31)], rfl, rfl, S3 _ _ eL, e3, by show 12 ≤ sizeLine; decide, fun M3 m3 => ?_⟩
    generalize r3 : upd G3 M3 (.lst ([V.bl (tab p 20), V.bl (tab p 21), V.bl (tab p 22), V.bl (tab p 23), V.bl (tab p 24), V.bl (tab p 25), V.bl (tab p 26), V.bl (tab p 27), V.bl (tab p 28)] ++ [V.bl (tab p 29), V.bl (tab p 30), V.bl (tab p 31)])) = F3
    have R3 : Same G3 F3 := r3 ▸ Same.laid m3
    have f3 : F3 M3 = some (.lst ([V.bl (tab p 20), V.bl (tab p 21), V.bl (tab p 22), V.bl (tab p 23), V.bl (tab p 24), V.bl (tab p 25), V.bl (tab p 26), V.bl (tab p 27), V.bl (tab p 28)] ++ [V.bl (tab p 29), V.bl (tab p 30), V.bl (tab p 31)])) := r3 ▸ upd_same
    replace eL : F3 M3 = some (.lst [V.bl (tab p 20), V.bl (tab p 21), V.bl (tab p 22), V.bl (tab p 23), V.bl (tab p 24), V.bl (tab p 25), V.bl (tab p 26), V.bl (tab p 27), V.bl (tab p 28), V.bl (tab p 29), V.bl (tab p 30), V.bl (tab p 31)]) := f3
    replace S := S.trans (S3.trans R3)
    have i3 := h3.keep R3
    refine ⟨_, rfl, _, rfl, x, .ref (C 32), .ref (C p), .ref (C 32), _, rfl, .own _, i3.ty T, T.kit i3.1 (by decide), ?_⟩
    refine ⟨_, rfl, x, .ref (C 33), .ref (C p), .ref (C 33), _, rfl, .own _, i3.ty T, T.kit i3.1 (by decide), ?_⟩
    refine ⟨_, rfl, x, .ref (C 34), .ref (C p), .ref (C 34), _, rfl, .own _, i3.ty T, T.kit i3.1 (by decide), ?_⟩
    refine ⟨by show 3 ≤ sizeLine; decide, fun L4 n4 => ?_⟩
    generalize q4 : upd F3 L4 (.lst [V.bl (tab p 32), V.bl (tab p 33), V.bl (tab p 34)]) = G4
    have S4 : Same F3 G4 := q4 ▸ Same.laid n4
    have e4 : G4 L4 = some (.lst [V.bl (tab p 32), V.bl (tab p 33), V.bl (tab p 34)]) := q4 ▸ upd_same
    have h4 := i3.keep S4
    refine ⟨M3, L4, [V.bl (tab p 20), V.bl (tab p 21), V.bl (tab p 22), V.bl (tab p 23), V.bl (tab p 24), V.bl (tab p 25), V.bl (tab p 26), V.bl (tab p 27), V.bl (tab p 28), V.bl (tab p 29), V.bl (tab p 30), V.bl (tab p 31)], [V.bl (tab p 32), V.bl (tab p 33), V.bl (tab p 34)], rfl, rfl, S4 _ _ eL, e4, by show 15 ≤ sizeLine; decide, fun M4 m4 => ?_⟩
    generalize r4 : upd G4 M4 (.lst ([V.bl (tab p 20), V.bl (tab p 21), V.bl (tab p 22), V.bl (tab p 23), V.bl (tab p 24), V.bl (tab p 25), V.bl (tab p 26), V.bl (tab p 27), V.bl (tab p 28), V.bl (tab p 29), V.bl (tab p 30), V.bl (tab p 31)] ++ [V.bl (tab p 32), V.bl (tab p 33), V.bl (tab p 34)])) = F4
    have R4 : Same G4 F4 := r4 ▸ Same.laid m4
    have f4 : F4 M4 = some (.lst ([V.bl (tab p 20), V.bl (tab p 21), V.bl (tab p 22), V.bl (tab p 23), V.bl (tab p 24), V.bl (tab p 25), V.bl (tab p 26), V.bl (tab p 27), V.bl (tab p 28), V.bl (tab p 29), V.bl (tab p 30), V.bl (tab p 31)] ++ [V.bl (tab p 32), V.bl (tab p 33), V.bl (tab p 34)])) := r4 ▸ upd_same
    replace eL : F4 M4 = some (.lst [V.bl (tab p 20), V.bl (tab p 21), V.bl (tab p 22), V.bl (tab p 23), V.bl (tab p 24), V.bl (tab p 25), V.bl (tab p 26), V.bl (tab p 27), V.bl (tab p 28), V.bl (tab p 29), V.bl (tab p 30), V.bl (tab p 31), V.bl (tab p 32), V.bl (tab p 33), V.bl (tab p 34)]) := f4
    replace S := S.trans (S4.trans R4)
    have i4 := h4.keep R4
    refine ⟨_, rfl, _, rfl, x, .ref (C 35), .ref (C p), .ref (C 35), _, rfl, .own _, i4.ty T, T.kit i4.1 (by decide), ?_⟩
    refine ⟨_, rfl, x, .ref (C 36), .ref (C p), .ref (C 36), _, rfl, .own _, i4.ty T, T.kit i4.1 (by decide), ?_⟩
    refine ⟨_, rfl, x, .ref (C 37), .ref (C p), .ref (C 37), _, rfl, .own _, i4.ty T, T.kit i4.1 (by decide), ?_⟩
    refine ⟨by show 3 ≤ sizeLine; decide, fun L5 n5 => ?_⟩
    generalize q5 : upd F4 L5 (.lst [V.bl (tab p 35), V.bl (tab p 36), V.bl (tab p 37)]) = G5
    have S5 : Same F4 G5 := q5 ▸ Same.laid n5
    have e5 : G5 L5 = some (.lst [V.bl (tab p 35), V.bl (tab p 36), V.bl (tab p 37)]) := q5 ▸ upd_same
    have h5 := i4.keep S5
    refine ⟨M4, L5, [V.bl (tab p 20), V.bl (tab p 21), V.bl (tab p 22), V.bl (tab p 23), V.bl (tab p 24), V.bl (tab p 25), V.bl (tab p 26), V.bl (tab p 27), V.bl (tab p 28), V.bl (tab p 29), V.bl (tab p 30), V.bl (tab p 31), V.bl (tab p 32), V.bl (tab p 33), V.bl (tab p 34)], [V.bl (tab p 35), V.bl (tab p 36), V.bl (tab p 37)], rfl, rfl, S5 _ _ eL, e5, by show 18 ≤ sizeLine; decide, fun M5 m5 => ?_⟩
    generalize r5 : upd G5 M5 (.lst ([V.bl (tab p 20), V.bl (tab p 21), V.bl (tab p 22), V.bl (tab p 23), V.bl (tab p 24), V.bl (tab p 25), V.bl (tab p 26), V.bl (tab p 27), V.bl (tab p 28), V.bl (tab p 29), V.bl (tab p 30), V.bl (tab p 31), V.bl (tab p 32), V.bl (tab p 33), V.bl (tab p 34)] ++ [V.bl (tab p 35), V.bl (tab p 36), V.bl (tab p 37)])) = F5
    have R5 : Same G5 F5 := r5 ▸ Same.laid m5
    have f5 : F5 M5 = some (.lst ([V.bl (tab p 20), V.bl (tab p 21), V.bl (tab p 22), V.bl (tab p 23), V.bl (tab p 24), V.bl (tab p 25), V.bl (tab p 26), V.bl (tab p 27), V.bl (tab p 28), V.bl (tab p 29), V.bl (tab p 30), V.bl (tab p 31), V.bl (tab p 32), V.bl (tab p 33), V.bl (tab p 34)] ++ [V.bl (tab p 35), V.bl (tab p 36), V.bl (tab p 37)])) := r5 ▸ upd_same
    replace eL : F5 M5 = some (.lst [V.bl (tab p 20), V.bl (tab p 21), V.bl (tab p 22), V.bl (tab p 23), V.bl (tab p 24), V.bl (tab p 25), V.bl (tab p 26), V.bl (tab p 27), V.bl (tab p 28), V.bl (tab p 29), V.bl (tab p 30), V.bl (tab p 31), V.bl (tab p 32), V.bl (tab p 33), V.bl (tab p 34), V.bl (tab p 35), V.bl (tab p 36), V.bl (tab p 37)]) := f5
    replace S := S.trans (S5.trans R5)
    have i5 := h5.keep R5
    refine ⟨_, rfl, _, rfl, x, .ref (C 38), .ref (C p), .ref (C 38), _, rfl, .own _, i5.ty T, T.kit i5.1 (by decide), ?_⟩
    refine ⟨_, rfl, x, .ref (C 39), .ref (C p), .ref (C 39), _, rfl, .own _, i5.ty T, T.kit i5.1 (by decide), ?_⟩
    refine ⟨by show 2 ≤ sizeLine; decide, fun L6 n6 => ?_⟩
    generalize q6 : upd F5 L6 (.lst [V.bl (tab p 38), V.bl (tab p 39)]) = G6
    have S6 : Same F5 G6 := q6 ▸ Same.laid n6
    have e6 : G6 L6 = some (.lst [V.bl (tab p 38), V.bl (tab p 39)]) := q6 ▸ upd_same
    have h6 := i5.keep S6
    refine ⟨M5, L6, [V.bl (tab p 20), V.bl (tab p 21), V.bl (tab p 22), V.bl (tab p 23), V.bl (tab p 24), V.bl (tab p 25), V.bl (tab p 26), V.bl (tab p 27), V.bl (tab p 28), V.bl (tab p 29), V.bl (tab p 30), V.bl (tab p 31), V.bl (tab p 32), V.bl (tab p 33), V.bl (tab p 34), V.bl (tab p 35), V.bl (tab p 36), V.bl (tab p 37)], [V.bl (tab p 38), V.bl (tab p 39)], rfl, rfl, S6 _ _ eL, e6, by show 20 ≤ sizeLine; decide, fun M6 m6 => ?_⟩
    generalize r6 : upd G6 M6 (.lst ([V.bl (tab p 20), V.bl (tab p 21), V.bl (tab p 22), V.bl (tab p 23), V.bl (tab p 24), V.bl (tab p 25), V.bl (tab p 26), V.bl (tab p 27), V.bl (tab p 28), V.bl (tab p 29), V.bl (tab p 30), V.bl (tab p 31), V.bl (tab p 32), V.bl (tab p 33), V.bl (tab p 34), V.bl (tab p 35), V.bl (tab p 36), V.bl (tab p 37)] ++ [V.bl (tab p 38), V.bl (tab p 39)])) = F6
    have R6 : Same G6 F6 := r6 ▸ Same.laid m6
    have f6 : F6 M6 = some (.lst ([V.bl (tab p 20), V.bl (tab p 21), V.bl (tab p 22), V.bl (tab p 23), V.bl (tab p 24), V.bl (tab p 25), V.bl (tab p 26), V.bl (tab p 27), V.bl (tab p 28), V.bl (tab p 29), V.bl (tab p 30), V.bl (tab p 31), V.bl (tab p 32), V.bl (tab p 33), V.bl (tab p 34), V.bl (tab p 35), V.bl (tab p 36), V.bl (tab p 37)] ++ [V.bl (tab p 38), V.bl (tab p 39)])) := r6 ▸ upd_same
    replace eL : F6 M6 = some (.lst [V.bl (tab p 20), V.bl (tab p 21), V.bl (tab p 22), V.bl (tab p 23), V.bl (tab p 24), V.bl (tab p 25), V.bl (tab p 26), V.bl (tab p 27), V.bl (tab p 28), V.bl (tab p 29), V.bl (tab p 30), V.bl (tab p 31), V.bl (tab p 32), V.bl (tab p 33), V.bl (tab p 34), V.bl (tab p 35), V.bl (tab p 36), V.bl (tab p 37), V.bl (tab p 38), V.bl (tab p 39)]) := f6
    replace S := S.trans (S6.trans R6)
    have i6 := h6.keep R6
    exact ⟨_, rfl, k M6 F6 S eL⟩
/-- what is told of the families -/
def famB (p : Nat) : List Bool := [tab p 40, tab p 41, tab p 42, (tailOf (famOf p)).contains (.type "ValueError"),
  (tailOf (famOf p)).contains (.type "KeyError"), (tailOf (famOf p)).contains (.type "LookupError")]
def famW (p : Nat) : List Bool := if p < 30 then [true, false, false, true, false, false]
  else if p < 36 then [false, true, false, false, true, true] else [false, false, true, false, false, true]
theorem fam_due : ∀ p, p < 40 → famB p = famW p := by decide +kernel
theorem fam_40 : famB 40 = famW 0 := by decide +kernel
theorem fam_41 : famB 41 = famW 30 := by decide +kernel
theorem fam_42 : famB 42 = famW 36 := by decide +kernel
def spFams (K : PySem.W.Frag) (C : Nat → Addr) : Sp := fun vs H Q _ => ∃ x p, vs = [x] ∧ IsE K C H p x ∧
  ∀ L H', Same H H' → H' L = some (.lst ((famB p).map V.bl)) → Q (.ref L) H'
theorem scFams : FnScope ["_law_e", "_law_own"] ["_law_e"] (defScope sFams) := ⟨rfl, rfl, rfl, by decide +kernel, rfl, by decide +kernel, by decide +kernel⟩
theorem d_fams (Z : Txt mg) (T : Tab P w K mg base C) (A : At K mg "_law_families" sFams) :
    Def P w K mg base "_law_families" 1 ["_law_e"] (spFams K C) := by
  refine mkDef A scFams (fun _ _ _ _ _ _ us hl => match us, hl with | [_], _ => rfl) (fun vs H Q E ⟨x, p, e, _⟩ => by rw [e]; rfl)
    (fun f cdv A out s H vs Q E hr h => ?_)
  obtain ⟨x, p, rfl, h, k⟩ := h
  refine' ⟨_, pss_cons ?s0 (pss_one ?s1), ?rd⟩
  case s0 =>
    exact ps_set (i := 1) scFams.nd rfl (.inl rfl) (pe_lst (pa_cons (pe_isC Z.isinstance (by rfl) (pv 0) (by rfl) T.g40)
      (pa_cons (pe_isC Z.isinstance (by rfl) (pv 0) (by rfl) T.g41) (pa_cons (pe_isC Z.isinstance (by rfl) (pv 0) (by rfl) T.g42) pa_nil))))
  case s1 =>
    exact ps_ret (pe_op op_cat (pv 1) (pe_lst (pa_cons (pe_isT Z.isinstance (by rfl) (pv 0) (by rfl) Z.value (Tn := "ValueError") (by decide +kernel))
      (pa_cons (pe_isT Z.isinstance (by rfl) (pv 0) (by rfl) Z.key (Tn := "KeyError") (by decide +kernel))
      (pa_cons (pe_isT Z.isinstance (by rfl) (pv 0) (by rfl) Z.lookup (Tn := "LookupError") (by decide +kernel)) pa_nil)))))
  case rd =>
    refine ⟨_, rfl, x, .ref (C 40), .ref (C p), .ref (C 40), _, rfl, .own _, h.ty T, T.kit h.1 (by decide), ?_⟩
    refine ⟨_, rfl, x, .ref (C 41), .ref (C p), .ref (C 41), _, rfl, .own _, h.ty T, T.kit h.1 (by decide), ?_⟩
    refine ⟨_, rfl, x, .ref (C 42), .ref (C p), .ref (C 42), _, rfl, .own _, h.ty T, T.kit h.1 (by decide), ?_⟩
    refine ⟨by show 3 ≤ sizeLine; decide, fun L0 n0 => ?_⟩
    generalize q0 : upd H L0 (.lst [V.bl (tab p 40), V.bl (tab p 41), V.bl (tab p 42)]) = G0
    have S0 : Same H G0 := q0 ▸ Same.laid n0
    have e0 : G0 L0 = some (.lst [V.bl (tab p 40), V.bl (tab p 41), V.bl (tab p 42)]) := q0 ▸ upd_same
    have h0 := h.keep S0
    refine ⟨_, rfl, _, rfl, x, .ty "ValueError", .ref (C p), .type "ValueError", _, rfl, .ty _, h0.ty T, T.kitT h0.1 (by decide +kernel), ?_⟩
    refine ⟨_, rfl, x, .ty "KeyError", .ref (C p), .type "KeyError", _, rfl, .ty _, h0.ty T, T.kitT h0.1 (by decide +kernel), ?_⟩
    refine ⟨_, rfl, x, .ty "LookupError", .ref (C p), .type "LookupError", _, rfl, .ty _, h0.ty T, T.kitT h0.1 (by decide +kernel), ?_⟩
    refine ⟨by show 3 ≤ sizeLine; decide, fun L1 n1 => ?_⟩
    refine ⟨L0, L1, _, _, rfl, rfl, (Same.laid n1) _ _ e0, upd_same, by show 3 + 3 ≤ sizeLine; decide, fun M m => ?_⟩
    exact k M _ (S0.trans ((Same.laid n1).trans (Same.laid m))) upd_same
def spFamOf : Sp := fun vs H Q _ => ∃ p : Nat, vs = [.int p] ∧ ∀ L H', Same H H' → H' L = some (.lst ((famW p).map V.bl)) → Q (.ref L) H'
theorem scFamOf : FnScope ["_law_place"] ["_law_place"] (defScope sFamOf) := ⟨rfl, rfl, rfl, by decide +kernel, rfl, by decide +kernel, by decide +kernel⟩
theorem d_famof (A : At K mg "_law_family_of" sFamOf) : Def P w K mg base "_law_family_of" 1 ["_law_place"] spFamOf := by
  refine mkDef A scFamOf (fun _ _ _ _ _ _ us hl => match us, hl with | [_], _ => rfl) (fun vs H Q E ⟨p, e, _⟩ => by rw [e]; rfl)
    (fun f cdv A out s H vs Q E hr h => ?_)
  obtain ⟨p, rfl, k⟩ := h
  refine ⟨_, pss_cons (ps_if (pt_cmpR op_lt (pv 0) pe_int (nomark _)) (pss_one (ps_ret (pe_lst (pa_cons pe_bl (pa_cons pe_bl (pa_cons pe_bl (pa_cons pe_bl (pa_cons pe_bl (pa_cons pe_bl pa_nil))))))))) pss_nil)
    (pss_cons (ps_if (pt_cmpR op_lt (pv 0) pe_int (nomark _)) (pss_one (ps_ret (pe_lst (pa_cons pe_bl (pa_cons pe_bl (pa_cons pe_bl (pa_cons pe_bl (pa_cons pe_bl (pa_cons pe_bl pa_nil))))))))) pss_nil)
    (pss_one (ps_ret (pe_lst (pa_cons pe_bl (pa_cons pe_bl (pa_cons pe_bl (pa_cons pe_bl (pa_cons pe_bl (pa_cons pe_bl pa_nil)))))))))), ?_⟩
  refine ⟨_, rfl, (p : Int), 30, rfl, rfl, _, rfl, ?_⟩
  unfold famW at k
  refine ite2 (fun h1 => ?_) (fun h1 => ?_)
  · have h1' : p < 30 := by have := of_decide_eq_true h1; omega
    rw [if_pos h1'] at k
    exact ⟨by show 6 ≤ sizeLine; decide, fun L n => k L _ (Same.laid n) upd_same⟩
  · have h1' : ¬ p < 30 := fun q => h1 (decide_eq_true (by omega))
    rw [if_neg h1'] at k
    refine ⟨_, rfl, (p : Int), 36, rfl, rfl, _, rfl, ?_⟩
    refine ite2 (fun h2 => ?_) (fun h2 => ?_)
    · have h2' : p < 36 := by have := of_decide_eq_true h2; omega
      rw [if_pos h2'] at k
      exact ⟨by show 6 ≤ sizeLine; decide, fun L n => k L _ (Same.laid n) upd_same⟩
    · have h2' : ¬ p < 36 := fun q => h2 (decide_eq_true (by omega))
      rw [if_neg h2'] at k
      exact ⟨by show 6 ≤ sizeLine; decide, fun L n => k L _ (Same.laid n) upd_same⟩
end
end K3

/-! All refusals are made of a thing. -/
namespace K3
open PySem PySem.Spec PyProof.Rows L2 Pw
def fldOf (p : Nat) : Str := if p = 28 then "many" else if p = 29 then "at" else "found"
section
variable {P : Program} {w : World} {K : PySem.W.Frag} {mg : Str → Option Value} {base : Heap} {C : Nat → Addr}
/-- what the making of a refusal leaves -/
theorem err_of {p : Nat} {fl tx : Str} {H : Hp} {v : V} {ts : List V} {t0 a : Addr} (n0 : H t0 = none) (na : H a = none) (h0a : t0 ≠ a) {t2 dx : Addr}
    (n2 : upd (upd H t0 (.tup ts)) a (exq a (C p) none t0) t2 = none) (h2a : t2 ≠ a)
    (nd : upd (upd H t0 (.tup ts)) a (exq a (C p) none t0) dx = none) (hda : dx ≠ a) (hd2 : dx ≠ t2) :
    ∃ G, upd (upd (upd (upd (upd (upd H t0 (.tup ts)) a (exq a (C p) none t0)) t2 (.tup [.str tx])) a (exq a (C p) none t2)) dx
      (exd dx [(fl, v)])) a (exq a (C p) (some dx) t2) = G ∧ Err K C G p fl v (.ref a) ∧ Same H G := by
  refine ⟨_, rfl, ?_⟩
  generalize q1 : upd (upd H t0 (.tup ts)) a (exq a (C p) none t0) = H1 at n2 nd ⊢
  have S1 : Same H H1 := by
    have S0 : Same H (upd H t0 (.tup ts)) := Same.laid n0
    have na' : upd H t0 (.tup ts) a = none := (upd_ne h0a.symm).trans na
    exact q1 ▸ S0.trans (Same.laid na')
  generalize q2 : upd (upd (upd (upd H1 t2 (.tup [.str tx])) a (exq a (C p) none t2)) dx (exd dx [(fl, v)])) a (exq a (C p) (some dx) t2) = H2
  have ea : H2 a = some (exq a (C p) (some dx) t2) := q2 ▸ upd_same
  have ed : H2 dx = some (exd dx [(fl, v)]) := by
    rw [← q2, upd_ne hda, upd_same]
  have S2 : Same H H2 := fun b o e => by
    have e1 := S1 b o e
    have b1 : b ≠ a := ne_of_none e na
    have b2 : b ≠ t2 := ne_of_none e1 n2
    have b3 : b ≠ dx := ne_of_none e1 nd
    rw [← q2, upd_ne b1, upd_ne b3, upd_ne b1, upd_ne b2]
    exact e1
  exact ⟨⟨a, dx, t2, rfl, ea, ed⟩, S2⟩

def spMade (K : PySem.W.Frag) (C : Nat → Addr) (o : Nat) : Sp := fun vs H Q _ => ∃ v, vs = [v] ∧
  ∀ L xs H', Same H H' → H L = none → H' L = some (.lst xs) → xs.length = 20 →
    (∀ i, i < 20 → ∃ a, xs[i]? = some (.ref a) ∧ H a = none ∧ Err K C H' (o + i) (fldOf (o + i)) v (.ref a)) → Q (.ref L) H'
theorem none_back {H H' : Hp} {a : Addr} (S : Same H H') (n : H' a = none) : H a = none := by
  cases e : H a with
  | none => rfl
  | some u => exact nomatch (S _ _ e).symm.trans n
theorem scMadeF : FnScope ["_law_one", "_law_gained"] ["_law_one"] (defScope sMadeF) := ⟨rfl, rfl, rfl, by decide +kernel, rfl, by decide +kernel, by decide +kernel⟩
theorem d_madeF (T : Tab P w K mg base C) (A : At K mg "_law_made_first" sMadeF) :
    Def P w K mg base "_law_made_first" 4 ["_law_one"] (spMade K C 0) := by
  obtain ⟨f0, fd0, i0, t0, F0, b0, _⟩ := T.m0.fn
  obtain ⟨f1, fd1, i1, t1, F1, b1, _⟩ := T.m1.fn
  obtain ⟨f2, fd2, i2, t2, F2, b2, _⟩ := T.m2.fn
  obtain ⟨f3, fd3, i3, t3, F3, b3, _⟩ := T.m3.fn
  obtain ⟨f4, fd4, i4, t4, F4, b4, _⟩ := T.m4.fn
  obtain ⟨f5, fd5, i5, t5, F5, b5, _⟩ := T.m5.fn
  obtain ⟨f6, fd6, i6, t6, F6, b6, _⟩ := T.m6.fn
  obtain ⟨f7, fd7, i7, t7, F7, b7, _⟩ := T.m7.fn
  obtain ⟨f8, fd8, i8, t8, F8, b8, _⟩ := T.m8.fn
  obtain ⟨f9, fd9, i9, t9, F9, b9, _⟩ := T.m9.fn
  obtain ⟨f10, fd10, i10, t10, F10, b10, _⟩ := T.m10.fn
  obtain ⟨f11, fd11, i11, t11, F11, b11, _⟩ := T.m11.fn
  obtain ⟨f12, fd12, i12, t12, F12, b12, _⟩ := T.m12.fn
  obtain ⟨f13, fd13, i13, t13, F13, b13, _⟩ := T.m13.fn
  obtain ⟨f14, fd14, i14, t14, F14, b14, _⟩ := T.m14.fn
  obtain ⟨f15, fd15, i15, t15, F15, b15, _⟩ := T.m15.fn
  obtain ⟨f16, fd16, i16, t16, F16, b16, _⟩ := T.m16.fn
  obtain ⟨f17, fd17, i17, t17, F17, b17, _⟩ := T.m17.fn
  obtain ⟨f18, fd18, i18, t18, F18, b18, _⟩ := T.m18.fn
  obtain ⟨f19, fd19, i19, t19, F19, b19, _⟩ := T.m19.fn
  refine mkDef A scMadeF (fun _ _ _ _ _ _ us hl => match us, hl with | [_], _ => rfl) (fun vs H Q E ⟨v, e, _⟩ => by rw [e]; rfl)
    (fun f cdv A out s H vs Q E hr h => ?_)
  obtain ⟨v, rfl, k⟩ := h
  refine' ⟨_, pss_cons ?s0 (pss_cons ?s1 (pss_cons ?s2 (pss_cons ?s3 (pss_cons ?s4 (pss_cons ?s5 (pss_cons ?s6 (pss_one (ps_ret (pv 1))))))))), ?rd⟩
  case s0 =>
    exact ps_set (i := 1) scMadeF.nd rfl (.inl rfl) (pe_lst (pa_cons (pe_mkqF T.m0.oex i0 t0 F0 hr b0 .nil pass0 (by rfl) T.m0.mgC (pa_cons (pv 0) pa_nil)) (pa_cons (pe_mkqF T.m1.oex i1 t1 F1 hr b1 .nil pass0 (by rfl) T.m1.mgC (pa_cons (pv 0) pa_nil)) (pa_cons (pe_mkqF T.m2.oex i2 t2 F2 hr b2 .nil pass0 (by rfl) T.m2.mgC (pa_cons (pv 0) pa_nil)) pa_nil))))
  case s1 =>
    exact ps_set (i := 1) scMadeF.nd rfl (.inl rfl) (pe_op op_cat (pv 1) (pe_lst (pa_cons (pe_mkqF T.m3.oex i3 t3 F3 hr b3 .nil pass0 (by rfl) T.m3.mgC (pa_cons (pv 0) pa_nil)) (pa_cons (pe_mkqF T.m4.oex i4 t4 F4 hr b4 .nil pass0 (by rfl) T.m4.mgC (pa_cons (pv 0) pa_nil)) (pa_cons (pe_mkqF T.m5.oex i5 t5 F5 hr b5 .nil pass0 (by rfl) T.m5.mgC (pa_cons (pv 0) pa_nil)) pa_nil)))))
  case s2 =>
    exact ps_set (i := 1) scMadeF.nd rfl (.inl rfl) (pe_op op_cat (pv 1) (pe_lst (pa_cons (pe_mkqF T.m6.oex i6 t6 F6 hr b6 .nil pass0 (by rfl) T.m6.mgC (pa_cons (pv 0) pa_nil)) (pa_cons (pe_mkqF T.m7.oex i7 t7 F7 hr b7 .nil pass0 (by rfl) T.m7.mgC (pa_cons (pv 0) pa_nil)) (pa_cons (pe_mkqF T.m8.oex i8 t8 F8 hr b8 .nil pass0 (by rfl) T.m8.mgC (pa_cons (pv 0) pa_nil)) pa_nil)))))
  case s3 =>
    exact ps_set (i := 1) scMadeF.nd rfl (.inl rfl) (pe_op op_cat (pv 1) (pe_lst (pa_cons (pe_mkqF T.m9.oex i9 t9 F9 hr b9 .nil pass0 (by rfl) T.m9.mgC (pa_cons (pv 0) pa_nil)) (pa_cons (pe_mkqF T.m10.oex i10 t10 F10 hr b10 .nil pass0 (by rfl) T.m10.mgC (pa_cons (pv 0) pa_nil)) (pa_cons (pe_mkqF T.m11.oex i11 t11 F11 hr b11 .nil pass0 (by rfl) T.m11.mgC (pa_cons (pv 0) pa_nil)) pa_nil)))))
  case s4 =>
    exact ps_set (i := 1) scMadeF.nd rfl (.inl rfl) (pe_op op_cat (pv 1) (pe_lst (pa_cons (pe_mkqF T.m12.oex i12 t12 F12 hr b12 .nil pass0 (by rfl) T.m12.mgC (pa_cons (pv 0) pa_nil)) (pa_cons (pe_mkqF T.m13.oex i13 t13 F13 hr b13 .nil pass0 (by rfl) T.m13.mgC (pa_cons (pv 0) pa_nil)) (pa_cons (pe_mkqF T.m14.oex i14 t14 F14 hr b14 .nil pass0 (by rfl) T.m14.mgC (pa_cons (pv 0) pa_nil)) pa_nil)))))
  case s5 =>
    exact ps_set (i := 1) scMadeF.nd rfl (.inl rfl) (pe_op op_cat (pv 1) (pe_lst (pa_cons (pe_mkqF T.m15.oex i15 t15 F15 hr b15 .nil pass0 (by rfl) T.m15.mgC (pa_cons (pv 0) pa_nil)) (pa_cons (pe_mkqF T.m16.oex i16 t16 F16 hr b16 .nil pass0 (by rfl) T.m16.mgC (pa_cons (pv 0) pa_nil)) (pa_cons (pe_mkqF T.m17.oex i17 t17 F17 hr b17 .nil pass0 (by rfl) T.m17.mgC (pa_cons (pv 0) pa_nil)) pa_nil)))))
  case s6 =>
    exact ps_set (i := 1) scMadeF.nd rfl (.inl rfl) (pe_op op_cat (pv 1) (pe_lst (pa_cons (pe_mkqF T.m18.oex i18 t18 F18 hr b18 .nil pass0 (by rfl) T.m18.mgC (pa_cons (pv 0) pa_nil)) (pa_cons (pe_mkqF T.m19.oex i19 t19 F19 hr b19 .nil pass0 (by rfl) T.m19.mgC (pa_cons (pv 0) pa_nil)) pa_nil))))
  case rd =>
    refine ⟨_, rfl, by show 1 ≤ 1000; decide, fun t0 a0 u0 na0 w0 => ?_⟩
    refine ⟨a0, C 0, t0, v, rfl, T.m0.oex, T.m0.hB, upd_same, T.m0.nF, fun t2 dx n2 h2a nd hda hd2 => ⟨rfl, ?_⟩⟩
    obtain ⟨K0, hK, E0, s0⟩ := err_of (K := K) (C := C) (p := 0) (fl := "found") (tx := "this is no time that will do") (v := v) (ts := [v]) u0 na0 w0 n2 h2a nd hda hd2
    rw [hK]
    clear hK n2 nd
    refine ⟨_, rfl, by show 1 ≤ 1000; decide, fun t0 a1 u0 na1 w0 => ?_⟩
    refine ⟨a1, C 1, t0, v, rfl, T.m1.oex, T.m1.hB, upd_same, T.m1.nF, fun t2 dx n2 h2a nd hda hd2 => ⟨rfl, ?_⟩⟩
    obtain ⟨K1, hK, E1, s1⟩ := err_of (K := K) (C := C) (p := 1) (fl := "found") (tx := "this is no worth") (v := v) (ts := [v]) u0 na1 w0 n2 h2a nd hda hd2
    rw [hK]
    clear hK n2 nd
    refine ⟨_, rfl, by show 1 ≤ 1000; decide, fun t0 a2 u0 na2 w0 => ?_⟩
    refine ⟨a2, C 2, t0, v, rfl, T.m2.oex, T.m2.hB, upd_same, T.m2.nF, fun t2 dx n2 h2a nd hda hd2 => ⟨rfl, ?_⟩⟩
    obtain ⟨K2, hK, E2, s2⟩ := err_of (K := K) (C := C) (p := 2) (fl := "found") (tx := "this is no mark") (v := v) (ts := [v]) u0 na2 w0 n2 h2a nd hda hd2
    rw [hK]
    clear hK n2 nd
    refine ⟨by show 3 ≤ sizeLine; decide, fun L0 n0 => ?_⟩
    generalize q0 : upd K2 L0 (.lst [V.ref a0, V.ref a1, V.ref a2]) = G0
    have S0 : Same K2 G0 := q0 ▸ Same.laid n0
    have e0 : G0 L0 = some (.lst [V.ref a0, V.ref a1, V.ref a2]) := q0 ▸ upd_same
    have eL := e0
    refine ⟨_, rfl, _, rfl, by show 1 ≤ 1000; decide, fun t0 a3 u0 na3 w0 => ?_⟩
    refine ⟨a3, C 3, t0, v, rfl, T.m3.oex, T.m3.hB, upd_same, T.m3.nF, fun t2 dx n2 h2a nd hda hd2 => ⟨rfl, ?_⟩⟩
    obtain ⟨K3, hK, E3, s3⟩ := err_of (K := K) (C := C) (p := 3) (fl := "found") (tx := "this is no number that will do") (v := v) (ts := [v]) u0 na3 w0 n2 h2a nd hda hd2
    rw [hK]
    clear hK n2 nd
    refine ⟨_, rfl, by show 1 ≤ 1000; decide, fun t0 a4 u0 na4 w0 => ?_⟩
    refine ⟨a4, C 4, t0, v, rfl, T.m4.oex, T.m4.hB, upd_same, T.m4.nF, fun t2 dx n2 h2a nd hda hd2 => ⟨rfl, ?_⟩⟩
    obtain ⟨K4, hK, E4, s4⟩ := err_of (K := K) (C := C) (p := 4) (fl := "found") (tx := "this is neither True nor False") (v := v) (ts := [v]) u0 na4 w0 n2 h2a nd hda hd2
    rw [hK]
    clear hK n2 nd
    refine ⟨_, rfl, by show 1 ≤ 1000; decide, fun t0 a5 u0 na5 w0 => ?_⟩
    refine ⟨a5, C 5, t0, v, rfl, T.m5.oex, T.m5.hB, upd_same, T.m5.nF, fun t2 dx n2 h2a nd hda hd2 => ⟨rfl, ?_⟩⟩
    obtain ⟨K5, hK, E5, s5⟩ := err_of (K := K) (C := C) (p := 5) (fl := "found") (tx := "this is no list that will do") (v := v) (ts := [v]) u0 na5 w0 n2 h2a nd hda hd2
    rw [hK]
    clear hK n2 nd
    refine ⟨by show 3 ≤ sizeLine; decide, fun L1 n1 => ?_⟩
    generalize q1 : upd K5 L1 (.lst [V.ref a3, V.ref a4, V.ref a5]) = G1
    have S1 : Same K5 G1 := q1 ▸ Same.laid n1
    have e1 : G1 L1 = some (.lst [V.ref a3, V.ref a4, V.ref a5]) := q1 ▸ upd_same
    refine ⟨L0, L1, [V.ref a0, V.ref a1, V.ref a2], [V.ref a3, V.ref a4, V.ref a5], rfl, rfl, (S1 _ _ (s5 _ _ (s4 _ _ (s3 _ _ eL)))), e1, by show 6 ≤ sizeLine; decide, fun M1 m1 => ?_⟩
    generalize r1 : upd G1 M1 (.lst ([V.ref a0, V.ref a1, V.ref a2] ++ [V.ref a3, V.ref a4, V.ref a5])) = F1
    have R1 : Same G1 F1 := r1 ▸ Same.laid m1
    have f1e : F1 M1 = some (.lst ([V.ref a0, V.ref a1, V.ref a2] ++ [V.ref a3, V.ref a4, V.ref a5])) := r1 ▸ upd_same
    replace eL : F1 M1 = some (.lst [V.ref a0, V.ref a1, V.ref a2, V.ref a3, V.ref a4, V.ref a5]) := f1e
    refine ⟨_, rfl, _, rfl, by show 1 ≤ 1000; decide, fun t0 a6 u0 na6 w0 => ?_⟩
    refine ⟨a6, C 6, t0, v, rfl, T.m6.oex, T.m6.hB, upd_same, T.m6.nF, fun t2 dx n2 h2a nd hda hd2 => ⟨rfl, ?_⟩⟩
    obtain ⟨K6, hK, E6, s6⟩ := err_of (K := K) (C := C) (p := 6) (fl := "found") (tx := "this is no list of points") (v := v) (ts := [v]) u0 na6 w0 n2 h2a nd hda hd2
    rw [hK]
    clear hK n2 nd
    refine ⟨_, rfl, by show 1 ≤ 1000; decide, fun t0 a7 u0 na7 w0 => ?_⟩
    refine ⟨a7, C 7, t0, v, rfl, T.m7.oex, T.m7.hB, upd_same, T.m7.nF, fun t2 dx n2 h2a nd hda hd2 => ⟨rfl, ?_⟩⟩
    obtain ⟨K7, hK, E7, s7⟩ := err_of (K := K) (C := C) (p := 7) (fl := "found") (tx := "this is no list of rules") (v := v) (ts := [v]) u0 na7 w0 n2 h2a nd hda hd2
    rw [hK]
    clear hK n2 nd
    refine ⟨_, rfl, by show 1 ≤ 1000; decide, fun t0 a8 u0 na8 w0 => ?_⟩
    refine ⟨a8, C 8, t0, v, rfl, T.m8.oex, T.m8.hB, upd_same, T.m8.nF, fun t2 dx n2 h2a nd hda hd2 => ⟨rfl, ?_⟩⟩
    obtain ⟨K8, hK, E8, s8⟩ := err_of (K := K) (C := C) (p := 8) (fl := "found") (tx := "this is no list of causes") (v := v) (ts := [v]) u0 na8 w0 n2 h2a nd hda hd2
    rw [hK]
    clear hK n2 nd
    refine ⟨by show 3 ≤ sizeLine; decide, fun L2 n2 => ?_⟩
    generalize q2 : upd K8 L2 (.lst [V.ref a6, V.ref a7, V.ref a8]) = G2
    have S2 : Same K8 G2 := q2 ▸ Same.laid n2
    have e2 : G2 L2 = some (.lst [V.ref a6, V.ref a7, V.ref a8]) := q2 ▸ upd_same
    refine ⟨M1, L2, [V.ref a0, V.ref a1, V.ref a2, V.ref a3, V.ref a4, V.ref a5], [V.ref a6, V.ref a7, V.ref a8], rfl, rfl, (S2 _ _ (s8 _ _ (s7 _ _ (s6 _ _ eL)))), e2, by show 9 ≤ sizeLine; decide, fun M2 m2 => ?_⟩
    generalize r2 : upd G2 M2 (.lst ([V.ref a0, V.ref a1, V.ref a2, V.ref a3, V.ref a4, V.ref a5] ++ [V.ref a6, V.ref a7, V.ref a8])) = F2
    have R2 : Same G2 F2 := r2 ▸ Same.laid m2
    have f2e : F2 M2 = some (.lst ([V.ref a0, V.ref a1, V.ref a2, V.ref a3, V.ref a4, V.ref a5] ++ [V.ref a6, V.ref a7, V.ref a8])) := r2 ▸ upd_same
    replace eL : F2 M2 = some (.lst [V.ref a0, V.ref a1, V.ref a2, V.ref a3, V.ref a4, V.ref a5, V.ref a6, V.ref a7, V.ref a8]) := f2e
    refine ⟨_, rfl, _, rfl, by show 1 ≤ 1000; decide, fun t0 a9 u0 na9 w0 => ?_⟩
    refine ⟨a9, C 9, t0, v, rfl, T.m9.oex, T.m9.hB, upd_same, T.m9.nF, fun t2 dx n2 h2a nd hda hd2 => ⟨rfl, ?_⟩⟩
    obtain ⟨K9, hK, E9, s9⟩ := err_of (K := K) (C := C) (p := 9) (fl := "found") (tx := "this is no list of commands") (v := v) (ts := [v]) u0 na9 w0 n2 h2a nd hda hd2
    rw [hK]
    clear hK n2 nd
    refine ⟨_, rfl, by show 1 ≤ 1000; decide, fun t0 a10 u0 na10 w0 => ?_⟩
    refine ⟨a10, C 10, t0, v, rfl, T.m10.oex, T.m10.hB, upd_same, T.m10.nF, fun t2 dx n2 h2a nd hda hd2 => ⟨rfl, ?_⟩⟩
    obtain ⟨K10, hK, E10, s10⟩ := err_of (K := K) (C := C) (p := 10) (fl := "found") (tx := "this is no list of relations") (v := v) (ts := [v]) u0 na10 w0 n2 h2a nd hda hd2
    rw [hK]
    clear hK n2 nd
    refine ⟨_, rfl, by show 1 ≤ 1000; decide, fun t0 a11 u0 na11 w0 => ?_⟩
    refine ⟨a11, C 11, t0, v, rfl, T.m11.oex, T.m11.hB, upd_same, T.m11.nF, fun t2 dx n2 h2a nd hda hd2 => ⟨rfl, ?_⟩⟩
    obtain ⟨K11, hK, E11, s11⟩ := err_of (K := K) (C := C) (p := 11) (fl := "found") (tx := "these are no works") (v := v) (ts := [v]) u0 na11 w0 n2 h2a nd hda hd2
    rw [hK]
    clear hK n2 nd
    refine ⟨by show 3 ≤ sizeLine; decide, fun L3 n3 => ?_⟩
    generalize q3 : upd K11 L3 (.lst [V.ref a9, V.ref a10, V.ref a11]) = G3
    have S3 : Same K11 G3 := q3 ▸ Same.laid n3
    have e3 : G3 L3 = some (.lst [V.ref a9, V.ref a10, V.ref a11]) := q3 ▸ upd_same
    refine ⟨M2, L3, [V.ref a0, V.ref a1, V.ref a2, V.ref a3, V.ref a4, V.ref a5, V.ref a6, V.ref a7, V.ref a8], [V.ref a9, V.ref a10, V.ref a11], rfl, rfl, (S3 _ _ (s11 _ _ (s10 _ _ (s9 _ _ eL)))), e3, by show 12 ≤ sizeLine; decide, fun M3 m3 => ?_⟩
    generalize r3 : upd G3 M3 (.lst ([V.ref a0, V.ref a1, V.ref a2, V.ref a3, V.ref a4, V.ref a5, V.ref a6, V.ref a7, V.ref a8] ++ [V.ref a9, V.ref a10, V.ref a11])) = F3
    have R3 : Same G3 F3 := r3 ▸ Same.laid m3
    have f3e : F3 M3 = some (.lst ([V.ref a0, V.ref a1, V.ref a2, V.ref a3, V.ref a4, V.ref a5, V.ref a6, V.ref a7, V.ref a8] ++ [V.ref a9, V.ref a10, V.ref a11])) := r3 ▸ upd_same
    replace eL : F3 M3 = some (.lst [V.ref a0, V.ref a1, V.ref a2, V.ref a3, V.ref a4, V.ref a5, V.ref a6, V.ref a7, V.ref a8, V.ref a9, V.ref a10, V.ref a11]) := f3e
    refine ⟨_, rfl, _, rfl, by show 1 ≤ 1000; decide, fun t0 a12 u0 na12 w0 => ?_⟩
    refine ⟨a12, C 12, t0, v, rfl, T.m12.oex, T.m12.hB, upd_same, T.m12.nF, fun t2 dx n2 h2a nd hda hd2 => ⟨rfl, ?_⟩⟩
    obtain ⟨K12, hK, E12, s12⟩ := err_of (K := K) (C := C) (p := 12) (fl := "found") (tx := "this is no letter that will do") (v := v) (ts := [v]) u0 na12 w0 n2 h2a nd hda hd2
    rw [hK]
    clear hK n2 nd
    refine ⟨_, rfl, by show 1 ≤ 1000; decide, fun t0 a13 u0 na13 w0 => ?_⟩
    refine ⟨a13, C 13, t0, v, rfl, T.m13.oex, T.m13.hB, upd_same, T.m13.nF, fun t2 dx n2 h2a nd hda hd2 => ⟨rfl, ?_⟩⟩
    obtain ⟨K13, hK, E13, s13⟩ := err_of (K := K) (C := C) (p := 13) (fl := "found") (tx := "this is no room") (v := v) (ts := [v]) u0 na13 w0 n2 h2a nd hda hd2
    rw [hK]
    clear hK n2 nd
    refine ⟨_, rfl, by show 1 ≤ 1000; decide, fun t0 a14 u0 na14 w0 => ?_⟩
    refine ⟨a14, C 14, t0, v, rfl, T.m14.oex, T.m14.hB, upd_same, T.m14.nF, fun t2 dx n2 h2a nd hda hd2 => ⟨rfl, ?_⟩⟩
    obtain ⟨K14, hK, E14, s14⟩ := err_of (K := K) (C := C) (p := 14) (fl := "found") (tx := "this is no term") (v := v) (ts := [v]) u0 na14 w0 n2 h2a nd hda hd2
    rw [hK]
    clear hK n2 nd
    refine ⟨by show 3 ≤ sizeLine; decide, fun L4 n4 => ?_⟩
    generalize q4 : upd K14 L4 (.lst [V.ref a12, V.ref a13, V.ref a14]) = G4
    have S4 : Same K14 G4 := q4 ▸ Same.laid n4
    have e4 : G4 L4 = some (.lst [V.ref a12, V.ref a13, V.ref a14]) := q4 ▸ upd_same
    refine ⟨M3, L4, [V.ref a0, V.ref a1, V.ref a2, V.ref a3, V.ref a4, V.ref a5, V.ref a6, V.ref a7, V.ref a8, V.ref a9, V.ref a10, V.ref a11], [V.ref a12, V.ref a13, V.ref a14], rfl, rfl, (S4 _ _ (s14 _ _ (s13 _ _ (s12 _ _ eL)))), e4, by show 15 ≤ sizeLine; decide, fun M4 m4 => ?_⟩
    generalize r4 : upd G4 M4 (.lst ([V.ref a0, V.ref a1, V.ref a2, V.ref a3, V.ref a4, V.ref a5, V.ref a6, V.ref a7, V.ref a8, V.ref a9, V.ref a10, V.ref a11] ++ [V.ref a12, V.ref a13, V.ref a14])) = F4
    have R4 : Same G4 F4 := r4 ▸ Same.laid m4
    have f4e : F4 M4 = some (.lst ([V.ref a0, V.ref a1, V.ref a2, V.ref a3, V.ref a4, V.ref a5, V.ref a6, V.ref a7, V.ref a8, V.ref a9, V.ref a10, V.ref a11] ++ [V.ref a12, V.ref a13, V.ref a14])) := r4 ▸ upd_same
    replace eL : F4 M4 = some (.lst [V.ref a0, V.ref a1, V.ref a2, V.ref a3, V.ref a4, V.ref a5, V.ref a6, V.ref a7, V.ref a8, V.ref a9, V.ref a10, V.ref a11, V.ref a12, V.ref a13, V.ref a14]) := f4e
    refine ⟨_, rfl, _, rfl, by show 1 ≤ 1000; decide, fun t0 a15 u0 na15 w0 => ?_⟩
    refine ⟨a15, C 15, t0, v, rfl, T.m15.oex, T.m15.hB, upd_same, T.m15.nF, fun t2 dx n2 h2a nd hda hd2 => ⟨rfl, ?_⟩⟩
    obtain ⟨K15, hK, E15, s15⟩ := err_of (K := K) (C := C) (p := 15) (fl := "found") (tx := "this is no id") (v := v) (ts := [v]) u0 na15 w0 n2 h2a nd hda hd2
    rw [hK]
    clear hK n2 nd
    refine ⟨_, rfl, by show 1 ≤ 1000; decide, fun t0 a16 u0 na16 w0 => ?_⟩
    refine ⟨a16, C 16, t0, v, rfl, T.m16.oex, T.m16.hB, upd_same, T.m16.nF, fun t2 dx n2 h2a nd hda hd2 => ⟨rfl, ?_⟩⟩
    obtain ⟨K16, hK, E16, s16⟩ := err_of (K := K) (C := C) (p := 16) (fl := "found") (tx := "this is no hearing") (v := v) (ts := [v]) u0 na16 w0 n2 h2a nd hda hd2
    rw [hK]
    clear hK n2 nd
    refine ⟨_, rfl, by show 1 ≤ 1000; decide, fun t0 a17 u0 na17 w0 => ?_⟩
    refine ⟨a17, C 17, t0, v, rfl, T.m17.oex, T.m17.hB, upd_same, T.m17.nF, fun t2 dx n2 h2a nd hda hd2 => ⟨rfl, ?_⟩⟩
    obtain ⟨K17, hK, E17, s17⟩ := err_of (K := K) (C := C) (p := 17) (fl := "found") (tx := "this is no history") (v := v) (ts := [v]) u0 na17 w0 n2 h2a nd hda hd2
    rw [hK]
    clear hK n2 nd
    refine ⟨by show 3 ≤ sizeLine; decide, fun L5 n5 => ?_⟩
    generalize q5 : upd K17 L5 (.lst [V.ref a15, V.ref a16, V.ref a17]) = G5
    have S5 : Same K17 G5 := q5 ▸ Same.laid n5
    have e5 : G5 L5 = some (.lst [V.ref a15, V.ref a16, V.ref a17]) := q5 ▸ upd_same
    refine ⟨M4, L5, [V.ref a0, V.ref a1, V.ref a2, V.ref a3, V.ref a4, V.ref a5, V.ref a6, V.ref a7, V.ref a8, V.ref a9, V.ref a10, V.ref a11, V.ref a12, V.ref a13, V.ref a14], [V.ref a15, V.ref a16, V.ref a17], rfl, rfl, (S5 _ _ (s17 _ _ (s16 _ _ (s15 _ _ eL)))), e5, by show 18 ≤ sizeLine; decide, fun M5 m5 => ?_⟩
    generalize r5 : upd G5 M5 (.lst ([V.ref a0, V.ref a1, V.ref a2, V.ref a3, V.ref a4, V.ref a5, V.ref a6, V.ref a7, V.ref a8, V.ref a9, V.ref a10, V.ref a11, V.ref a12, V.ref a13, V.ref a14] ++ [V.ref a15, V.ref a16, V.ref a17])) = F5
    have R5 : Same G5 F5 := r5 ▸ Same.laid m5
    have f5e : F5 M5 = some (.lst ([V.ref a0, V.ref a1, V.ref a2, V.ref a3, V.ref a4, V.ref a5, V.ref a6, V.ref a7, V.ref a8, V.ref a9, V.ref a10, V.ref a11, V.ref a12, V.ref a13, V.ref a14] ++ [V.ref a15, V.ref a16, V.ref a17])) := r5 ▸ upd_same
    replace eL : F5 M5 = some (.lst [V.ref a0, V.ref a1, V.ref a2, V.ref a3, V.ref a4, V.ref a5, V.ref a6, V.ref a7, V.ref a8, V.ref a9, V.ref a10, V.ref a11, V.ref a12, V.ref a13, V.ref a14, V.ref a15, V.ref a16, V.ref a17]) := f5e
    refine ⟨_, rfl, _, rfl, by show 1 ≤ 1000; decide, fun t0 a18 u0 na18 w0 => ?_⟩
    refine ⟨a18, C 18, t0, v, rfl, T.m18.oex, T.m18.hB, upd_same, T.m18.nF, fun t2 dx n2 h2a nd hda hd2 => ⟨rfl, ?_⟩⟩
    obtain ⟨K18, hK, E18, s18⟩ := err_of (K := K) (C := C) (p := 18) (fl := "found") (tx := "these are no events") (v := v) (ts := [v]) u0 na18 w0 n2 h2a nd hda hd2
    rw [hK]
    clear hK n2 nd
    refine ⟨_, rfl, by show 1 ≤ 1000; decide, fun t0 a19 u0 na19 w0 => ?_⟩
    refine ⟨a19, C 19, t0, v, rfl, T.m19.oex, T.m19.hB, upd_same, T.m19.nF, fun t2 dx n2 h2a nd hda hd2 => ⟨rfl, ?_⟩⟩
    obtain ⟨K19, hK, E19, s19⟩ := err_of (K := K) (C := C) (p := 19) (fl := "found") (tx := "this is no picture") (v := v) (ts := [v]) u0 na19 w0 n2 h2a nd hda hd2
    rw [hK]
    clear hK n2 nd
    refine ⟨by show 2 ≤ sizeLine; decide, fun L6 n6 => ?_⟩
    generalize q6 : upd K19 L6 (.lst [V.ref a18, V.ref a19]) = G6
    have S6 : Same K19 G6 := q6 ▸ Same.laid n6
    have e6 : G6 L6 = some (.lst [V.ref a18, V.ref a19]) := q6 ▸ upd_same
    refine ⟨M5, L6, [V.ref a0, V.ref a1, V.ref a2, V.ref a3, V.ref a4, V.ref a5, V.ref a6, V.ref a7, V.ref a8, V.ref a9, V.ref a10, V.ref a11, V.ref a12, V.ref a13, V.ref a14, V.ref a15, V.ref a16, V.ref a17], [V.ref a18, V.ref a19], rfl, rfl, (S6 _ _ (s19 _ _ (s18 _ _ eL))), e6, by show 20 ≤ sizeLine; decide, fun M6 m6 => ?_⟩
    generalize r6 : upd G6 M6 (.lst ([V.ref a0, V.ref a1, V.ref a2, V.ref a3, V.ref a4, V.ref a5, V.ref a6, V.ref a7, V.ref a8, V.ref a9, V.ref a10, V.ref a11, V.ref a12, V.ref a13, V.ref a14, V.ref a15, V.ref a16, V.ref a17] ++ [V.ref a18, V.ref a19])) = F6
    have R6 : Same G6 F6 := r6 ▸ Same.laid m6
    have f6e : F6 M6 = some (.lst ([V.ref a0, V.ref a1, V.ref a2, V.ref a3, V.ref a4, V.ref a5, V.ref a6, V.ref a7, V.ref a8, V.ref a9, V.ref a10, V.ref a11, V.ref a12, V.ref a13, V.ref a14, V.ref a15, V.ref a16, V.ref a17] ++ [V.ref a18, V.ref a19])) := r6 ▸ upd_same
    replace eL : F6 M6 = some (.lst [V.ref a0, V.ref a1, V.ref a2, V.ref a3, V.ref a4, V.ref a5, V.ref a6, V.ref a7, V.ref a8, V.ref a9, V.ref a10, V.ref a11, V.ref a12, V.ref a13, V.ref a14, V.ref a15, V.ref a16, V.ref a17, V.ref a18, V.ref a19]) := f6e
    have T_F6 : Same F6 F6 := Same.refl _
    have T_G6 : Same G6 F6 := R6.trans T_F6
    have T_K19 : Same K19 F6 := S6.trans T_G6
    have T_K18 : Same K18 F6 := s19.trans T_K19
    have T_F5 : Same F5 F6 := s18.trans T_K18
    have T_G5 : Same G5 F6 := R5.trans T_F5
    have T_K17 : Same K17 F6 := S5.trans T_G5
    have T_K16 : Same K16 F6 := s17.trans T_K17
    have T_K15 : Same K15 F6 := s16.trans T_K16
    have T_F4 : Same F4 F6 := s15.trans T_K15
    have T_G4 : Same G4 F6 := R4.trans T_F4
    have T_K14 : Same K14 F6 := S4.trans T_G4
    have T_K13 : Same K13 F6 := s14.trans T_K14
    have T_K12 : Same K12 F6 := s13.trans T_K13
    have T_F3 : Same F3 F6 := s12.trans T_K12
    have T_G3 : Same G3 F6 := R3.trans T_F3
    have T_K11 : Same K11 F6 := S3.trans T_G3
    have T_K10 : Same K10 F6 := s11.trans T_K11
    have T_K9 : Same K9 F6 := s10.trans T_K10
    have T_F2 : Same F2 F6 := s9.trans T_K9
    have T_G2 : Same G2 F6 := R2.trans T_F2
    have T_K8 : Same K8 F6 := S2.trans T_G2
    have T_K7 : Same K7 F6 := s8.trans T_K8
    have T_K6 : Same K6 F6 := s7.trans T_K7
    have T_F1 : Same F1 F6 := s6.trans T_K6
    have T_G1 : Same G1 F6 := R1.trans T_F1
    have T_K5 : Same K5 F6 := S1.trans T_G1
    have T_K4 : Same K4 F6 := s5.trans T_K5
    have T_K3 : Same K3 F6 := s4.trans T_K4
    have T_G0 : Same G0 F6 := s3.trans T_K3
    have T_K2 : Same K2 F6 := S0.trans T_G0
    have T_K1 : Same K1 F6 := s2.trans T_K2
    have T_K0 : Same K0 F6 := s1.trans T_K1
    have TH : Same H F6 := s0.trans T_K0
    have U_K0 : Same H K0 := s0
    have U_K1 : Same H K1 := U_K0.trans s1
    have U_K2 : Same H K2 := U_K1.trans s2
    have U_G0 : Same H G0 := U_K2.trans S0
    have U_K3 : Same H K3 := U_G0.trans s3
    have U_K4 : Same H K4 := U_K3.trans s4
    have U_K5 : Same H K5 := U_K4.trans s5
    have U_G1 : Same H G1 := U_K5.trans S1
    have U_F1 : Same H F1 := U_G1.trans R1
    have U_K6 : Same H K6 := U_F1.trans s6
    have U_K7 : Same H K7 := U_K6.trans s7
    have U_K8 : Same H K8 := U_K7.trans s8
    have U_G2 : Same H G2 := U_K8.trans S2
    have U_F2 : Same H F2 := U_G2.trans R2
    have U_K9 : Same H K9 := U_F2.trans s9
    have U_K10 : Same H K10 := U_K9.trans s10
    have U_K11 : Same H K11 := U_K10.trans s11
    have U_G3 : Same H G3 := U_K11.trans S3
    have U_F3 : Same H F3 := U_G3.trans R3
    have U_K12 : Same H K12 := U_F3.trans s12
    have U_K13 : Same H K13 := U_K12.trans s13
    have U_K14 : Same H K14 := U_K13.trans s14
    have U_G4 : Same H G4 := U_K14.trans S4
    have U_F4 : Same H F4 := U_G4.trans R4
    have U_K15 : Same H K15 := U_F4.trans s15
    have U_K16 : Same H K16 := U_K15.trans s16
    have U_K17 : Same H K17 := U_K16.trans s17
    have U_G5 : Same H G5 := U_K17.trans S5
    have U_F5 : Same H F5 := U_G5.trans R5
    have U_K18 : Same H K18 := U_F5.trans s18
    have U_K19 : Same H K19 := U_K18.trans s19
    have U_G6 : Same H G6 := U_K19.trans S6
    have U_F6 : Same H F6 := U_G6.trans R6
    refine ⟨_, rfl, k M6 _ F6 TH (none_back U_G6 m6) eL rfl fun i hi => ?_⟩
    match i, hi with
    | 0, _ => exact ⟨a0, rfl, na0, E0.keep T_K0⟩
    | 1, _ => exact ⟨a1, rfl, none_back U_K0 na1, E1.keep T_K1⟩
    | 2, _ => exact ⟨a2, rfl, none_back U_K1 na2, E2.keep T_K2⟩
    | 3, _ => exact ⟨a3, rfl, none_back U_G0 na3, E3.keep T_K3⟩
    | 4, _ => exact ⟨a4, rfl, none_back U_K3 na4, E4.keep T_K4⟩
    | 5, _ => exact ⟨a5, rfl, none_back U_K4 na5, E5.keep T_K5⟩
    | 6, _ => exact ⟨a6, rfl, none_back U_F1 na6, E6.keep T_K6⟩
    | 7, _ => exact ⟨a7, rfl, none_back U_K6 na7, E7.keep T_K7⟩
    | 8, _ => exact ⟨a8, rfl, none_back U_K7 na8, E8.keep T_K8⟩
    | 9, _ => exact ⟨a9, rfl, none_back U_F2 na9, E9.keep T_K9⟩
    | 10, _ => exact ⟨a10, rfl, none_back U_K9 na10, E10.keep T_K10⟩
    | 11, _ => exact ⟨a11, rfl, none_back U_K10 na11, E11.keep T_K11⟩
    | 12, _ => exact ⟨a12, rfl, none_back U_F3 na12, E12.keep T_K12⟩
    | 13, _ => exact ⟨a13, rfl, none_back U_K12 na13, E13.keep T_K13⟩
    | 14, _ => exact ⟨a14, rfl, none_back U_K13 na14, E14.keep T_K14⟩
    | 15, _ => exact ⟨a15, rfl, none_back U_F4 na15, E15.keep T_K15⟩
    | 16, _ => exact ⟨a16, rfl, none_back U_K15 na16, E16.keep T_K16⟩
    | 17, _ => exact ⟨a17, rfl, none_back U_K16 na17, E17.keep T_K17⟩
    | 18, _ => exact ⟨a18, rfl, none_back U_F5 na18, E18.keep T_K18⟩
    | 19, _ => exact ⟨a19, rfl, none_back U_K18 na19, E19.keep T_K19⟩
    | n + 20, hn => exact absurd hn (by omega)
theorem scMadeL : FnScope ["_law_one", "_law_gained"] ["_law_one"] (defScope sMadeL) := ⟨rfl, rfl, rfl, by decide +kernel, rfl, by decide +kernel, by decide +kernel⟩
theorem d_madeL (T : Tab P w K mg base C) (A : At K mg "_law_made_last" sMadeL) :
    Def P w K mg base "_law_made_last" 4 ["_law_one"] (spMade K C 20) := by
  obtain ⟨f0, fd0, i0, t0, F0, b0, _⟩ := T.m20.fn
  obtain ⟨f1, fd1, i1, t1, F1, b1, _⟩ := T.m21.fn
  obtain ⟨f2, fd2, i2, t2, F2, b2, _⟩ := T.m22.fn
  obtain ⟨f3, fd3, i3, t3, F3, b3, _⟩ := T.m23.fn
  obtain ⟨f4, fd4, i4, t4, F4, b4, _⟩ := T.m24.fn
  obtain ⟨f5, fd5, i5, t5, F5, b5, _⟩ := T.m25.fn
  obtain ⟨f6, fd6, i6, t6, F6, b6, _⟩ := T.m26.fn
  obtain ⟨f7, fd7, i7, t7, F7, b7, _⟩ := T.m27.fn
  obtain ⟨f8, fd8, i8, t8, F8, b8, _⟩ := T.m28.fn
  obtain ⟨f9, fd9, i9, t9, F9, b9, _⟩ := T.m29.fn
  obtain ⟨f10, fd10, i10, t10, F10, b10, _⟩ := T.m30.fn
  obtain ⟨f11, fd11, i11, t11, F11, b11, _⟩ := T.m31.fn
  obtain ⟨f12, fd12, i12, t12, F12, b12, _⟩ := T.m32.fn
  obtain ⟨f13, fd13, i13, t13, F13, b13, _⟩ := T.m33.fn
  obtain ⟨f14, fd14, i14, t14, F14, b14, _⟩ := T.m34.fn
  obtain ⟨f15, fd15, i15, t15, F15, b15, _⟩ := T.m35.fn
  obtain ⟨f16, fd16, i16, t16, F16, b16, _⟩ := T.m36.fn
  obtain ⟨f17, fd17, i17, t17, F17, b17, _⟩ := T.m37.fn
  obtain ⟨f18, fd18, i18, t18, F18, b18, _⟩ := T.m38.fn
  obtain ⟨f19, fd19, i19, t19, F19, b19, _⟩ := T.m39.fn
  refine mkDef A scMadeL (fun _ _ _ _ _ _ us hl => match us, hl with | [_], _ => rfl) (fun vs H Q E ⟨v, e, _⟩ => by rw [e]; rfl)
    (fun f cdv A out s H vs Q E hr h => ?_)
  obtain ⟨v, rfl, k⟩ := h
  refine' ⟨_, pss_cons ?s0 (pss_cons ?s1 (pss_cons ?s2 (pss_cons ?s3 (pss_cons ?s4 (pss_cons ?s5 (pss_cons ?s6 (pss_one (ps_ret (pv 1))))))))), ?rd⟩
  case s0 =>
    exact ps_set (i := 1) scMadeL.nd rfl (.inl rfl) (pe_lst (pa_cons (pe_mkqF T.m20.oex i0 t0 F0 hr b0 .nil pass0 (by rfl) T.m20.mgC (pa_cons (pv 0) pa_nil)) (pa_cons (pe_mkqF T.m21.oex i1 t1 F1 hr b1 .nil pass0 (by rfl) T.m21.mgC (pa_cons (pv 0) pa_nil)) (pa_cons (pe_mkqF T.m22.oex i2 t2 F2 hr b2 .nil pass0 (by rfl) T.m22.mgC (pa_cons (pv 0) pa_nil)) pa_nil))))
  case s1 =>
    exact ps_set (i := 1) scMadeL.nd rfl (.inl rfl) (pe_op op_cat (pv 1) (pe_lst (pa_cons (pe_mkqF T.m23.oex i3 t3 F3 hr b3 .nil pass0 (by rfl) T.m23.mgC (pa_cons (pv 0) pa_nil)) (pa_cons (pe_mkqF T.m24.oex i4 t4 F4 hr b4 .nil pass0 (by rfl) T.m24.mgC (pa_cons (pv 0) pa_nil)) (pa_cons (pe_mkqF T.m25.oex i5 t5 F5 hr b5 .nil pass0 (by rfl) T.m25.mgC (pa_cons (pv 0) pa_nil)) pa_nil)))))
  case s2 =>
    exact ps_set (i := 1) scMadeL.nd rfl (.inl rfl) (pe_op op_cat (pv 1) (pe_lst (pa_cons (pe_mkqF T.m26.oex i6 t6 F6 hr b6 .nil pass0 (by rfl) T.m26.mgC (pa_cons (pv 0) pa_nil)) (pa_cons (pe_mkqF T.m27.oex i7 t7 F7 hr b7 .nil pass0 (by rfl) T.m27.mgC (pa_cons (pv 0) pa_nil)) (pa_cons (pe_mkqF T.m28.oex i8 t8 F8 hr b8 .nil pass0 (by rfl) T.m28.mgC (pa_cons (pv 0) pa_nil)) pa_nil)))))
  case s3 =>
    exact ps_set (i := 1) scMadeL.nd rfl (.inl rfl) (pe_op op_cat (pv 1) (pe_lst (pa_cons (pe_mkqF T.m29.oex i9 t9 F9 hr b9 .nil pass0 (by rfl) T.m29.mgC (pa_cons (pv 0) pa_nil)) (pa_cons (pe_mkqF T.m30.oex i10 t10 F10 hr b10 .nil pass0 (by rfl) T.m30.mgC (pa_cons (pv 0) pa_nil)) (pa_cons (pe_mkqF T.m31.oex i11 t11 F11 hr b11 .nil pass0 (by rfl) T.m31.mgC (pa_cons (pv 0) pa_nil)) pa_nil)))))
  case s4 =>
    exact ps_set (i := 1) scMadeL.nd rfl (.inl rfl) (pe_op op_cat (pv 1) (pe_lst (pa_cons (pe_mkqF T.m32.oex i12 t12 F12 hr b12 .nil pass0 (by rfl) T.m32.mgC (pa_cons (pv 0) pa_nil)) (pa_cons (pe_mkqF T.m33.oex i13 t13 F13 hr b13 .nil pass0 (by rfl) T.m33.mgC (pa_cons (pv 0) pa_nil)) (pa_cons (pe_mkqF T.m34.oex i14 t14 F14 hr b14 .nil pass0 (by rfl) T.m34.mgC (pa_cons (pv 0) pa_nil)) pa_nil)))))
  case s5 =>
    exact ps_set (i := 1) scMadeL.nd rfl (.inl rfl) (pe_op op_cat (pv 1) (pe_lst (pa_cons (pe_mkqF T.m35.oex i15 t15 F15 hr b15 .nil pass0 (by rfl) T.m35.mgC (pa_cons (pv 0) pa_nil)) (pa_cons (pe_mkqF T.m36.oex i16 t16 F16 hr b16 .nil pass0 (by rfl) T.m36.mgC (pa_cons (pv 0) pa_nil)) (pa_cons (pe_mkqF T.m37.oex i17 t17 F17 hr b17 .nil pass0 (by rfl) T.m37.mgC (pa_cons (pv 0) pa_nil)) pa_nil)))))
  case s6 =>
    exact ps_set (i := 1) scMadeL.nd rfl (.inl rfl) (pe_op op_cat (pv 1) (pe_lst (pa_cons (pe_mkqF T.m38.oex i18 t18 F18 hr b18 .nil pass0 (by rfl) T.m38.mgC (pa_cons (pv 0) pa_nil)) (pa_cons (pe_mkqF T.m39.oex i19 t19 F19 hr b19 .nil pass0 (by rfl) T.m39.mgC (pa_cons (pv 0) pa_nil)) pa_nil))))
  case rd =>
    refine ⟨_, rfl, by show 1 ≤ 1000; decide, fun t0 a0 u0 na0 w0 => ?_⟩
    refine ⟨a0, C 20, t0, v, rfl, T.m20.oex, T.m20.hB, upd_same, T.m20.nF, fun t2 dx n2 h2a nd hda hd2 => ⟨rfl, ?_⟩⟩
    obtain ⟨K0, hK, E0, s0⟩ := err_of (K := K) (C := C) (p := 20) (fl := "found") (tx := "this is no plant") (v := v) (ts := [v]) u0 na0 w0 n2 h2a nd hda hd2
    rw [hK]
    clear hK n2 nd
    refine ⟨_, rfl, by show 1 ≤ 1000; decide, fun t0 a1 u0 na1 w0 => ?_⟩
    refine ⟨a1, C 21, t0, v, rfl, T.m21.oex, T.m21.hB, upd_same, T.m21.nF, fun t2 dx n2 h2a nd hda hd2 => ⟨rfl, ?_⟩⟩
    obtain ⟨K1, hK, E1, s1⟩ := err_of (K := K) (C := C) (p := 21) (fl := "found") (tx := "this is no log") (v := v) (ts := [v]) u0 na1 w0 n2 h2a nd hda hd2
    rw [hK]
    clear hK n2 nd
    refine ⟨_, rfl, by show 1 ≤ 1000; decide, fun t0 a2 u0 na2 w0 => ?_⟩
    refine ⟨a2, C 22, t0, v, rfl, T.m22.oex, T.m22.hB, upd_same, T.m22.nF, fun t2 dx n2 h2a nd hda hd2 => ⟨rfl, ?_⟩⟩
    obtain ⟨K2, hK, E2, s2⟩ := err_of (K := K) (C := C) (p := 22) (fl := "found") (tx := "this is no deed") (v := v) (ts := [v]) u0 na2 w0 n2 h2a nd hda hd2
    rw [hK]
    clear hK n2 nd
    refine ⟨by show 3 ≤ sizeLine; decide, fun L0 n0 => ?_⟩
    generalize q0 : upd K2 L0 (.lst [V.ref a0, V.ref a1, V.ref a2]) = G0
    have S0 : Same K2 G0 := q0 ▸ Same.laid n0
    have e0 : G0 L0 = some (.lst [V.ref a0, V.ref a1, V.ref a2]) := q0 ▸ upd_same
    have eL := e0
    refine ⟨_, rfl, _, rfl, by show 1 ≤ 1000; decide, fun t0 a3 u0 na3 w0 => ?_⟩
    refine ⟨a3, C 23, t0, v, rfl, T.m23.oex, T.m23.hB, upd_same, T.m23.nF, fun t2 dx n2 h2a nd hda hd2 => ⟨rfl, ?_⟩⟩
    obtain ⟨K3, hK, E3, s3⟩ := err_of (K := K) (C := C) (p := 23) (fl := "found") (tx := "this text writes nothing") (v := v) (ts := [v]) u0 na3 w0 n2 h2a nd hda hd2
    rw [hK]
    clear hK n2 nd
    refine ⟨_, rfl, by show 1 ≤ 1000; decide, fun t0 a4 u0 na4 w0 => ?_⟩
    refine ⟨a4, C 24, t0, v, rfl, T.m24.oex, T.m24.hB, upd_same, T.m24.nF, fun t2 dx n2 h2a nd hda hd2 => ⟨rfl, ?_⟩⟩
    obtain ⟨K4, hK, E4, s4⟩ := err_of (K := K) (C := C) (p := 24) (fl := "found") (tx := "this is no line") (v := v) (ts := [v]) u0 na4 w0 n2 h2a nd hda hd2
    rw [hK]
    clear hK n2 nd
    refine ⟨_, rfl, by show 1 ≤ 1000; decide, fun t0 a5 u0 na5 w0 => ?_⟩
    refine ⟨a5, C 25, t0, v, rfl, T.m25.oex, T.m25.hB, upd_same, T.m25.nF, fun t2 dx n2 h2a nd hda hd2 => ⟨rfl, ?_⟩⟩
    obtain ⟨K5, hK, E5, s5⟩ := err_of (K := K) (C := C) (p := 25) (fl := "found") (tx := "this is unlike another one") (v := v) (ts := [v]) u0 na5 w0 n2 h2a nd hda hd2
    rw [hK]
    clear hK n2 nd
    refine ⟨by show 3 ≤ sizeLine; decide, fun L1 n1 => ?_⟩
    generalize q1 : upd K5 L1 (.lst [V.ref a3, V.ref a4, V.ref a5]) = G1
    have S1 : Same K5 G1 := q1 ▸ Same.laid n1
    have e1 : G1 L1 = some (.lst [V.ref a3, V.ref a4, V.ref a5]) := q1 ▸ upd_same
    refine ⟨L0, L1, [V.ref a0, V.ref a1, V.ref a2], [V.ref a3, V.ref a4, V.ref a5], rfl, rfl, (S1 _ _ (s5 _ _ (s4 _ _ (s3 _ _ eL)))), e1, by show 6 ≤ sizeLine; decide, fun M1 m1 => ?_⟩
    generalize r1 : upd G1 M1 (.lst ([V.ref a0, V.ref a1, V.ref a2] ++ [V.ref a3, V.ref a4, V.ref a5])) = F1
    have R1 : Same G1 F1 := r1 ▸ Same.laid m1
    have f1e : F1 M1 = some (.lst ([V.ref a0, V.ref a1, V.ref a2] ++ [V.ref a3, V.ref a4, V.ref a5])) := r1 ▸ upd_same
    replace eL : F1 M1 = some (.lst [V.ref a0, V.ref a1, V.ref a2, V.ref a3, V.ref a4, V.ref a5]) := f1e
    refine ⟨_, rfl, _, rfl, by show 1 ≤ 1000; decide, fun t0 a6 u0 na6 w0 => ?_⟩
    refine ⟨a6, C 26, t0, v, rfl, T.m26.oex, T.m26.hB, upd_same, T.m26.nF, fun t2 dx n2 h2a nd hda hd2 => ⟨rfl, ?_⟩⟩
    obtain ⟨K6, hK, E6, s6⟩ := err_of (K := K) (C := C) (p := 26) (fl := "found") (tx := "this stands ahead, too") (v := v) (ts := [v]) u0 na6 w0 n2 h2a nd hda hd2
    rw [hK]
    clear hK n2 nd
    refine ⟨_, rfl, by show 1 ≤ 1000; decide, fun t0 a7 u0 na7 w0 => ?_⟩
    refine ⟨a7, C 27, t0, v, rfl, T.m27.oex, T.m27.hB, upd_same, T.m27.nF, fun t2 dx n2 h2a nd hda hd2 => ⟨rfl, ?_⟩⟩
    obtain ⟨K7, hK, E7, s7⟩ := err_of (K := K) (C := C) (p := 27) (fl := "found") (tx := "this leads to itself") (v := v) (ts := [v]) u0 na7 w0 n2 h2a nd hda hd2
    rw [hK]
    clear hK n2 nd
    refine ⟨_, rfl, by show 1 ≤ 1000; decide, fun t0 a8 u0 na8 w0 => ?_⟩
    refine ⟨a8, C 28, t0, v, rfl, T.m28.oex, T.m28.hB, upd_same, T.m28.nF, fun t2 dx n2 h2a nd hda hd2 => ⟨rfl, ?_⟩⟩
    obtain ⟨K8, hK, E8, s8⟩ := err_of (K := K) (C := C) (p := 28) (fl := "many") (tx := "these are too many") (v := v) (ts := [v]) u0 na8 w0 n2 h2a nd hda hd2
    rw [hK]
    clear hK n2 nd
    refine ⟨by show 3 ≤ sizeLine; decide, fun L2 n2 => ?_⟩
    generalize q2 : upd K8 L2 (.lst [V.ref a6, V.ref a7, V.ref a8]) = G2
    have S2 : Same K8 G2 := q2 ▸ Same.laid n2
    have e2 : G2 L2 = some (.lst [V.ref a6, V.ref a7, V.ref a8]) := q2 ▸ upd_same
    refine ⟨M1, L2, [V.ref a0, V.ref a1, V.ref a2, V.ref a3, V.ref a4, V.ref a5], [V.ref a6, V.ref a7, V.ref a8], rfl, rfl, (S2 _ _ (s8 _ _ (s7 _ _ (s6 _ _ eL)))), e2, by show 9 ≤ sizeLine; decide, fun M2 m2 => ?_⟩
    generalize r2 : upd G2 M2 (.lst ([V.ref a0, V.ref a1, V.ref a2, V.ref a3, V.ref a4, V.ref a5] ++ [V.ref a6, V.ref a7, V.ref a8])) = F2
    have R2 : Same G2 F2 := r2 ▸ Same.laid m2
    have f2e : F2 M2 = some (.lst ([V.ref a0, V.ref a1, V.ref a2, V.ref a3, V.ref a4, V.ref a5] ++ [V.ref a6, V.ref a7, V.ref a8])) := r2 ▸ upd_same
    replace eL : F2 M2 = some (.lst [V.ref a0, V.ref a1, V.ref a2, V.ref a3, V.ref a4, V.ref a5, V.ref a6, V.ref a7, V.ref a8]) := f2e
    refine ⟨_, rfl, _, rfl, by show 1 ≤ 1000; decide, fun t0 a9 u0 na9 w0 => ?_⟩
    refine ⟨a9, C 29, t0, v, rfl, T.m29.oex, T.m29.hB, upd_same, T.m29.nF, fun t2 dx n2 h2a nd hda hd2 => ⟨rfl, ?_⟩⟩
    obtain ⟨K9, hK, E9, s9⟩ := err_of (K := K) (C := C) (p := 29) (fl := "at") (tx := "there is no row that will do") (v := v) (ts := [v]) u0 na9 w0 n2 h2a nd hda hd2
    rw [hK]
    clear hK n2 nd
    refine ⟨_, rfl, by show 1 ≤ 1000; decide, fun t0 a10 u0 na10 w0 => ?_⟩
    refine ⟨a10, C 30, t0, v, rfl, T.m30.oex, T.m30.hB, upd_same, T.m30.nF, fun t2 dx n2 h2a nd hda hd2 => ⟨rfl, ?_⟩⟩
    obtain ⟨K10, hK, E10, s10⟩ := err_of (K := K) (C := C) (p := 30) (fl := "found") (tx := "there is no such point") (v := v) (ts := [v]) u0 na10 w0 n2 h2a nd hda hd2
    rw [hK]
    clear hK n2 nd
    refine ⟨_, rfl, by show 1 ≤ 1000; decide, fun t0 a11 u0 na11 w0 => ?_⟩
    refine ⟨a11, C 31, t0, v, rfl, T.m31.oex, T.m31.hB, upd_same, T.m31.nF, fun t2 dx n2 h2a nd hda hd2 => ⟨rfl, ?_⟩⟩
    obtain ⟨K11, hK, E11, s11⟩ := err_of (K := K) (C := C) (p := 31) (fl := "found") (tx := "there is no such place") (v := v) (ts := [v]) u0 na11 w0 n2 h2a nd hda hd2
    rw [hK]
    clear hK n2 nd
    refine ⟨by show 3 ≤ sizeLine; decide, fun L3 n3 => ?_⟩
    generalize q3 : upd K11 L3 (.lst [V.ref a9, V.ref a10, V.ref a11]) = G3
    have S3 : Same K11 G3 := q3 ▸ Same.laid n3
    have e3 : G3 L3 = some (.lst [V.ref a9, V.ref a10, V.ref a11]) := q3 ▸ upd_same
    refine ⟨M2, L3, [V.ref a0, V.ref a1, V.ref a2, V.ref a3, V.ref a4, V.ref a5, V.ref a6, V.ref a7, V.ref a8], [V.ref a9, V.ref a10, V.ref a11], rfl, rfl, (S3 _ _ (s11 _ _ (s10 _ _ (s9 _ _ eL)))), e3, by show 12 ≤ sizeLine; decide, fun M3 m3 => ?_⟩
    generalize r3 : upd G3 M3 (.lst ([V.ref a0, V.ref a1, V.ref a2, V.ref a3, V.ref a4, V.ref a5, V.ref a6, V.ref a7, V.ref a8] ++ [V.ref a9, V.ref a10, V.ref a11])) = F3
    have R3 : Same G3 F3 := r3 ▸ Same.laid m3
    have f3e : F3 M3 = some (.lst ([V.ref a0, V.ref a1, V.ref a2, V.ref a3, V.ref a4, V.ref a5, V.ref a6, V.ref a7, V.ref a8] ++ [V.ref a9, V.ref a10, V.ref a11])) := r3 ▸ upd_same
    replace eL : F3 M3 = some (.lst [V.ref a0, V.ref a1, V.ref a2, V.ref a3, V.ref a4, V.ref a5, V.ref a6, V.ref a7, V.ref a8, V.ref a9, V.ref a10, V.ref a11]) := f3e
    refine ⟨_, rfl, _, rfl, by show 1 ≤ 1000; decide, fun t0 a12 u0 na12 w0 => ?_⟩
    refine ⟨a12, C 32, t0, v, rfl, T.m32.oex, T.m32.hB, upd_same, T.m32.nF, fun t2 dx n2 h2a nd hda hd2 => ⟨rfl, ?_⟩⟩
    obtain ⟨K12, hK, E12, s12⟩ := err_of (K := K) (C := C) (p := 32) (fl := "found") (tx := "there is no such rule") (v := v) (ts := [v]) u0 na12 w0 n2 h2a nd hda hd2
    rw [hK]
    clear hK n2 nd
    refine ⟨_, rfl, by show 1 ≤ 1000; decide, fun t0 a13 u0 na13 w0 => ?_⟩
    refine ⟨a13, C 33, t0, v, rfl, T.m33.oex, T.m33.hB, upd_same, T.m33.nF, fun t2 dx n2 h2a nd hda hd2 => ⟨rfl, ?_⟩⟩
    obtain ⟨K13, hK, E13, s13⟩ := err_of (K := K) (C := C) (p := 33) (fl := "found") (tx := "there is no such command") (v := v) (ts := [v]) u0 na13 w0 n2 h2a nd hda hd2
    rw [hK]
    clear hK n2 nd
    refine ⟨_, rfl, by show 1 ≤ 1000; decide, fun t0 a14 u0 na14 w0 => ?_⟩
    refine ⟨a14, C 34, t0, v, rfl, T.m34.oex, T.m34.hB, upd_same, T.m34.nF, fun t2 dx n2 h2a nd hda hd2 => ⟨rfl, ?_⟩⟩
    obtain ⟨K14, hK, E14, s14⟩ := err_of (K := K) (C := C) (p := 34) (fl := "found") (tx := "there is no such thing here") (v := v) (ts := [v]) u0 na14 w0 n2 h2a nd hda hd2
    rw [hK]
    clear hK n2 nd
    refine ⟨by show 3 ≤ sizeLine; decide, fun L4 n4 => ?_⟩
    generalize q4 : upd K14 L4 (.lst [V.ref a12, V.ref a13, V.ref a14]) = G4
    have S4 : Same K14 G4 := q4 ▸ Same.laid n4
    have e4 : G4 L4 = some (.lst [V.ref a12, V.ref a13, V.ref a14]) := q4 ▸ upd_same
    refine ⟨M3, L4, [V.ref a0, V.ref a1, V.ref a2, V.ref a3, V.ref a4, V.ref a5, V.ref a6, V.ref a7, V.ref a8, V.ref a9, V.ref a10, V.ref a11], [V.ref a12, V.ref a13, V.ref a14], rfl, rfl, (S4 _ _ (s14 _ _ (s13 _ _ (s12 _ _ eL)))), e4, by show 15 ≤ sizeLine; decide, fun M4 m4 => ?_⟩
    generalize r4 : upd G4 M4 (.lst ([V.ref a0, V.ref a1, V.ref a2, V.ref a3, V.ref a4, V.ref a5, V.ref a6, V.ref a7, V.ref a8, V.ref a9, V.ref a10, V.ref a11] ++ [V.ref a12, V.ref a13, V.ref a14])) = F4
    have R4 : Same G4 F4 := r4 ▸ Same.laid m4
    have f4e : F4 M4 = some (.lst ([V.ref a0, V.ref a1, V.ref a2, V.ref a3, V.ref a4, V.ref a5, V.ref a6, V.ref a7, V.ref a8, V.ref a9, V.ref a10, V.ref a11] ++ [V.ref a12, V.ref a13, V.ref a14])) := r4 ▸ upd_same
    replace eL : F4 M4 = some (.lst [V.ref a0, V.ref a1, V.ref a2, V.ref a3, V.ref a4, V.ref a5, V.ref a6, V.ref a7, V.ref a8, V.ref a9, V.ref a10, V.ref a11, V.ref a12, V.ref a13, V.ref a14]) := f4e
    refine ⟨_, rfl, _, rfl, by show 1 ≤ 1000; decide, fun t0 a15 u0 na15 w0 => ?_⟩
    refine ⟨a15, C 35, t0, v, rfl, T.m35.oex, T.m35.hB, upd_same, T.m35.nF, fun t2 dx n2 h2a nd hda hd2 => ⟨rfl, ?_⟩⟩
    obtain ⟨K15, hK, E15, s15⟩ := err_of (K := K) (C := C) (p := 35) (fl := "found") (tx := "this is not on the road") (v := v) (ts := [v]) u0 na15 w0 n2 h2a nd hda hd2
    rw [hK]
    clear hK n2 nd
    refine ⟨_, rfl, by show 1 ≤ 1000; decide, fun t0 a16 u0 na16 w0 => ?_⟩
    refine ⟨a16, C 36, t0, v, rfl, T.m36.oex, T.m36.hB, upd_same, T.m36.nF, fun t2 dx n2 h2a nd hda hd2 => ⟨rfl, ?_⟩⟩
    obtain ⟨K16, hK, E16, s16⟩ := err_of (K := K) (C := C) (p := 36) (fl := "found") (tx := "a lock does not hold") (v := v) (ts := [v]) u0 na16 w0 n2 h2a nd hda hd2
    rw [hK]
    clear hK n2 nd
    refine ⟨_, rfl, by show 1 ≤ 1000; decide, fun t0 a17 u0 na17 w0 => ?_⟩
    refine ⟨a17, C 37, t0, v, rfl, T.m37.oex, T.m37.hB, upd_same, T.m37.nF, fun t2 dx n2 h2a nd hda hd2 => ⟨rfl, ?_⟩⟩
    obtain ⟨K17, hK, E17, s17⟩ := err_of (K := K) (C := C) (p := 37) (fl := "found") (tx := "the room fell") (v := v) (ts := [v]) u0 na17 w0 n2 h2a nd hda hd2
    rw [hK]
    clear hK n2 nd
    refine ⟨by show 3 ≤ sizeLine; decide, fun L5 n5 => ?_⟩
    generalize q5 : upd K17 L5 (.lst [V.ref a15, V.ref a16, V.ref a17]) = G5
    have S5 : Same K17 G5 := q5 ▸ Same.laid n5
    have e5 : G5 L5 = some (.lst [V.ref a15, V.ref a16, V.ref a17]) := q5 ▸ upd_same
    refine ⟨M4, L5, [V.ref a0, V.ref a1, V.ref a2, V.ref a3, V.ref a4, V.ref a5, V.ref a6, V.ref a7, V.ref a8, V.ref a9, V.ref a10, V.ref a11, V.ref a12, V.ref a13, V.ref a14], [V.ref a15, V.ref a16, V.ref a17], rfl, rfl, (S5 _ _ (s17 _ _ (s16 _ _ (s15 _ _ eL)))), e5, by show 18 ≤ sizeLine; decide, fun M5 m5 => ?_⟩
    generalize r5 : upd G5 M5 (.lst ([V.ref a0, V.ref a1, V.ref a2, V.ref a3, V.ref a4, V.ref a5, V.ref a6, V.ref a7, V.ref a8, V.ref a9, V.ref a10, V.ref a11, V.ref a12, V.ref a13, V.ref a14] ++ [V.ref a15, V.ref a16, V.ref a17])) = F5
    have R5 : Same G5 F5 := r5 ▸ Same.laid m5
    have f5e : F5 M5 = some (.lst ([V.ref a0, V.ref a1, V.ref a2, V.ref a3, V.ref a4, V.ref a5, V.ref a6, V.ref a7, V.ref a8, V.ref a9, V.ref a10, V.ref a11, V.ref a12, V.ref a13, V.ref a14] ++ [V.ref a15, V.ref a16, V.ref a17])) := r5 ▸ upd_same
    replace eL : F5 M5 = some (.lst [V.ref a0, V.ref a1, V.ref a2, V.ref a3, V.ref a4, V.ref a5, V.ref a6, V.ref a7, V.ref a8, V.ref a9, V.ref a10, V.ref a11, V.ref a12, V.ref a13, V.ref a14, V.ref a15, V.ref a16, V.ref a17]) := f5e
    refine ⟨_, rfl, _, rfl, by show 1 ≤ 1000; decide, fun t0 a18 u0 na18 w0 => ?_⟩
    refine ⟨a18, C 38, t0, v, rfl, T.m38.oex, T.m38.hB, upd_same, T.m38.nF, fun t2 dx n2 h2a nd hda hd2 => ⟨rfl, ?_⟩⟩
    obtain ⟨K18, hK, E18, s18⟩ := err_of (K := K) (C := C) (p := 38) (fl := "found") (tx := "the room stands") (v := v) (ts := [v]) u0 na18 w0 n2 h2a nd hda hd2
    rw [hK]
    clear hK n2 nd
    refine ⟨_, rfl, by show 1 ≤ 1000; decide, fun t0 a19 u0 na19 w0 => ?_⟩
    refine ⟨a19, C 39, t0, v, rfl, T.m39.oex, T.m39.hB, upd_same, T.m39.nF, fun t2 dx n2 h2a nd hda hd2 => ⟨rfl, ?_⟩⟩
    obtain ⟨K19, hK, E19, s19⟩ := err_of (K := K) (C := C) (p := 39) (fl := "found") (tx := "this can't be done now") (v := v) (ts := [v]) u0 na19 w0 n2 h2a nd hda hd2
    rw [hK]
    clear hK n2 nd
    refine ⟨by show 2 ≤ sizeLine; decide, fun L6 n6 => ?_⟩
    generalize q6 : upd K19 L6 (.lst [V.ref a18, V.ref a19]) = G6
    have S6 : Same K19 G6 := q6 ▸ Same.laid n6
    have e6 : G6 L6 = some (.lst [V.ref a18, V.ref a19]) := q6 ▸ upd_same
    refine ⟨M5, L6, [V.ref a0, V.ref a1, V.ref a2, V.ref a3, V.ref a4, V.ref a5, V.ref a6, V.ref a7, V.ref a8, V.ref a9, V.ref a10, V.ref a11, V.ref a12, V.ref a13, V.ref a14, V.ref a15, V.ref a16, V.ref a17], [V.ref a18, V.ref a19], rfl, rfl, (S6 _ _ (s19 _ _ (s18 _ _ eL))), e6, by show 20 ≤ sizeLine; decide, fun M6 m6 => ?_⟩
    generalize r6 : upd G6 M6 (.lst ([V.ref a0, V.ref a1, V.ref a2, V.ref a3, V.ref a4, V.ref a5, V.ref a6, V.ref a7, V.ref a8, V.ref a9, V.ref a10, V.ref a11, V.ref a12, V.ref a13, V.ref a14, V.ref a15, V.ref a16, V.ref a17] ++ [V.ref a18, V.ref a19])) = F6
    have R6 : Same G6 F6 := r6 ▸ Same.laid m6
    have f6e : F6 M6 = some (.lst ([V.ref a0, V.ref a1, V.ref a2, V.ref a3, V.ref a4, V.ref a5, V.ref a6, V.ref a7, V.ref a8, V.ref a9, V.ref a10, V.ref a11, V.ref a12, V.ref a13, V.ref a14, V.ref a15, V.ref a16, V.ref a17] ++ [V.ref a18, V.ref a19])) := r6 ▸ upd_same
    replace eL : F6 M6 = some (.lst [V.ref a0, V.ref a1, V.ref a2, V.ref a3, V.ref a4, V.ref a5, V.ref a6, V.ref a7, V.ref a8, V.ref a9, V.ref a10, V.ref a11, V.ref a12, V.ref a13, V.ref a14, V.ref a15, V.ref a16, V.ref a17, V.ref a18, V.ref a19]) := f6e
    have T_F6 : Same F6 F6 := Same.refl _
    have T_G6 : Same G6 F6 := R6.trans T_F6
    have T_K19 : Same K19 F6 := S6.trans T_G6
    have T_K18 : Same K18 F6 := s19.trans T_K19
    have T_F5 : Same F5 F6 := s18.trans T_K18
    have T_G5 : Same G5 F6 := R5.trans T_F5
    have T_K17 : Same K17 F6 := S5.trans T_G5
    have T_K16 : Same K16 F6 := s17.trans T_K17
    have T_K15 : Same K15 F6 := s16.trans T_K16
    have T_F4 : Same F4 F6 := s15.trans T_K15
    have T_G4 : Same G4 F6 := R4.trans T_F4
    have T_K14 : Same K14 F6 := S4.trans T_G4
    have T_K13 : Same K13 F6 := s14.trans T_K14
    have T_K12 : Same K12 F6 := s13.trans T_K13
    have T_F3 : Same F3 F6 := s12.trans T_K12
    have T_G3 : Same G3 F6 := R3.trans T_F3
    have T_K11 : Same K11 F6 := S3.trans T_G3
    have T_K10 : Same K10 F6 := s11.trans T_K11
    have T_K9 : Same K9 F6 := s10.trans T_K10
    have T_F2 : Same F2 F6 := s9.trans T_K9
    have T_G2 : Same G2 F6 := R2.trans T_F2
    have T_K8 : Same K8 F6 := S2.trans T_G2
    have T_K7 : Same K7 F6 := s8.trans T_K8
    have T_K6 : Same K6 F6 := s7.trans T_K7
    have T_F1 : Same F1 F6 := s6.trans T_K6
    have T_G1 : Same G1 F6 := R1.trans T_F1
    have T_K5 : Same K5 F6 := S1.trans T_G1
    have T_K4 : Same K4 F6 := s5.trans T_K5
    have T_K3 : Same K3 F6 := s4.trans T_K4
    have T_G0 : Same G0 F6 := s3.trans T_K3
    have T_K2 : Same K2 F6 := S0.trans T_G0
    have T_K1 : Same K1 F6 := s2.trans T_K2
    have T_K0 : Same K0 F6 := s1.trans T_K1
    have TH : Same H F6 := s0.trans T_K0
    have U_K0 : Same H K0 := s0
    have U_K1 : Same H K1 := U_K0.trans s1
    have U_K2 : Same H K2 := U_K1.trans s2
    have U_G0 : Same H G0 := U_K2.trans S0
    have U_K3 : Same H K3 := U_G0.trans s3
    have U_K4 : Same H K4 := U_K3.trans s4
    have U_K5 : Same H K5 := U_K4.trans s5
    have U_G1 : Same H G1 := U_K5.trans S1
    have U_F1 : Same H F1 := U_G1.trans R1
    have U_K6 : Same H K6 := U_F1.trans s6
    have U_K7 : Same H K7 := U_K6.trans s7
    have U_K8 : Same H K8 := U_K7.trans s8
    have U_G2 : Same H G2 := U_K8.trans S2
    have U_F2 : Same H F2 := U_G2.trans R2
    have U_K9 : Same H K9 := U_F2.trans s9
    have U_K10 : Same H K10 := U_K9.trans s10
    have U_K11 : Same H K11 := U_K10.trans s11
    have U_G3 : Same H G3 := U_K11.trans S3
    have U_F3 : Same H F3 := U_G3.trans R3
    have U_K12 : Same H K12 := U_F3.trans s12
    have U_K13 : Same H K13 := U_K12.trans s13
    have U_K14 : Same H K14 := U_K13.trans s14
    have U_G4 : Same H G4 := U_K14.trans S4
    have U_F4 : Same H F4 := U_G4.trans R4
    have U_K15 : Same H K15 := U_F4.trans s15
    have U_K16 : Same H K16 := U_K15.trans s16
    have U_K17 : Same H K17 := U_K16.trans s17
    have U_G5 : Same H G5 := U_K17.trans S5
    have U_F5 : Same H F5 := U_G5.trans R5
    have U_K18 : Same H K18 := U_F5.trans s18
    have U_K19 : Same H K19 := U_K18.trans s19
    have U_G6 : Same H G6 := U_K19.trans S6
    have U_F6 : Same H F6 := U_G6.trans R6
    refine ⟨_, rfl, k M6 _ F6 TH (none_back U_G6 m6) eL rfl fun i hi => ?_⟩
    match i, hi with
    | 0, _ => exact ⟨a0, rfl, na0, E0.keep T_K0⟩
    | 1, _ => exact ⟨a1, rfl, none_back U_K0 na1, E1.keep T_K1⟩
    | 2, _ => exact ⟨a2, rfl, none_back U_K1 na2, E2.keep T_K2⟩
    | 3, _ => exact ⟨a3, rfl, none_back U_G0 na3, E3.keep T_K3⟩
    | 4, _ => exact ⟨a4, rfl, none_back U_K3 na4, E4.keep T_K4⟩
    | 5, _ => exact ⟨a5, rfl, none_back U_K4 na5, E5.keep T_K5⟩
    | 6, _ => exact ⟨a6, rfl, none_back U_F1 na6, E6.keep T_K6⟩
    | 7, _ => exact ⟨a7, rfl, none_back U_K6 na7, E7.keep T_K7⟩
    | 8, _ => exact ⟨a8, rfl, none_back U_K7 na8, E8.keep T_K8⟩
    | 9, _ => exact ⟨a9, rfl, none_back U_F2 na9, E9.keep T_K9⟩
    | 10, _ => exact ⟨a10, rfl, none_back U_K9 na10, E10.keep T_K10⟩
    | 11, _ => exact ⟨a11, rfl, none_back U_K10 na11, E11.keep T_K11⟩
    | 12, _ => exact ⟨a12, rfl, none_back U_F3 na12, E12.keep T_K12⟩
    | 13, _ => exact ⟨a13, rfl, none_back U_K12 na13, E13.keep T_K13⟩
    | 14, _ => exact ⟨a14, rfl, none_back U_K13 na14, E14.keep T_K14⟩
    | 15, _ => exact ⟨a15, rfl, none_back U_F4 na15, E15.keep T_K15⟩
    | 16, _ => exact ⟨a16, rfl, none_back U_K15 na16, E16.keep T_K16⟩
    | 17, _ => exact ⟨a17, rfl, none_back U_K16 na17, E17.keep T_K17⟩
    | 18, _ => exact ⟨a18, rfl, none_back U_F5 na18, E18.keep T_K18⟩
    | 19, _ => exact ⟨a19, rfl, none_back U_K18 na19, E19.keep T_K19⟩
    | n + 20, hn => exact absurd hn (by omega)
end
end K3

/-! Draws, things, and whether a thing is the very one. -/
namespace K3
open PySem PySem.Spec PyProof.Rows L2 Pw
abbrev sCell : Stmt := top 45
abbrev sBag : Stmt := top 46
abbrev sTake : Stmt := top 47
abbrev sVery : Stmt := top 48
abbrev sAny : Stmt := top 49
/-- a bag of draws -/
def BagAt (H : Hp) (p : Addr) (n : Nat) : Prop := ∃ b0 b1 b2 : Int, H p = some (.lst [.int b0, .int b1, .int b2]) ∧
  0 ≤ b1 ∧ b1 < 2147483629 ∧ 0 ≤ b2 ∧ b2 ≤ n
theorem BagAt.up {H : Hp} {p : Addr} {n m : Nat} (h : BagAt H p n) (l : n ≤ m) : BagAt H p m := by
  obtain ⟨b0, b1, b2, e, h1, h2, h3, h4⟩ := h
  exact ⟨b0, b1, b2, e, h1, h2, h3, by omega⟩
theorem BagAt.keep {H H' : Hp} {p : Addr} {n : Nat} (h : BagAt H p n) (S : Same H H') : BagAt H' p n := by
  obtain ⟨b0, b1, b2, e, r⟩ := h
  exact ⟨b0, b1, b2, S _ _ e, r⟩


/-- a thing that is neither a list nor a dict, or one of these with what lies in it; it is shown no deeper than m -/
inductive GoodM (K : PySem.W.Frag) (m : Nat) (H : Hp) : V → Prop where
  | flat {x : V} {t : String} {d n : Nat} {tx : Str} (ty : Ty K H x (.type t)) (hd : kitB t "dict" = some false) (hl : kitB t "list" = some false)
      (sh : Shw K H x d n tx) (h0 : ∀ a, x = .ref a → 0 < d) (h1 : d ≤ m) (h2 : n ≤ 20000 + 5 * m) : GoodM K m H x
  | lst {a : Addr} {xs : List V} {d n : Nat} {ts : List Str} (e : H a = some (.lst xs)) (sh : ShwL K (wo H a) xs d n ts) (h1 : d + 1 ≤ m) (h2 : n + 2 ≤ 20000 + 5 * m)
      (h3 : xs.length ≤ 10) : GoodM K m H (.ref a)
  | dct {a : Addr} {kvs : List (Key × V)} (e : H a = some (.dK kvs)) (h : kvs = [] ∨ kvs = [((Sum.inr "a" : Key), V.int 1)]) (h1 : 1 ≤ m) : GoodM K m H (.ref a)
abbrev Good (K : PySem.W.Frag) (H : Hp) (x : V) : Prop := GoodM K 4 H x
theorem wo_up {H H' : Hp} {a : Addr} (S : Same H H') : Same (wo H a) (wo H' a) := fun b o e => by
  obtain ⟨n, e'⟩ := wo_at e
  exact wo_of n (S _ _ e')
theorem GoodM.keep {K : PySem.W.Frag} {m : Nat} {H H' : Hp} {x : V} (h : GoodM K m H x) (S : Same H H') : GoodM K m H' x := by
  cases h with
  | flat ty hd hl sh h0 h1 h2 => exact .flat (ty.same S) hd hl (Shw.same S sh) h0 h1 h2
  | lst e sh h1 h2 h3 => exact .lst (S _ _ e) (ShwL.same (wo_up S) sh) h1 h2 h3
  | dct e h h1 => exact .dct (S _ _ e) h h1
theorem Good.keep {K : PySem.W.Frag} {H H' : Hp} {x : V} (h : Good K H x) (S : Same H H') : Good K H' x := GoodM.keep h S
theorem GoodM.up {K : PySem.W.Frag} {m k : Nat} {H : Hp} {x : V} (h : GoodM K m H x) (l : m ≤ k) : GoodM K k H x := by
  cases h with
  | flat ty hd hl sh h0 h1 h2 => exact .flat ty hd hl sh h0 (by omega) (by omega)
  | lst e sh h1 h2 h3 => exact .lst e sh (by omega) (by omega) h3
  | dct e h h1 => exact .dct e h (by omega)
/-- it is shown -/
theorem GoodM.shw {K : PySem.W.Frag} {m : Nat} {H : Hp} {x : V} (h : GoodM K m H x) : ∃ d n t, Shw K H x d n t ∧ (∀ a, x = .ref a → 0 < d) ∧ d ≤ m ∧ n ≤ 20000 + 5 * m := by
  cases h with
  | flat ty hd hl sh h0 h1 h2 => exact ⟨_, _, _, sh, h0, h1, h2⟩
  | lst e sh h1 h2 h3 => exact ⟨_, _, _, .lst e (ShwL.same wo_same sh), fun _ _ => Nat.succ_pos _, h1, h2⟩
  | dct e h h1 =>
    rcases h with rfl | rfl
    · exact ⟨_, _, _, .dct e .nil .nil, fun _ _ => Nat.succ_pos _, h1, by omega⟩
    · exact ⟨_, _, _, .dct e (.cons (.str "a" 3 (by decide +kernel)) .nil) (.cons (.int 1 (by decide +kernel)) .nil), fun _ _ => Nat.succ_pos _, h1, by omega⟩
theorem Good.shw {K : PySem.W.Frag} {H : Hp} {x : V} (h : Good K H x) : ∃ d n t, Shw K H x d n t ∧ (∀ a, x = .ref a → 0 < d) ∧ d ≤ 4 ∧ n ≤ 30100 := by
  obtain ⟨d, n, t, s, h0, h1, h2⟩ := GoodM.shw h
  exact ⟨d, n, t, s, h0, h1, by omega⟩
/-- a new list that holds one -/
theorem GoodM.one {K : PySem.W.Frag} {m : Nat} {H H' : Hp} {x : V} {a : Addr} (h : GoodM K m H x) (S : Same H (wo H' a)) (e : H' a = some (.lst [x])) : GoodM K (m + 1) H' (.ref a) := by
  obtain ⟨d, n, t, s, h0, h1, h2⟩ := h.shw
  exact .lst e (.cons (Shw.same S s) .nil) (by omega) (by omega) (by show 1 ≤ 10; decide)
section
variable {K : PySem.W.Frag} {H : Hp} {p m : Nat}
theorem gd_non : GoodM K m H .non := .flat .non (by decide +kernel) (by decide +kernel) .non (fun _ z => nomatch z) (Nat.zero_le _) (by omega)
theorem gd_bl (b : Bool) : GoodM K m H (.bl b) := .flat (.bl b) (by decide +kernel) (by decide +kernel) (.bl b) (fun _ z => nomatch z) (Nat.zero_le _) (by omega)
theorem gd_int (i : Int) (h : i.natAbs.log2 < 1920) : GoodM K m H (.int i) :=
  .flat (.int i) (by decide +kernel) (by decide +kernel) (.int i h) (fun _ z => nomatch z) (Nat.zero_le _) (by omega)
theorem gd_str (s : Str) (h : (reprText s).length ≤ 10002) : GoodM K m H (.str s) :=
  .flat (.str s) (by decide +kernel) (by decide +kernel) (.str s 10002 h) (fun _ z => nomatch z) (Nat.zero_le _) (by omega)
theorem gd_tup {a : Addr} {xs : List V} {d n : Nat} {ts : List Str} (e : H a = some (.tup xs)) (sh : ShwL K H xs d n ts) (h1 : d + 1 ≤ m) (h2 : n ≤ 19990) : GoodM K m H (.ref a) :=
  .flat (.tup e) (by decide +kernel) (by decide +kernel) (.tup e sh) (fun _ _ => Nat.succ_pos _) h1 (by omega)
theorem shw_a : Shw K H (.str "a") 0 3 (reprText "a") := .str "a" 3 (by decide +kernel)
theorem shw_1 : Shw K H (.int 1) 0 1921 (toString (1 : Int)) := .int 1 (by decide +kernel)
theorem ints_small {i : Int} (h0 : -(10 ^ 40) < i) (h1 : i < 10 ^ 40) : i.natAbs.log2 < 1920 := by
  have h2 : i.natAbs < 2 ^ 200 := by omega
  exact Nat.lt_of_lt_of_le (PySem.Flt.log2_lt_of (by decide) h2) (by decide)

end
section
variable {P : Program} {w : World} {K : PySem.W.Frag} {mg : Str → Option Value} {base : Heap} {C : Nat → Addr}
def spCell (K : PySem.W.Frag) : Sp := fun vs H Q _ => ∃ (a : Addr) (ns : List Int) (k : Int), vs = [.ref a, .int k] ∧ SqL K H a (ns.map V.int) ∧ ns.length ≤ 63 ∧
  0 ≤ k ∧ k ≤ 100 ∧ ∀ c, Q (.int c) H
theorem scCell : FnScope ["_law_script", "_law_k"] ["_law_script", "_law_k"] (defScope sCell) := ⟨rfl, rfl, rfl, by decide +kernel, rfl, by decide +kernel, by decide +kernel⟩
theorem d_cell (T : Txt mg) (A : At K mg "_law_cell" sCell) : Def P w K mg base "_law_cell" 1 ["_law_script", "_law_k"] (spCell K) := by
  refine mkDef A scCell (fun _ _ _ _ _ _ us hl => match us, hl with | [_, _], _ => rfl) (fun vs H Q E ⟨a, ns, k, e, _⟩ => by rw [e]; rfl)
    (fun f cdv A out s H vs Q E hr h => ?_)
  obtain ⟨a, ns, i, rfl, hS, hl, h0, h1, k⟩ := h
  refine ⟨_, pss_cons (ps_if (pt_cmpR op_lt (pv 1) (pe_callB call_len_seq (by rfl) T.len PySem.boot_len (pa_cons (pv 0) pa_nil)) (nomark _))
      (pss_one (ps_ret (pe_ix ix_list (pv 0) (pv 1) (fun _ _ => rfl)))) pss_nil)
    (pss_one (ps_ret (pe_op op_add (pe_op op_mul pe_int (pv 1)) pe_int))), ?_⟩
  refine ⟨_, rfl, _, rfl, a, ns.map V.int, rfl, .inl hS, i, _, rfl, rfl, _, rfl, ?_⟩
  refine ite2 (fun hlt => ?_) (fun _ => ?_)
  · have hlt' : i < ((ns.map V.int).length : Int) := of_decide_eq_true hlt
    rw [List.length_map] at hlt'
    obtain ⟨j, rfl⟩ := Int.eq_ofNat_of_zero_le h0
    have hj : j < ns.length := by omega
    refine ⟨_, rfl, _, rfl, a, ns.map V.int, (j : Int), .int ns[j], rfl, rfl, hS, ?_, k _⟩
    exact atI_nat (by simp [hj])
  · exact ⟨_, rfl, _, _, rfl, rfl, .inl ⟨by decide, by decide⟩, _, _, rfl, rfl, k _⟩

def spBag (K : PySem.W.Frag) : Sp := fun vs H Q _ => ∃ c, vs = [.int c] ∧
  ∀ p H', H p = none → Same H H' → BagAt H' p 0 → Q (.ref p) H'
theorem scBag : FnScope ["_law_cell_here"] ["_law_cell_here"] (defScope sBag) := ⟨rfl, rfl, rfl, by decide +kernel, rfl, by decide +kernel, by decide +kernel⟩
theorem d_bag (T : Txt mg) (A : At K mg "_law_bag" sBag) : Def P w K mg base "_law_bag" 1 ["_law_cell_here"] (spBag K) := by
  refine mkDef A scBag (fun _ _ _ _ _ _ us hl => match us, hl with | [_], _ => rfl) (fun vs H Q E ⟨c, e, _⟩ => by rw [e]; rfl)
    (fun f cdv A out s H vs Q E hr h => ?_)
  obtain ⟨c, rfl, k⟩ := h
  refine ⟨_, pss_one (ps_ret (pe_lst (pa_cons
    (pe_callB (call_max2 rfl) (by rfl) T.max PyProof.Rows.boot_max (pa_cons pe_int (pa_cons (pe_op op_sub (pv 0) (pe_op op_pow pe_int pe_int)) pa_nil)))
    (pa_cons (pe_op op_mod (pv 0) pe_int) (pa_cons pe_int pa_nil))))), ?_⟩
  refine ⟨_, rfl, 10, 18, rfl, rfl, ⟨by decide, by decide, by decide⟩, _, _, rfl, rfl, 0, _, rfl, _, rfl, _, _, rfl, rfl, (by decide : (0 : Int) < 2147483629), (by show 3 ≤ sizeLine; decide), fun p hp => ?_⟩
  refine k p _ hp (Same.laid hp) ⟨_, _, _, upd_same, ?_, ?_, by decide, by decide⟩
  · exact Int.emod_nonneg _ (by decide)
  · exact Int.emod_lt_of_pos _ (by decide)

def spTake (K : PySem.W.Frag) : Sp := fun vs H Q _ => ∃ p m n, vs = [.ref p, .int m] ∧ BagAt H p n ∧ n ≤ 1000000 ∧ 0 < m ∧ m < 2 ^ 200 ∧
  ∀ i H', 0 ≤ i → i < m → BagAt H' p (n + 1) → But p H H' → Q (.int i) H'
theorem scTake : FnScope ["_law_bag_here", "_law_much", "_law_digit", "_law_number"] ["_law_bag_here", "_law_much"] (defScope sTake) :=
  ⟨rfl, rfl, rfl, by decide +kernel, rfl, by decide +kernel, by decide +kernel⟩
theorem d_take (A : At K mg "_law_take" sTake) : Def P w K mg base "_law_take" 1 ["_law_bag_here", "_law_much"] (spTake K) := by
  refine mkDef A scTake (fun _ _ _ _ _ _ us hl => match us, hl with | [_, _], _ => rfl) (fun vs H Q E ⟨p, m, n, e, _⟩ => by rw [e]; rfl)
    (fun f cdv A out s H vs Q E hr h => ?_)
  obtain ⟨p, m, n, rfl, ⟨b0, b1, b2, hp, h1, h2, h3, h4⟩, hn, m0, mb, k⟩ := h
  have mb' : m.natAbs < 2 ^ 200 := by omega
  have at0 : atI [V.int b0, .int b1, .int b2] 0 = some (.int b0) := rfl
  have at1 : atI [V.int b0, .int b1, .int b2] 1 = some (.int b1) := rfl
  have at2 : atI [V.int b0, .int b1, .int b2] 2 = some (.int b2) := rfl
  refine ⟨_, pss_cons (ps_if (pt_cmpR op_gt (pe_ix ix_list (pv 0) pe_int (fun _ _ => rfl)) pe_int (nomark _))
      (pss_cons (ps_set (i := 2) scTake.nd rfl (.inl rfl) (pe_op op_mod (pe_ix ix_list (pv 0) pe_int (fun _ _ => rfl)) (pv 1)))
      (pss_cons (ps_asg (pe_op op_fdivW (pe_ix ix_list (pv 0) pe_int (fun _ _ => rfl)) (pv 1)) (pg_sub (pv 0) pe_int set_list))
      (pss_one (ps_ret (pv 2))))) pss_nil)
    (pss_cons (ps_asg (pe_op op_add (pe_ix ix_list (pv 0) pe_int (fun _ _ => rfl)) pe_int) (pg_sub (pv 0) pe_int set_list))
    (pss_cons (ps_set (i := 3) scTake.nd rfl (.inl rfl) (pe_op op_mod (pe_op op_pow (pe_op op_add (pe_op op_add (pe_ix ix_list (pv 0) pe_int (fun _ _ => rfl))
      (pe_op op_mul pe_int (pe_ix ix_list (pv 0) pe_int (fun _ _ => rfl)))) pe_int) pe_int) pe_int))
    (pss_cons (ps_set (i := 3) scTake.nd rfl (.inl rfl) (pe_op op_mod (pe_op op_pow (pe_op op_add (pv 3)
      (pe_op op_mul pe_int (pe_ix ix_list (pv 0) pe_int (fun _ _ => rfl)))) pe_int) pe_int))
    (pss_one (ps_ret (pe_op op_mod (pe_op op_fdiv (pv 3) pe_int) (pv 1))))))), ?_⟩
  refine ⟨_, rfl, p, _, 0, _, rfl, rfl, SqL.of hp, at0, b0, 0, rfl, rfl, _, rfl, ?_⟩
  refine ite2 (fun hgt => ?_) (fun _ => ?_)
  · refine ⟨_, rfl, p, _, 0, _, rfl, rfl, SqL.of hp, at0, _, rfl, b0, m, rfl, rfl, m0, ?_⟩
    refine ⟨_, rfl, p, _, 0, _, rfl, rfl, SqL.of hp, at0, _, rfl, b0, m, rfl, rfl, wide_div m0 mb' (by decide) (by decide), ?_⟩
    refine ⟨_, rfl, p, _, 0, 0, rfl, rfl, hp, rfl, ?_⟩
    refine ⟨_, rfl, ?_⟩
    exact k _ _ (Int.emod_nonneg _ (by omega)) (Int.emod_lt_of_pos _ m0) ⟨_, b1, b2, upd_same, h1, h2, h3, by omega⟩ But.set
  · refine ⟨_, rfl, p, _, 2, _, rfl, rfl, SqL.of hp, at2, _, _, rfl, rfl, ?_⟩
    refine ⟨_, rfl, p, _, 2, 2, rfl, rfl, hp, rfl, ?_⟩
    have hp2 : upd H p (.lst [V.int b0, .int b1, .int (b2 + 1)]) p = some (.lst [V.int b0, .int b1, .int (b2 + 1)]) := upd_same
    have bt1 : atI [V.int b0, .int b1, .int (b2 + 1)] 1 = some (.int b1) := rfl
    have bt2 : atI [V.int b0, .int b1, .int (b2 + 1)] 2 = some (.int (b2 + 1)) := rfl
    refine ⟨_, rfl, p, _, 1, _, rfl, rfl, SqL.of hp2, bt1, _, rfl, p, _, 2, _, rfl, rfl, SqL.of hp2, bt2, _, _, rfl, rfl, .inl ⟨by decide, by decide⟩, _, _, rfl, rfl, _, _, rfl, rfl, 
      _, _, rfl, rfl, ⟨by decide, by decide, by omega⟩, _, _, rfl, rfl, (by decide : (0 : Int) < 2147483647), ?_⟩
    have e1 := Int.emod_nonneg ((b1 + 7919 * (b2 + 1) + 47) ^ (5 : Int).toNat) (by decide : (2147483647 : Int) ≠ 0)
    have e2 := Int.emod_lt_of_pos ((b1 + 7919 * (b2 + 1) + 47) ^ (5 : Int).toNat) (by decide : (0 : Int) < 2147483647)
    refine ⟨_, rfl, _, rfl, p, _, 2, _, rfl, rfl, SqL.of hp2, bt2, _, _, rfl, rfl, .inl ⟨by decide, by decide⟩, _, _, rfl, rfl, 
      _, _, rfl, rfl, ⟨by decide, by decide, ?_⟩, _, _, rfl, rfl, (by decide : (0 : Int) < 2147483587), ?_⟩
    · generalize (b1 + 7919 * (b2 + 1) + 47) ^ (5 : Int).toNat % 2147483647 = z at e1 e2
      omega
    · refine ⟨_, rfl, _, _, rfl, rfl, ⟨by decide, by decide⟩, _, rfl, _, _, rfl, rfl, m0, ?_⟩
      exact k _ _ (Int.emod_nonneg _ (by omega)) (Int.emod_lt_of_pos _ m0) ⟨b0, b1, b2 + 1, upd_same, h1, h2, by omega, by omega⟩ But.set

end
end K3

namespace K3
open PySem PySem.Spec PyProof.Rows L2 Pw
section
variable {P : Program} {w : World} {K : PySem.W.Frag} {mg : Str → Option Value} {base : Heap} {C : Nat → Addr}
def spAny (K : PySem.W.Frag) : Sp := fun vs H Q _ => ∃ p n, vs = [.ref p] ∧ BagAt H p n ∧ n ≤ 900000 ∧
  ∀ v H', GoodM K 3 (wo H' p) v → BagAt H' p (n + 1) → But p H H' → Q v H'
theorem scAny : FnScope ["_law_bag_here", "_law_some"] ["_law_bag_here"] (defScope sAny) :=
  ⟨rfl, rfl, rfl, by decide +kernel, rfl, by decide +kernel, by decide +kernel⟩
theorem d_any (A : At K mg "_law_any" sAny) (dt : Def P w K mg base "_law_take" 1 ["_law_bag_here", "_law_much"] (spTake K)) :
    Def P w K mg base "_law_any" 2 ["_law_bag_here"] (spAny K) := by
  refine mkDef A scAny (fun _ _ _ _ _ _ us hl => match us, hl with | [_], _ => rfl) (fun vs H Q E ⟨p, n, e, _⟩ => by rw [e]; rfl)
    (fun f cdv A out s H vs Q E hr h => ?_)
  obtain ⟨p, n, rfl, hb, hn, k⟩ := h
  have hu := hu_of hr
  obtain ⟨b0, b1, b2, hp, hb'⟩ := id hb
  refine ⟨_, pss_cons (ps_set (i := 1) scAny.nd rfl (.inl rfl) (pe_lst (pa_cons pe_non (pa_cons pe_bl (pa_cons pe_bl
      (pa_cons (pe_op op_sub pe_int pe_int) (pa_cons (pe_op op_pow pe_int pe_int) (pa_cons pe_str (pa_cons pe_str (pa_cons pe_str
      (pa_cons (pe_lst pa_nil) (pa_cons (pe_lst (pa_cons pe_str pa_nil)) (pa_cons (pe_tup (pa_cons pe_str pa_nil)) (pa_cons (pe_tup pa_nil)
      (pa_cons pe_dnewK (pa_cons (pe_disp (pps_cons pe_str pe_int pps_nil) (by rfl) (by rfl) (fun z => by cases z) (by decide))
      (pa_cons (pe_lst (pa_cons (pe_lst (pa_cons pe_int pa_nil)) pa_nil)) pa_nil)))))))))))))))))
    (pss_one (ps_ret (pe_ix ix_list (pv 1) (pe_d dt hr (by decide) (by rfl) (pa_cons (pv 0) (pa_cons pe_int pa_nil))) (fun _ _ => rfl)))), ?_⟩
  refine ⟨_, _, rfl, rfl, _, _, rfl, rfl, ⟨by decide, by decide, by decide⟩, by show 0 ≤ sizeLine; decide, fun a1 n1 => ?_⟩
  generalize q1 : upd H a1 (.lst []) = H1
  have S1 : Same H H1 := q1 ▸ Same.laid n1
  have e1 : H1 a1 = some (.lst []) := q1 ▸ upd_same
  refine ⟨by show 1 ≤ sizeLine; decide, fun a2 n2 => ?_⟩
  generalize q2 : upd H1 a2 (.lst [.str "a"]) = H2
  have S2 : Same H1 H2 := q2 ▸ Same.laid n2
  have e2 : H2 a2 = some (.lst [.str "a"]) := q2 ▸ upd_same
  refine ⟨by show 1 ≤ sizeLine; decide, fun a3 n3 => ?_⟩
  generalize q3 : upd H2 a3 (.tup [.str "a"]) = H3
  have S3 : Same H2 H3 := q3 ▸ Same.laid n3
  have e3 : H3 a3 = some (.tup [.str "a"]) := q3 ▸ upd_same
  refine ⟨by show 0 ≤ sizeLine; decide, fun a4 n4 => ?_⟩
  generalize q4 : upd H3 a4 (.tup []) = H4
  have S4 : Same H3 H4 := q4 ▸ Same.laid n4
  have e4 : H4 a4 = some (.tup []) := q4 ▸ upd_same
  refine fun a5 n5 => ?_
  generalize q5 : upd H4 a5 (.dK []) = H5
  have S5 : Same H4 H5 := q5 ▸ Same.laid n5
  have e5 : H5 a5 = some (.dK []) := q5 ▸ upd_same
  refine fun a6 n6 => ?_
  refine ⟨upd_same, [(Sum.inr "a", .int 1)], rfl, by decide, ?_⟩
  rw [upd_upd]
  generalize q6 : upd H5 a6 (.dK (mergeK [] [(Sum.inr "a", .int 1)])) = H6
  have S6 : Same H5 H6 := q6 ▸ Same.laid n6
  have e6 : H6 a6 = some (.dK [(Sum.inr "a", .int 1)]) := q6 ▸ upd_same
  refine ⟨by show 1 ≤ sizeLine; decide, fun a7 n7 => ?_⟩
  generalize q7 : upd H6 a7 (.lst [.int 1]) = H7
  have S7 : Same H6 H7 := q7 ▸ Same.laid n7
  have e7 : H7 a7 = some (.lst [.int 1]) := q7 ▸ upd_same
  refine ⟨by show 1 ≤ sizeLine; decide, fun a8 n8 => ?_⟩
  generalize q8 : upd H7 a8 (.lst [.ref a7]) = H8
  have S8 : Same H7 H8 := q8 ▸ Same.laid n8
  have e8 : H8 a8 = some (.lst [.ref a7]) := q8 ▸ upd_same
  refine ⟨by show 15 ≤ sizeLine; decide, fun L nL => ?_⟩
  have p1 := S1 _ _ hp
  have p2 := S2 _ _ p1
  have p3 := S3 _ _ p2
  have p4 := S4 _ _ p3
  have p5 := S5 _ _ p4
  have p6 := S6 _ _ p5
  have p7 := S7 _ _ p6
  have p8 := S8 _ _ p7
  have S48 : Same H4 H8 := S5.trans (S6.trans (S7.trans S8))
  have w1 := wo_of (ne_of_none hp n1).symm (S48 _ _ (S4 _ _ (S3 _ _ (S2 _ _ e1))))
  have w2 := wo_of (ne_of_none p1 n2).symm (S48 _ _ (S4 _ _ (S3 _ _ e2)))
  have w3 := wo_of (ne_of_none p2 n3).symm (S48 _ _ (S4 _ _ e3))
  have w4 := wo_of (ne_of_none p3 n4).symm (S48 _ _ e4)
  have w5 := wo_of (ne_of_none p4 n5).symm (S8 _ _ (S7 _ _ (S6 _ _ e5)))
  have w6 := wo_of (ne_of_none p5 n6).symm (S8 _ _ (S7 _ _ e6))
  have w7 := wo_of (ne_of_none p6 n7).symm (S8 _ _ e7)
  have w8 := wo_of (ne_of_none p7 n8).symm e8
  have nLp : L ≠ p := (ne_of_none p8 nL).symm
  generalize hxs : ([V.non, .bl true, .bl false, .int (0 - 1), .int (10 ^ (29 : Int).toNat), .str "", .str "no", .str "a b", .ref a1, .ref a2,
    .ref a3, .ref a4, .ref a5, .ref a6, .ref a8] : List V) = xs
  generalize qL : upd H8 L (.lst xs) = HL
  have SL : Same H8 HL := qL ▸ Same.laid nL
  have eL : HL L = some (.lst xs) := qL ▸ upd_same
  have lxs : xs.length = 15 := by rw [← hxs]; rfl
  have key : ∀ v ∈ xs, GoodM K 3 (wo HL p) v := by
    have key8 : ∀ v ∈ xs, GoodM K 3 (wo H8 p) v := by
      rw [← hxs]
      simp only [List.forall_mem_cons]
      refine ⟨gd_non, gd_bl _, gd_bl _, gd_int _ (by decide +kernel), gd_int _ (by decide +kernel), gd_str _ (by decide +kernel),
        gd_str _ (by decide +kernel), gd_str _ (by decide +kernel), ?_, ?_, ?_, ?_, ?_, ?_, ?_, fun _ z => nomatch z⟩
      · exact .lst w1 .nil (by decide) (by decide) (by decide)
      · exact .lst w2 (.cons shw_a .nil) (by decide) (by decide) (by decide)
      · exact gd_tup w3 (.cons shw_a .nil) (by decide) (by decide)
      · exact gd_tup w4 .nil (by decide) (by decide)
      · exact .dct w5 (.inl rfl) (by decide)
      · exact .dct w6 (.inr rfl) (by decide)
      · exact .lst w8 (.cons (.lst (wo_of (ne_of_none e7 n8) w7) (.cons shw_1 .nil)) .nil) (by decide) (by decide) (by show 1 ≤ 10; decide)
    exact fun v hv => (key8 v hv).keep (Pw.Same.but SL)
  have S0L : Same H HL := S1.trans (S2.trans (S3.trans (S4.trans (S48.trans SL))))
  refine ⟨_, rfl, _, rfl, p, 15, n, rfl, hb.keep S0L, by omega, by decide, by decide, fun i H' i0 i1 hb2 S' => ?_⟩
  obtain ⟨j, rfl⟩ := Int.eq_ofNat_of_zero_le i0
  have hj : j < xs.length := by omega
  exact ⟨L, xs, (j : Int), xs[j], rfl, rfl, SqL.of (S'.at nLp eL), atI_nat (by simp [hj]), k _ H' ((key _ (List.getElem_mem hj)).keep S') hb2 (But.trans (Pw.Same.but S0L) S')⟩

theorem upd_id {H : Hp} {a : Addr} {o : HO} (e : H a = some o) : upd H a o = H := by
  funext b
  by_cases hb : b = a
  · rw [hb, upd_same, e]
  · rw [upd_ne hb]
theorem snoc {K : PySem.W.Frag} {H : Hp} {v : V} {e m : Nat} {t : Str} (sv : Shw K H v e m t) : ∀ {xs : List V} {d n : Nat} {ts : List Str},
    ShwL K H xs d n ts → ∃ d' n' ts', ShwL K H (xs ++ [v]) d' n' ts' ∧ d' ≤ max d e ∧ n' ≤ n + m + 2
  | _, _, _, _, .nil => ⟨_, _, _, .cons sv .nil, by omega, by omega⟩
  | _, _, _, _, .cons h hs => by
    obtain ⟨d', n', ts', s, h1, h2⟩ := snoc sv hs
    exact ⟨_, _, _, .cons h s, by omega, by omega⟩
def spVery (K : PySem.W.Frag) : Sp := fun vs H Q _ => ∃ x, vs = [x, x] ∧ Good K H x ∧ Q (.bl true) H
theorem scVery : FnScope ["_law_gained", "_law_thing", "_law_same"] ["_law_gained", "_law_thing"] (defScope sVery) :=
  ⟨rfl, rfl, rfl, by decide +kernel, rfl, by decide +kernel, by decide +kernel⟩
theorem d_very (Z : Txt mg) (A : At K mg "_law_very" sVery) : DefG P w K mg base "_law_very" 2 ["_law_gained", "_law_thing"] (spVery K) := by
  refine mkDefG A scVery (fun _ _ _ _ _ _ us hl => match us, hl with | [_, _], _ => rfl) (fun vs H Q E ⟨x, e, _⟩ => by rw [e]; rfl)
    (fun f cdv A out s H vs Q E gd hr h => ?_)
  obtain ⟨x, rfl, g, k⟩ := h
  have hu := hr.units
  have hu1 := hu_of hr
  refine' ⟨_, pss_cons ?s1 (pss_cons ?s2 (pss_cons ?s3 (pss_cons ?s4 (pss_cons ?s5 (pss_cons ?s6 (pss_one ?s7)))))), ?rd⟩
  case s1 =>
    exact ps_if (pt_cmpR op_ne (pe_callB (call_repr gd hu) (by rfl) Z.repr PyProof.Rows.boot_repr (pa_cons (pv 0) pa_nil))
      (pe_callB (call_repr gd hu) (by rfl) Z.repr PyProof.Rows.boot_repr (pa_cons (pv 1) pa_nil)) (nomark _)) (pss_one (ps_ret pe_bl)) pss_nil
  case s2 =>
    exact ps_if (pt_val (pe_isT Z.isinstance (by rfl) (pv 1) (by rfl) Z.dict (Tn := "dict") (by decide +kernel)))
      (pss_cons (ps_dput hu1 (pv 1) pe_str pe_int rfl) (pss_cons (ps_set (i := 2) scVery.nd rfl (.inl rfl)
        (pe_cmpR op_eq (pe_callB (call_repr gd hu) (by rfl) Z.repr PyProof.Rows.boot_repr (pa_cons (pv 0) pa_nil))
          (pe_callB (call_repr gd hu) (by rfl) Z.repr PyProof.Rows.boot_repr (pa_cons (pv 1) pa_nil)) (nomark _)))
        (pss_cons (ps_expr (pe_dpop1 (pv 1) pe_str ⟨rfl, rfl, rfl, rfl⟩)) (pss_one (ps_ret (pv 2)))))) pss_nil
  case s3 =>
    exact ps_if (pt_not (pt_val (pe_isT Z.isinstance (by rfl) (pv 1) (by rfl) Z.list (Tn := "list") (by decide +kernel)))) (pss_one (ps_ret pe_bl)) pss_nil
  case s4 =>
    exact ps_expr (pe_bm PySem.F.plainAttrs_list PySem.F.slot_list_append PySem.F.type_list_append mt_append (pv 1) (pa_cons pe_str pa_nil))
  case s5 =>
    exact ps_set (i := 2) scVery.nd rfl (.inl rfl) (pe_cmpR op_eq (pe_callB (call_repr gd hu) (by rfl) Z.repr PyProof.Rows.boot_repr (pa_cons (pv 0) pa_nil))
      (pe_callB (call_repr gd hu) (by rfl) Z.repr PyProof.Rows.boot_repr (pa_cons (pv 1) pa_nil)) (nomark _))
  case s6 =>
    exact ps_expr (pe_bm0 PySem.F.plainAttrs_list PySem.F.slot_list_pop PySem.F.type_list_pop mt_pop (pv 1))
  case s7 =>
    exact ps_ret (pv 2)
  obtain ⟨d, n, t, sh, h0, h1, h2⟩ := g.shw
  have hn : n ≤ sizeLine := by rw [sizeLine_eq]; omega
  refine ⟨_, rfl, x, d, n, t, rfl, sh, h0, hn, by omega, _, rfl, x, d, n, t, rfl, sh, h0, hn, by omega, rfl, _, rfl, ?_⟩
  have ne : (!decide (V.str t = V.str t)) = false := by simp
  rw [ne]
  refine iteF ?_
  cases g with
  | flat ty hd hl sh h0 h1 h2 =>
    refine ⟨_, rfl, x, .ty "dict", _, .type "dict", _, rfl, .ty _, .base ty.q, kit_ty hd, _, rfl, ?_⟩
    refine iteF ?_
    refine ⟨_, rfl, x, .ty "list", _, .type "list", _, rfl, .ty _, .base ty.q, kit_ty hl, _, rfl, ?_⟩
    exact iteT k
  | @lst a xs d n ts e shl h1 h2 h3 =>
    have ty : Ty K H (.ref a) (.type "list") := .lst e
    refine ⟨_, rfl, .ref a, .ty "dict", _, .type "dict", _, rfl, .ty _, .base ty.q, kit_ty (r := false) (by decide +kernel), _, rfl, ?_⟩
    refine iteF ?_
    refine ⟨_, rfl, .ref a, .ty "list", _, .type "list", _, rfl, .ty _, .base ty.q, kit_ty (r := true) (by decide +kernel), _, rfl, ?_⟩
    refine iteF ?_
    have l1 : xs.length < sizeLine := by rw [sizeLine_eq]; omega
    refine ⟨_, rfl, .inl ⟨rfl, _, SqL.of e⟩, a, xs, _, rfl, rfl, e, l1, ?_⟩
    have S1 : Same (wo H a) (upd H a (.lst (xs ++ [V.str "late"]))) := fun b o q => by
      obtain ⟨z, q'⟩ := wo_at q
      exact (upd_ne z).trans q'
    obtain ⟨d2, n2, ts2, sh2, g1, g2⟩ := snoc (Shw.str "late" 6 (by decide +kernel)) (ShwL.same S1 shl)
    have sh3 : Shw K (upd H a (.lst (xs ++ [V.str "late"]))) (.ref a) _ _ _ := .lst upd_same sh2
    have hn3 : n2 + 2 ≤ sizeLine := by rw [sizeLine_eq]; omega
    have hd3 : d2 + 1 ≤ 60 := by omega
    refine ⟨_, rfl, .ref a, _, _, _, rfl, sh3, fun _ _ => Nat.succ_pos _, hn3, hd3, _, rfl, .ref a, _, _, _, rfl, sh3, fun _ _ => Nat.succ_pos _, hn3, hd3, rfl, ?_⟩
    refine ⟨_, rfl, .inl ⟨rfl, _, SqL.of upd_same⟩, a, xs ++ [V.str "late"], V.str "late", rfl, rfl, upd_same, by simp, ?_⟩
    refine ⟨_, rfl, ?_⟩
    rw [upd_upd, List.dropLast_concat, upd_id e, decide_eq_true rfl]
    exact k
  | @dct a kvs e hk _ =>
    have ty : Ty K H (.ref a) (.type "dict") := .dct e
    refine ⟨_, rfl, .ref a, .ty "dict", _, .type "dict", _, rfl, .ty _, .base ty.q, kit_ty (r := true) (by decide +kernel), _, rfl, ?_⟩
    refine iteT ?_
    have l1 : kvs.length < sizeLine := by
      rw [sizeLine_eq]
      rcases hk with rfl | rfl <;> simp
    refine ⟨_, rfl, a, _, rfl, DPut.k (k := Sum.inr "late") e l1, ?_⟩
    have fin : ∀ kvs2, putK kvs (Sum.inr "late" : Key) (V.int 1) = kvs2 → dropK kvs2 (Sum.inr "late" : Key) = kvs → valV kvs2 (Sum.inr "late" : Key) = some (V.int 1) →
        ∃ d n t, Shw K (upd H a (.dK kvs2)) (.ref a) d n t ∧ 0 < d ∧ n ≤ sizeLine ∧ d ≤ 60 := by
      rcases hk with rfl | rfl
      · rintro kvs2 rfl _ _
        exact ⟨_, _, _, .dct upd_same (.cons (.str "late" 6 (by decide +kernel)) .nil) (.cons (.int 1 (by decide +kernel)) .nil), Nat.succ_pos _, by rw [sizeLine_eq]; decide, by decide⟩
      · rintro kvs2 rfl _ _
        exact ⟨_, _, _, .dct upd_same (.cons (.str "a" 3 (by decide +kernel)) (.cons (.str "late" 6 (by decide +kernel)) .nil)) (.cons (.int 1 (by decide +kernel)) (.cons (.int 1 (by decide +kernel)) .nil)),
          Nat.succ_pos _, by rw [sizeLine_eq]; decide, by decide⟩
    have hp : dropK (putK kvs (Sum.inr "late" : Key) (V.int 1)) (Sum.inr "late" : Key) = kvs := by rcases hk with rfl | rfl <;> rfl
    have hv : valV (putK kvs (Sum.inr "late" : Key) (V.int 1)) (Sum.inr "late" : Key) = some (V.int 1) := by rcases hk with rfl | rfl <;> rfl
    obtain ⟨d2, n2, t2, sh2, c1, c2, c3⟩ := fin _ rfl hp hv
    refine ⟨_, rfl, .ref a, d2, n2, t2, rfl, sh2, fun _ _ => c1, c2, c3, _, rfl, .ref a, d2, n2, t2, rfl, sh2, fun _ _ => c1, c2, c3, rfl, ?_⟩
    refine ⟨_, rfl, a, rfl, .inl ⟨_, .inl upd_same⟩, _, Sum.inr "late", V.int 1, upd_same, rfl, hv, ?_⟩
    refine ⟨_, rfl, ?_⟩
    rw [upd_upd, hp, upd_id e, decide_eq_true rfl]
    exact k
end
end K3

/-! Fields, families raised and taken, making by names. -/
namespace K3
open PySem PySem.Spec PyProof.Rows L2 Pw
abbrev sFields : Stmt := top 56
abbrev sNames : Stmt := top 57
abbrev sTaken : Stmt := top 58
section
variable {P : Program} {w : World} {K : PySem.W.Frag} {mg : Str → Option Value} {base : Heap} {C : Nat → Addr}
theorem nFs (T : Tab P w K mg base C) : ∀ p, p < 40 → PySem.W.findIn K (.ref (C p)) (fldOf p) = some none := by
  intro p hp
  match p, hp with
  | 0, _ => exact T.m0.nF
  | 1, _ => exact T.m1.nF
  | 2, _ => exact T.m2.nF
  | 3, _ => exact T.m3.nF
  | 4, _ => exact T.m4.nF
  | 5, _ => exact T.m5.nF
  | 6, _ => exact T.m6.nF
  | 7, _ => exact T.m7.nF
  | 8, _ => exact T.m8.nF
  | 9, _ => exact T.m9.nF
  | 10, _ => exact T.m10.nF
  | 11, _ => exact T.m11.nF
  | 12, _ => exact T.m12.nF
  | 13, _ => exact T.m13.nF
  | 14, _ => exact T.m14.nF
  | 15, _ => exact T.m15.nF
  | 16, _ => exact T.m16.nF
  | 17, _ => exact T.m17.nF
  | 18, _ => exact T.m18.nF
  | 19, _ => exact T.m19.nF
  | 20, _ => exact T.m20.nF
  | 21, _ => exact T.m21.nF
  | 22, _ => exact T.m22.nF
  | 23, _ => exact T.m23.nF
  | 24, _ => exact T.m24.nF
  | 25, _ => exact T.m25.nF
  | 26, _ => exact T.m26.nF
  | 27, _ => exact T.m27.nF
  | 28, _ => exact T.m28.nF
  | 29, _ => exact T.m29.nF
  | 30, _ => exact T.m30.nF
  | 31, _ => exact T.m31.nF
  | 32, _ => exact T.m32.nF
  | 33, _ => exact T.m33.nF
  | 34, _ => exact T.m34.nF
  | 35, _ => exact T.m35.nF
  | 36, _ => exact T.m36.nF
  | 37, _ => exact T.m37.nF
  | 38, _ => exact T.m38.nF
  | 39, _ => exact T.m39.nF
  | n + 40, h => exact absurd h (by omega)
theorem xf_of {D : Addr} (c : ExcC K D) : XfC K D := ⟨c.hg, c.hk, c.hs, c.hd⟩
def spFields (K : PySem.W.Frag) (C : Nat → Addr) : Sp := fun vs H Q _ => ∃ (p : Nat) (x v : V), vs = [.int p, x, v] ∧ p < 40 ∧
  Err K C H p (fldOf p) v x ∧ Good K H v ∧ Q (.bl true) H
theorem scFields : FnScope ["_law_place", "_law_e", "_law_one"] ["_law_place", "_law_e", "_law_one"] (defScope sFields) :=
  ⟨rfl, rfl, rfl, by decide +kernel, rfl, by decide +kernel, by decide +kernel⟩
theorem d_fields (T : Tab P w K mg base C) (A : At K mg "_law_fields_right" sFields)
    (dv : DefG P w K mg base "_law_very" 2 ["_law_gained", "_law_thing"] (spVery K)) :
    DefG P w K mg base "_law_fields_right" 3 ["_law_place", "_law_e", "_law_one"] (spFields K C) := by
  refine mkDefG A scFields (fun _ _ _ _ _ _ us hl => match us, hl with | [_, _, _], _ => rfl) (fun vs H Q E ⟨p, x, v, e, _⟩ => by rw [e]; rfl)
    (fun f cdv A out s H vs Q E gd hr h => ?_)
  obtain ⟨p, x, v, rfl, hp, ⟨a, dx, t, rfl, ea, ed⟩, g, k⟩ := h
  refine ⟨_, pss_cons (ps_if (pt_cmpR op_eq (pv 0) pe_int (nomark _)) (pss_one (ps_ret (pe_dG dv gd hr (by decide) (by rfl) (pa_cons (pe_qget (pv 1)) (pa_cons (pv 2) pa_nil))))) pss_nil)
    (pss_cons (ps_if (pt_cmpR op_eq (pv 0) pe_int (nomark _)) (pss_one (ps_ret (pe_dG dv gd hr (by decide) (by rfl) (pa_cons (pe_qget (pv 1)) (pa_cons (pv 2) pa_nil))))) pss_nil)
    (pss_one (ps_ret (pe_dG dv gd hr (by decide) (by rfl) (pa_cons (pe_qget (pv 1)) (pa_cons (pv 2) pa_nil)))))), ?_⟩
  have hno := nFs T p hp
  have hx := xf_of (T.exc p (by omega))
  have dec : ∀ n : Nat, decide (V.int (p : Int) = V.int (n : Int)) = decide (p = n) := fun n => by
    by_cases z : p = n
    · subst z; simp
    · rw [decide_eq_false z]
      exact decide_eq_false fun q => z (Int.ofNat.inj (V.int.inj q))
  refine ⟨_, rfl, rfl, _, rfl, ?_⟩
  rw [show (V.int 28 : V) = V.int ((28 : Nat) : Int) from rfl, dec]
  refine ite2 (fun z => ?_) (fun z => ?_)
  · obtain rfl := of_decide_eq_true z
    exact ⟨_, rfl, a, C 28, dx, t, _, v, rfl, hx, hno, ea, ed, rfl, _, rfl, v, rfl, g, k⟩
  · have z1 : p ≠ 28 := fun q => z (decide_eq_true q)
    refine ⟨_, rfl, rfl, _, rfl, ?_⟩
    rw [show (V.int 29 : V) = V.int ((29 : Nat) : Int) from rfl, dec]
    refine ite2 (fun z => ?_) (fun z => ?_)
    · obtain rfl := of_decide_eq_true z
      exact ⟨_, rfl, a, C 29, dx, t, _, v, rfl, hx, hno, ea, ed, rfl, _, rfl, v, rfl, g, k⟩
    · have z2 : p ≠ 29 := fun q => z (decide_eq_true q)
      have ef : fldOf p = "found" := by
        unfold fldOf
        rw [if_neg z1, if_neg z2]
      rw [ef] at hno ed
      exact ⟨_, rfl, a, C p, dx, t, _, v, rfl, hx, hno, ea, ed, rfl, _, rfl, v, rfl, g, k⟩

/-- the same, K told -/
theorem pe_isCK {X : Cx} {K : PySem.W.Frag} {i : Nat} {D : Addr} {x c : Str} {p p1 p2 p3 : Pos} (hK : X.K = K) (hm : X.mg "isinstance" = none) (hg : Gl X "isinstance")
    (hx : PE X (.Name x p2) (tVar i)) (hgc : Gl X c) (hc : X.mg c = some (.ref D)) (hd : (c == ("__debug__" : Str)) = false := by decide)
    (he : starEach [.Name x p2, .Name c p3] X.env = (false, eval (.Name x p2) X.env) :: starEach [.Name c p3] X.env := by rfl)
    (he2 : starEach [.Name c p3] X.env = (false, eval (.Name c p3) X.env) :: starEach [] X.env := by rfl)
    (hpl : (backTo p (starEach [.Name c p3] X.env)).any (·.1) = false := by rfl) :
    PE X (.Call (.Name "isinstance" p1) [.Name x p2, .Name c p3] [] p)
      (tCB (rIsE2 K) (tCons (tVar i) (tCons (tC (.ref D)) tNil))) := by
  subst hK
  exact pe_isC hm hg hx hgc hc hd he he2 hpl
def spTaken (K : PySem.W.Frag) (C : Nat → Addr) : Sp := fun vs H Q _ => ∃ (p : Nat) (x : V), vs = [x, .int p] ∧ p < 40 ∧ IsE K C H p x ∧
  ∀ H', Same H H' → Q (.bl true) H'
theorem scTaken : FnScope ["_law_e", "_law_place"] ["_law_e", "_law_place"] (defScope sTaken) := ⟨rfl, rfl, rfl, by decide +kernel, rfl, by decide +kernel, by decide +kernel⟩
theorem delH_back {H H1 : Hp} {a : Addr} (S : Same H H1) (n : H a = none) : Same H (delH H1 a) := fun b o e =>
  (delH_ne (ne_of_none e n)).trans (S b o e)
theorem raised_same {H : Hp} {t0 a t2 : Addr} {o1 o2 o3 o4 : HO} (n0 : H t0 = none) (na : H a = none) (h0a : t0 ≠ a) (n2 : upd (upd H t0 o1) a o2 t2 = none) :
    Same H (delH (upd (upd (upd (upd H t0 o1) a o2) t2 o3) a o4) a) := by
  have S0 : Same H (upd H t0 o1) := Same.laid n0
  have na' : upd H t0 o1 a = none := (upd_ne h0a.symm).trans na
  have S1 := S0.trans (Same.laid (o := o2) na')
  intro b o e
  have b1 : b ≠ a := ne_of_none e na
  have b2 : b ≠ t2 := ne_of_none (S1 _ _ e) n2
  rw [delH_ne b1, upd_ne b1, upd_ne b2]
  exact S1 _ _ e
theorem famt : ∀ p, p < 40 → (p < 30 → tab p 40 = true) ∧ (¬ p < 30 → p < 36 → tab p 41 = true) ∧ (¬ p < 36 → tab p 42 = true) := by decide
theorem exm_fam (T : Tab P w K mg base C) : PySem.W.exmOne K (.ref (C 40)) (.ref (C 40)) = some true ∧
    PySem.W.exmOne K (.ref (C 41)) (.ref (C 40)) = some false ∧ PySem.W.exmOne K (.ref (C 41)) (.ref (C 41)) = some true ∧
    PySem.W.exmOne K (.ref (C 42)) (.ref (C 40)) = some false ∧ PySem.W.exmOne K (.ref (C 42)) (.ref (C 41)) = some false ∧
    PySem.W.exmOne K (.ref (C 42)) (.ref (C 42)) = some true := by
  have l40 := T.top 40 (by decide) (by decide)
  have l41 := T.top 41 (by decide) (by decide)
  have l42 := T.top 42 (by decide) (by decide)
  have b : ∀ p, (tailOf p).contains (.type "BaseException") = true := fun p => by
    unfold tailOf
    split
    · decide +kernel
    · split <;> decide +kernel
  have ne : ∀ p, p < 43 → ∀ q, q < 43 → p ≠ q → C p ≠ C q := fun p hp q hq h z => h (T.inj p hp q hq z)
  have no : ∀ p, p < 43 → ∀ q, q < 43 → p ≠ q → (Value.ref (C p) :: tailOf p).contains (.ref (C q)) = false := fun p hp q hq h => by
    have e1 : (Value.ref (C q) == Value.ref (C p)) = false := beq_eq_false_iff_ne.mpr fun z => ne p hp q hq h (Value.ref.inj z).symm
    rw [List.contains_cons, e1, Bool.false_or]
    unfold tailOf
    split
    · rfl
    · split <;> rfl
  refine ⟨l40.exs (b 40), ?_, l41.exs (b 41), ?_, ?_, l42.exs (b 42)⟩
  · rw [l41.exm l40 (b 40) (ne _ (by decide) _ (by decide) (by decide)), no 41 (by decide) 40 (by decide) (by decide)]
  · rw [l42.exm l40 (b 40) (ne _ (by decide) _ (by decide) (by decide)), no 42 (by decide) 40 (by decide) (by decide)]
  · rw [l42.exm l41 (b 41) (ne _ (by decide) _ (by decide) (by decide)), no 42 (by decide) 41 (by decide) (by decide)]
theorem d_taken (Z : Txt mg) (T : Tab P w K mg base C) (A : At K mg "_law_taken" sTaken) :
    Def P w K mg base "_law_taken" 3 ["_law_e", "_law_place"] (spTaken K C) := by
  obtain ⟨f40, fd40, i40, t40, F40, b40⟩ := T.p40.fn
  obtain ⟨f41, fd41, i41, t41, F41, b41⟩ := T.p41.fn
  obtain ⟨f42, fd42, i42, t42, F42, b42⟩ := T.p42.fn
  obtain ⟨x1, x2, x3, x4, x5, x6⟩ := exm_fam T
  refine mkDef A scTaken (fun _ _ _ _ _ _ us hl => match us, hl with | [_, _], _ => rfl) (fun vs H Q E ⟨p, x, e, _⟩ => by rw [e]; rfl)
    (fun f cdv A out s H vs Q E hr h => ?_)
  obtain ⟨p, x, rfl, hp, hx, k⟩ := h
  refine' ⟨_, pss_one (ps_try_many rfl rfl takes_none5 (fun W pn xe tk _ => pss_cons (ps_if (pt_cmpR op_lt (pv 1) pe_int (nomark _)) (pss_one (ps_raise rfl tk
      (pmk_q (H0 := H) (K0 := K) rfl rfl rfl (pe_mkqF T.p40.oex i40 t40 F40 hr b40 .nil pass0 (by rfl) T.g40 (pa_cons pe_str pa_nil))))) pss_nil)
    (pss_cons (ps_if (pt_cmpR op_lt (pv 1) pe_int (nomark _)) (pss_one (ps_raise rfl tk
      (pmk_q (H0 := H) (K0 := K) rfl rfl rfl (pe_mkqF T.p41.oex i41 t41 F41 hr b41 .nil pass0 (by rfl) T.g41 (pa_cons pe_str pa_nil))))) pss_nil)
    (pss_one (ps_raise rfl tk (pmk_q (H0 := H) (K0 := K) rfl rfl rfl (pe_mkqF T.p42.oex i42 t42 F42 hr b42 .nil pass0 (by rfl) T.g42 (pa_cons pe_str pa_nil)))))))
    (.cons ⟨rfl, by decide, .inl T.g40⟩ (fun a oe cls d pn _ _ => pss_one (ps_ret (pe_isCK (K := K) rfl Z.isinstance (by rfl) (pv 0) (by rfl) T.g40)))
      (.cons ⟨rfl, by decide, .inl T.g41⟩ (fun a oe cls d pn _ _ => pss_one (ps_ret (pe_isCK (K := K) rfl Z.isinstance (by rfl) (pv 0) (by rfl) T.g41)))
      (.cons ⟨rfl, by decide, .inl T.g42⟩ (fun a oe cls d pn _ _ => pss_one (ps_ret (pe_isCK (K := K) rfl Z.isinstance (by rfl) (pv 0) (by rfl) T.g42))) .nil)))), ?rd⟩
  case rd =>
    have fin : ∀ q, q < 43 → tab p q = true → ∀ H', Same H H' → PySem.W.kitOne K (.ref (C p)) (.ref (C q)) = some true ∧ TyE K H' x (.ref (C p)) :=
      fun q hq e H' S => ⟨e ▸ T.kit hx.1 hq, (hx.keep S).ty T⟩
    refine ⟨_, rfl, (p : Int), 30, rfl, rfl, _, rfl, ?_⟩
    refine ite2 (fun z => ?_) (fun z => ?_)
    · have z' : p < 30 := by have := of_decide_eq_true z; omega
      refine ⟨by show 1 ≤ 1000; decide, fun t0 a n0 na h0a => ⟨a, C 40, t0, "one", rfl, T.p40.oex, T.p40.hB, upd_same, fun t2 n2 ne => ⟨rfl, ?_⟩⟩⟩
      refine ⟨a, C 40, t2, rfl, fr0_none na, T.p40.oex.exC, T.p40.oex.tyC, .inl ⟨upd_same, ?_⟩⟩
      refine ⟨true, x1, fun _ a1 _ => ?_, fun z => nomatch z⟩
      have S := raised_same n0 na h0a n2 (o3 := .tup [.str "one"]) (o4 := exq a (C 40) none t2)
      obtain ⟨kt, ty⟩ := fin 40 (by decide) ((famt p hp).1 z') _ S
      exact ⟨_, rfl, x, .ref (C 40), .ref (C p), .ref (C 40), true, rfl, .own _, ty, kt, k _ S⟩
    · have z1 : ¬ p < 30 := fun q => z (decide_eq_true (by omega))
      refine ⟨_, rfl, (p : Int), 36, rfl, rfl, _, rfl, ?_⟩
      refine ite2 (fun z => ?_) (fun z => ?_)
      · have z' : p < 36 := by have := of_decide_eq_true z; omega
        refine ⟨by show 1 ≤ 1000; decide, fun t0 a n0 na h0a => ⟨a, C 41, t0, "one", rfl, T.p41.oex, T.p41.hB, upd_same, fun t2 n2 ne => ⟨rfl, ?_⟩⟩⟩
        refine ⟨a, C 41, t2, rfl, fr0_none na, T.p41.oex.exC, T.p41.oex.tyC, .inl ⟨upd_same, ?_⟩⟩
        refine ⟨false, x2, (fun z => nomatch z), fun _ => ⟨true, x3, fun _ a1 _ => ?_, fun z => nomatch z⟩⟩
        have S := raised_same n0 na h0a n2 (o3 := .tup [.str "one"]) (o4 := exq a (C 41) none t2)
        obtain ⟨kt, ty⟩ := fin 41 (by decide) ((famt p hp).2.1 z1 z') _ S
        exact ⟨_, rfl, x, .ref (C 41), .ref (C p), .ref (C 41), true, rfl, .own _, ty, kt, k _ S⟩
      · have z2 : ¬ p < 36 := fun q => z (decide_eq_true (by omega))
        refine ⟨by show 1 ≤ 1000; decide, fun t0 a n0 na h0a => ⟨a, C 42, t0, "one", rfl, T.p42.oex, T.p42.hB, upd_same, fun t2 n2 ne => ⟨rfl, ?_⟩⟩⟩
        refine ⟨a, C 42, t2, rfl, fr0_none na, T.p42.oex.exC, T.p42.oex.tyC, .inl ⟨upd_same, ?_⟩⟩
        refine ⟨false, x4, (fun z => nomatch z), fun _ => ⟨false, x5, (fun z => nomatch z), fun _ => ⟨true, x6, fun _ a1 _ => ?_, fun z => nomatch z⟩⟩⟩
        have S := raised_same n0 na h0a n2 (o3 := .tup [.str "one"]) (o4 := exq a (C 42) none t2)
        obtain ⟨kt, ty⟩ := fin 42 (by decide) ((famt p hp).2.2 z2) _ S
        exact ⟨_, rfl, x, .ref (C 42), .ref (C p), .ref (C 42), true, rfl, .own _, ty, kt, k _ S⟩
end
end K3

/-! Made by the names of their fields. -/
namespace K3
open PySem PySem.Spec PyProof.Rows L2 Pw
section
variable {P : Program} {w : World} {K : PySem.W.Frag} {mg : Str → Option Value} {base : Heap} {C : Nat → Addr}
theorem pe_qgetK {X : Cx} {K : PySem.W.Frag} {e : Expr} {f : Str} {pos : Pos} {te : TE} (hK : X.K = K) (he : PE X e te)
    (hb : attributeBase e f X.env (eval e X.env) = eval e X.env := by rfl) :
    PE X (.Attribute e f pos) (tQget K f te) := by
  subst hK
  exact pe_qget he hb
def spByN (K : PySem.W.Frag) : Sp := fun vs H Q _ => ∃ v, vs = [v] ∧ Good K H v ∧ ∀ H', Same H H' → Q (.bl true) H'
theorem scByN : FnScope ["_law_one", "_law_made", "_law_e"] ["_law_one"] (defScope sNames) := ⟨rfl, rfl, rfl, by decide +kernel, rfl, by decide +kernel, by decide +kernel⟩
theorem d_byn (T : Tab P w K mg base C) (A : At K mg "_law_by_names_right" sNames)
    (dv : DefG P w K mg base "_law_very" 2 ["_law_gained", "_law_thing"] (spVery K)) :
    DefG P w K mg base "_law_by_names_right" 4 ["_law_one"] (spByN K) := by
  obtain ⟨f2, fd2, i2, t2, F2, b2, kb2⟩ := T.m2.fn
  obtain ⟨f0, fd0, i0, t0, F0, b0, kb0⟩ := T.m0.fn
  obtain ⟨f25, fd25, i25, t25, F25, b25, kb25⟩ := T.m25.fn
  obtain ⟨f30, fd30, i30, t30, F30, b30, kb30⟩ := T.m30.fn
  obtain ⟨f36, fd36, i36, t36, F36, b36, kb36⟩ := T.m36.fn
  obtain ⟨f28, fd28, i28, t28, F28, b28, kb28⟩ := T.m28.fn
  obtain ⟨f29, fd29, i29, t29, F29, b29, kb29⟩ := T.m29.fn
  refine mkDefG A scByN (fun _ _ _ _ _ _ us hl => match us, hl with | [_], _ => rfl) (fun vs H Q E ⟨v, e, _⟩ => by rw [e]; rfl)
    (fun f cdv A out s H vs Q E gd hr h => ?_)
  obtain ⟨v, rfl, g, k⟩ := h
  have hu := hr.units
  have hr3 : Room 3 _ := hr
  refine' ⟨_, pss_cons ?s0 (pss_cons ?s1 (pss_one ?s2)), ?rd⟩
  case s0 =>
    exact ps_set (i := 1) scByN.nd rfl (.inl rfl) (pe_lst (pa_cons (pe_mkqK T.m2.oex i2 t2 F2 hr3 kb2 pass0 (by rfl) T.m2.mgC (pv 0)) (pa_cons (pe_mkqK T.m0.oex i0 t0 F0 hr3 kb0 pass0 (by rfl) T.m0.mgC (pv 0)) (pa_cons (pe_mkqK T.m25.oex i25 t25 F25 hr3 kb25 pass0 (by rfl) T.m25.mgC (pv 0)) (pa_cons (pe_mkqK T.m30.oex i30 t30 F30 hr3 kb30 pass0 (by rfl) T.m30.mgC (pv 0)) (pa_cons (pe_mkqK T.m36.oex i36 t36 F36 hr3 kb36 pass0 (by rfl) T.m36.mgC (pv 0)) pa_nil))))))
  case s1 =>
    exact ps_if (pt_cmpR (op_neD hu) (pe_lc (own := [("_law_e", 2)]) (g := gName 2) rfl scByN.nd (pi_list (pv 1))
        (blkOk_by (own := [("_law_e", 2)]) (N := ["_law_one", "_law_made", "_law_e"]) (sc := defScope sNames) (by decide +kernel))
        (fun _ _ _ _ _ => pg_name (i := 2) scByN.nd rfl (Or.inl rfl))
        (fun _ _ _ _ _ => pts_one (pt_not (pt_val (pe_dG dv gd hr (by decide) (by rfl) (pa_cons (pe_qgetK (K := K) rfl (pv 2)) (pa_cons (pv 0) pa_nil))))))
        (fun _ _ _ _ _ => pe_int)) (pe_lst pa_nil) (nomark _)) (pss_one (ps_ret pe_bl)) pss_nil
  case s2 =>
    exact ps_ret (pe_and (pe_dG dv gd hr (by decide) (by rfl) (pa_cons (pe_qget (pe_mkqK T.m28.oex i28 t28 F28 hr3 kb28 pass0 (by rfl) T.m28.mgC (pv 0))) (pa_cons (pv 0) pa_nil)))
      (pe_one (pe_dG dv gd hr (by decide) (by rfl) (pa_cons (pe_qget (pe_mkqK T.m29.oex i29 t29 F29 hr3 kb29 pass0 (by rfl) T.m29.mgC (pv 0))) (pa_cons (pv 0) pa_nil)))))
  case rd =>
    refine ⟨_, rfl, v, rfl, fun t0 a2 u0 na2 w0 => ?_⟩
    refine ⟨a2, C 2, t0, v, rfl, T.m2.oex, T.m2.hB, upd_same, T.m2.nF, fun t2 dx n2 h2a nd hda hd2 => ⟨rfl, ?_⟩⟩
    obtain ⟨K2, hK, E2, s2⟩ := err_of (K := K) (C := C) (p := 2) (fl := "found") (tx := "this is no mark") (v := v) (ts := []) u0 na2 w0 n2 h2a nd hda hd2
    rw [hK]
    clear hK n2 nd
    refine ⟨_, rfl, v, rfl, fun t0 a0 u0 na0 w0 => ?_⟩
    refine ⟨a0, C 0, t0, v, rfl, T.m0.oex, T.m0.hB, upd_same, T.m0.nF, fun t2 dx n2 h2a nd hda hd2 => ⟨rfl, ?_⟩⟩
    obtain ⟨K0, hK, E0, s0⟩ := err_of (K := K) (C := C) (p := 0) (fl := "found") (tx := "this is no time that will do") (v := v) (ts := []) u0 na0 w0 n2 h2a nd hda hd2
    rw [hK]
    clear hK n2 nd
    refine ⟨_, rfl, v, rfl, fun t0 a25 u0 na25 w0 => ?_⟩
    refine ⟨a25, C 25, t0, v, rfl, T.m25.oex, T.m25.hB, upd_same, T.m25.nF, fun t2 dx n2 h2a nd hda hd2 => ⟨rfl, ?_⟩⟩
    obtain ⟨K25, hK, E25, s25⟩ := err_of (K := K) (C := C) (p := 25) (fl := "found") (tx := "this is unlike another one") (v := v) (ts := []) u0 na25 w0 n2 h2a nd hda hd2
    rw [hK]
    clear hK n2 nd
    refine ⟨_, rfl, v, rfl, fun t0 a30 u0 na30 w0 => ?_⟩
    refine ⟨a30, C 30, t0, v, rfl, T.m30.oex, T.m30.hB, upd_same, T.m30.nF, fun t2 dx n2 h2a nd hda hd2 => ⟨rfl, ?_⟩⟩
    obtain ⟨K30, hK, E30, s30⟩ := err_of (K := K) (C := C) (p := 30) (fl := "found") (tx := "there is no such point") (v := v) (ts := []) u0 na30 w0 n2 h2a nd hda hd2
    rw [hK]
    clear hK n2 nd
    refine ⟨_, rfl, v, rfl, fun t0 a36 u0 na36 w0 => ?_⟩
    refine ⟨a36, C 36, t0, v, rfl, T.m36.oex, T.m36.hB, upd_same, T.m36.nF, fun t2 dx n2 h2a nd hda hd2 => ⟨rfl, ?_⟩⟩
    obtain ⟨K36, hK, E36, s36⟩ := err_of (K := K) (C := C) (p := 36) (fl := "found") (tx := "a lock does not hold") (v := v) (ts := []) u0 na36 w0 n2 h2a nd hda hd2
    rw [hK]
    clear hK n2 nd
    refine ⟨by show 5 ≤ sizeLine; decide, fun L nL => ?_⟩
    generalize qL : upd K36 L (.lst [V.ref a2, V.ref a0, V.ref a25, V.ref a30, V.ref a36]) = G
    have SL : Same K36 G := qL ▸ Same.laid nL
    have eL : G L = some (.lst [V.ref a2, V.ref a0, V.ref a25, V.ref a30, V.ref a36]) := qL ▸ upd_same
    have T36 : Same K36 G := SL
    have T30 : Same K30 G := s36.trans T36
    have T25 : Same K25 G := s30.trans T30
    have T0 : Same K0 G := s25.trans T25
    have T2 : Same K2 G := s0.trans T0
    have TH : Same H G := s2.trans T2
    have all : ∀ x ∈ [V.ref a2, V.ref a0, V.ref a25, V.ref a30, V.ref a36], ∃ p, p < 40 ∧ fldOf p = "found" ∧ Err K C G p "found" v x := by
      simp only [List.forall_mem_cons]
      exact ⟨⟨2, by decide, rfl, E2.keep T2⟩, ⟨0, by decide, rfl, E0.keep T0⟩, ⟨25, by decide, rfl, E25.keep T25⟩, ⟨30, by decide, rfl, E30.keep T30⟩,
        ⟨36, by decide, rfl, E36.keep T36⟩, fun _ z => nomatch z⟩
    refine ⟨_, rfl, L, rfl, ⟨_, SqL.of eL⟩, fun Dl hD => ?_⟩
    refine lc_list (K := K) (a := L) (xs := [V.ref a2, V.ref a0, V.ref a25, V.ref a30, V.ref a36]) (fun i G3 => Same G G3 ∧ G3 Dl = some (.lst []))
      ⟨Same.laid hD, upd_same⟩ (fun i G3 _ ⟨S3, _⟩ => SqL.of (S3 _ _ eL)) ?_ ?_
    · rintro j x G3 hj ⟨S3, eD⟩
      refine ⟨rfl, ?_⟩
      obtain ⟨p, hp, ef, a, dx, t, rfl, ea, ed⟩ := all x (List.mem_of_getElem? hj)
      have nf := nFs T p hp
      rw [ef] at nf
      refine ⟨_, rfl, a, C p, dx, t, _, v, rfl, xf_of (T.exc p (by omega)), nf, S3 _ _ ea, S3 _ _ ed, rfl, _, rfl, v, rfl, g.keep (TH.trans S3), _, rfl, ?_⟩
      refine iteF ?_
      exact ⟨S3, eD⟩
    · rintro G3 ⟨S3, eD⟩
      refine ⟨by show 0 ≤ sizeLine; decide, fun q hq => ?_⟩
      refine ⟨.list [], .list [], .lst (xs := []) (SqL.of ((Same.laid hq) _ _ eD)) .nil, .lst (xs := []) (SqL.of upd_same) .nil, rfl, rfl, _, rfl, ?_⟩
      refine iteF ?_
      have S4 : Same H (upd G3 q (.lst [])) := TH.trans (S3.trans (Same.laid hq))
      generalize upd G3 q (.lst []) = G4 at S4
      refine ⟨_, rfl, v, rfl, fun t0 a28 u0 na28 w0 => ?_⟩
      refine ⟨a28, C 28, t0, v, rfl, T.m28.oex, T.m28.hB, upd_same, T.m28.nF, fun t2 dx n2 h2a nd hda hd2 => ⟨rfl, ?_⟩⟩
      obtain ⟨K28, hK, E28, s28⟩ := err_of (K := K) (C := C) (p := 28) (fl := "many") (tx := "these are too many") (v := v) (ts := []) u0 na28 w0 n2 h2a nd hda hd2
      rw [hK]
      clear hK n2 nd
      obtain ⟨a, dx, t, ea, e1, e2⟩ := E28
      cases ea
      refine ⟨a28, C 28, dx, t, _, v, rfl, xf_of (T.exc 28 (by decide)), T.m28.nF, e1, e2, rfl, _, rfl, v, rfl, g.keep (S4.trans s28), ?_⟩
      refine ⟨_, rfl, ?_⟩
      refine iteT ?_
      refine ⟨_, rfl, v, rfl, fun t0 a29 u0 na29 w0 => ?_⟩
      refine ⟨a29, C 29, t0, v, rfl, T.m29.oex, T.m29.hB, upd_same, T.m29.nF, fun t2 dx n2 h2a nd hda hd2 => ⟨rfl, ?_⟩⟩
      obtain ⟨K29, hK, E29, s29⟩ := err_of (K := K) (C := C) (p := 29) (fl := "at") (tx := "there is no row that will do") (v := v) (ts := []) u0 na29 w0 n2 h2a nd hda hd2
      rw [hK]
      clear hK n2 nd
      obtain ⟨a, dx, t, ea, e1, e2⟩ := E29
      cases ea
      refine ⟨a29, C 29, dx, t, _, v, rfl, xf_of (T.exc 29 (by decide)), T.m29.nF, e1, e2, rfl, _, rfl, v, rfl, g.keep ((S4.trans s28).trans s29), ?_⟩
      exact k _ ((S4.trans s28).trans s29)
end
end K3

/-! The law's right. -/
namespace K3
open PySem PySem.Spec PyProof.Rows L2 Pw
abbrev sRight : Stmt := top 59
abbrev sLaw : Stmt := top 60
theorem dp_bools {K : PySem.W.Frag} {H : Hp} : ∀ bs : List Bool, DpAll K H (bs.map V.bl) (bs.map .bool)
  | [] => .nil
  | b :: r => .cons (.bl b) (dp_bools r)
theorem lay_bools : ∀ bs : List Bool, PyData.canLayAll0 (bs.map .bool) = true
  | [] => by simp only [List.map_nil, PyData.canLayAll0]
  | b :: r => by simp only [List.map_cons, PyData.canLayAll0, PyData.canLay0, lay_bools r, Bool.and_self]
theorem deep_bools : ∀ bs : List Bool, PyData.depthAll (bs.map .bool) = 0
  | [] => by simp only [List.map_nil, PyData.depthAll]
  | b :: r => by simp only [List.map_cons, PyData.depthAll, PyData.depth, deep_bools r, Nat.max_self]
theorem shaped_bools (bs : List Bool) : SeqAt.shaped (.list (bs.map .bool)) = true := by
  unfold SeqAt.shaped
  simp only [PyData.canLay0, PyData.depth, lay_bools bs, deep_bools bs]
  rfl
theorem eqv_bools : ∀ bs : List Bool, PyData.eqvAll (bs.map .bool) (bs.map .bool) = true
  | [] => by simp [PyData.eqvAll]
  | b :: r => by
    simp only [List.map_cons, PyData.eqvAll, eqv_bools r, Bool.and_true]
    cases b <;> decide +kernel
/-- two lists of the same truths are not unlike -/
theorem ne_same {K : PySem.W.Frag} {H : Hp} {Q : VK} {D q : Addr} {bs : List Bool} (hD : H D = some (.lst (bs.map V.bl)))
    (hq : H q = some (.lst (bs.map V.bl))) (h : Q (.bl false) H) : rNeD K (.ref D) (.ref q) H Q :=
  ⟨.list (bs.map .bool), .list (bs.map .bool), .lst (SqL.of hD) (dp_bools bs), .lst (SqL.of hq) (dp_bools bs), shaped_bools bs, shaped_bools bs, by
    have e : PyData.eqv (.list (bs.map .bool)) (.list (bs.map .bool)) = true := by
      simp only [PyData.eqv]
      exact eqv_bools bs
    rw [e]
    exact h⟩
theorem marks_low : ∀ p, p < 40 → marks p 0 ++ marks p 20 = (List.range 40).map fun k => decide (k = p) := by decide +kernel
theorem marks_fam : ∀ p, p < 43 → 40 ≤ p → ((marks p 0 ++ marks p 20).all fun b => !b) = true := by decide +kernel
theorem in_none : ∀ bs : List Bool, (bs.all fun b => !b) = true → inV (.bl true) (bs.map V.bl) = false ∧ (bs.map V.bl).all flatV = true
  | [], _ => ⟨rfl, rfl⟩
  | b :: r, h => by
    rw [List.all_cons, Bool.and_eq_true] at h
    obtain ⟨h1, h2⟩ := in_none r h.2
    cases b with
    | true => exact nomatch h.1
    | false =>
      refine ⟨?_, ?_⟩
      · unfold inV at h1 ⊢
        rw [List.map_cons, List.any_cons, h1, Bool.or_false]
        decide
      · rw [List.map_cons, List.all_cons, h2]
        rfl
section
variable {P : Program} {w : World} {K : PySem.W.Frag} {mg : Str → Option Value} {base : Heap} {C : Nat → Addr}
/-- a family, made of a text -/
theorem fam_of {p : Nat} {H : Hp} {ts us : List V} {t0 a : Addr} (hp : p < 43) (n0 : H t0 = none) (na : H a = none) (h0a : t0 ≠ a) {t2 : Addr}
    (n2 : upd (upd H t0 (.tup ts)) a (exq a (C p) none t0) t2 = none) (h2a : t2 ≠ a) :
    ∃ G, upd (upd (upd (upd H t0 (.tup ts)) a (exq a (C p) none t0)) t2 (.tup us)) a (exq a (C p) none t2) = G ∧ IsE K C G p (.ref a) ∧ Same H G := by
  refine ⟨_, rfl, ⟨hp, a, none, t2, rfl, upd_same, fun dx z => nomatch z⟩, fun b o e => ?_⟩
  have S0 : Same H (upd H t0 (.tup ts)) := Same.laid n0
  have na' : upd H t0 (.tup ts) a = none := (upd_ne h0a.symm).trans na
  have S1 := S0.trans (Same.laid (o := exq a (C p) none t0) na')
  have b1 : b ≠ a := ne_of_none e na
  have b2 : b ≠ t2 := ne_of_none (S1 _ _ e) n2
  rw [upd_ne b1, upd_ne b2]
  exact S1 _ _ e
structure Ds (P : Program) (w : World) (K : PySem.W.Frag) (mg : Str → Option Value) (base : Heap) (C : Nat → Addr) : Prop where
  take : Def P w K mg base "_law_take" 1 ["_law_bag_here", "_law_much"] (spTake K)
  any : Def P w K mg base "_law_any" 2 ["_law_bag_here"] (spAny K)
  first : Def P w K mg base "_law_marks_first" 1 ["_law_e"] (spMarks K C 0)
  last : Def P w K mg base "_law_marks_last" 1 ["_law_e"] (spMarks K C 20)
  madeF : Def P w K mg base "_law_made_first" 4 ["_law_one"] (spMade K C 0)
  madeL : Def P w K mg base "_law_made_last" 4 ["_law_one"] (spMade K C 20)
  fams : Def P w K mg base "_law_families" 1 ["_law_e"] (spFams K C)
  famof : Def P w K mg base "_law_family_of" 1 ["_law_place"] spFamOf
  fields : DefG P w K mg base "_law_fields_right" 3 ["_law_place", "_law_e", "_law_one"] (spFields K C)
  taken : Def P w K mg base "_law_taken" 3 ["_law_e", "_law_place"] (spTaken K C)
  byn : DefG P w K mg base "_law_by_names_right" 4 ["_law_one"] (spByN K)
def spRight (K : PySem.W.Frag) : Sp := fun vs H Q _ => ∃ p, vs = [.ref p] ∧ BagAt H p 0 ∧ ∀ H', But p H H' → Q (.bl true) H'
theorem scRight : FnScope ["_law_bag_here", "_law_one", "_law_made", "_law_place", "_law_e", "_law_marks", "_law_k"] ["_law_bag_here"] (defScope sRight) :=
  ⟨rfl, rfl, rfl, by decide +kernel, rfl, by decide +kernel, by decide +kernel⟩
theorem d_right (Z : Txt mg) (T : Tab P w K mg base C) (A : At K mg "_law_right" sRight) (D : Ds P w K mg base C) :
    DefG P w K mg base "_law_right" 5 ["_law_bag_here"] (spRight K) := by
  obtain ⟨f40, fd40, i40, t40, F40, b40⟩ := T.p40.fn
  obtain ⟨f41, fd41, i41, t41, F41, b41⟩ := T.p41.fn
  obtain ⟨f42, fd42, i42, t42, F42, b42⟩ := T.p42.fn
  refine mkDefG A scRight (fun _ _ _ _ _ _ us hl => match us, hl with | [_], _ => rfl) (fun vs H Q E ⟨p, e, _⟩ => by rw [e]; rfl)
    (fun f cdv A out s H vs Q E gd hr h => ?_)
  obtain ⟨p, rfl, hb, k⟩ := h
  have hr2 : Room 2 _ := hr.mono (by decide)
  have hu := hr.units
  refine' ⟨_, pss_cons ?s1 (pss_cons ?s2 (pss_cons ?s3 (pss_cons ?s4 (pss_one ?s5)))), ?rd⟩
  case s1 =>
    exact ps_set (i := 1) scRight.nd rfl (.inl rfl) (pe_ix ix_list (pe_lst (pa_cons (pe_d D.any hr (by decide) (by rfl) (pa_cons (pv 0) pa_nil))
      (pa_cons (pe_d D.take hr (by decide) (by rfl) (pa_cons (pv 0) (pa_cons (pe_op op_pow pe_int pe_int) pa_nil)))
      (pa_cons (pe_lst (pa_cons (pe_d D.any hr (by decide) (by rfl) (pa_cons (pv 0) pa_nil)) pa_nil)) pa_nil))))
      (pe_d D.take hr (by decide) (by rfl) (pa_cons (pv 0) (pa_cons pe_int pa_nil))) (fun _ _ => rfl))
  case s2 =>
    exact ps_set (i := 2) scRight.nd rfl (.inl rfl) (pe_op op_cat (pe_d D.madeF hr (by decide) (by rfl) (pa_cons (pv 1) pa_nil))
      (pe_d D.madeL hr (by decide) (by rfl) (pa_cons (pv 1) pa_nil)))
  case s3 =>
    exact ps_for PassesOwn.never rfl (pi_enum (by rfl) Z.enumerate (pa_cons (pv 2) pa_nil))
      (pg_tup (by rfl) (pgs_cons (pg_name (i := 3) scRight.nd rfl (.inr rfl)) (pgs_cons (pg_name (i := 4) scRight.nd rfl (.inl rfl)) pgs_nil)))
      (pss_cons (ps_set (i := 5) scRight.nd rfl (.inl rfl) (pe_op op_cat (pe_d D.first hr (by decide) (by rfl) (pa_cons (pv 4) pa_nil))
        (pe_d D.last hr (by decide) (by rfl) (pa_cons (pv 4) pa_nil))))
      (pss_cons (ps_if (PW.pt (pw_or (pt_cmpR (op_neD hu) (pv 5) (pe_lc (own := [("_law_k", 6)]) (g := gName 6) (tt := tYes) rfl scRight.nd (pi_range1 (by rfl) Z.range (pa_cons pe_int pa_nil))
            (blkOk_by (own := [("_law_k", 6)]) (N := ["_law_bag_here", "_law_one", "_law_made", "_law_place", "_law_e", "_law_marks", "_law_k"]) (sc := defScope sRight) (by decide +kernel))
            (fun _ _ _ _ _ => pg_name (i := 6) scRight.nd rfl (Or.inl rfl)) (fun _ _ _ _ _ => pts_nil)
            (fun _ _ _ _ _ => pe_cmpR op_eq (pv 6) (pv 3) (nomark _))) (nomark _))
          (pw_or1 (pt_cmpR (op_neD hu) (pe_d D.fams hr (by decide) (by rfl) (pa_cons (pv 4) pa_nil)) (pe_d D.famof hr (by decide) (by rfl) (pa_cons (pv 3) pa_nil)) (nomark _)))))
        (pss_one (ps_ret pe_bl)) pss_nil)
      (pss_one (ps_if (PW.pt (pw_or (pt_not (pt_val (pe_dG D.fields gd hr (by decide) (by rfl) (pa_cons (pv 3) (pa_cons (pv 4) (pa_cons (pv 1) pa_nil))))))
          (pw_or1 (pt_not (pt_val (pe_d D.taken hr (by decide) (by rfl) (pa_cons (pv 4) (pa_cons (pv 3) pa_nil))))))))
        (pss_one (ps_ret pe_bl)) pss_nil))))
  case s4 =>
    exact ps_for PassesOwn.never rfl (pi_list (pe_lst (pa_cons (pe_tup (pa_cons pe_int (pa_cons (pe_mkqF T.p40.oex i40 t40 F40 hr2 b40 .nil pass0 (by rfl) T.g40 (pa_cons pe_str pa_nil)) pa_nil)))
        (pa_cons (pe_tup (pa_cons pe_int (pa_cons (pe_mkqF T.p41.oex i41 t41 F41 hr2 b41 .nil pass0 (by rfl) T.g41 (pa_cons pe_str pa_nil)) pa_nil)))
        (pa_cons (pe_tup (pa_cons pe_int (pa_cons (pe_mkqF T.p42.oex i42 t42 F42 hr2 b42 .nil pass0 (by rfl) T.g42 (pa_cons pe_str pa_nil)) pa_nil))) pa_nil)))))
      (pg_tup (by rfl) (pgs_cons (pg_name (i := 3) scRight.nd rfl (.inr rfl)) (pgs_cons (pg_name (i := 4) scRight.nd rfl (.inl rfl)) pgs_nil)))
      (pss_one (ps_if (PW.pt (pw_or (pt_cmpR op_in_seq pe_bl (pe_op op_cat (pe_d D.first hr (by decide) (by rfl) (pa_cons (pv 4) pa_nil))
          (pe_d D.last hr (by decide) (by rfl) (pa_cons (pv 4) pa_nil))) (by rfl))
          (pw_or1 (pt_cmpR (op_neD hu) (pe_d D.fams hr (by decide) (by rfl) (pa_cons (pv 4) pa_nil)) (pe_d D.famof hr (by decide) (by rfl) (pa_cons (pv 3) pa_nil)) (nomark _)))))
        (pss_one (ps_ret pe_bl)) pss_nil))
  case s5 =>
    exact ps_ret (pe_dG D.byn gd hr (by decide) (by rfl) (pa_cons (pv 1) pa_nil))
  case rd =>
    -- one thing
    refine ⟨_, rfl, p, 0, rfl, hb, by decide, fun v0 H1 g0 hb1 B1 => ?_⟩
    refine ⟨_, rfl, 10, 30, rfl, rfl, ⟨by decide, by decide, by decide⟩, p, _, 1, rfl, hb1, by decide, by decide, by decide, fun i H2 i0 i1 hb2 B2 => ?_⟩
    refine ⟨_, rfl, p, 2, rfl, hb2, by decide, fun v1 H3 g1 hb3 B3 => ?_⟩
    refine ⟨by show 1 ≤ sizeLine; decide, fun L1 n1 => ?_⟩
    obtain ⟨_, _, _, hp3, _⟩ := id hb3
    have d1 : L1 ≠ p := (ne_of_none hp3 n1).symm
    generalize q1 : upd H3 L1 (.lst [v1]) = H4
    have S4 : Same H3 H4 := q1 ▸ Same.laid n1
    have e4 : H4 L1 = some (.lst [v1]) := q1 ▸ upd_same
    refine ⟨by show 3 ≤ sizeLine; decide, fun L nL => ?_⟩
    have nLp : L ≠ p := (ne_of_none (S4 _ _ hp3) nL).symm
    generalize hxs : ([v0, .int i, .ref L1] : List V) = xs
    generalize q5 : upd H4 L (.lst xs) = H5
    have S5 : Same H4 H5 := q5 ▸ Same.laid nL
    have eL : H5 L = some (.lst xs) := q5 ▸ upd_same
    have S35 : Same H3 H5 := S4.trans S5
    have B13 : But p H1 H3 := B2.trans B3
    have key : ∀ v ∈ xs, GoodM K 4 (wo H5 p) v := by
      rw [← hxs]
      simp only [List.forall_mem_cons]
      refine ⟨(GoodM.keep g0 (B13.trans (Pw.Same.but S35))).up (by decide), gd_int _ ?_, ?_, fun _ z => nomatch z⟩
      · have h2 : i.natAbs < 2 ^ 200 := by
          have e30 : (10 : Int) ^ (30 : Int).toNat = 1000000000000000000000000000000 := by decide +kernel
          rw [e30] at i1
          omega
        exact Nat.lt_of_lt_of_le (PySem.Flt.log2_lt_of (by decide) h2) (by decide)
      · have S3w : Same (wo H3 p) (wo (wo H5 p) L1) := fun b o q => by
          obtain ⟨z, q'⟩ := wo_at q
          exact wo_of (ne_of_none q' n1) (wo_of z (S35 _ _ q'))
        exact GoodM.one g1 S3w (wo_of d1 (S5 _ _ e4))
    have lxs : xs.length = 3 := by rw [← hxs]; rfl
    refine ⟨_, rfl, p, 3, 3, rfl, (hb3.keep S4).keep S5, by decide, by decide, by decide, fun j H6 j0 j1 hb6 B6 => ?_⟩
    obtain ⟨j, rfl⟩ := Int.eq_ofNat_of_zero_le j0
    have hj : j < xs.length := by omega
    generalize ho : xs[j] = one
    have go : Good K H6 one := GoodM.keep (GoodM.keep (ho ▸ key _ (List.getElem_mem hj)) B6) wo_same
    refine ⟨L, xs, (j : Int), one, rfl, rfl, SqL.of (B6.at nLp eL), atI_nat (by rw [← ho]; simp [hj]), ?_⟩
    have B06 : But p H H6 := B1.trans (B13.trans ((Pw.Same.but S35).trans B6))
    -- all of it
    refine ⟨_, rfl, one, rfl, fun La xa H7 S7 nLa eLa la fa => ?_⟩
    refine ⟨_, rfl, one, rfl, fun Lb xb H8 S8 nLb eLb lb fb => ?_⟩
    refine ⟨La, Lb, xa, xb, rfl, rfl, S8 _ _ eLa, eLb, by rw [la, lb]; decide, fun M nM => ?_⟩
    generalize qM : upd H8 M (.lst (xa ++ xb)) = H9
    have S9 : Same H8 H9 := qM ▸ Same.laid nM
    have eM : H9 M = some (.lst (xa ++ xb)) := qM ▸ upd_same
    have lM : (xa ++ xb).length = 40 := by rw [List.length_append, la, lb]
    have S69 : Same H6 H9 := S7.trans (S8.trans S9)
    have errs : ∀ i y, (xa ++ xb)[i]? = some y → i < 40 ∧ Err K C H9 i (fldOf i) one y := fun i y e => by
      by_cases hi : i < 20
      · rw [List.getElem?_append_left (by omega)] at e
        obtain ⟨a, e1, _, e2⟩ := fa i hi
        cases e1.symm.trans e
        rw [Nat.zero_add] at e2
        exact ⟨by omega, e2.keep (S8.trans S9)⟩
      · have hi2 : i < 40 := by
          have := (List.getElem?_eq_some_iff.mp e).1
          omega
        rw [List.getElem?_append_right (by omega), la] at e
        obtain ⟨a, e1, _, e2⟩ := fb (i - 20) (by omega)
        cases e1.symm.trans e
        have ei : 20 + (i - 20) = i := by omega
        rw [ei] at e2
        exact ⟨hi2, e2.keep S9⟩
    have g9 : Good K H9 one := GoodM.keep go S69
    refine ⟨_, rfl, M, xa ++ xb, rfl, SqL.of eM, for_it (walk_enum (K := K) (a := M) (xs := xa ++ xb)) (fun _ σ G => ∃ v3 v4 v5 v6 : Option V,
      σ = [some (.ref p), some one, some (.ref M), v3, v4, v5, v6] ∧ Same H9 G) ⟨_, _, _, _, rfl, Same.refl _⟩ (fun _ σ G _ ⟨_, _, _, _, _, S⟩ => SqL.of (S _ _ eM)) ?_ ?_⟩
    · rintro i v σ G G' hi ⟨v3, v4, v5, v6, rfl, S⟩ ⟨T0, x, y, rfl, nT, rfl, ex, ey⟩
      cases ex
      obtain ⟨hi40, er⟩ := errs i y ey
      have SG : Same G (upd G T0 (.tup [.int (i : Nat), y])) := Same.laid nT
      have eT : upd G T0 (.tup [.int (i : Nat), y]) T0 = some (.tup [.int (i : Nat), y]) := upd_same
      generalize upd G T0 (.tup [.int (i : Nat), y]) = G1 at SG eT
      have S1 : Same H9 G1 := S.trans SG
      have isE : ∀ {G2 : Hp}, Same G1 G2 → IsE K C G2 i y := fun {G2} S2 => (er.keep (S1.trans S2)).isE (by omega)
      refine ⟨T0, [.int (i : Nat), y], rfl, .inl (.inl eT), rfl, .int (i : Nat), [y], rfl, y, [], rfl, rfl, ?_⟩
      refine ⟨_, rfl, y, i, rfl, isE (Same.refl _), fun La2 G2 S2 e2 => ?_⟩
      refine ⟨_, rfl, y, i, rfl, isE S2, fun Lb2 G3 S3 e3 => ?_⟩
      refine ⟨La2, Lb2, _, _, rfl, rfl, S3 _ _ e2, e3, by show 40 ≤ sizeLine; decide, fun Lm nm => ?_⟩
      rw [← List.map_append, marks_low i hi40]
      generalize qm : upd G3 Lm (.lst (((List.range 40).map fun k => decide (k = i)).map V.bl)) = G4
      have S4' : Same G3 G4 := qm ▸ Same.laid nm
      have em : G4 Lm = some (.lst (((List.range 40).map fun k => decide (k = i)).map V.bl)) := qm ▸ upd_same
      refine ⟨_, rfl, 40, rfl, by decide, by decide, fun Dl hD => ?_⟩
      refine lc_it (walk_range (lo := 0) (n := 40)) (fun j G5 => Same G4 G5 ∧ G5 Dl = some (.lst (((List.range j).map fun k => decide (k = i)).map V.bl)))
        ⟨Same.laid hD, upd_same⟩ (fun _ _ _ _ => trivial) ?_ ?_
      · rintro j v G5 G6 hj ⟨S5', eD⟩ ⟨rfl, rfl⟩
        refine ⟨rfl, ?_⟩
        unfold tYes
        refine iteT ?_
        refine ⟨_, rfl, _, rfl, rfl, ?_⟩
        refine ⟨_, eD, ?_, fun b o e => (upd_ne (ne_of_none e hD)).trans (S5' b o e), ?_⟩
        · simp only [List.length_map, List.length_range]
          exact Nat.lt_trans hj (by decide)
        · have dec : decide (V.int (0 + (j : Int)) = V.int (i : Int)) = decide (j = i) := by
            rw [Int.zero_add]
            by_cases z : j = i
            · subst z; simp
            · rw [decide_eq_false z]
              exact decide_eq_false fun q => z (Int.ofNat.inj (V.int.inj q))
          rw [upd_same, List.range_succ, dec]
          simp
      · rintro G5 ⟨S5', eD⟩
        refine ne_same (S5' _ _ em) eD ⟨_, rfl, ?_⟩
        refine iteF ?_
        have S15 : Same G1 G5 := S2.trans (S3.trans (S4'.trans S5'))
        refine ⟨_, rfl, y, i, rfl, isE S15, fun Lc G6 S6' e6 => ?_⟩
        refine ⟨_, rfl, i, rfl, fun Ld G7 S7' e7 => ?_⟩
        rw [fam_due i hi40] at e6
        refine ne_same (S7' _ _ e6) e7 ⟨_, rfl, ?_⟩
        refine iteF ?_
        have S17 : Same G1 G7 := S15.trans (S6'.trans S7')
        refine ⟨_, rfl, _, rfl, _, rfl, i, y, one, rfl, hi40, er.keep (S1.trans S17), GoodM.keep g9 (S1.trans S17), _, rfl, ?_⟩
        refine iteF ?_
        refine ⟨_, rfl, _, rfl, i, y, rfl, hi40, isE S17, fun G8 S8' => ⟨_, rfl, ?_⟩⟩
        refine iteF ?_
        exact ⟨_, _, _, _, rfl, S1.trans (S17.trans S8')⟩
    · rintro σ G ⟨v3, v4, v5, v6, rfl, S⟩
      refine ⟨by show 1 ≤ 1000; decide, fun t0 a40 u0 na40 w0 => ?_⟩
      refine ⟨a40, C 40, t0, "a", rfl, T.p40.oex, T.p40.hB, upd_same, fun t2 n2 ne => ⟨rfl, ?_⟩⟩
      obtain ⟨A40, hK, I40, s40⟩ := fam_of (K := K) (C := C) (p := 40) (ts := [.str "a"]) (us := [.str "a"]) (by decide) u0 na40 w0 n2 ne
      rw [hK]
      clear hK n2
      refine ⟨by show 2 ≤ sizeLine; decide, fun T40 nT40 => ?_⟩
      generalize qT40 : upd A40 T40 (.tup [.int 0, .ref a40]) = B40
      have r40 : Same A40 B40 := qT40 ▸ Same.laid nT40
      have eT40 : B40 T40 = some (.tup [.int 0, .ref a40]) := qT40 ▸ upd_same
      refine ⟨by show 1 ≤ 1000; decide, fun t0 a41 u0 na41 w0 => ?_⟩
      refine ⟨a41, C 41, t0, "a", rfl, T.p41.oex, T.p41.hB, upd_same, fun t2 n2 ne => ⟨rfl, ?_⟩⟩
      obtain ⟨A41, hK, I41, s41⟩ := fam_of (K := K) (C := C) (p := 41) (ts := [.str "a"]) (us := [.str "a"]) (by decide) u0 na41 w0 n2 ne
      rw [hK]
      clear hK n2
      refine ⟨by show 2 ≤ sizeLine; decide, fun T41 nT41 => ?_⟩
      generalize qT41 : upd A41 T41 (.tup [.int 30, .ref a41]) = B41
      have r41 : Same A41 B41 := qT41 ▸ Same.laid nT41
      have eT41 : B41 T41 = some (.tup [.int 30, .ref a41]) := qT41 ▸ upd_same
      refine ⟨by show 1 ≤ 1000; decide, fun t0 a42 u0 na42 w0 => ?_⟩
      refine ⟨a42, C 42, t0, "a", rfl, T.p42.oex, T.p42.hB, upd_same, fun t2 n2 ne => ⟨rfl, ?_⟩⟩
      obtain ⟨A42, hK, I42, s42⟩ := fam_of (K := K) (C := C) (p := 42) (ts := [.str "a"]) (us := [.str "a"]) (by decide) u0 na42 w0 n2 ne
      rw [hK]
      clear hK n2
      refine ⟨by show 2 ≤ sizeLine; decide, fun T42 nT42 => ?_⟩
      generalize qT42 : upd A42 T42 (.tup [.int 36, .ref a42]) = B42
      have r42 : Same A42 B42 := qT42 ▸ Same.laid nT42
      have eT42 : B42 T42 = some (.tup [.int 36, .ref a42]) := qT42 ▸ upd_same
      refine ⟨by show 3 ≤ sizeLine; decide, fun LF nLF => ?_⟩
      generalize qF : upd B42 LF (.lst [V.ref T40, V.ref T41, V.ref T42]) = GF
      have SF : Same B42 GF := qF ▸ Same.laid nLF
      have eF : GF LF = some (.lst [V.ref T40, V.ref T41, V.ref T42]) := qF ▸ upd_same
      have U42 : Same A42 GF := r42.trans SF
      have U41b : Same B41 GF := s42.trans U42
      have U41 : Same A41 GF := r41.trans U41b
      have U40b : Same B40 GF := s41.trans U41
      have U40 : Same A40 GF := r40.trans U40b
      have UG : Same G GF := s40.trans U40
      have facts : ∀ v ∈ [V.ref T40, V.ref T41, V.ref T42], ∃ T0 q y, ∃ pl : Nat, v = .ref T0 ∧ GF T0 = some (.tup [.int pl, y]) ∧ IsE K C GF q y ∧
          famB q = famW pl ∧ ((marks q 0 ++ marks q 20).all fun b => !b) = true := by
        simp only [List.forall_mem_cons]
        exact ⟨⟨T40, 40, .ref a40, 0, rfl, U40b _ _ eT40, I40.keep U40, fam_40, marks_fam 40 (by decide) (by decide)⟩,
          ⟨T41, 41, .ref a41, 30, rfl, U41b _ _ eT41, I41.keep U41, fam_41, marks_fam 41 (by decide) (by decide)⟩,
          ⟨T42, 42, .ref a42, 36, rfl, SF _ _ eT42, I42.keep U42, fam_42, marks_fam 42 (by decide) (by decide)⟩, fun _ z => nomatch z⟩
      refine ⟨LF, rfl, ⟨_, SqL.of eF⟩, for_list (K := K) (a := LF) (xs := [V.ref T40, V.ref T41, V.ref T42]) (fun _ σ G2 => ∃ v3 v4 v5 v6 : Option V,
        σ = [some (.ref p), some one, some (.ref M), v3, v4, v5, v6] ∧ Same GF G2) ⟨_, _, _, _, rfl, Same.refl _⟩ (fun _ σ G2 _ ⟨_, _, _, _, _, S2⟩ => SqL.of (S2 _ _ eF)) ?_ ?_⟩
      · rintro j v σ G2 hj ⟨v3', v4', v5', v6', rfl, S2⟩
        obtain ⟨T0, q, y, pl, rfl, eT, hE, ff, mm⟩ := facts v (List.mem_of_getElem? hj)
        refine ⟨T0, [.int pl, y], rfl, .inl (.inl (S2 _ _ eT)), rfl, .int pl, [y], rfl, y, [], rfl, rfl, ?_⟩
        refine ⟨_, rfl, y, q, rfl, hE.keep S2, fun La2 G3 S3 e3 => ?_⟩
        refine ⟨_, rfl, y, q, rfl, hE.keep (S2.trans S3), fun Lb2 G4 S4 e4 => ?_⟩
        refine ⟨La2, Lb2, _, _, rfl, rfl, S4 _ _ e3, e4, by show 40 ≤ sizeLine; decide, fun Lm nm => ?_⟩
        rw [← List.map_append]
        obtain ⟨i1', i2'⟩ := in_none _ mm
        refine ⟨Lm, _, rfl, .inl (SqL.of upd_same), rfl, i2', _, rfl, ?_⟩
        rw [if_neg (by decide), i1']
        refine iteF ?_
        have S24 : Same GF (upd G4 Lm (.lst ((marks q 0 ++ marks q 20).map V.bl))) := S2.trans (S3.trans (S4.trans (Same.laid nm)))
        generalize upd G4 Lm (.lst ((marks q 0 ++ marks q 20).map V.bl)) = G5 at S24
        refine ⟨_, rfl, y, q, rfl, hE.keep S24, fun Lc G6 S6' e6 => ?_⟩
        refine ⟨_, rfl, pl, rfl, fun Ld G7 S7' e7 => ?_⟩
        rw [ff] at e6
        refine ne_same (S7' _ _ e6) e7 ⟨_, rfl, ?_⟩
        refine iteF ?_
        exact ⟨_, _, _, _, rfl, S24.trans (S6'.trans S7')⟩
      · rintro σ G2 ⟨v3', v4', v5', v6', rfl, S2⟩
        refine ⟨_, rfl, one, rfl, GoodM.keep g9 (S.trans (UG.trans S2)), fun H' SH => ?_⟩
        exact k H' (B06.trans (Pw.Same.but (S69.trans (S.trans (UG.trans (S2.trans SH))))))
end
end K3

namespace K3
open PySem PySem.Spec PyProof.Rows L2 Pw
section
variable {P : Program} {w : World} {K : PySem.W.Frag} {mg : Str → Option Value} {base : Heap}
def spLaw (K : PySem.W.Frag) : Sp := fun vs H Q _ => ∃ (a : Addr) (ns : List Int), vs = [.ref a] ∧ SqL K H a (ns.map V.int) ∧ ns.length ≤ 63 ∧ ∀ H', Q (.bl true) H'
theorem scLaw : FnScope ["_law_script", "_law_k"] ["_law_script"] (defScope sLaw) := ⟨rfl, rfl, rfl, by decide +kernel, rfl, by decide +kernel, by decide +kernel⟩
theorem ok_law {f : Addr} {fd : FuncData} (F : Fun K "law" "law" sLaw f fd) (T : Txt mg)
    (dc : Def P w K mg base "_law_cell" 1 ["_law_script", "_law_k"] (spCell K)) (db : Def P w K mg base "_law_bag" 1 ["_law_cell_here"] (spBag K))
    (dr : DefG P w K mg base "_law_right" 5 ["_law_bag_here"] (spRight K)) : FnG P w K mg base CX0 6 f fd ["_law_script"] (spLaw K) := by
  refine okG F scLaw (fun vs H Q E ⟨a, ns, e, _⟩ => by rw [e]; rfl) (fun cdv A out s H vs Q E gd hr h => ?_)
  obtain ⟨a, ns, rfl, hS, hl, k⟩ := h
  refine ⟨_, pss_cons (ps_for PassesOwn.never rfl (pi_range1 (by rfl) T.range (pa_cons (pe_callB (call_max2 rfl) (by rfl) T.max PyProof.Rows.boot_max (pa_cons pe_int
      (pa_cons (pe_callB (call_min2 rfl) (by rfl) T.min PyProof.Rows.boot_min (pa_cons pe_int (pa_cons (pe_callB call_len_seq (by rfl) T.len PySem.boot_len (pa_cons (pv 0) pa_nil)) pa_nil))) pa_nil))) pa_nil))
      (pg_name (i := 1) scLaw.nd rfl (.inl rfl))
      (pss_one (ps_if (pt_not (pt_val (pe_dG dr gd hr (by decide) (by rfl) (pa_cons (pe_d db hr (by decide) (by rfl) (pa_cons (pe_d dc hr (by decide) (by rfl) (pa_cons (pv 0) (pa_cons (pv 1) pa_nil))) pa_nil)) pa_nil))))
        (pss_one (ps_ret pe_bl)) pss_nil)))
    (pss_one (ps_ret pe_bl)), ?_⟩
  refine ⟨_, rfl, a, ns.map V.int, rfl, .inl hS, 8, _, rfl, 2, _, rfl, ?_⟩
  rw [List.length_map]
  generalize hj : (if (if (ns.length : Int) < 8 then (ns.length : Int) else 8) > 2 then (if (ns.length : Int) < 8 then (ns.length : Int) else 8) else 2 : Int) = j
  have j0 : 0 ≤ j := by rw [← hj]; split <;> split <;> omega
  have j1 : j ≤ 8 := by rw [← hj]; split <;> split <;> omega
  refine ⟨j, rfl, by omega, by omega, for_range (n := j.toNat) (fun i σ G => ∃ v1 : Option V, σ = [some (.ref a), v1] ∧ Same H G) ⟨none, rfl, Same.refl _⟩ ?_ ?_⟩
  · rintro i σ G hi ⟨v1, rfl, S⟩
    refine ⟨_, rfl, _, rfl, a, ns, 0 + (i : Int), rfl, S.seq hS, hl, by omega, by omega, fun c => ?_⟩
    refine ⟨c, rfl, fun p G2 np S2 hb2 => ?_⟩
    refine ⟨p, rfl, hb2, fun G3 B3 => ⟨_, rfl, ?_⟩⟩
    refine iteF ?_
    exact ⟨_, rfl, fun b o e => B3.at (ne_of_none (S b o e) np) (S2 b o (S b o e))⟩
  · rintro σ G ⟨v1, rfl, S⟩
    exact k G
end
end K3

namespace Pw
open PySem PySem.Spec PyProof.Rows L2
section
variable {K : PySem.W.Frag} {mg : Str → Option Value} {h : Heap}
/-- what the head finds of a def -/
theorem at_mk {x : Str} {st : Stmt} {f : Addr} {oc : Value} {od an : Option Addr} {osl : Array (Option Value)} {kV doc pm cdv ct : Value}
    (X : K.In h) (G : h.Ns mainGlobals mg) (a : PySem.W.nsIn K mainGlobals x = some (some (.ref f)))
    (l : K.lookup f = some ⟨oc, od, .func (PySem.W.fnOf x x (defArgs st) (defBody st) (defScope st) .none kV doc pm an cdv ct), osl⟩)
    (c : PySem.W.codeIn K cdv x = true) (k : PySem.W.keepIn K (.ref f) = true) : At K mg x st :=
  ⟨f, _, fun_mk (st := st) l c k, PySem.W.mg_of X G a⟩
end
end Pw
namespace K3
open PySem PySem.Spec PyProof.Rows L2 Pw
theorem inj_of {l : List Nat} (h : l.Nodup) : ∀ p, p < l.length → ∀ q, q < l.length → l.getD p 0 = l.getD q 0 → p = q := by
  intro p hp q hq e
  have ep : l.getD p 0 = l[p] := by simp [hp]
  have eq : l.getD q 0 = l[q] := by simp [hq]
  rw [ep, eq] at e
  have hh := List.pairwise_iff_getElem.mp h
  rcases Nat.lt_trichotomy p q with z | z | z
  · exact absurd e (hh p q hp hq z)
  · exact z
  · exact absurd e.symm (hh q p hq hp z)
section
variable {K : PySem.W.Frag} {mg : Str → Option Value} {h : Heap}
theorem txt_mk (X : K.In h) (G : h.Ns mainGlobals mg)
    (z_isinstance : PySem.W.nsIn K mainGlobals "isinstance" = some none)
    (z_len : PySem.W.nsIn K mainGlobals "len" = some none)
    (z_max : PySem.W.nsIn K mainGlobals "max" = some none)
    (z_min : PySem.W.nsIn K mainGlobals "min" = some none)
    (z_range : PySem.W.nsIn K mainGlobals "range" = some none)
    (z_repr : PySem.W.nsIn K mainGlobals "repr" = some none)
    (z_enumerate : PySem.W.nsIn K mainGlobals "enumerate" = some none)
    (z_dict : PySem.W.nsIn K mainGlobals "dict" = some none)
    (z_list : PySem.W.nsIn K mainGlobals "list" = some none)
    (z_value : PySem.W.nsIn K mainGlobals "ValueError" = some none)
    (z_key : PySem.W.nsIn K mainGlobals "KeyError" = some none)
    (z_lookup : PySem.W.nsIn K mainGlobals "LookupError" = some none) : Txt mg :=
  {isinstance := PySem.W.mg_none_of X G z_isinstance, len := PySem.W.mg_none_of X G z_len, max := PySem.W.mg_none_of X G z_max, min := PySem.W.mg_none_of X G z_min, range := PySem.W.mg_none_of X G z_range, repr := PySem.W.mg_none_of X G z_repr, enumerate := PySem.W.mg_none_of X G z_enumerate, dict := PySem.W.mg_none_of X G z_dict, list := PySem.W.mg_none_of X G z_list, value := PySem.W.mg_none_of X G z_value, key := PySem.W.mg_none_of X G z_key, lookup := PySem.W.mg_none_of X G z_lookup}
/-- what is the same of all errors -/
structure Meth (K : PySem.W.Frag) : Prop where
  hn : PySem.W.specialIn K (.builtin "object.__class__") "__get__" = some (some (.builtin "getset_descriptor.__get__"))
  ht : PySem.W.takesIn K (.builtin "object.__class__") = some true
theorem look_mk {x qn : Str} {C N : Addr} {bs bm : List Value} {sn : List Str} {sub : List Value} {ab : Bool} {col : Option Bool} {dd : Option Addr} {m0 m1 m2 m3 m5 : Option Value} {newId : String}
    (xL : K.lookup C = some (excClassObj x qn C N bs bm true sn sub ab col dd m0 m1 m2 m3 m5 newId))
    (tC : PySem.W.typeIn K (.ref C) = some (.type "type")) : Look K C bm :=
  ⟨⟨{ name := x, bases := bs, mro := .ref C :: bm, ns := N, qualname := qn, hasDict := true, slotNames := sn, subclasses := sub, abstract := ab, collection := col, hasDel := false },
    by unfold PySem.W.clsIn; rw [xL] <;> rfl, rfl⟩, tC⟩
theorem cl_mk {x q field qn : Str} {B newId : String} {st : Stmt} {C CB f N : Addr} {bs tl : List Value} {sn : List Str} {sub : List Value} {ab : Bool} {col : Option Bool} {dd : Option Addr} {m0 m1 m2 m3 m5 : Option Value}
    {oc : Value} {od an : Option Addr} {osl : Array (Option Value)} {kV doc pm cdv ct : Value} (X : K.In h) (G : h.Ns mainGlobals mg) (F : Fit newId tl) (hBt : tl.contains (.type B) = true) (hOb : tl.contains (.type "object") = true) (M : Meth K)
    (aC : PySem.W.nsIn K mainGlobals x = some (some (.ref C)))
    (xL : K.lookup C = some (excClassObj x qn C N bs (.ref CB :: tl) true sn sub ab col dd m0 m1 m2 m3 m5 newId))
    (sa : PySem.W.findIn K (.ref C) "__setattr__" = some (some (.builtin "object.__setattr__")))
    (eC : PySem.W.subIn K (.ref C) (.type "BaseException") = some true) (tC : PySem.W.typeIn K (.ref C) = some (.type "type"))
    (kC : PySem.W.keepIn K (.ref C) = true) (i1 : PySem.W.findIn K (.ref C) "__init__" = some (some (.ref f)))
    (t1 : PySem.W.typeIn K (.ref f) = some (.type "function"))
    (l1 : K.lookup f = some ⟨oc, od, .func (PySem.W.fnOf "__init__" q (defArgs st) (defBody st) (defScope st) .none kV doc pm an cdv ct), osl⟩)
    (c1 : PySem.W.codeIn K cdv q = true) (k1 : PySem.W.keepIn K (.ref f) = true)
    (hg : PySem.W.findIn K (.ref C) "__getattribute__" = some (some (.builtin "BaseException.__getattribute__")))
    (hk : PySem.W.findIn K (.ref C) "__getattr__" = some none) (hd : PySem.W.hasDictIn K C = true)
    (ha : PySem.W.findIn K (.ref C) "__class__" = some (some (.builtin "object.__class__")))
    (nF : PySem.W.findIn K (.ref C) field = some none) : Cl K mg x q field B st C ∧ Look K C (.ref CB :: tl) ∧ ExcC K C := by
  have L := look_mk xL tC
  refine ⟨⟨PySem.W.mg_of X G aC, ⟨⟨newId, x, qn, N, bs, _, sn, sub, ab, col, dd, m0, m1, m2, m3, m5, xL, (F.up CB).up C⟩, sa, eC, tC, kC⟩, ?_, nF, f, _, i1, t1, fun_mk (st := st) l1 c1 k1⟩,
    L, ⟨hg, hk, eC, hd, ha, M.hn, M.ht, ?_⟩⟩
  · rw [L.mro, List.contains_cons, List.contains_cons, hBt, Bool.or_true, Bool.or_true]
  · rw [L.mro, List.contains_cons, List.contains_cons, hOb, Bool.or_true, Bool.or_true]
theorem fam_mk {x q qn : Str} {B newId : String} {st : Stmt} {C f N : Addr} {bs tl : List Value} {sn : List Str} {sub : List Value} {ab : Bool} {col : Option Bool} {dd : Option Addr} {m0 m1 m2 m3 m5 : Option Value}
    {oc : Value} {od an : Option Addr} {osl : Array (Option Value)} {kV doc pm cdv ct : Value} (X : K.In h) (G : h.Ns mainGlobals mg) (F : Fit newId tl) (hBt : tl.contains (.type B) = true) (hOb : tl.contains (.type "object") = true) (M : Meth K)
    (aC : PySem.W.nsIn K mainGlobals x = some (some (.ref C)))
    (xL : K.lookup C = some (excClassObj x qn C N bs tl true sn sub ab col dd m0 m1 m2 m3 m5 newId))
    (sa : PySem.W.findIn K (.ref C) "__setattr__" = some (some (.builtin "object.__setattr__")))
    (eC : PySem.W.subIn K (.ref C) (.type "BaseException") = some true) (tC : PySem.W.typeIn K (.ref C) = some (.type "type"))
    (kC : PySem.W.keepIn K (.ref C) = true) (i1 : PySem.W.findIn K (.ref C) "__init__" = some (some (.ref f)))
    (t1 : PySem.W.typeIn K (.ref f) = some (.type "function"))
    (l1 : K.lookup f = some ⟨oc, od, .func (PySem.W.fnOf "__init__" q (defArgs st) (defBody st) (defScope st) .none kV doc pm an cdv ct), osl⟩)
    (c1 : PySem.W.codeIn K cdv q = true) (k1 : PySem.W.keepIn K (.ref f) = true)
    (hg : PySem.W.findIn K (.ref C) "__getattribute__" = some (some (.builtin "BaseException.__getattribute__")))
    (hk : PySem.W.findIn K (.ref C) "__getattr__" = some none) (hd : PySem.W.hasDictIn K C = true)
    (ha : PySem.W.findIn K (.ref C) "__class__" = some (some (.builtin "object.__class__")))
    (sg : PySem.W.specialIn K (.ref C) "__getattribute__" = some (some (.builtin "type.__getattribute__")))
    (rd : PySem.W.readsIn K C (.type "type") = true)
    (at_ : PySem.W.findCls K (.ref C) (.type "type") "__init__" = some (.val (.ref f))) : Fam K mg x q B st C f ∧ Look K C tl ∧ ExcC K C := by
  have L := look_mk xL tC
  refine ⟨⟨PySem.W.mg_of X G aC, ⟨⟨newId, x, qn, N, bs, _, sn, sub, ab, col, dd, m0, m1, m2, m3, m5, xL, F.up C⟩, sa, eC, tC, kC⟩, ?_, sg, rd, at_, i1, t1, _, fun_mk (st := st) l1 c1 k1⟩,
    L, ⟨hg, hk, eC, hd, ha, M.hn, M.ht, ?_⟩⟩
  · rw [L.mro, List.contains_cons, hBt, Bool.or_true]
  · rw [L.mro, List.contains_cons, hOb, Bool.or_true]
end
section
variable {P : Program} {w : World} {K : PySem.W.Frag} {mg : Str → Option Value} {base : Heap}
theorem mkf_of {x q : Str} {B : String} {st : Stmt} {C f : Addr} (F : Fam K mg x q B st C f)
    (ok : ∀ {fd : FuncData}, Fun K "__init__" q st f fd → FnOk P w K mg base CX0 1 f fd ["self", "text"] (spFam K B))
    (hb : ∀ (kV doc pm : Value) (an : Option Addr) (cdv ct : Value) (us : List Value), us.length = 2 →
      bindArgs (PySem.W.fnOf "__init__" q (defArgs st) (defBody st) (defScope st) .none kV doc pm an cdv ct) ⟨us, []⟩ = pure ((["self", "text"] : List Str).zip us)) : MkF P w K mg base C B := by
  obtain ⟨fd, F'⟩ := F.fn
  exact ⟨F.oex, F.hB, f, fd, F.iC, F.tI, ok F', F'.binds hb⟩
theorem tab_mk {C0 C1 C2 C3 C4 C5 C6 C7 C8 C9 C10 C11 C12 C13 C14 C15 C16 C17 C18 C19 C20 C21 C22 C23 C24 C25 C26 C27 C28 C29 C30 C31 C32 C33 C34 C35 C36 C37 C38 C39 C40 C41 C42 f40 f41 f42 : Addr} (nod : ([C0, C1, C2, C3, C4, C5, C6, C7, C8, C9, C10, C11, C12, C13, C14, C15, C16, C17, C18, C19, C20, C21, C22, C23, C24, C25, C26, C27, C28, C29, C30, C31, C32, C33, C34, C35, C36, C37, C38, C39, C40, C41, C42] : List Nat).Nodup)
    (N40 : Bas K mg "ValueError" "ValueError" "ValueError.__init__") (N41 : Bas K mg "KeyError" "KeyError" "KeyError.__init__") (N42 : Bas K mg "LookupError" "LookupError" "LookupError.__init__")
    (E0 : Cl K mg "NoTime" "NoTime.__init__" "found" "ValueError" s6 C0 ∧ Look K C0 (.ref C40 :: veT) ∧ ExcC K C0)
    (E1 : Cl K mg "NoWorth" "NoWorth.__init__" "found" "ValueError" s7 C1 ∧ Look K C1 (.ref C40 :: veT) ∧ ExcC K C1)
    (E2 : Cl K mg "NoMark" "NoMark.__init__" "found" "ValueError" s8 C2 ∧ Look K C2 (.ref C40 :: veT) ∧ ExcC K C2)
    (E3 : Cl K mg "NoNumber" "NoNumber.__init__" "found" "ValueError" s9 C3 ∧ Look K C3 (.ref C40 :: veT) ∧ ExcC K C3)
    (E4 : Cl K mg "NoTruth" "NoTruth.__init__" "found" "ValueError" s10 C4 ∧ Look K C4 (.ref C40 :: veT) ∧ ExcC K C4)
    (E5 : Cl K mg "NoList" "NoList.__init__" "found" "ValueError" s11 C5 ∧ Look K C5 (.ref C40 :: veT) ∧ ExcC K C5)
    (E6 : Cl K mg "NoPoints" "NoPoints.__init__" "found" "ValueError" s12 C6 ∧ Look K C6 (.ref C40 :: veT) ∧ ExcC K C6)
    (E7 : Cl K mg "NoRules" "NoRules.__init__" "found" "ValueError" s13 C7 ∧ Look K C7 (.ref C40 :: veT) ∧ ExcC K C7)
    (E8 : Cl K mg "NoCauses" "NoCauses.__init__" "found" "ValueError" s14 C8 ∧ Look K C8 (.ref C40 :: veT) ∧ ExcC K C8)
    (E9 : Cl K mg "NoCommands" "NoCommands.__init__" "found" "ValueError" s15 C9 ∧ Look K C9 (.ref C40 :: veT) ∧ ExcC K C9)
    (E10 : Cl K mg "NoRelations" "NoRelations.__init__" "found" "ValueError" s16 C10 ∧ Look K C10 (.ref C40 :: veT) ∧ ExcC K C10)
    (E11 : Cl K mg "NoWorks" "NoWorks.__init__" "found" "ValueError" s17 C11 ∧ Look K C11 (.ref C40 :: veT) ∧ ExcC K C11)
    (E12 : Cl K mg "NoLetter" "NoLetter.__init__" "found" "ValueError" s18 C12 ∧ Look K C12 (.ref C40 :: veT) ∧ ExcC K C12)
    (E13 : Cl K mg "NoRoom" "NoRoom.__init__" "found" "ValueError" s19 C13 ∧ Look K C13 (.ref C40 :: veT) ∧ ExcC K C13)
    (E14 : Cl K mg "NoTerm" "NoTerm.__init__" "found" "ValueError" s20 C14 ∧ Look K C14 (.ref C40 :: veT) ∧ ExcC K C14)
    (E15 : Cl K mg "NoId" "NoId.__init__" "found" "ValueError" s21 C15 ∧ Look K C15 (.ref C40 :: veT) ∧ ExcC K C15)
    (E16 : Cl K mg "NoHearing" "NoHearing.__init__" "found" "ValueError" s22 C16 ∧ Look K C16 (.ref C40 :: veT) ∧ ExcC K C16)
    (E17 : Cl K mg "NoHistory" "NoHistory.__init__" "found" "ValueError" s23 C17 ∧ Look K C17 (.ref C40 :: veT) ∧ ExcC K C17)
    (E18 : Cl K mg "NoEvents" "NoEvents.__init__" "found" "ValueError" s24 C18 ∧ Look K C18 (.ref C40 :: veT) ∧ ExcC K C18)
    (E19 : Cl K mg "NoPicture" "NoPicture.__init__" "found" "ValueError" s25 C19 ∧ Look K C19 (.ref C40 :: veT) ∧ ExcC K C19)
    (E20 : Cl K mg "NoPlant" "NoPlant.__init__" "found" "ValueError" s26 C20 ∧ Look K C20 (.ref C40 :: veT) ∧ ExcC K C20)
    (E21 : Cl K mg "NoLog" "NoLog.__init__" "found" "ValueError" s27 C21 ∧ Look K C21 (.ref C40 :: veT) ∧ ExcC K C21)
    (E22 : Cl K mg "NoDeed" "NoDeed.__init__" "found" "ValueError" s28 C22 ∧ Look K C22 (.ref C40 :: veT) ∧ ExcC K C22)
    (E23 : Cl K mg "NoText" "NoText.__init__" "found" "ValueError" s29 C23 ∧ Look K C23 (.ref C40 :: veT) ∧ ExcC K C23)
    (E24 : Cl K mg "NoLine" "NoLine.__init__" "found" "ValueError" s30 C24 ∧ Look K C24 (.ref C40 :: veT) ∧ ExcC K C24)
    (E25 : Cl K mg "Unlike" "Unlike.__init__" "found" "ValueError" s31 C25 ∧ Look K C25 (.ref C40 :: veT) ∧ ExcC K C25)
    (E26 : Cl K mg "Twice" "Twice.__init__" "found" "ValueError" s32 C26 ∧ Look K C26 (.ref C40 :: veT) ∧ ExcC K C26)
    (E27 : Cl K mg "Ring" "Ring.__init__" "found" "ValueError" s33 C27 ∧ Look K C27 (.ref C40 :: veT) ∧ ExcC K C27)
    (E28 : Cl K mg "TooMany" "TooMany.__init__" "many" "ValueError" s4 C28 ∧ Look K C28 (.ref C40 :: veT) ∧ ExcC K C28)
    (E29 : Cl K mg "NoRow" "NoRow.__init__" "at" "ValueError" s5 C29 ∧ Look K C29 (.ref C40 :: veT) ∧ ExcC K C29)
    (E30 : Cl K mg "NoPoint" "NoPoint.__init__" "found" "KeyError" s34 C30 ∧ Look K C30 (.ref C41 :: keT) ∧ ExcC K C30)
    (E31 : Cl K mg "NoPlace" "NoPlace.__init__" "found" "KeyError" s35 C31 ∧ Look K C31 (.ref C41 :: keT) ∧ ExcC K C31)
    (E32 : Cl K mg "NoRule" "NoRule.__init__" "found" "KeyError" s36 C32 ∧ Look K C32 (.ref C41 :: keT) ∧ ExcC K C32)
    (E33 : Cl K mg "NoCommand" "NoCommand.__init__" "found" "KeyError" s37 C33 ∧ Look K C33 (.ref C41 :: keT) ∧ ExcC K C33)
    (E34 : Cl K mg "NotThere" "NotThere.__init__" "found" "KeyError" s38 C34 ∧ Look K C34 (.ref C41 :: keT) ∧ ExcC K C34)
    (E35 : Cl K mg "NotOnRoad" "NotOnRoad.__init__" "found" "KeyError" s39 C35 ∧ Look K C35 (.ref C41 :: keT) ∧ ExcC K C35)
    (E36 : Cl K mg "Locked" "Locked.__init__" "found" "LookupError" s40 C36 ∧ Look K C36 (.ref C42 :: leT) ∧ ExcC K C36)
    (E37 : Cl K mg "Down" "Down.__init__" "found" "LookupError" s41 C37 ∧ Look K C37 (.ref C42 :: leT) ∧ ExcC K C37)
    (E38 : Cl K mg "Stands" "Stands.__init__" "found" "LookupError" s42 C38 ∧ Look K C38 (.ref C42 :: leT) ∧ ExcC K C38)
    (E39 : Cl K mg "NotNow" "NotNow.__init__" "found" "LookupError" s43 C39 ∧ Look K C39 (.ref C42 :: leT) ∧ ExcC K C39)
    (E40 : Fam K mg "PanelError" "PanelError.__init__" "ValueError" s1 C40 f40 ∧ Look K C40 veT ∧ ExcC K C40)
    (E41 : Fam K mg "Absent" "Absent.__init__" "KeyError" s2 C41 f41 ∧ Look K C41 keT ∧ ExcC K C41)
    (E42 : Fam K mg "Barred" "Barred.__init__" "LookupError" s3 C42 f42 ∧ Look K C42 leT ∧ ExcC K C42) :
    Tab P w K mg base (fun p => ([C0, C1, C2, C3, C4, C5, C6, C7, C8, C9, C10, C11, C12, C13, C14, C15, C16, C17, C18, C19, C20, C21, C22, C23, C24, C25, C26, C27, C28, C29, C30, C31, C32, C33, C34, C35, C36, C37, C38, C39, C40, C41, C42] : List Nat).getD p 0) where
  inj := inj_of nod
  low := fun p hp => match p, hp with
    | 0, _ => E0.2.1
    | 1, _ => E1.2.1
    | 2, _ => E2.2.1
    | 3, _ => E3.2.1
    | 4, _ => E4.2.1
    | 5, _ => E5.2.1
    | 6, _ => E6.2.1
    | 7, _ => E7.2.1
    | 8, _ => E8.2.1
    | 9, _ => E9.2.1
    | 10, _ => E10.2.1
    | 11, _ => E11.2.1
    | 12, _ => E12.2.1
    | 13, _ => E13.2.1
    | 14, _ => E14.2.1
    | 15, _ => E15.2.1
    | 16, _ => E16.2.1
    | 17, _ => E17.2.1
    | 18, _ => E18.2.1
    | 19, _ => E19.2.1
    | 20, _ => E20.2.1
    | 21, _ => E21.2.1
    | 22, _ => E22.2.1
    | 23, _ => E23.2.1
    | 24, _ => E24.2.1
    | 25, _ => E25.2.1
    | 26, _ => E26.2.1
    | 27, _ => E27.2.1
    | 28, _ => E28.2.1
    | 29, _ => E29.2.1
    | 30, _ => E30.2.1
    | 31, _ => E31.2.1
    | 32, _ => E32.2.1
    | 33, _ => E33.2.1
    | 34, _ => E34.2.1
    | 35, _ => E35.2.1
    | 36, _ => E36.2.1
    | 37, _ => E37.2.1
    | 38, _ => E38.2.1
    | 39, _ => E39.2.1
    | n + 40, hn => absurd hn (by omega)
  top := fun p h1 h2 => match p, h1, h2 with
    | 40, _, _ => E40.2.1
    | 41, _, _ => E41.2.1
    | 42, _, _ => E42.2.1
    | n + 43, _, hn => absurd hn (by omega)
    | 0, hn, _ => absurd hn (by omega)
    | 1, hn, _ => absurd hn (by omega)
    | 2, hn, _ => absurd hn (by omega)
    | 3, hn, _ => absurd hn (by omega)
    | 4, hn, _ => absurd hn (by omega)
    | 5, hn, _ => absurd hn (by omega)
    | 6, hn, _ => absurd hn (by omega)
    | 7, hn, _ => absurd hn (by omega)
    | 8, hn, _ => absurd hn (by omega)
    | 9, hn, _ => absurd hn (by omega)
    | 10, hn, _ => absurd hn (by omega)
    | 11, hn, _ => absurd hn (by omega)
    | 12, hn, _ => absurd hn (by omega)
    | 13, hn, _ => absurd hn (by omega)
    | 14, hn, _ => absurd hn (by omega)
    | 15, hn, _ => absurd hn (by omega)
    | 16, hn, _ => absurd hn (by omega)
    | 17, hn, _ => absurd hn (by omega)
    | 18, hn, _ => absurd hn (by omega)
    | 19, hn, _ => absurd hn (by omega)
    | 20, hn, _ => absurd hn (by omega)
    | 21, hn, _ => absurd hn (by omega)
    | 22, hn, _ => absurd hn (by omega)
    | 23, hn, _ => absurd hn (by omega)
    | 24, hn, _ => absurd hn (by omega)
    | 25, hn, _ => absurd hn (by omega)
    | 26, hn, _ => absurd hn (by omega)
    | 27, hn, _ => absurd hn (by omega)
    | 28, hn, _ => absurd hn (by omega)
    | 29, hn, _ => absurd hn (by omega)
    | 30, hn, _ => absurd hn (by omega)
    | 31, hn, _ => absurd hn (by omega)
    | 32, hn, _ => absurd hn (by omega)
    | 33, hn, _ => absurd hn (by omega)
    | 34, hn, _ => absurd hn (by omega)
    | 35, hn, _ => absurd hn (by omega)
    | 36, hn, _ => absurd hn (by omega)
    | 37, hn, _ => absurd hn (by omega)
    | 38, hn, _ => absurd hn (by omega)
    | 39, hn, _ => absurd hn (by omega)
  exc := fun p hp => match p, hp with
    | 0, _ => E0.2.2
    | 1, _ => E1.2.2
    | 2, _ => E2.2.2
    | 3, _ => E3.2.2
    | 4, _ => E4.2.2
    | 5, _ => E5.2.2
    | 6, _ => E6.2.2
    | 7, _ => E7.2.2
    | 8, _ => E8.2.2
    | 9, _ => E9.2.2
    | 10, _ => E10.2.2
    | 11, _ => E11.2.2
    | 12, _ => E12.2.2
    | 13, _ => E13.2.2
    | 14, _ => E14.2.2
    | 15, _ => E15.2.2
    | 16, _ => E16.2.2
    | 17, _ => E17.2.2
    | 18, _ => E18.2.2
    | 19, _ => E19.2.2
    | 20, _ => E20.2.2
    | 21, _ => E21.2.2
    | 22, _ => E22.2.2
    | 23, _ => E23.2.2
    | 24, _ => E24.2.2
    | 25, _ => E25.2.2
    | 26, _ => E26.2.2
    | 27, _ => E27.2.2
    | 28, _ => E28.2.2
    | 29, _ => E29.2.2
    | 30, _ => E30.2.2
    | 31, _ => E31.2.2
    | 32, _ => E32.2.2
    | 33, _ => E33.2.2
    | 34, _ => E34.2.2
    | 35, _ => E35.2.2
    | 36, _ => E36.2.2
    | 37, _ => E37.2.2
    | 38, _ => E38.2.2
    | 39, _ => E39.2.2
    | 40, _ => E40.2.2
    | 41, _ => E41.2.2
    | 42, _ => E42.2.2
    | n + 43, hn => absurd hn (by omega)
  p40 := mkf_of E40.1 (fun F => ok1 N40 F) (fun _ _ _ _ _ _ us hl => match us, hl with | [_, _], _ => rfl)
  p41 := mkf_of E41.1 (fun F => ok2 N41 F) (fun _ _ _ _ _ _ us hl => match us, hl with | [_, _], _ => rfl)
  p42 := mkf_of E42.1 (fun F => ok3 N42 F) (fun _ _ _ _ _ _ us hl => match us, hl with | [_, _], _ => rfl)
  g0 := E0.1.mgC
  g1 := E1.1.mgC
  g2 := E2.1.mgC
  g3 := E3.1.mgC
  g4 := E4.1.mgC
  g5 := E5.1.mgC
  g6 := E6.1.mgC
  g7 := E7.1.mgC
  g8 := E8.1.mgC
  g9 := E9.1.mgC
  g10 := E10.1.mgC
  g11 := E11.1.mgC
  g12 := E12.1.mgC
  g13 := E13.1.mgC
  g14 := E14.1.mgC
  g15 := E15.1.mgC
  g16 := E16.1.mgC
  g17 := E17.1.mgC
  g18 := E18.1.mgC
  g19 := E19.1.mgC
  g20 := E20.1.mgC
  g21 := E21.1.mgC
  g22 := E22.1.mgC
  g23 := E23.1.mgC
  g24 := E24.1.mgC
  g25 := E25.1.mgC
  g26 := E26.1.mgC
  g27 := E27.1.mgC
  g28 := E28.1.mgC
  g29 := E29.1.mgC
  g30 := E30.1.mgC
  g31 := E31.1.mgC
  g32 := E32.1.mgC
  g33 := E33.1.mgC
  g34 := E34.1.mgC
  g35 := E35.1.mgC
  g36 := E36.1.mgC
  g37 := E37.1.mgC
  g38 := E38.1.mgC
  g39 := E39.1.mgC
  g40 := E40.1.mgC
  g41 := E41.1.mgC
  g42 := E42.1.mgC
  m0 := mk6 N40 E40.1 E0.1
  m1 := mk7 N40 E40.1 E1.1
  m2 := mk8 N40 E40.1 E2.1
  m3 := mk9 N40 E40.1 E3.1
  m4 := mk10 N40 E40.1 E4.1
  m5 := mk11 N40 E40.1 E5.1
  m6 := mk12 N40 E40.1 E6.1
  m7 := mk13 N40 E40.1 E7.1
  m8 := mk14 N40 E40.1 E8.1
  m9 := mk15 N40 E40.1 E9.1
  m10 := mk16 N40 E40.1 E10.1
  m11 := mk17 N40 E40.1 E11.1
  m12 := mk18 N40 E40.1 E12.1
  m13 := mk19 N40 E40.1 E13.1
  m14 := mk20 N40 E40.1 E14.1
  m15 := mk21 N40 E40.1 E15.1
  m16 := mk22 N40 E40.1 E16.1
  m17 := mk23 N40 E40.1 E17.1
  m18 := mk24 N40 E40.1 E18.1
  m19 := mk25 N40 E40.1 E19.1
  m20 := mk26 N40 E40.1 E20.1
  m21 := mk27 N40 E40.1 E21.1
  m22 := mk28 N40 E40.1 E22.1
  m23 := mk29 N40 E40.1 E23.1
  m24 := mk30 N40 E40.1 E24.1
  m25 := mk31 N40 E40.1 E25.1
  m26 := mk32 N40 E40.1 E26.1
  m27 := mk33 N40 E40.1 E27.1
  m28 := mk4 N40 E40.1 E28.1
  m29 := mk5 N40 E40.1 E29.1
  m30 := mk34 N41 E41.1 E30.1
  m31 := mk35 N41 E41.1 E31.1
  m32 := mk36 N41 E41.1 E32.1
  m33 := mk37 N41 E41.1 E33.1
  m34 := mk38 N41 E41.1 E34.1
  m35 := mk39 N41 E41.1 E35.1
  m36 := mk40 N42 E42.1 E36.1
  m37 := mk41 N42 E42.1 E37.1
  m38 := mk42 N42 E42.1 E38.1
  m39 := mk43 N42 E42.1 E39.1
end
theorem fin {P : Program} {w : World} {K : PySem.W.Frag} {mg : Str → Option Value} {fa : Addr} {C : Nat → Addr} (hfa : mg "law" = some (.ref fa)) (Z : Txt mg)
    (aCell : At K mg "_law_cell" sCell)
    (aBag : At K mg "_law_bag" sBag)
    (aTake : At K mg "_law_take" sTake)
    (aVery : At K mg "_law_very" sVery)
    (aAny : At K mg "_law_any" sAny)
    (aFirst : At K mg "_law_marks_first" sFirst)
    (aLast : At K mg "_law_marks_last" sLast)
    (aMadeF : At K mg "_law_made_first" sMadeF)
    (aMadeL : At K mg "_law_made_last" sMadeL)
    (aFams : At K mg "_law_families" sFams)
    (aFamOf : At K mg "_law_family_of" sFamOf)
    (aFields : At K mg "_law_fields_right" sFields)
    (aNames : At K mg "_law_by_names_right" sNames)
    (aTaken : At K mg "_law_taken" sTaken)
    (aRight : At K mg "_law_right" sRight)
    (aLaw : At K mg "law" sLaw)
    (TT : ∀ base : Heap, Tab P w K mg base C) :
    ∃ fd : FuncData, (∀ (s : Shared) (v : Value), BindsTo s fd ⟨[v], []⟩ [("_law_script", v)]) ∧
      ∀ base : Heap, K.In base → base.Ns mainGlobals mg → FnG P w K mg base CX0 6 fa fd ["_law_script"] (spLaw K) := by
  obtain ⟨f, fd, F, m⟩ := aLaw.ex
  cases hfa.symm.trans m
  have F' := F
  obtain ⟨oc, od, kV, doc, pm, an, cdv, ct, osl, rfl, lk, hcd⟩ := F.ex
  refine ⟨PySem.W.fnOf "law" "law" (defArgs sLaw) (defBody sLaw) (defScope sLaw) .none kV doc pm an cdv ct, fun s v => .of_eq rfl, fun base _ _ => ?_⟩
  have T := TT base
  have dTake : Def P w K mg base "_law_take" 1 ["_law_bag_here", "_law_much"] (spTake K) := d_take aTake
  have dVery : DefG P w K mg base "_law_very" 2 ["_law_gained", "_law_thing"] (spVery K) := d_very Z aVery
  have DD : Ds P w K mg base C := ⟨dTake, d_any aAny dTake, d_first Z T aFirst, d_last Z T aLast, d_madeF T aMadeF, d_madeL T aMadeL, d_fams Z T aFams, d_famof aFamOf,
    d_fields T aFields dVery, d_taken Z T aTaken, d_byn T aNames dVery⟩
  exact ok_law F' Z (d_cell Z aCell) (d_bag Z aBag) (d_right Z T aRight DD)
end K3

/-! A head of which nothing is written out: facts of one's own, each told by a truth over the part of the heap that the names reach. -/
namespace Pw
open PySem PySem.Spec PyProof.Rows L2

abbrev Fb := PySem.W.Frag → Bool
def obsB (fb : List Fb) (fn : List He.DefD) (K : PySem.W.Frag) : He.AlD := ((fb.all fun f => f K) && fn.all fun d => d.ok K, fn.map fun d => He.fnW K d.at_)
def SaysB (fb : List Fb) (fn : List He.DefD) (K : PySem.W.Frag) : Prop := obsB fb fn K = He.valD fn
/-- what an object names: a def's code and defaults; a class's names, its methods, their code -/
def kid1 (g : Addr → Option Obj) (a : Addr) : List Addr := match g a with
  | some ⟨_, _, .func fd, _⟩ => He.refV fd.code ++ (He.refV fd.defaults ++ He.refV fd.kwdefaults)
  | _ => []
def kids (g : Addr → Option Obj) (a : Addr) : List Addr := match g a with
  | some ⟨_, _, .dict es _, _⟩ => es.toList.flatMap fun e => He.refV e.val
  | _ => []
def kid2 (g : Addr → Option Obj) (a : Addr) : List Addr := match g a with
  | some ⟨_, _, .cls cd, _⟩ => cd.ns :: (kids g cd.ns).flatMap fun f => f :: kid1 g f
  | _ => kid1 g a
/-- what the module's names reach -/
def reachB (g : Addr → Option Obj) : List Addr := PySem.cStatics :: mainGlobals :: (kids g mainGlobals).flatMap fun a => a :: kid2 g a
def obsBG (n : Nat) (fb : List Fb) (fn : List He.DefD) (g : Addr → Option Obj) : He.AlD := obsB fb fn (He.frG g (reachB g))
def hookB (n : Nat) (fb : List Fb) (fn : List He.DefD) : PySem.W.Hook where
  α := He.AlD
  obs := fun s => obsBG n fb fn s.heap.get?
  val := fun _ => He.valD fn
  says := fun _ h => ∃ K : PySem.W.Frag, K.In h ∧ SaysB fb fn K
  of := fun _ _ e => ⟨_, He.frG_in, e⟩
  keeps := fun _ _ _ ⟨K, hK, c⟩ k => ⟨K, PySem.W.Frag.In.keeps hK k, c⟩
theorem obsBG_eq {n : Nat} {fb : List Fb} {fn : List He.DefD} {g : Addr → Option Obj} {s : Shared} (h : ∀ a, g a = s.heap.get? a) : obsBG n fb fn g = (hookB n fb fn).obs s := by
  have e : g = s.heap.get? := funext h
  rw [e] <;> rfl
section
variable {fb : List Fb} {fn : List He.DefD} {K : PySem.W.Frag}
theorem SaysB.fact (c : SaysB fb fn K) {f : Fb} (i : Nat) (h : fb[i]? = some f) : f K = true := by
  have c1 := (He.ba (show ((fb.all fun f => f K) && fn.all fun d => d.ok K) = true from congrArg (fun z : He.AlD => z.1) c)).1
  exact List.all_eq_true.mp c1 f (List.mem_of_getElem? h)
theorem SaysB.def_ (c : SaysB fb fn K) {d : He.DefD} (i : Nat) (h : fn[i]? = some d) : ∃ fd, FunD K d.name d.qual d.params d.body d.scope (d.dvs K) (d.kws K) (He.fAd K d.at_) fd := by
  have c2 := (He.ba (show ((fb.all fun f => f K) && fn.all fun d => d.ok K) = true from congrArg (fun z : He.AlD => z.1) c)).2
  have e : fn.map (fun d => He.fnW K d.at_) = fn.map He.DefD.val := congrArg (fun z : He.AlD => z.2) c
  have e2 : (fn.map fun d => He.fnW K d.at_)[i]? = (fn.map He.DefD.val)[i]? := by rw [e]
  rw [List.getElem?_map, List.getElem?_map, h] at e2
  exact He.DefD.funD (Option.some.inj e2) (List.all_eq_true.mp c2 d (List.mem_of_getElem? h))
end
/-- a def without defaults, as the layer has it -/
theorem funOf {K : PySem.W.Frag} {x q : Str} {st : Stmt} {f : Addr} {fd : FuncData} (F : FunD K x q (defArgs st) (defBody st) (defScope st) [] [] f fd) : Fun K x q st f fd := by
  obtain ⟨oc, od, dV, kV, doc, pm, an, cdv, ct, osl, e, lk, hcd, hD, _⟩ := F.ex
  rcases hD with ⟨_, rfl⟩ | ⟨h, _⟩
  · subst e
    exact ⟨⟨oc, od, kV, doc, pm, an, cdv, ct, osl, rfl, lk, hcd⟩, F.kp⟩
  · exact absurd rfl h
theorem atOf {K : PySem.W.Frag} {h : Heap} {mg : Str → Option Value} {x : Str} {st : Stmt} (X : K.In h) (G : h.Ns mainGlobals mg) (g : (He.Fa.glo x).ok K = true)
    (F : ∃ fd, FunD K x x (defArgs st) (defBody st) (defScope st) [] [] (He.ga K x) fd) : At K mg x st :=
  let ⟨fd, F⟩ := F
  ⟨_, fd, funOf F, He.glo_ok X G g⟩
/-- a class that is an exception, as it stands -/
def xcB (K : PySem.W.Frag) (C : Addr) (bm : List Value) (newId : String) (x : Str) : Bool := match K.lookup C with
  | some ⟨.type "type", _, .cls cd, sl⟩ => (match sl.toList with
    | [_, _, _, _, some (.builtin n), _] => decide (cd.mro = .ref C :: bm) && (decide (n = newId) && (!cd.hasDel && (cd.hasDict && decide (cd.name = x))))
    | _ => false)
  | _ => false
theorem xcB_ok {K : PySem.W.Frag} {C : Addr} {bm : List Value} {newId : String} {x : Str} (q : xcB K C bm newId x = true) :
    ∃ qn N bs sn sub ab col dd m0 m1 m2 m3 m5, K.lookup C = some (excClassObj x qn C N bs bm true sn sub ab col dd m0 m1 m2 m3 m5 newId) := by
  unfold xcB at q
  split at q
  · rename_i dd cd sl ho
    split at q
    · rename_i k0 k1 k2 k3 n k5 hs
      obtain ⟨nm, bs, mro, ns, qn, hd, sn, sub, ab, col, del⟩ := cd
      simp only [Bool.and_eq_true, decide_eq_true_eq, Bool.not_eq_true'] at q
      obtain ⟨rfl, rfl, rfl, rfl, rfl⟩ := q
      have hsl : sl = #[k0, k1, k2, k3, some (.builtin n), k5] := by
        obtain ⟨l⟩ := sl
        simp only at hs
        rw [hs]
      subst hsl
      exact ⟨qn, ns, bs, sn, sub, ab, col, dd, k0, k1, k2, k3, k5, ho⟩
    · cases q
  · cases q
/-- a law: F gives the written part, the function object, the promise over every base, where nothing is being shown -/
theorem walkE {l : PySem.W.OpenLaw} {n k : Nat} {q : Program} {loose : List Str} {XP : (Str → Option Value) → Heap → Prop} {YP : World → Heap → Prop} {d : DefRec} {CX : CXT} {x : Str}
    (hn : l.most = some n) (hn2 : n ≤ sizeLine) (hdf : d.params.defaults = []) (hr : Room k callerA)
    (F : ∀ (w : World) (mg : Str → Option Value) (fa : Addr) (h : Heap), YP w h → h.Ns mainGlobals mg → mg d.name = some (.ref fa) →
      ∃ (K : PySem.W.Frag) (fd : FuncData) (sp : Sp), K.In h ∧ (∀ (s : Shared) (u : Value), BindsTo s fd ⟨[u], []⟩ [(x, u)]) ∧
        (∀ (H : Hp) (a : Addr) (ns : List Int), ns.length ≤ n → Only H → SqL K H a (ns.map V.int) → sp [.ref a] H (fun v _ => v = .bl true) fun _ _ _ => False) ∧
        ∀ base : Heap, K.In base → base.Ns mainGlobals mg → FnG l.prog w K mg base CX k fa fd [x] sp)
    (hCX : ∀ (H : Hp) (s : Shared) (e : Value) (s' : Shared), CX [] H s (fun _ _ _ => False) e s' → False) :
    PySem.W.WalkO q loose XP YP l.row.toRowW d [] (fun f vs => PySem.call f vs) := by
  refine Att.attach_call hn hdf fun w s₀ s₁ mg mb fa o pm cd doc a vs ns G Y ho hd hcd hmg hobj hints hlen hg => ?_
  obtain ⟨K, fd, sp, KX, hb, hsp, hF⟩ := F w mg fa _ Y G.T.g hmg
  exact law_callG KX G.T.g G.T.b G.T.builtins G.T.nolimit hg hobj hints (Nat.le_trans hlen hn2) hr hF hb (fun H hO hS => hsp H a ns hlen hO hS) fun H e s' => hCX H s₁ e s'
end Pw

namespace K3
open PySem PySem.Spec PyProof.Rows L2 Pw
def cnames : List Str := (["NoTime", "NoWorth", "NoMark", "NoNumber", "NoTruth", "NoList", "NoPoints", "NoRules", "NoCauses", "NoCommands", "NoRelations", "NoWorks", "NoLetter", "NoRoom", "NoTerm", "NoId", "NoHearing", "NoHistory", "NoEvents", "NoPicture", "NoPlant", "NoLog", "NoDeed", "NoText", "NoLine", "Unlike", "Twice", "Ring", "TooMany", "NoRow"] : List Str) ++ (["NoPoint", "NoPlace", "NoRule", "NoCommand", "NotThere", "NotOnRoad", "Locked", "Down", "Stands", "NotNow", "PanelError", "Absent", "Barred"] : List Str)
def nodB : Fb := fun K => decide ((cnames.map (He.ga K)).Nodup)
def iniB (B initId : String) : Fb := fun K => match PySem.W.findCls K (.type B) (.type "type") "__init__" with
  | some (.val v) => decide (v = .builtin initId)
  | _ => false
def hnB : Fb := fun K => He.eqO (PySem.W.specialIn K (.builtin "object.__class__") "__get__") (some (some (.builtin "getset_descriptor.__get__")))
def htB : Fb := fun K => decide (PySem.W.takesIn K (.builtin "object.__class__") = some true)
def clC (x : Str) : Fb := fun K => He.eqO (PySem.W.findIn K (.ref (He.ga K x)) "__setattr__") (some (some (.builtin "object.__setattr__"))) &&
  (decide (PySem.W.subIn K (.ref (He.ga K x)) (.type "BaseException") = some true) && (decide (PySem.W.typeIn K (.ref (He.ga K x)) = some (.type "type")) && (PySem.W.keepIn K (.ref (He.ga K x)) &&
  (He.eqO (PySem.W.findIn K (.ref (He.ga K x)) "__init__") (some (some (.ref (He.ma K (He.ga K x) "__init__")))) && (decide (PySem.W.typeIn K (.ref (He.ma K (He.ga K x) "__init__")) = some (.type "function")) &&
  (He.eqO (PySem.W.findIn K (.ref (He.ga K x)) "__getattribute__") (some (some (.builtin "BaseException.__getattribute__"))) && (He.eqO (PySem.W.findIn K (.ref (He.ga K x)) "__getattr__") (some none) &&
  (PySem.W.hasDictIn K (He.ga K x) && He.eqO (PySem.W.findIn K (.ref (He.ga K x)) "__class__") (some (some (.builtin "object.__class__")))))))))))
def clB (x fam field : Str) (tl : List Value) (newId : String) : Fb := fun K => (He.Fa.glo x).ok K && (xcB K (He.ga K x) (.ref (He.ga K fam) :: tl) newId x && (clC x K &&
  He.eqO (PySem.W.findIn K (.ref (He.ga K x)) field) (some none)))
def fmB (x : Str) (tl : List Value) (newId : String) : Fb := fun K => (He.Fa.glo x).ok K && (xcB K (He.ga K x) tl newId x && (clC x K &&
  (He.eqO (PySem.W.specialIn K (.ref (He.ga K x)) "__getattribute__") (some (some (.builtin "type.__getattribute__"))) && (PySem.W.readsIn K (He.ga K x) (.type "type") &&
  (match PySem.W.findCls K (.ref (He.ga K x)) (.type "type") "__init__" with
  | some (.val v) => decide (v = .ref (He.ma K (He.ga K x) "__init__"))
  | _ => false)))))
abbrev dfN (x : Str) (st : Stmt) : He.DefD := ⟨(x, none), x, x, defArgs st, defBody st, defScope st, [], []⟩
abbrev dfI (x q : Str) (st : Stmt) : He.DefD := ⟨(x, some "__init__"), "__init__", q, defArgs st, defBody st, defScope st, [], []⟩
section
variable {K : PySem.W.Frag} {h : Heap} {mg : Str → Option Value}
theorem iniB_ok {B initId : String} (c : iniB B initId K = true) : PySem.W.findCls K (.type B) (.type "type") "__init__" = some (.val (.builtin initId)) := by
  unfold iniB at c
  split at c
  · rename_i v e
    rw [e, of_decide_eq_true c]
  · cases c
theorem clB_ok {x q field fam : Str} {B newId : String} {st : Stmt} {tl : List Value} (X : K.In h) (G : h.Ns mainGlobals mg) (F : Fit newId tl) (hBt : tl.contains (.type B) = true) (hOb : tl.contains (.type "object") = true) (M : Meth K)
    (c : clB x fam field tl newId K = true) (D : ∃ fd, FunD K "__init__" q (defArgs st) (defBody st) (defScope st) [] [] (He.ma K (He.ga K x) "__init__") fd) :
    Cl K mg x q field B st (He.ga K x) ∧ Look K (He.ga K x) (.ref (He.ga K fam) :: tl) ∧ ExcC K (He.ga K x) := by
  obtain ⟨c1, c⟩ := He.ba c
  obtain ⟨c2, c⟩ := He.ba c
  obtain ⟨c3, c4⟩ := He.ba c
  obtain ⟨e1, c3⟩ := He.ba c3
  obtain ⟨e2, c3⟩ := He.ba c3
  obtain ⟨e3, c3⟩ := He.ba c3
  obtain ⟨e4, c3⟩ := He.ba c3
  obtain ⟨e5, c3⟩ := He.ba c3
  obtain ⟨e6, c3⟩ := He.ba c3
  obtain ⟨e7, c3⟩ := He.ba c3
  obtain ⟨e8, c3⟩ := He.ba c3
  obtain ⟨e9, e10⟩ := He.ba c3
  obtain ⟨qn, N, bs, sn, sub, ab, col, dd, m0, m1, m2, m3, m5, xL⟩ := xcB_ok c2
  obtain ⟨fd, DF⟩ := D
  obtain ⟨oc, od, dV, kV, doc, pm, an, cdv, ct, osl, rfl, lk, hcd, hD, _⟩ := DF.ex
  rcases hD with ⟨_, rfl⟩ | ⟨z, _⟩
  · exact cl_mk X G F hBt hOb M (He.eqO_ok c1) xL (He.eqO_ok e1) (of_decide_eq_true e2) (of_decide_eq_true e3) e4 (He.eqO_ok e5) (of_decide_eq_true e6) lk hcd DF.kp (He.eqO_ok e7) (He.eqO_ok e8) e9 (He.eqO_ok e10) (He.eqO_ok c4)
  · exact absurd rfl z
theorem fmB_ok {x q : Str} {B newId : String} {st : Stmt} {tl : List Value} (X : K.In h) (G : h.Ns mainGlobals mg) (F : Fit newId tl) (hBt : tl.contains (.type B) = true) (hOb : tl.contains (.type "object") = true) (M : Meth K)
    (c : fmB x tl newId K = true) (D : ∃ fd, FunD K "__init__" q (defArgs st) (defBody st) (defScope st) [] [] (He.ma K (He.ga K x) "__init__") fd) :
    Fam K mg x q B st (He.ga K x) (He.ma K (He.ga K x) "__init__") ∧ Look K (He.ga K x) tl ∧ ExcC K (He.ga K x) := by
  obtain ⟨c1, c⟩ := He.ba c
  obtain ⟨c2, c⟩ := He.ba c
  obtain ⟨c3, c⟩ := He.ba c
  obtain ⟨s1, c⟩ := He.ba c
  obtain ⟨s2, s3⟩ := He.ba c
  obtain ⟨e1, c3⟩ := He.ba c3
  obtain ⟨e2, c3⟩ := He.ba c3
  obtain ⟨e3, c3⟩ := He.ba c3
  obtain ⟨e4, c3⟩ := He.ba c3
  obtain ⟨e5, c3⟩ := He.ba c3
  obtain ⟨e6, c3⟩ := He.ba c3
  obtain ⟨e7, c3⟩ := He.ba c3
  obtain ⟨e8, c3⟩ := He.ba c3
  obtain ⟨e9, e10⟩ := He.ba c3
  obtain ⟨qn, N, bs, sn, sub, ab, col, dd, m0, m1, m2, m3, m5, xL⟩ := xcB_ok c2
  obtain ⟨fd, DF⟩ := D
  obtain ⟨oc, od, dV, kV, doc, pm, an, cdv, ct, osl, rfl, lk, hcd, hD, _⟩ := DF.ex
  have at_ : PySem.W.findCls K (.ref (He.ga K x)) (.type "type") "__init__" = some (.val (.ref (He.ma K (He.ga K x) "__init__"))) := by
    split at s3
    · rename_i v e
      rw [e, of_decide_eq_true s3]
    · cases s3
  rcases hD with ⟨_, rfl⟩ | ⟨z, _⟩
  · exact fam_mk X G F hBt hOb M (He.eqO_ok c1) xL (He.eqO_ok e1) (of_decide_eq_true e2) (of_decide_eq_true e3) e4 (He.eqO_ok e5) (of_decide_eq_true e6) lk hcd DF.kp (He.eqO_ok e7) (He.eqO_ok e8) e9 (He.eqO_ok e10) (He.eqO_ok s1) s2 at_
  · exact absurd rfl z
end
def fb : List Fb := ([nodB, (He.Fa.free "isinstance").ok, (He.Fa.free "len").ok, (He.Fa.free "max").ok, (He.Fa.free "min").ok, (He.Fa.free "range").ok, (He.Fa.free "repr").ok, (He.Fa.free "enumerate").ok, (He.Fa.free "dict").ok, (He.Fa.free "list").ok, (He.Fa.free "ValueError").ok, (He.Fa.free "KeyError").ok, (He.Fa.free "LookupError").ok, iniB "ValueError" "ValueError.__init__", iniB "KeyError" "KeyError.__init__", iniB "LookupError" "LookupError.__init__", hnB, htB, (He.Fa.glo "_law_cell").ok, (He.Fa.glo "_law_bag").ok, (He.Fa.glo "_law_take").ok, (He.Fa.glo "_law_very").ok, (He.Fa.glo "_law_any").ok, (He.Fa.glo "_law_marks_first").ok, (He.Fa.glo "_law_marks_last").ok, (He.Fa.glo "_law_made_first").ok, (He.Fa.glo "_law_made_last").ok, (He.Fa.glo "_law_families").ok, (He.Fa.glo "_law_family_of").ok, (He.Fa.glo "_law_fields_right").ok] : List Fb) ++ ([(He.Fa.glo "_law_by_names_right").ok, (He.Fa.glo "_law_taken").ok, (He.Fa.glo "_law_right").ok, (He.Fa.glo "law").ok, clB "NoTime" "PanelError" "found" veT "ValueError.__new__", clB "NoWorth" "PanelError" "found" veT "ValueError.__new__", clB "NoMark" "PanelError" "found" veT "ValueError.__new__", clB "NoNumber" "PanelError" "found" veT "ValueError.__new__", clB "NoTruth" "PanelError" "found" veT "ValueError.__new__", clB "NoList" "PanelError" "found" veT "ValueError.__new__", clB "NoPoints" "PanelError" "found" veT "ValueError.__new__", clB "NoRules" "PanelError" "found" veT "ValueError.__new__", clB "NoCauses" "PanelError" "found" veT "ValueError.__new__", clB "NoCommands" "PanelError" "found" veT "ValueError.__new__", clB "NoRelations" "PanelError" "found" veT "ValueError.__new__", clB "NoWorks" "PanelError" "found" veT "ValueError.__new__", clB "NoLetter" "PanelError" "found" veT "ValueError.__new__", clB "NoRoom" "PanelError" "found" veT "ValueError.__new__", clB "NoTerm" "PanelError" "found" veT "ValueError.__new__", clB "NoId" "PanelError" "found" veT "ValueError.__new__", clB "NoHearing" "PanelError" "found" veT "ValueError.__new__", clB "NoHistory" "PanelError" "found" veT "ValueError.__new__", clB "NoEvents" "PanelError" "found" veT "ValueError.__new__", clB "NoPicture" "PanelError" "found" veT "ValueError.__new__", clB "NoPlant" "PanelError" "found" veT "ValueError.__new__", clB "NoLog" "PanelError" "found" veT "ValueError.__new__", clB "NoDeed" "PanelError" "found" veT "ValueError.__new__", clB "NoText" "PanelError" "found" veT "ValueError.__new__", clB "NoLine" "PanelError" "found" veT "ValueError.__new__", clB "Unlike" "PanelError" "found" veT "ValueError.__new__"] : List Fb) ++ ([clB "Twice" "PanelError" "found" veT "ValueError.__new__", clB "Ring" "PanelError" "found" veT "ValueError.__new__", clB "TooMany" "PanelError" "many" veT "ValueError.__new__", clB "NoRow" "PanelError" "at" veT "ValueError.__new__", clB "NoPoint" "Absent" "found" keT "LookupError.__new__", clB "NoPlace" "Absent" "found" keT "LookupError.__new__", clB "NoRule" "Absent" "found" keT "LookupError.__new__", clB "NoCommand" "Absent" "found" keT "LookupError.__new__", clB "NotThere" "Absent" "found" keT "LookupError.__new__", clB "NotOnRoad" "Absent" "found" keT "LookupError.__new__", clB "Locked" "Barred" "found" leT "LookupError.__new__", clB "Down" "Barred" "found" leT "LookupError.__new__", clB "Stands" "Barred" "found" leT "LookupError.__new__", clB "NotNow" "Barred" "found" leT "LookupError.__new__", fmB "PanelError" veT "ValueError.__new__", fmB "Absent" keT "LookupError.__new__", fmB "Barred" leT "LookupError.__new__"] : List Fb)
def fn : List He.DefD := ([dfN "_law_cell" sCell, dfN "_law_bag" sBag, dfN "_law_take" sTake, dfN "_law_very" sVery, dfN "_law_any" sAny, dfN "_law_marks_first" sFirst, dfN "_law_marks_last" sLast, dfN "_law_made_first" sMadeF, dfN "_law_made_last" sMadeL, dfN "_law_families" sFams, dfN "_law_family_of" sFamOf, dfN "_law_fields_right" sFields, dfN "_law_by_names_right" sNames, dfN "_law_taken" sTaken, dfN "_law_right" sRight, dfN "law" sLaw, dfI "NoTime" "NoTime.__init__" s6, dfI "NoWorth" "NoWorth.__init__" s7, dfI "NoMark" "NoMark.__init__" s8, dfI "NoNumber" "NoNumber.__init__" s9, dfI "NoTruth" "NoTruth.__init__" s10, dfI "NoList" "NoList.__init__" s11, dfI "NoPoints" "NoPoints.__init__" s12, dfI "NoRules" "NoRules.__init__" s13, dfI "NoCauses" "NoCauses.__init__" s14, dfI "NoCommands" "NoCommands.__init__" s15, dfI "NoRelations" "NoRelations.__init__" s16, dfI "NoWorks" "NoWorks.__init__" s17, dfI "NoLetter" "NoLetter.__init__" s18, dfI "NoRoom" "NoRoom.__init__" s19] : List He.DefD) ++ ([dfI "NoTerm" "NoTerm.__init__" s20, dfI "NoId" "NoId.__init__" s21, dfI "NoHearing" "NoHearing.__init__" s22, dfI "NoHistory" "NoHistory.__init__" s23, dfI "NoEvents" "NoEvents.__init__" s24, dfI "NoPicture" "NoPicture.__init__" s25, dfI "NoPlant" "NoPlant.__init__" s26, dfI "NoLog" "NoLog.__init__" s27, dfI "NoDeed" "NoDeed.__init__" s28, dfI "NoText" "NoText.__init__" s29, dfI "NoLine" "NoLine.__init__" s30, dfI "Unlike" "Unlike.__init__" s31, dfI "Twice" "Twice.__init__" s32, dfI "Ring" "Ring.__init__" s33, dfI "TooMany" "TooMany.__init__" s4, dfI "NoRow" "NoRow.__init__" s5, dfI "NoPoint" "NoPoint.__init__" s34, dfI "NoPlace" "NoPlace.__init__" s35, dfI "NoRule" "NoRule.__init__" s36, dfI "NoCommand" "NoCommand.__init__" s37, dfI "NotThere" "NotThere.__init__" s38, dfI "NotOnRoad" "NotOnRoad.__init__" s39, dfI "Locked" "Locked.__init__" s40, dfI "Down" "Down.__init__" s41, dfI "Stands" "Stands.__init__" s42, dfI "NotNow" "NotNow.__init__" s43, dfI "PanelError" "PanelError.__init__" s1, dfI "Absent" "Absent.__init__" s2, dfI "Barred" "Barred.__init__" s3] : List He.DefD)
def loose : List Str := (["PanelError", "Absent", "Barred", "TooMany", "NoRow", "NoTime", "NoWorth", "NoMark", "NoNumber", "NoTruth", "NoList", "NoPoints", "NoRules", "NoCauses", "NoCommands", "NoRelations", "NoWorks", "NoLetter", "NoRoom", "NoTerm", "NoId", "NoHearing", "NoHistory", "NoEvents", "NoPicture", "NoPlant", "NoLog", "NoDeed", "NoText", "NoLine"] : List Str) ++ (["Unlike", "Twice", "Ring", "NoPoint", "NoPlace", "NoRule", "NoCommand", "NotThere", "NotOnRoad", "Locked", "Down", "Stands", "NotNow", "_law_cell", "_law_bag", "_law_take", "_law_very", "_law_any", "_law_marks_first", "_law_marks_last", "_law_made_first", "_law_made_last", "_law_families", "_law_family_of", "_law_fields_right", "_law_by_names_right", "_law_taken", "_law_right"] : List Str)
abbrev R : PySem.W.OpenRow := PySem.W.OpenLaw.row PySem.Challenge.rw_panelwatch_k03_refusals_apart
def hk : PySem.W.Hook := hookB 6 fb fn
def ob (s : PySem.W.SharedT) : He.AlD := obsBG 6 fb fn (HandSHeadRun.getT s)
theorem ob_eq (s : PySem.W.SharedT) : ob s = hk.obs s.abs := obsBG_eq (HandSHeadRun.getT_eq s)
theorem facts {P : Program} {w : World} {K : PySem.W.Frag} {h : Heap} {mg : Str → Option Value} {f : Addr} (X : K.In h) (G : h.Ns mainGlobals mg) (hfa : mg ("law" : Str) = some (.ref f)) (c : SaysB fb fn K) :
    ∃ fd : FuncData, (∀ (s : Shared) (v : Value), BindsTo s fd ⟨[v], []⟩ [("_law_script", v)]) ∧ ∀ base : Heap, K.In base → base.Ns mainGlobals mg → FnG P w K mg base CX0 6 f fd ["_law_script"] (spLaw K) := by
  have M : Meth K := ⟨He.eqO_ok (c.fact (f := hnB) 16 rfl), of_decide_eq_true (c.fact (f := htB) 17 rfl)⟩
  have z_isinstance : PySem.W.nsIn K mainGlobals "isinstance" = some none := He.eqO_ok (c.fact (f := (He.Fa.free "isinstance").ok) 1 rfl)
  have z_len : PySem.W.nsIn K mainGlobals "len" = some none := He.eqO_ok (c.fact (f := (He.Fa.free "len").ok) 2 rfl)
  have z_max : PySem.W.nsIn K mainGlobals "max" = some none := He.eqO_ok (c.fact (f := (He.Fa.free "max").ok) 3 rfl)
  have z_min : PySem.W.nsIn K mainGlobals "min" = some none := He.eqO_ok (c.fact (f := (He.Fa.free "min").ok) 4 rfl)
  have z_range : PySem.W.nsIn K mainGlobals "range" = some none := He.eqO_ok (c.fact (f := (He.Fa.free "range").ok) 5 rfl)
  have z_repr : PySem.W.nsIn K mainGlobals "repr" = some none := He.eqO_ok (c.fact (f := (He.Fa.free "repr").ok) 6 rfl)
  have z_enumerate : PySem.W.nsIn K mainGlobals "enumerate" = some none := He.eqO_ok (c.fact (f := (He.Fa.free "enumerate").ok) 7 rfl)
  have z_dict : PySem.W.nsIn K mainGlobals "dict" = some none := He.eqO_ok (c.fact (f := (He.Fa.free "dict").ok) 8 rfl)
  have z_list : PySem.W.nsIn K mainGlobals "list" = some none := He.eqO_ok (c.fact (f := (He.Fa.free "list").ok) 9 rfl)
  have z_value : PySem.W.nsIn K mainGlobals "ValueError" = some none := He.eqO_ok (c.fact (f := (He.Fa.free "ValueError").ok) 10 rfl)
  have z_key : PySem.W.nsIn K mainGlobals "KeyError" = some none := He.eqO_ok (c.fact (f := (He.Fa.free "KeyError").ok) 11 rfl)
  have z_lookup : PySem.W.nsIn K mainGlobals "LookupError" = some none := He.eqO_ok (c.fact (f := (He.Fa.free "LookupError").ok) 12 rfl)
  have aCell : At K mg "_law_cell" sCell := atOf X G (c.fact (f := (He.Fa.glo "_law_cell").ok) 18 rfl) (c.def_ (d := dfN "_law_cell" sCell) 0 rfl)
  have aBag : At K mg "_law_bag" sBag := atOf X G (c.fact (f := (He.Fa.glo "_law_bag").ok) 19 rfl) (c.def_ (d := dfN "_law_bag" sBag) 1 rfl)
  have aTake : At K mg "_law_take" sTake := atOf X G (c.fact (f := (He.Fa.glo "_law_take").ok) 20 rfl) (c.def_ (d := dfN "_law_take" sTake) 2 rfl)
  have aVery : At K mg "_law_very" sVery := atOf X G (c.fact (f := (He.Fa.glo "_law_very").ok) 21 rfl) (c.def_ (d := dfN "_law_very" sVery) 3 rfl)
  have aAny : At K mg "_law_any" sAny := atOf X G (c.fact (f := (He.Fa.glo "_law_any").ok) 22 rfl) (c.def_ (d := dfN "_law_any" sAny) 4 rfl)
  have aFirst : At K mg "_law_marks_first" sFirst := atOf X G (c.fact (f := (He.Fa.glo "_law_marks_first").ok) 23 rfl) (c.def_ (d := dfN "_law_marks_first" sFirst) 5 rfl)
  have aLast : At K mg "_law_marks_last" sLast := atOf X G (c.fact (f := (He.Fa.glo "_law_marks_last").ok) 24 rfl) (c.def_ (d := dfN "_law_marks_last" sLast) 6 rfl)
  have aMadeF : At K mg "_law_made_first" sMadeF := atOf X G (c.fact (f := (He.Fa.glo "_law_made_first").ok) 25 rfl) (c.def_ (d := dfN "_law_made_first" sMadeF) 7 rfl)
  have aMadeL : At K mg "_law_made_last" sMadeL := atOf X G (c.fact (f := (He.Fa.glo "_law_made_last").ok) 26 rfl) (c.def_ (d := dfN "_law_made_last" sMadeL) 8 rfl)
  have aFams : At K mg "_law_families" sFams := atOf X G (c.fact (f := (He.Fa.glo "_law_families").ok) 27 rfl) (c.def_ (d := dfN "_law_families" sFams) 9 rfl)
  have aFamOf : At K mg "_law_family_of" sFamOf := atOf X G (c.fact (f := (He.Fa.glo "_law_family_of").ok) 28 rfl) (c.def_ (d := dfN "_law_family_of" sFamOf) 10 rfl)
  have aFields : At K mg "_law_fields_right" sFields := atOf X G (c.fact (f := (He.Fa.glo "_law_fields_right").ok) 29 rfl) (c.def_ (d := dfN "_law_fields_right" sFields) 11 rfl)
  have aNames : At K mg "_law_by_names_right" sNames := atOf X G (c.fact (f := (He.Fa.glo "_law_by_names_right").ok) 30 rfl) (c.def_ (d := dfN "_law_by_names_right" sNames) 12 rfl)
  have aTaken : At K mg "_law_taken" sTaken := atOf X G (c.fact (f := (He.Fa.glo "_law_taken").ok) 31 rfl) (c.def_ (d := dfN "_law_taken" sTaken) 13 rfl)
  have aRight : At K mg "_law_right" sRight := atOf X G (c.fact (f := (He.Fa.glo "_law_right").ok) 32 rfl) (c.def_ (d := dfN "_law_right" sRight) 14 rfl)
  have aLaw : At K mg "law" sLaw := atOf X G (c.fact (f := (He.Fa.glo "law").ok) 33 rfl) (c.def_ (d := dfN "law" sLaw) 15 rfl)
  have E0 := clB_ok (B := "ValueError") (q := "NoTime.__init__") (st := s6) X G fitV (by decide +kernel) (by decide +kernel) M (c.fact (f := clB "NoTime" "PanelError" "found" veT "ValueError.__new__") 34 rfl) (c.def_ (d := dfI "NoTime" "NoTime.__init__" s6) 16 rfl)
  have E1 := clB_ok (B := "ValueError") (q := "NoWorth.__init__") (st := s7) X G fitV (by decide +kernel) (by decide +kernel) M (c.fact (f := clB "NoWorth" "PanelError" "found" veT "ValueError.__new__") 35 rfl) (c.def_ (d := dfI "NoWorth" "NoWorth.__init__" s7) 17 rfl)
  have E2 := clB_ok (B := "ValueError") (q := "NoMark.__init__") (st := s8) X G fitV (by decide +kernel) (by decide +kernel) M (c.fact (f := clB "NoMark" "PanelError" "found" veT "ValueError.__new__") 36 rfl) (c.def_ (d := dfI "NoMark" "NoMark.__init__" s8) 18 rfl)
  have E3 := clB_ok (B := "ValueError") (q := "NoNumber.__init__") (st := s9) X G fitV (by decide +kernel) (by decide +kernel) M (c.fact (f := clB "NoNumber" "PanelError" "found" veT "ValueError.__new__") 37 rfl) (c.def_ (d := dfI "NoNumber" "NoNumber.__init__" s9) 19 rfl)
  have E4 := clB_ok (B := "ValueError") (q := "NoTruth.__init__") (st := s10) X G fitV (by decide +kernel) (by decide +kernel) M (c.fact (f := clB "NoTruth" "PanelError" "found" veT "ValueError.__new__") 38 rfl) (c.def_ (d := dfI "NoTruth" "NoTruth.__init__" s10) 20 rfl)
  have E5 := clB_ok (B := "ValueError") (q := "NoList.__init__") (st := s11) X G fitV (by decide +kernel) (by decide +kernel) M (c.fact (f := clB "NoList" "PanelError" "found" veT "ValueError.__new__") 39 rfl) (c.def_ (d := dfI "NoList" "NoList.__init__" s11) 21 rfl)
  have E6 := clB_ok (B := "ValueError") (q := "NoPoints.__init__") (st := s12) X G fitV (by decide +kernel) (by decide +kernel) M (c.fact (f := clB "NoPoints" "PanelError" "found" veT "ValueError.__new__") 40 rfl) (c.def_ (d := dfI "NoPoints" "NoPoints.__init__" s12) 22 rfl)
  have E7 := clB_ok (B := "ValueError") (q := "NoRules.__init__") (st := s13) X G fitV (by decide +kernel) (by decide +kernel) M (c.fact (f := clB "NoRules" "PanelError" "found" veT "ValueError.__new__") 41 rfl) (c.def_ (d := dfI "NoRules" "NoRules.__init__" s13) 23 rfl)
  have E8 := clB_ok (B := "ValueError") (q := "NoCauses.__init__") (st := s14) X G fitV (by decide +kernel) (by decide +kernel) M (c.fact (f := clB "NoCauses" "PanelError" "found" veT "ValueError.__new__") 42 rfl) (c.def_ (d := dfI "NoCauses" "NoCauses.__init__" s14) 24 rfl)
  have E9 := clB_ok (B := "ValueError") (q := "NoCommands.__init__") (st := s15) X G fitV (by decide +kernel) (by decide +kernel) M (c.fact (f := clB "NoCommands" "PanelError" "found" veT "ValueError.__new__") 43 rfl) (c.def_ (d := dfI "NoCommands" "NoCommands.__init__" s15) 25 rfl)
  have E10 := clB_ok (B := "ValueError") (q := "NoRelations.__init__") (st := s16) X G fitV (by decide +kernel) (by decide +kernel) M (c.fact (f := clB "NoRelations" "PanelError" "found" veT "ValueError.__new__") 44 rfl) (c.def_ (d := dfI "NoRelations" "NoRelations.__init__" s16) 26 rfl)
  have E11 := clB_ok (B := "ValueError") (q := "NoWorks.__init__") (st := s17) X G fitV (by decide +kernel) (by decide +kernel) M (c.fact (f := clB "NoWorks" "PanelError" "found" veT "ValueError.__new__") 45 rfl) (c.def_ (d := dfI "NoWorks" "NoWorks.__init__" s17) 27 rfl)
  have E12 := clB_ok (B := "ValueError") (q := "NoLetter.__init__") (st := s18) X G fitV (by decide +kernel) (by decide +kernel) M (c.fact (f := clB "NoLetter" "PanelError" "found" veT "ValueError.__new__") 46 rfl) (c.def_ (d := dfI "NoLetter" "NoLetter.__init__" s18) 28 rfl)
  have E13 := clB_ok (B := "ValueError") (q := "NoRoom.__init__") (st := s19) X G fitV (by decide +kernel) (by decide +kernel) M (c.fact (f := clB "NoRoom" "PanelError" "found" veT "ValueError.__new__") 47 rfl) (c.def_ (d := dfI "NoRoom" "NoRoom.__init__" s19) 29 rfl)
  have E14 := clB_ok (B := "ValueError") (q := "NoTerm.__init__") (st := s20) X G fitV (by decide +kernel) (by decide +kernel) M (c.fact (f := clB "NoTerm" "PanelError" "found" veT "ValueError.__new__") 48 rfl) (c.def_ (d := dfI "NoTerm" "NoTerm.__init__" s20) 30 rfl)
  have E15 := clB_ok (B := "ValueError") (q := "NoId.__init__") (st := s21) X G fitV (by decide +kernel) (by decide +kernel) M (c.fact (f := clB "NoId" "PanelError" "found" veT "ValueError.__new__") 49 rfl) (c.def_ (d := dfI "NoId" "NoId.__init__" s21) 31 rfl)
  have E16 := clB_ok (B := "ValueError") (q := "NoHearing.__init__") (st := s22) X G fitV (by decide +kernel) (by decide +kernel) M (c.fact (f := clB "NoHearing" "PanelError" "found" veT "ValueError.__new__") 50 rfl) (c.def_ (d := dfI "NoHearing" "NoHearing.__init__" s22) 32 rfl)
  have E17 := clB_ok (B := "ValueError") (q := "NoHistory.__init__") (st := s23) X G fitV (by decide +kernel) (by decide +kernel) M (c.fact (f := clB "NoHistory" "PanelError" "found" veT "ValueError.__new__") 51 rfl) (c.def_ (d := dfI "NoHistory" "NoHistory.__init__" s23) 33 rfl)
  have E18 := clB_ok (B := "ValueError") (q := "NoEvents.__init__") (st := s24) X G fitV (by decide +kernel) (by decide +kernel) M (c.fact (f := clB "NoEvents" "PanelError" "found" veT "ValueError.__new__") 52 rfl) (c.def_ (d := dfI "NoEvents" "NoEvents.__init__" s24) 34 rfl)
  have E19 := clB_ok (B := "ValueError") (q := "NoPicture.__init__") (st := s25) X G fitV (by decide +kernel) (by decide +kernel) M (c.fact (f := clB "NoPicture" "PanelError" "found" veT "ValueError.__new__") 53 rfl) (c.def_ (d := dfI "NoPicture" "NoPicture.__init__" s25) 35 rfl)
  have E20 := clB_ok (B := "ValueError") (q := "NoPlant.__init__") (st := s26) X G fitV (by decide +kernel) (by decide +kernel) M (c.fact (f := clB "NoPlant" "PanelError" "found" veT "ValueError.__new__") 54 rfl) (c.def_ (d := dfI "NoPlant" "NoPlant.__init__" s26) 36 rfl)
  have E21 := clB_ok (B := "ValueError") (q := "NoLog.__init__") (st := s27) X G fitV (by decide +kernel) (by decide +kernel) M (c.fact (f := clB "NoLog" "PanelError" "found" veT "ValueError.__new__") 55 rfl) (c.def_ (d := dfI "NoLog" "NoLog.__init__" s27) 37 rfl)
  have E22 := clB_ok (B := "ValueError") (q := "NoDeed.__init__") (st := s28) X G fitV (by decide +kernel) (by decide +kernel) M (c.fact (f := clB "NoDeed" "PanelError" "found" veT "ValueError.__new__") 56 rfl) (c.def_ (d := dfI "NoDeed" "NoDeed.__init__" s28) 38 rfl)
  have E23 := clB_ok (B := "ValueError") (q := "NoText.__init__") (st := s29) X G fitV (by decide +kernel) (by decide +kernel) M (c.fact (f := clB "NoText" "PanelError" "found" veT "ValueError.__new__") 57 rfl) (c.def_ (d := dfI "NoText" "NoText.__init__" s29) 39 rfl)
  have E24 := clB_ok (B := "ValueError") (q := "NoLine.__init__") (st := s30) X G fitV (by decide +kernel) (by decide +kernel) M (c.fact (f := clB "NoLine" "PanelError" "found" veT "ValueError.__new__") 58 rfl) (c.def_ (d := dfI "NoLine" "NoLine.__init__" s30) 40 rfl)
  have E25 := clB_ok (B := "ValueError") (q := "Unlike.__init__") (st := s31) X G fitV (by decide +kernel) (by decide +kernel) M (c.fact (f := clB "Unlike" "PanelError" "found" veT "ValueError.__new__") 59 rfl) (c.def_ (d := dfI "Unlike" "Unlike.__init__" s31) 41 rfl)
  have E26 := clB_ok (B := "ValueError") (q := "Twice.__init__") (st := s32) X G fitV (by decide +kernel) (by decide +kernel) M (c.fact (f := clB "Twice" "PanelError" "found" veT "ValueError.__new__") 60 rfl) (c.def_ (d := dfI "Twice" "Twice.__init__" s32) 42 rfl)
  have E27 := clB_ok (B := "ValueError") (q := "Ring.__init__") (st := s33) X G fitV (by decide +kernel) (by decide +kernel) M (c.fact (f := clB "Ring" "PanelError" "found" veT "ValueError.__new__") 61 rfl) (c.def_ (d := dfI "Ring" "Ring.__init__" s33) 43 rfl)
  have E28 := clB_ok (B := "ValueError") (q := "TooMany.__init__") (st := s4) X G fitV (by decide +kernel) (by decide +kernel) M (c.fact (f := clB "TooMany" "PanelError" "many" veT "ValueError.__new__") 62 rfl) (c.def_ (d := dfI "TooMany" "TooMany.__init__" s4) 44 rfl)
  have E29 := clB_ok (B := "ValueError") (q := "NoRow.__init__") (st := s5) X G fitV (by decide +kernel) (by decide +kernel) M (c.fact (f := clB "NoRow" "PanelError" "at" veT "ValueError.__new__") 63 rfl) (c.def_ (d := dfI "NoRow" "NoRow.__init__" s5) 45 rfl)
  have E30 := clB_ok (B := "KeyError") (q := "NoPoint.__init__") (st := s34) X G fitK (by decide +kernel) (by decide +kernel) M (c.fact (f := clB "NoPoint" "Absent" "found" keT "LookupError.__new__") 64 rfl) (c.def_ (d := dfI "NoPoint" "NoPoint.__init__" s34) 46 rfl)
  have E31 := clB_ok (B := "KeyError") (q := "NoPlace.__init__") (st := s35) X G fitK (by decide +kernel) (by decide +kernel) M (c.fact (f := clB "NoPlace" "Absent" "found" keT "LookupError.__new__") 65 rfl) (c.def_ (d := dfI "NoPlace" "NoPlace.__init__" s35) 47 rfl)
  have E32 := clB_ok (B := "KeyError") (q := "NoRule.__init__") (st := s36) X G fitK (by decide +kernel) (by decide +kernel) M (c.fact (f := clB "NoRule" "Absent" "found" keT "LookupError.__new__") 66 rfl) (c.def_ (d := dfI "NoRule" "NoRule.__init__" s36) 48 rfl)
  have E33 := clB_ok (B := "KeyError") (q := "NoCommand.__init__") (st := s37) X G fitK (by decide +kernel) (by decide +kernel) M (c.fact (f := clB "NoCommand" "Absent" "found" keT "LookupError.__new__") 67 rfl) (c.def_ (d := dfI "NoCommand" "NoCommand.__init__" s37) 49 rfl)
  have E34 := clB_ok (B := "KeyError") (q := "NotThere.__init__") (st := s38) X G fitK (by decide +kernel) (by decide +kernel) M (c.fact (f := clB "NotThere" "Absent" "found" keT "LookupError.__new__") 68 rfl) (c.def_ (d := dfI "NotThere" "NotThere.__init__" s38) 50 rfl)
  have E35 := clB_ok (B := "KeyError") (q := "NotOnRoad.__init__") (st := s39) X G fitK (by decide +kernel) (by decide +kernel) M (c.fact (f := clB "NotOnRoad" "Absent" "found" keT "LookupError.__new__") 69 rfl) (c.def_ (d := dfI "NotOnRoad" "NotOnRoad.__init__" s39) 51 rfl)
  have E36 := clB_ok (B := "LookupError") (q := "Locked.__init__") (st := s40) X G fitL (by decide +kernel) (by decide +kernel) M (c.fact (f := clB "Locked" "Barred" "found" leT "LookupError.__new__") 70 rfl) (c.def_ (d := dfI "Locked" "Locked.__init__" s40) 52 rfl)
  have E37 := clB_ok (B := "LookupError") (q := "Down.__init__") (st := s41) X G fitL (by decide +kernel) (by decide +kernel) M (c.fact (f := clB "Down" "Barred" "found" leT "LookupError.__new__") 71 rfl) (c.def_ (d := dfI "Down" "Down.__init__" s41) 53 rfl)
  have E38 := clB_ok (B := "LookupError") (q := "Stands.__init__") (st := s42) X G fitL (by decide +kernel) (by decide +kernel) M (c.fact (f := clB "Stands" "Barred" "found" leT "LookupError.__new__") 72 rfl) (c.def_ (d := dfI "Stands" "Stands.__init__" s42) 54 rfl)
  have E39 := clB_ok (B := "LookupError") (q := "NotNow.__init__") (st := s43) X G fitL (by decide +kernel) (by decide +kernel) M (c.fact (f := clB "NotNow" "Barred" "found" leT "LookupError.__new__") 73 rfl) (c.def_ (d := dfI "NotNow" "NotNow.__init__" s43) 55 rfl)
  have E40 := fmB_ok (B := "ValueError") (q := "PanelError.__init__") (st := s1) X G fitV (by decide +kernel) (by decide +kernel) M (c.fact (f := fmB "PanelError" veT "ValueError.__new__") 74 rfl) (c.def_ (d := dfI "PanelError" "PanelError.__init__" s1) 56 rfl)
  have E41 := fmB_ok (B := "KeyError") (q := "Absent.__init__") (st := s2) X G fitK (by decide +kernel) (by decide +kernel) M (c.fact (f := fmB "Absent" keT "LookupError.__new__") 75 rfl) (c.def_ (d := dfI "Absent" "Absent.__init__" s2) 57 rfl)
  have E42 := fmB_ok (B := "LookupError") (q := "Barred.__init__") (st := s3) X G fitL (by decide +kernel) (by decide +kernel) M (c.fact (f := fmB "Barred" leT "LookupError.__new__") 76 rfl) (c.def_ (d := dfI "Barred" "Barred.__init__" s3) 58 rfl)
  have nod : ([He.ga K "NoTime", He.ga K "NoWorth", He.ga K "NoMark", He.ga K "NoNumber", He.ga K "NoTruth", He.ga K "NoList", He.ga K "NoPoints", He.ga K "NoRules", He.ga K "NoCauses", He.ga K "NoCommands", He.ga K "NoRelations", He.ga K "NoWorks", He.ga K "NoLetter", He.ga K "NoRoom", He.ga K "NoTerm", He.ga K "NoId", He.ga K "NoHearing", He.ga K "NoHistory", He.ga K "NoEvents", He.ga K "NoPicture", He.ga K "NoPlant", He.ga K "NoLog", He.ga K "NoDeed", He.ga K "NoText", He.ga K "NoLine", He.ga K "Unlike", He.ga K "Twice", He.ga K "Ring", He.ga K "TooMany", He.ga K "NoRow", He.ga K "NoPoint", He.ga K "NoPlace", He.ga K "NoRule", He.ga K "NoCommand", He.ga K "NotThere", He.ga K "NotOnRoad", He.ga K "Locked", He.ga K "Down", He.ga K "Stands", He.ga K "NotNow", He.ga K "PanelError", He.ga K "Absent", He.ga K "Barred"] : List Nat).Nodup := of_decide_eq_true (c.fact (f := nodB) 0 rfl)
  exact fin hfa (txt_mk X G z_isinstance z_len z_max z_min z_range z_repr z_enumerate z_dict z_list z_value z_key z_lookup) aCell aBag aTake aVery aAny aFirst aLast aMadeF aMadeL aFams aFamOf aFields aNames aTaken aRight aLaw
    (fun base => tab_mk nod ⟨nmV, PySem.W.mg_none_of X G z_value, iniB_ok (c.fact (f := iniB "ValueError" "ValueError.__init__") 13 rfl)⟩ ⟨nmK, PySem.W.mg_none_of X G z_key, iniB_ok (c.fact (f := iniB "KeyError" "KeyError.__init__") 14 rfl)⟩
      ⟨nmL, PySem.W.mg_none_of X G z_lookup, iniB_ok (c.fact (f := iniB "LookupError" "LookupError.__init__") 15 rfl)⟩ E0 E1 E2 E3 E4 E5 E6 E7 E8 E9 E10 E11 E12 E13 E14 E15 E16 E17 E18 E19 E20 E21 E22 E23 E24 E25 E26 E27 E28 E29 E30 E31 E32 E33 E34 E35 E36 E37 E38 E39 E40 E41 E42)
end K3

set_option maxHeartbeats 0
namespace K3
open PySem PySem.Spec PyProof.Rows L2 Pw
theorem run (w : World) : HandSHeadRun.RunEq R (PySem.W.view R.prog [60]) hk ob 30000 loose w := by
  intro os
  kernel_rfl
end K3
open PySem PySem.W PySem.Calls PyProof.Rows
theorem PySem.Challenge.cw_panelwatch_k03_refusals_apart_holds : PySem.Challenge.rw_panelwatch_k03_refusals_apart.Holds := by
  w_on; o_law
  refine HandSHeadRun.head_any (r := OpenLaw.row PySem.Challenge.rw_panelwatch_k03_refusals_apart) (q := view (OpenLaw.row PySem.Challenge.rw_panelwatch_k03_refusals_apart).prog [60]) (H := K3.hk) (ob := K3.ob) (M := 30000) (loose := K3.loose)
    (d := HandSHeadRun.topDef (OpenLaw.row PySem.Challenge.rw_panelwatch_k03_refusals_apart).prog 60) (kwd := []) K3.ob_eq
    (by kernel_rfl) (fun s => by kernel_rfl) K3.run (by kernel_rfl) (by kernel_rfl) (by kernel_rfl) (by rfl) (by first | assumption | decide +kernel) (by decide +kernel) ⟨rfl, rfl, rfl, rfl, rfl, by decide +kernel⟩ ?hw ?hc
  case hw => w_witness2
  case hc =>
    refine Pw.walkE (l := PySem.Challenge.rw_panelwatch_k03_refusals_apart) (n := 63) (k := 6) (x := "_law_script") (CX := L2.CX0) rfl (by decide) (by kernel_rfl) ⟨rfl, by decide, by decide⟩ ?F (fun _ _ _ _ z => z)
    intro w mg fa h Y G hmg0
    obtain ⟨K, KX, c⟩ := Y
    have hmg : mg ("law" : PySem.Str) = some (.ref fa) := by
      have e : (HandSHeadRun.topDef (OpenLaw.row PySem.Challenge.rw_panelwatch_k03_refusals_apart).prog 60).name = ("law" : PySem.Str) := by kernel_rfl
      rw [← e]
      exact hmg0
    obtain ⟨fd, hb, hF⟩ := K3.facts (P := (PySem.Challenge.rw_panelwatch_k03_refusals_apart).prog) (w := w) KX G hmg c
    exact ⟨K, fd, K3.spLaw K, KX, hb, fun H a ns hl _ hS => ⟨a, ns, rfl, hS, hl, fun _ => rfl⟩, hF⟩

