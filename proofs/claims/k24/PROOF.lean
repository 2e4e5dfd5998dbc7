import PyProof.Rows.All
import Wide.All
import OpenK.AllK
import Wide.FinOn
import HandS.ForSpec
import HandS.Comp
import HandS.Dict
import HandS.Iter
import HandS.Text
import HandS.IsInst
import HandS.Wide
import HandS.ExcInit
import HandS.ExcIs
import PyProof.ExcStrAll.ValueError
import PyProof.ReprRoads
import PyProof.CallFns
import HandS.Walk
import HandS.Defaults
import HandS.Zip
import PySem.Challenge.RW_panelwatch_k24_watches_step_by_step
import HandS.Codes
import HandS.Small
import HandS.Conv
import PyProof.ExcBaseAll.LookupError
import PyProof.ExcBaseAll.ValueError
import KE.KExcInit
import HandS.MakeKw
import HandS.ExcField
import HandS.ExcValue
import HandS.TryMany
import HandS.Head0
import HandS.Head1
import HandS.Head2
import HandS.HeadEnd
import HandS.HeadHook1
import HandS.HeadHook2
import HandS.CallSlots
import HandS.WordsExc
import HandS.HotCalls
import HandS.OwnEq
import HandS.DictTup
import HandS.SortInts
import HandS.Deep
import HandS.TryOnly
set_option Elab.async false
set_option linter.all false
set_option maxRecDepth 100000
set_option maxHeartbeats 4000000
/-! The layer of defs that are called where no display is under way (nothing is being shown around them). -/
namespace Pw
open PySem PySem.Spec PyProof.Rows L2

/-- a def's promise where nothing is being shown around its call -/
structure FnG (P : Program) (w : World) (K : PySem.W.Frag) (mg : Str → Option Value)
    (base : Heap) (CX : CXT) (k : Nat) (f : Addr) (fd : FuncData) (ps : List Str) (sp : Sp) : Prop where
  len : ∀ vs H Q E, sp vs H Q E →
    vs.length = ps.length
  run : ∀ (A : Around) (out : List Env) (s : Shared) (H : Hp) (ar : Args) (us : List Value)
    (vs : List V) (Q : VK) (E : XK), A.guards = some [] → Room k A →
    Env0 P w K mg base A out s H → BindsTo s fd ar (ps.zip us) → Vals vs us → sp vs H Q E →
    codeAny (model P w) A (.call (.ref f) ar) (CR CX out P w H s Q E) s

section
variable {P : Program} {w : World} {K : PySem.W.Frag} {mg : Str → Option Value} {base : Heap}

theorem FnG.of {CX : CXT} {k : Nat} {f : Addr} {fd : FuncData} {ps : List Str} {sp : Sp}
    (F : FnOk P w K mg base CX k f fd ps sp) : FnG P w K mg base CX k f fd ps sp :=
  ⟨F.len, fun A out s H ar us vs Q E _ hr e0 hb r hs => F.run A out s H ar us vs Q E hr e0 hb r hs⟩

theorem fnG_of {CX : CXT} {k : Nat} {f : Addr} {name qual : Str} {params : Arguments}
    {body : List Stmt} {scope : Scope} {dV kV doc pm cdv ct oc : Value} {an od : Option Addr}
    {osl : Array (Option Value)} {N ps : List Str} {sp : Sp}
    (lk : K.lookup f = some ⟨oc, od, .func (PySem.W.fnOf name qual params body scope dV kV doc pm an cdv ct), osl⟩)
    (hcd : PySem.W.codeIn K cdv qual = true) (S : FnScope N ps scope)
    (len : ∀ vs H Q E, sp vs H Q E → vs.length = ps.length)
    (hb0 : ∀ (A : Around) (out : List Env) (s : Shared) (H : Hp) (vs : List V) (Q : VK) (E : XK),
      A.guards = some [] → Room k (A.deeper (envOfC qual scope s.heap.objs.size f cdv)) → sp vs H Q E →
      ∃ t, PSs (cxOf CX P w K mg base N qual scope f cdv A out s H E) body t ∧
        t { nx := fun _ H' => Q .non H', rt := Q } (start N vs) H) :
    FnG P w K mg base CX (k + 1) f (PySem.W.fnOf name qual params body scope dV kV doc pm an cdv ct) ps sp := by
  refine ⟨len, fun A out s H ar us vs Q E gd hr e0 hbn r hs0 => ?_⟩
  have hlen := len _ _ _ _ hs0
  have old : ∀ b o, base.get? b = some o → s.heap.get? b = some o := fun b o e => (e0.bs b o e).1
  have KX : K.In s.heap := e0.mod.kin.keeps old
  have lim : s.heap.NoLimit := e0.mod.nolimit.keeps old
  have kinds : ∀ y ∈ ps.zip us, scope.names.lookup y.1 = some .local ∨
      (scope.names.lookup y.1 = some .cell ∧
        ((cellsFrom (s.heap.objs.size + 1) scope.names []).lookup y.1).isSome = true) := by
    intro ⟨n, v⟩ hy
    rcases S.par n (List.of_mem_zip hy).1 with z | z
    · exact .inl z
    · exact .inr ⟨z, PySem.W.cellsFrom_some _ _ _ (.inl z)⟩
  refine codeAny_call_function hr.depth (KX _ _ lk) rfl S.co S.gen rfl
    (PySem.W.codeRec_of KX hcd) (hbn _ _ _ _ ?_)
  refine wpAny_newFunctionEnv_cells S.kind kinds fun env he s1 x => ?_
  subst he
  refine ⟨lim.keeps x.toInCall.keep, codeAny_func ?_⟩
  obtain ⟨t, T, q0⟩ := hb0 A out s H vs Q E gd (hr.deeper _) hs0
  have J0 : Inv (cxOf CX P w K mg base N qual scope f cdv A out s H E) [] (start N vs) H s1 :=
    inv_start S hr.hd e0 hlen r x
  refine wpAny_mono (T.run [] s1 (start N vs) H _ J0 q0) (fun fl s' hs => ?_) fun e s' hs => hs
  have fin : ∀ {σ' : L2.St} {H' : Hp} {v : V} {u : Value},
      Inv (cxOf CX P w K mg base N qual scope f cdv A out s H E) [] σ' H' s' →
      RelV v u → Q v H' → CE out P w H s Q u s' :=
    fun {σ' H' v u} J rv q => ⟨v, H', J.os, J.bare, J.base, J.hok, rv, q⟩
  match fl, hs with
  | .ret u, ⟨v, σ', H', J, rv, q⟩ => exact fin J rv q
  | .next, ⟨σ', H', J, q⟩ => exact fin (v := V.non) (u := Value.none) J rfl q
  | .brk, ⟨_, _, _, q⟩ => exact False.elim q
  | .cont, ⟨_, _, _, q⟩ => exact False.elim q

/-- the rule for a def, where nothing is being shown around it -/
theorem okG {x qual : Str} {st : Stmt} {f : Addr} {fd : FuncData} {N ps : List Str} {k : Nat} {sp : Sp}
    (F : Fun K x qual st f fd) (S : FnScope N ps (defScope st))
    (len : ∀ vs H Q E, sp vs H Q E → vs.length = ps.length)
    (hb0 : ∀ (cdv : Value) (A : Around) (out : List Env) (s : Shared) (H : Hp) (vs : List V) (Q : VK) (E : XK),
      A.guards = some [] →
      Room k (A.deeper (envOfC qual (defScope st) s.heap.objs.size f cdv)) → sp vs H Q E →
      ∃ t, PSs (cxOf CX0 P w K mg base N qual (defScope st) f cdv A out s H E).nox (defBody st) t ∧
        t { nx := fun _ H' => Q .non H', rt := Q } (start N vs) H) :
    FnG P w K mg base CX0 (k + 1) f fd ps sp := by
  obtain ⟨oc, od, kV, doc, pm, an, cdv, ct, osl, rfl, lk, hcd⟩ := F.ex
  refine fnG_of lk hcd S len fun A out s H vs Q E gd hr hs0 => ?_
  obtain ⟨t, h, q⟩ := hb0 cdv A out s H vs Q E gd hr hs0
  exact ⟨t, h.nox, q⟩
end

section
variable {X : Cx} {CX : CXT} {k : Nat} {f : Addr} {fd : FuncData} {ps : List Str} {sp : Sp}
  {dvs : List V} {ds : List Value} {E : XK} {x : Str} {p pos : Pos} {e : Expr} {es : List Expr} {t : TA}

theorem run_fnG {pins : List (Addr × Obj)} {σ : L2.St} {H : Hp} {s : Shared} {Q : VK} {us : List Value} {vs : List V}
    (F : FnG X.prog X.w X.K X.mg X.base CX k f fd ps sp) (gd : X.A.guards = some []) (hr : Room k X.A)
    (hb : Binds X.K fd ps ds) (hd : Vals dvs ds) (hx : Passes CX X E)
    (I : Inv X pins σ H s) (r : Vals vs us) (h : sp (vs ++ dvs) H Q E) :
    wpAny (model X.prog X.w) X.A (call (.ref f) us) (EP X pins σ Q) X.xe s := by
  have r2 : Vals (vs ++ dvs) (us ++ ds) := r.append hd
  have hlen : (us ++ ds).length = ps.length := r2.length ▸ F.len _ _ _ _ h
  refine wpAny_call (codeAny_mono (F.run X.A X.stack s H ⟨us, []⟩ (us ++ ds) (vs ++ dvs) Q E gd hr
    I.env0 (hb s us I.kIn hlen) r2 h) fun r s' hq => ?_)
  match r, hq with
  | .error e, hq => exact hx pins σ H s e s' I hq
  | .ok (.ret u), hq => exact I.after hq
  | .ok .next, hq => exact False.elim hq
  | .ok .brk, hq => exact False.elim hq
  | .ok .cont, hq => exact False.elim hq

/-- f(..), f a def whose promise stands where nothing is being shown -/
theorem pe_callG (F : FnG X.prog X.w X.K X.mg X.base CX k f fd ps sp) (gd : X.A.guards = some []) (hr : Room k X.A)
    (hg : Gl X x) (hm : X.mg x = some (.ref f)) (hk : PySem.W.keepIn X.K (.ref f) = true)
    (hb : Binds X.K fd ps ds) (hd : Vals dvs ds) (hx : Passes CX X E) (ha : PA X (e :: es) t)
    (hdb : (x == ("__debug__" : Str)) = false := by decide)
    (he : starEach (e :: es) X.env = (false, eval e X.env) :: starEach es X.env := by rfl)
    (hpl : (backTo pos (starEach es X.env)).any (·.1) = false := by rfl) :
    PE X (.Call (.Name x p) (e :: es) [] pos) (tCall sp dvs E t) :=
  ⟨fun pins s σ H Q I h => wpAny_Call_Name_kw (ld_glob I hg hm (PySem.W.callWith_K (h₀ := X.base)
    I.ok.mod.kin hk (thn (ha.run pos pins s σ H _ I h) fun us s1 ⟨vs, H1, I1, r, q⟩ =>
      ⟨I1.kIn, run_fnG F gd hr hb hd hx I1 r q⟩) he hpl) hdb)⟩
end

/-- the end: the law's promise, at the heap behind the top, nothing being shown -/
theorem law_callG {P : Program} {w : World} {K : PySem.W.Frag} {mg mb : Str → Option Value} {CX : CXT} {k : Nat}
    {fa a : Addr} {fd : FuncData} {x : Str} {sp : Sp} {s₁ : Shared} {vs : List Value} {ns : List Int}
    (KX : K.In s₁.heap) (hns : s₁.heap.Ns mainGlobals mg) (hb : s₁.heap.Ns builtinsNs mb)
    (hbb : ∀ x : Str, x ≠ "__name__" → mb x = bootBuiltins x) (hlim : s₁.heap.NoLimit) (hg : s₁.gens = #[])
    (ha : s₁.heap.get? a = some { cls := .type "list", data := .seq vs.toArray }) (hi : IntsAre vs ns)
    (hl : ns.length ≤ sizeLine) (hr : Room k callerA)
    (F : ∀ base : Heap, K.In base → base.Ns mainGlobals mg → FnG P w K mg base CX k fa fd [x] sp)
    (hbind : ∀ (s : Shared) (u : Value), BindsTo s fd ⟨[u], []⟩ [(x, u)])
    (hsp : ∀ H : Hp, Only H → SqL K H a (ns.map V.int) → sp [.ref a] H (fun v _ => v = .bl true) fun _ _ _ => False)
    (hCX : ∀ H e s', CX [] H s₁ (fun _ _ _ => False) e s' → False) :
    codeAny (model P w) callerA (.call (.ref fa) ⟨[.ref a], []⟩)
      (fun r s' => r = .ok (.ret (.bool true)) ∧ OldK s₁.heap s'.heap ∧ s'.os = s₁.os ∧ AllBare s'.gens) s₁ := by
  have rv := vals_ints hi
  have lenV := hi.length
  have core : ∀ H : Hp, Only H → SqL K H a (ns.map V.int) → HOk P w H s₁.heap → (∀ b, H b ≠ none → b = a) →
      (H a ≠ none → K.lookup a = none) → codeAny (model P w) callerA (.call (.ref fa) ⟨[.ref a], []⟩)
      (fun r s' => r = .ok (.ret (.bool true)) ∧ OldK s₁.heap s'.heap ∧ s'.os = s₁.os ∧ AllBare s'.gens) s₁ := by
    intro H hO hS hok hA hK
    have loose : ∀ {b : Addr} {o : Obj} {es : Array DictEntry} {ep : Nat}, s₁.heap.get? b = some o →
        o.data = .dict es ep → H b = none := by
      intro b o es ep e d
      cases q : H b with
      | none => rfl
      | some u =>
        obtain rfl : b = a := hA b (fun z => nomatch q.symm.trans z)
        cases ha.symm.trans e
        exact nomatch (show Data.seq vs.toArray _ = Data.dict es ep from d)
    have nsK : ∀ {b : Addr} {m : Str → Option Value}, s₁.heap.Ns b m → (hidT s₁.heap H).Ns b m :=
      fun {b m} ⟨o, es, ep, e, d, r⟩ => ⟨o, es, ep, hidT_get e (loose e d), d, r⟩
    have hKb : K.In (hidT s₁.heap H) := by
      intro b o e
      refine hidT_get (KX b o e) ?_
      cases q : H b with
      | none => rfl
      | some u =>
        obtain rfl : b = a := hA b (fun z => nomatch q.symm.trans z)
        exact nomatch (hK (fun z => nomatch q.symm.trans z)).symm.trans e
    have hM : Mod K mg (hidT s₁.heap H) :=
      ⟨hKb, nsK hns, ⟨mb, nsK hb, hbb⟩, hlim.elim fun mc h => ⟨mc, nsK h.1, h.2⟩⟩
    have e0 : Env0 P w K mg (hidT s₁.heap H) callerA [] s₁ H :=
      ⟨rfl, hM, fun b o e => of_hidT e, Nat.le_of_eq (hidT_size _ _), trivial,
        fun b hb => (nomatch (show b ∈ ([] : List Addr) from hb)), hok, .of_eq hg⟩
    refine codeAny_mono ((F _ hKb (nsK hns)).run callerA [] s₁ H ⟨[.ref a], []⟩ [.ref a] [.ref a] _ _ rfl hr e0
      (hbind s₁ (.ref a)) (.cons rfl .nil) (hsp H hO hS)) fun r s' h => ?_
    match r, h with
    | .error e, h => exact (hCX H e s' h).elim
    | .ok .next, h => exact False.elim h
    | .ok .brk, h => exact False.elim h
    | .ok .cont, h => exact False.elim h
    | .ok (.ret u), ⟨v, H', os, bare, un, hok', r', q⟩ =>
      obtain rfl : v = .bl true := q
      obtain rfl : u = Value.bool true := r'
      refine ⟨rfl, OldK.of_keep fun b o e => ?_, os, bare⟩
      cases q : H b with
      | none => exact un.keep b o e q (fun z => (nomatch (show b ∈ ([] : List Addr) from z))) (by simp)
      | some u =>
        rcases hO b with z | ⟨ob, xs, z⟩
        · exact nomatch q.symm.trans z
        · have e1 := (hok b _ z).1
          have e2 := (hok' b _ (un.frzs b ob _ z)).1
          cases e.symm.trans e1
          exact e2
  cases hk : K.lookup a with
  | some o =>
    cases ha.symm.trans (KX a o hk)
    exact core (fun _ => none) (fun _ => .inl rfl)
      (.inr ⟨_, vs.toArray, _, hk, rfl, rfl, rfl, by rw [List.size_toArray, lenV]; exact hl, by simpa using rv⟩)
      (fun b u z => nomatch (show (none : Option HO) = some u from z)) (fun b z => absurd rfl z) fun z => absurd rfl z
  | none =>
    refine core (fun b => if b = a then
        some (.frz { cls := .type "list", data := .seq vs.toArray } (.lst (ns.map V.int))) else none) (fun b => ?_)
      (.inl (.inr ⟨{ cls := .type "list", data := .seq vs.toArray }, if_pos rfl⟩)) (fun b u z => ?_) (fun b z => ?_)
      fun _ => hk
    · by_cases hba : b = a
      · exact .inr ⟨_, _, if_pos hba⟩
      · exact .inl (if_neg hba)
    · by_cases hba : b = a
      · have z' := (if_pos hba).symm.trans z
        cases z'
        subst hba
        exact ⟨ha, by rw [List.length_map]; exact hl, vs, _, rv, ha⟩
      · exact nomatch (if_neg hba).symm.trans z
    · by_cases hba : b = a
      · exact hba
      · exact absurd (if_neg hba) z

theorem walkG {l : PySem.W.OpenLaw} {n k : Nat} {q : Program} {loose : List Str}
    {XP : (Str → Option Value) → Heap → Prop} {YP : World → Heap → Prop} {d : DefRec} {K : Params → PySem.W.Frag}
    {CX : World → CXT} {sp : World → Sp} {x : Str} (hn : l.most = some n) (hn2 : n ≤ sizeLine)
    (hdf : d.params.defaults = []) (hr : Room k callerA) (hY : ∀ (w : World) (h : Heap), YP w h → (K w.params).In h)
    (F : ∀ (w : World) (mg : Str → Option Value) (fa : Addr) (h : Heap), (K w.params).In h → h.Ns mainGlobals mg →
      mg d.name = some (.ref fa) → ∃ fd : FuncData, (∀ (s : Shared) (u : Value), BindsTo s fd ⟨[u], []⟩ [(x, u)]) ∧
        ∀ base : Heap, (K w.params).In base → base.Ns mainGlobals mg →
          FnG l.prog w (K w.params) mg base (CX w) k fa fd [x] (sp w))
    (hsp : ∀ (w : World) (H : Hp) (a : Addr) (ns : List Int), ns.length ≤ n → Only H →
      SqL (K w.params) H a (ns.map V.int) → sp w [.ref a] H (fun v _ => v = .bl true) fun _ _ _ => False)
    (hCX : ∀ (w : World) (H : Hp) (s : Shared) (e : Value) (s' : Shared), CX w [] H s (fun _ _ _ => False) e s' → False) :
    PySem.W.WalkO q loose XP YP l.row.toRowW d [] (fun f vs => PySem.call f vs) := by
  refine Att.attach_call hn hdf fun w s₀ s₁ mg mb fa o pm cd doc a vs ns G Y ho hd hcd hmg hobj hints hlen hg => ?_
  have KX := hY w _ Y
  obtain ⟨fd, hbn, hF⟩ := F w mg fa _ KX G.T.g hmg
  exact law_callG KX G.T.g G.T.b G.T.builtins G.T.nolimit hg hobj hints (Nat.le_trans hlen hn2) hr hF hbn
    (fun H hO hS => hsp w H a ns hlen hO hS) fun H e s' => hCX w H s₁ e s'
end Pw

/-! Exceptions of one's own as values: made by their own __init__, which calls that of the class above it by name; their args are tracked. -/
namespace Pw
open PySem PySem.Spec PyProof.Rows L2

/-- the object of an exception: its class, its dict, where its args lie -/
abbrev exOb (C : Addr) (d : Option Addr) (t : Addr) : Obj :=
  { cls := .ref C, dict := d, data := .fields #[.ref t, .none, .none, .none, .bool false, .none] }
/-- at e: an exception of the class at C; its args are the tuple at t -/
def exq (e C : Addr) (d : Option Addr) (t : Addr) : HO := .ext fun h => h.get? e = some (exOb C d t)
theorem exq_own {e C x t : Addr} {d : Option Addr} : exq e C d t ≠ .own x := fun z => by
  have z' : HO.ext _ = HO.own x := z
  cases z'
theorem exq_tup {e C t : Addr} {d : Option Addr} {xs : List V} : exq e C d t ≠ .tup xs := fun z => by
  have z' : HO.ext _ = HO.tup xs := z
  cases z'
theorem exq_lst {e C t : Addr} {d : Option Addr} {xs : List V} : exq e C d t ≠ .lst xs := fun z => by
  have z' : HO.ext _ = HO.lst xs := z
  cases z'
theorem exq_frz {e C t : Addr} {d : Option Addr} {o : Obj} {u : HO} : exq e C d t ≠ .frz o u := fun z => by
  have z' : HO.ext _ = HO.frz o u := z
  cases z'
theorem exq_tbl {e C t : Addr} {d : Option Addr} {ps : Array Value} : exq e C d t ≠ .tbl ps := fun z => by
  have z' : HO.ext _ = HO.tbl ps := z
  cases z'
theorem exq_ok {P : Program} {w : World} {H : Hp} {h : Heap} {e C t : Addr} {d : Option Addr}
    (he : h.get? e = some (exOb C d t)) : ObjOk P w H h e (exq e C d t) :=
  ⟨he, ⟨_, he⟩, fun _ _ z k => k _ z⟩
theorem exq_at {P : Program} {w : World} {H : Hp} {h : Heap} {e C t : Addr} {d : Option Addr} (hok : HOk P w H h)
    (he : H e = some (exq e C d t)) : h.get? e = some (exOb C d t) := by
  have x : ObjOk P w H h e (.ext fun h => h.get? e = some (exOb C d t)) := hok e _ he
  exact x.1

section
variable {X : Cx} {pins : List (Addr × Obj)} {σ : L2.St} {H : Hp} {s : Shared} {a C t1 : Addr} {f : Str} {y : V}
  {u : Value} {E : Value → Shared → Prop} {A : Around}

/-- self.f = y, the first attribute -/
theorem eq_new {Q : Unit → Shared → Prop} (T : OexC X.K C) (I : Inv X pins σ H s) (e : H a = some (exq a C none t1))
    (hno : PySem.W.findIn X.K (.ref C) f = some none) (ry : RelV y u)
    (h : ∀ dx s', H dx = none → dx ≠ a →
      Inv X pins σ (upd (upd H dx (exd dx [(f, y)])) a (exq a C (some dx) t1)) s' → Q () s') :
    wpAny (model X.prog X.w) A (setAttr (.ref a) f u) Q E s := by
  obtain ⟨nm, q, N, bs, bm, sn, sub, ab, col, dd, k0, k1, k2, k3, k5, hC, hbm⟩ := T.cls
  have hcl : PySem.W.clsIn X.K C = some { name := nm, bases := bs, mro := .ref C :: bm, ns := N, qualname := q, hasDict := true, slotNames := sn, subclasses := sub, abstract := ab, collection := col, hasDel := false } := by
    unfold PySem.W.clsIn
    rw [hC] <;> rfl
  have ho := exq_at I.hok e
  obtain ⟨hp, g, d, t, os⟩ := s
  refine PySem.W.set_plain I.kIn (ox := exOb C none t1) (od := none) ⟨ho, rfl, rfl, trivial⟩ T.sa ?_
  refine PySem.HandSPX.exc_osa I.kIn ho hcl
    (show PySem.HandSPX.refsVE (.ref C :: bm) = true from hbm) rfl hno (fun h' tk' dx k dn dne hx hn => ?_)
  have hnd : H dx = none := I.hok.fresh dn
  have nd : ∀ {b : Addr} {o : Obj}, hp.get? b = some o → b ≠ dx :=
    fun {b o} q => Nat.ne_of_lt (Nat.lt_of_lt_of_le (Heap.lt_size q) dn)
  have na : ∀ {b : Addr}, H b = none → b ≠ a := fun {b} n z => by rw [z, e] at n; cases n
  have Un1 : Un X.fs [] H (upd (upd H dx (exd dx [(f, y)])) a (exq a C (some dx) t1)) hp h' := {
    keep := fun b o q n _ _ => k b o (na n) q
    slot := fun b o q n _ _ => ⟨o.slots, k b o (na n) q⟩
    free := fun b o q n _ => ((upd_ne (na n)).trans (upd_ne (nd q))).trans n
    there := fun b o q _ => by
      by_cases hb : b = a
      · exact ⟨_, hb ▸ hx⟩
      · exact ⟨o, k b o hb q⟩
    tups := fun b xs q => ((upd_ne (at_ne e q exq_tup)).trans (upd_ne (ne_of_none q hnd))).trans q
    frzs := fun b o v q => ((upd_ne (at_ne e q exq_frz)).trans (upd_ne (ne_of_none q hnd))).trans q
    tbls := fun b ps q => ⟨#[], by rw [upd_ne (at_ne e q exq_tbl), upd_ne (ne_of_none q hnd), q]; simp⟩ }
  refine h dx _ hnd dne (I.un (t' := tk') Un1 fun b o q => ?_)
  by_cases hb : b = a
  · subst hb
    cases upd_same.symm.trans q
    exact exq_ok hx
  · rw [upd_ne hb] at q
    by_cases hd : b = dx
    · subst hd
      cases upd_same.symm.trans q
      exact exd_ok hn (relO_put (fs := []) ry fun g => True.intro)
    · rw [upd_ne hd] at q
      refine (I.hok b o q).stay (fun c v hc z => k c v ?_ z)
        (fun c hc => ((upd_ne (at_ne e hc exq_own)).trans (upd_ne (ne_of_none hc hnd))).trans hc)
        (fun c xs hc => ((upd_ne (at_ne e hc exq_tup)).trans (upd_ne (ne_of_none hc hnd))).trans hc)
      rcases hc with hc | hc
      · exact hc ▸ hb
      · exact at_ne e hc exq_own

/-- ValueError.__init__(e, ..): its args are laid anew, at a place of their own -/
theorem init_args {prog : Program} {w : World} {A : Around} {R : Result → Shared → Prop} {h : Heap}
    {g : Array GenState} {d : Drawn} {t : Nat} {os : OsState} {nm q : Str} {C N : Addr} {bs bm bmB : List Value}
    {hdct : Bool} {sn : List Str} {sub : List Value} {ab : Bool} {col : Option Bool} {dd : Option Addr}
    {k0 k1 k2 k3 k5 : Option Value} {B newId initId : String} (F : ExcBaseFacts B newId initId bmB)
    (hT : ∀ X : String, bm.contains (.type X) = bmB.contains (.type X)) {e t0 : Addr} {rest : List Value}
    (hC : h.get? C = some (excClassObj nm q C N bs bm hdct sn sub ab col dd k0 k1 k2 k3 k5 newId))
    (he : h.get? e = some (exOb C none t0)) (hrest : rest.length ≤ sizeLine)
    (hq : ∀ h' t1, h.objs.size ≤ t1 → (∀ b o, b ≠ e → h.get? b = some o → h'.get? b = some o) →
      h'.get? e = some (exOb C none t1) → h'.get? t1 = some (PySem.W.kdv_tup rest) →
      R (.ok (.ret .none)) ⟨h', g, d, t, os⟩) :
    codeAny (model prog w) A (.call (.builtin initId) ⟨.ref e :: rest, []⟩) R ⟨h, g, d, t, os⟩ := by
  refine codeAny_call_builtin F.init.plain F.initEntry (PySem.HandSPX.check_init_own F hT hC he rfl ?_)
  have hes : e ≠ h.objs.size := Nat.ne_of_lt (Heap.lt_size he)
  wp_walk
  refine hq _ h.objs.size (Nat.le_refl _) (fun b o hb ho => ?_) ?_ ?_
  · exact (Heap.get?_update_other _ _ (Ne.symm hb)).trans (Heap.get?_push_of_some _ ho)
  · exact (Heap.get?_update_self _ (Heap.get?_push_of_some _ he) rfl).trans rfl
  · exact (Heap.get?_update_other _ _ hes).trans (Heap.get?_push_size _ rfl)

theorem eq_init {us : List Value} {ws : List V} {Q : Value → Shared → Prop} (T : OexC X.K C) (I : Inv X pins σ H s)
    (e : H a = some (exq a C none t1)) (hl : us.length ≤ sizeLine) (rw' : Vals ws us)
    (h : ∀ t2 s', H t2 = none → t2 ≠ a → Inv X pins σ (upd (upd H t2 (.tup ws)) a (exq a C none t2)) s' → Q .none s') :
    wpAny (model X.prog X.w) A (call (.builtin "ValueError.__init__") (.ref a :: us)) Q E s := by
  obtain ⟨nm, q, N, bs, bm, sn, sub, ab, col, dd, k0, k1, k2, k3, k5, hC, hbm⟩ := T.cls
  have ho := exq_at I.hok e
  obtain ⟨hp, g, d, t, os⟩ := s
  refine wpAny_call (init_args F.excBase_ValueError (fun Y => PySem.HandSPX.refsVE_contains Y bm hbm)
    (I.kIn _ _ hC) ho hl fun h' t2 hsz k hx ht => ?_)
  have nt : H t2 = none := I.hok.fresh hsz
  have nea : t2 ≠ a := (ne_of_none e nt).symm
  have na : ∀ {b : Addr}, H b = none → b ≠ a := fun {b} n z => by rw [z, e] at n; cases n
  have nd : ∀ {b : Addr} {o : Obj}, hp.get? b = some o → b ≠ t2 :=
    fun {b o} q => Nat.ne_of_lt (Nat.lt_of_lt_of_le (Heap.lt_size q) hsz)
  have Un1 : Un X.fs [] H (upd (upd H t2 (.tup ws)) a (exq a C none t2)) hp h' := {
    keep := fun b o q n _ _ => k b o (na n) q
    slot := fun b o q n _ _ => ⟨o.slots, k b o (na n) q⟩
    free := fun b o q n _ => ((upd_ne (na n)).trans (upd_ne (nd q))).trans n
    there := fun b o q _ => by
      by_cases hb : b = a
      · exact ⟨_, hb ▸ hx⟩
      · exact ⟨o, k b o hb q⟩
    tups := fun b xs q => ((upd_ne (at_ne e q exq_tup)).trans (upd_ne (ne_of_none q nt))).trans q
    frzs := fun b o v q => ((upd_ne (at_ne e q exq_frz)).trans (upd_ne (ne_of_none q nt))).trans q
    tbls := fun b ps q => ⟨#[], by rw [upd_ne (at_ne e q exq_tbl), upd_ne (ne_of_none q nt), q]; simp⟩ }
  refine h t2 _ nt nea (I.un (t' := t) Un1 fun b o q => ?_)
  by_cases hb : b = a
  · subst hb
    cases upd_same.symm.trans q
    exact exq_ok hx
  · rw [upd_ne hb] at q
    by_cases hd : b = t2
    · subst hd
      cases upd_same.symm.trans q
      exact ⟨by rw [Paired.length rw']; exact hl, us, rw', _, ht, rfl, _, rfl⟩
    · rw [upd_ne hd] at q
      refine (I.hok b o q).stay (fun c v hc z => k c v ?_ z)
        (fun c hc => ((upd_ne (at_ne e hc exq_own)).trans (upd_ne (ne_of_none hc nt))).trans hc)
        (fun c xs hc => ((upd_ne (at_ne e hc exq_tup)).trans (upd_ne (ne_of_none hc nt))).trans hc)
      rcases hc with hc | hc
      · exact hc ▸ hb
      · exact at_ne e hc exq_own
end

/-! ### the rules -/
/-- ValueError.__init__(self, ..) -/
def tVeq (K : PySem.W.Frag) (ta : TA) : TE := fun σ H Q => ta σ H fun vs H1 =>
  ∃ (a C t0 : Addr) (ws : List V), vs = .ref a :: ws ∧ ws.length ≤ 1000 ∧ OexC K C ∧ H1 a = some (exq a C none t0) ∧
    ∀ t2, H1 t2 = none → t2 ≠ a → Q .non (upd (upd H1 t2 (.tup ws)) a (exq a C none t2))
/-- self.f = e, the first attribute -/
def tEst (K : PySem.W.Frag) (f : Str) (to te : TE) : TS := fun D σ H => te σ H fun y H1 => to σ H1 fun x H2 =>
  ∃ a C t1 : Addr, x = .ref a ∧ OexC K C ∧ PySem.W.findIn K (.ref C) f = some none ∧ H2 a = some (exq a C none t1) ∧
    ∀ dx, H2 dx = none → dx ≠ a → D.nx σ (upd (upd H2 dx (exd dx [(f, y)])) a (exq a C (some dx) t1))
/-- C(e, ..) as a value -/
def tMkq (C : Addr) (sp : Sp) (dvs : List V) (ta : TA) : TE := fun σ H Q => ta σ H fun vs H1 => vs.length ≤ 1000 ∧
  ∀ t0 a, H1 t0 = none → H1 a = none → t0 ≠ a →
    sp (.ref a :: (vs ++ dvs)) (upd (upd H1 t0 (.tup vs)) a (exq a C none t0))
      (fun v H2 => v = .non ∧ Q (.ref a) H2) (fun _ _ _ => False)

section
variable {X : Cx} {o e : Expr} {es : List Expr} {to te : TE} {ta : TA} {f : Str} {p p' p1 p2 pos : Pos}
theorem pe_veq {pl : Sem Bool} (hg : Gl X "ValueError") (hm : X.mg "ValueError" = none)
    (vV : PySem.W.findCls X.K (.type "ValueError") (.type "type") "__init__" = some (.val (.builtin "ValueError.__init__")))
    (ha : PA X (e :: es) ta)
    (hc : eval (.Call (.Attribute (.Name "ValueError" p1) "__init__" p2) (e :: es) [] pos) X.env = (do
      let ov ← eval (.Name "ValueError" p1) X.env
      standAt p2.atName
      let (f, first) ← holding [ov] (getMethod ov "__init__" pl)
      callWith pos f first (backTo pos (starEach (e :: es) X.env)) (backToKw pos (keywordEach [] X.env))) := by rfl)
    (he : starEach (e :: es) X.env = (false, eval e X.env) :: starEach es X.env := by rfl)
    (hpl : (backTo pos (starEach es X.env)).any (·.1) = false := by rfl) :
    PE X (.Call (.Attribute (.Name "ValueError" p1) "__init__" p2) (e :: es) [] pos) (tVeq X.K ta) := by
  refine ⟨fun pins s σ H Q I h => ?_⟩
  refine PySem.W.methodCall_KW (ld_blt I hg hm PyProof.Rows.Boot.«ValueError» ?_ (by decide) (by decide)) hc
  obtain ⟨m, fr⟩ := I.fr
  refine PySem.W.method_type fr I.ok.mod.kin PySem.OEX.typ_VE (by decide +kernel) vV (by decide +kernel) ?_
  refine PyProof.Rows.callWith_method1 (first := []) (thn (ha.run pos pins _ σ H _ (I.tok _) h)
    fun us s1 ⟨vs, H1, I1, r1, a, C, t0, ws, ev, hl, T, ea, q⟩ => ?_) he hpl
  subst ev
  cases r1 with
  | @cons _ u0 _ ur ra rw' =>
    obtain rfl : u0 = Value.ref a := ra
    have hlen : ur.length ≤ sizeLine := by
      rw [← Paired.length rw', sizeLine_eq]
      omega
    exact eq_init T I1 ea hlen rw' fun t2 s' n1 n2 J => ⟨.non, _, J, rfl, q t2 n1 n2⟩

theorem ps_est (ho : PE X o to) (he : PE X e te)
    (hs : swapsWith e (some (.Attribute o f p')) pos.line X.env = pure false := by rfl) :
    PS X (.Assign [.Attribute o f p'] e pos) (tEst X.K f to te) := by
  refine ⟨fun pins s σ H D I h => ?_⟩
  refine plainObj_wpAny_Assign_Attribute (thn (he.run pins s σ H _ I h) fun v s1 ⟨y, H1, I1, r1, q1⟩ =>
    thn (ho.run pins s1 σ H1 _ I1 q1) fun u s2 ⟨x, H2, I2, r2, a, C, t1, ex, T, hno, ea, q⟩ => ?_) hs
  subst ex
  obtain rfl : u = Value.ref a := r2
  exact eq_new T I2 ea hno r1 fun dx s' n ne J => ⟨σ, _, J, q dx n ne⟩

/-- C.m(e, ..), C an own class, m a def of it: read off the class -/
theorem pe_off {x m : Str} {CX : CXT} {k : Nat} {C g : Addr} {fd : FuncData} {ps : List Str} {sp : Sp} {E : XK}
    {dvs : List V} {ds : List Value} {pl : Sem Bool} (hg : Gl X x) (hm : X.mg x = some (.ref C))
    (sg : PySem.W.specialIn X.K (.ref C) "__getattribute__" = some (some (.builtin "type.__getattribute__")))
    (rd : PySem.W.readsIn X.K C (.type "type") = true)
    (at_ : PySem.W.findCls X.K (.ref C) (.type "type") m = some (.val (.ref g)))
    (kg : PySem.W.keepIn X.K (.ref g) = true)
    (F : FnOk X.prog X.w X.K X.mg X.base CX k g fd ps sp) (hr : Room k X.A) (hb : Binds X.K fd ps ds)
    (hd : Vals dvs ds) (hx : Passes CX X E) (ha : PA X (e :: es) ta)
    (hdb : (x == ("__debug__" : Str)) = false := by decide)
    (hc : eval (.Call (.Attribute (.Name x p1) m p2) (e :: es) [] pos) X.env = (do
      let ov ← eval (.Name x p1) X.env
      standAt p2.atName
      let (f, first) ← holding [ov] (getMethod ov m pl)
      callWith pos f first (backTo pos (starEach (e :: es) X.env)) (backToKw pos (keywordEach [] X.env))) := by rfl)
    (he : starEach (e :: es) X.env = (false, eval e X.env) :: starEach es X.env := by rfl)
    (hpl : (backTo pos (starEach es X.env)).any (·.1) = false := by rfl) :
    PE X (.Call (.Attribute (.Name x p1) m p2) (e :: es) [] pos) (tCall sp dvs E ta) := by
  refine ⟨fun pins s σ H Q I h => ?_⟩
  refine PySem.W.methodCall_KW (ld_glob I hg hm ?_ hdb) hc
  refine PySem.W.method_cls I.kIn sg (PySem.W.cls_value I.kIn rd at_ rfl ?_)
  refine PySem.W.callWith_K (first := []) (h₀ := X.base) I.ok.mod.kin kg
    (thn (ha.run pos pins _ σ H _ (I.tok _) h) fun us s1 ⟨vs, H1, I1, r, q⟩ => ⟨I1.kIn, ?_⟩) he hpl
  exact run_fn F hr hb hd hx I1 r q

theorem pe_mkq {x : Str} {C fI : Addr} {k : Nat} {CX : CXT} {fd : FuncData} {ps : List Str} {sp : Sp}
    {ds : List Value} {dvs : List V} (T : OexC X.K C)
    (iC : PySem.W.findIn X.K (.ref C) "__init__" = some (some (.ref fI)))
    (tI : PySem.W.typeIn X.K (.ref fI) = some (.type "function"))
    (F1 : FnOk X.prog X.w X.K X.mg X.base CX k fI fd ps sp) (hr : Room (k + 1) X.A) (hb : Binds X.K fd ps ds)
    (hd : Vals dvs ds) (hx : Passes CX X (fun _ _ _ => False)) (hg : Gl X x) (hm : X.mg x = some (.ref C))
    (ha : PA X (e :: es) ta) (hdb : (x == ("__debug__" : Str)) = false := by decide)
    (he : starEach (e :: es) X.env = (false, eval e X.env) :: starEach es X.env := by rfl)
    (hpl : (backTo pos (starEach es X.env)).any (·.1) = false := by rfl) :
    PE X (.Call (.Name x p) (e :: es) [] pos) (tMkq C sp dvs ta) := by
  refine ⟨fun pins s σ H Q I h => ?_⟩
  obtain ⟨nm, q, N, bs, bm, sn, sub, ab, col, dd, k0, k1, k2, k3, k5, hC, hbm⟩ := T.cls
  refine wpAny_Call_Name_kw (ld_glob I hg hm ?_ hdb)
  refine PySem.W.callWith_K (h₀ := X.base) I.ok.mod.kin T.kC
    (thn (ha.run pos pins s σ H _ I h) fun us s1 ⟨vs, H1, I1, r1, hz, q1⟩ => ⟨I1.kIn, ?_⟩) he hpl
  show wpAny _ _ (call (.ref C) us) _ _ _
  obtain ⟨hp, g, dr, tk, os⟩ := s1
  have n0 : H1 hp.objs.size = none := I1.hok.fresh (Nat.le_refl _)
  have n1 : H1 (hp.objs.size + 1) = none := I1.hok.fresh (Nat.le_succ _)
  have hne : hp.objs.size ≠ hp.objs.size + 1 := Nat.ne_of_lt (Nat.lt_succ_self _)
  have hq := q1 hp.objs.size (hp.objs.size + 1) n0 n1 hne
  have hus : us.length ≤ sizeLine := by
    rw [← Paired.length r1, sizeLine_eq]
    omega
  have I2 : Inv X pins σ (upd H1 hp.objs.size (.tup vs)) ⟨hp.push (PySem.W.kdv_tup us), g, dr, tk, os⟩ :=
    I1.laid (t' := tk) (a := hp.objs.size) (o := .tup vs) (h' := hp.push (PySem.W.kdv_tup us))
      (fun b o z => Heap.get?_push_of_some _ z) (Nat.le_refl _)
      ⟨by rw [Paired.length r1]; exact hus, us, r1, _, Heap.get?_push_size _ rfl, rfl, _, rfl⟩
  have hget : ((hp.push (PySem.W.kdv_tup us)).push (exOb C none hp.objs.size)).get? (hp.objs.size + 1) =
      some (exOb C none hp.objs.size) := by heap_get
  have hsz2 : (hp.push (PySem.W.kdv_tup us)).objs.size ≤ hp.objs.size + 1 := by
    simp [Heap.push]
  have I3 : Inv X pins σ (upd (upd H1 hp.objs.size (.tup vs)) (hp.objs.size + 1) (exq (hp.objs.size + 1) C none hp.objs.size))
      ⟨(hp.push (PySem.W.kdv_tup us)).push (exOb C none hp.objs.size), g, dr, tk, os⟩ :=
    I2.laid (t' := tk) (a := hp.objs.size + 1) (o := exq (hp.objs.size + 1) C none hp.objs.size)
      (h' := (hp.push (PySem.W.kdv_tup us)).push (exOb C none hp.objs.size))
      (fun b o z => Heap.get?_push_of_some _ z) hsz2 (exq_ok hget)
  have r2 : Vals (V.ref (hp.objs.size + 1) :: (vs ++ dvs)) (Value.ref (hp.objs.size + 1) :: (us ++ ds)) :=
    .cons rfl (r1.append hd)
  have hl : (Value.ref (hp.objs.size + 1) :: us ++ ds).length = ps.length :=
    r2.length.symm.trans (F1.len _ _ _ _ hq)
  refine wpAny_call (PySem.HandSPX.call_own F.excBase_ValueError (fun Y => PySem.HandSPX.refsVE_contains Y bm hbm)
    (I1.kIn _ _ hC) (PySem.W.looks_findIn I1.kIn iC) (fun self => PySem.W.bind_fn I1.kIn self tI) hus
    (codeAny_mono (F1.run _ X.stack _ _ ⟨Value.ref (hp.objs.size + 1) :: us, []⟩
      (Value.ref (hp.objs.size + 1) :: (us ++ ds)) _ _ (fun _ _ _ => False) (hr.make C us []) (I3.env0.make C us [])
      (hb _ (Value.ref (hp.objs.size + 1) :: us) I3.kIn hl) r2 hq) fun r s' hq' => ?_))
  match r, hq' with
  | .error er, hq' => exact hx pins σ _ _ er s' I3 hq'
  | .ok (.ret u), hq' =>
    obtain ⟨v, H', I4, rv, ev, q3⟩ := I3.after hq'
    subst ev
    exact ⟨rv, ⟨V.ref (hp.objs.size + 1), H', I4, rfl, q3⟩⟩
  | .ok .next, hq' => exact False.elim hq'
  | .ok .brk, hq' => exact False.elim hq'
  | .ok .cont, hq' => exact False.elim hq'
end
end Pw

/-! What repr tells of a value: of data that are tracked, with exceptions of one's own among them. -/
namespace Pw
open PySem PySem.Spec PyProof.Rows L2
open Sem (wp)
open Builtin Builtin.Str Builtin.BaseException Builtin.Exceptions

/-- how a class's name stands in what is shown -/
def clsHead (n : Str) : Str := Str.ofString ((n.toString.cutAt '.').getLastD "")
/-- what the class of an exception must say, so that it is shown by its name and its args -/
structure ExR (K : PySem.W.Frag) (C : Addr) (nm : Str) : Prop where
  rep : PySem.W.findIn K (.ref C) "__repr__" = some (some (.builtin "BaseException.__repr__"))
  sub : PySem.W.subIn K (.ref C) (.type "BaseException") = some true
  nam : ∃ cd, PySem.W.clsIn K C = some cd ∧ cd.name = nm

mutual
/-- repr of the value is the text; the first number: how deep it is; the second: no less than the text's length -/
inductive Shw (K : PySem.W.Frag) (H : Hp) : V → Nat → Nat → Str → Prop
  | non : Shw K H .non 0 5 "None"
  | bl (b : Bool) : Shw K H (.bl b) 0 5 (if b then "True" else "False")
  | int (i : Int) (h : i.natAbs.log2 < 1920) : Shw K H (.int i) 0 1921 (toString i)
  | str (x : Str) (m : Nat) (h : (reprText x).length ≤ m) : Shw K H (.str x) 0 m (reprText x)
  | lst {a : Addr} {xs : List V} {d n : Nat} {ts : List Str} (e : H a = some (.lst xs)) (h : ShwL K H xs d n ts) :
      Shw K H (.ref a) (d + 1) (n + 2) (listText ts)
  | tup {a : Addr} {xs : List V} {d n : Nat} {ts : List Str} (e : H a = some (.tup xs)) (h : ShwL K H xs d n ts) :
      Shw K H (.ref a) (d + 1) (n + 3) (tupleText ts)
  | dct {a : Addr} {kvs : List (Key × V)} {d1 d2 n1 n2 : Nat} {ks vs : List Str} (e : H a = some (.dK kvs))
      (h1 : ShwL K H (kvs.map fun p => kV p.1) d1 n1 ks) (h2 : ShwL K H (kvs.map fun p => p.2) d2 n2 vs) :
      Shw K H (.ref a) (max d1 d2 + 1) (n1 + n2 + 2) (dictText (List.zipWith (fun k v : Str => k ++ ": " ++ v) ks vs))
  | exc {a C t : Addr} {d : Option Addr} {x nm : Str} {n1 n2 : Nat} (e : H a = some (exq a C d t))
      (et : H t = some (.tup [.str x])) (c : ExR K C nm) (l1 : (clsHead nm).length ≤ n1) (l2 : (reprText x).length ≤ n2) :
      Shw K H (.ref a) 0 (n1 + n2 + 2) (clsHead nm ++ "(" ++ reprText x ++ ")")
inductive ShwL (K : PySem.W.Frag) (H : Hp) : List V → Nat → Nat → List Str → Prop
  | nil : ShwL K H [] 0 0 []
  | cons {v : V} {vs : List V} {d e n m : Nat} {t : Str} {ts : List Str} (h : Shw K H v d n t) (hs : ShwL K H vs e m ts) :
      ShwL K H (v :: vs) (max d e) (n + 2 + m) (t :: ts)
end

theorem dK_lst {kvs : List (Key × V)} {xs : List V} : HO.dK kvs ≠ HO.lst xs := fun z => nomatch z
theorem dK_exq {kvs : List (Key × V)} {e C t : Addr} {d : Option Addr} : HO.dK kvs ≠ exq e C d t := fun z => by
  have z' : HO.dK kvs = HO.ext _ := z
  cases z'
section
variable {K : PySem.W.Frag} {H : Hp}
mutual
/-- a value is as deep as it is -/
theorem Shw.one : ∀ {v : V} {d n d' n' : Nat} {t t' : Str}, Shw K H v d n t → Shw K H v d' n' t' → d = d'
  | _, _, _, _, _, _, _, .non, .non => rfl
  | _, _, _, _, _, _, _, .bl _, .bl _ => rfl
  | _, _, _, _, _, _, _, .int _ _, .int _ _ => rfl
  | _, _, _, _, _, _, _, .str _ _ _, .str _ _ _ => rfl
  | _, _, _, _, _, _, _, .lst e h, .lst e' h' => by
    cases e.symm.trans e'
    rw [ShwL.one h h']
  | _, _, _, _, _, _, _, .lst e h, .tup e' h' => nomatch e.symm.trans e'
  | _, _, _, _, _, _, _, .lst e h, .dct e' _ _ => nomatch e.symm.trans e'
  | _, _, _, _, _, _, _, .lst e h, .exc e' _ _ _ _ => absurd (Option.some.inj (e.symm.trans e')).symm exq_lst
  | _, _, _, _, _, _, _, .tup e h, .lst e' h' => nomatch e.symm.trans e'
  | _, _, _, _, _, _, _, .tup e h, .tup e' h' => by
    cases e.symm.trans e'
    rw [ShwL.one h h']
  | _, _, _, _, _, _, _, .tup e h, .dct e' _ _ => nomatch e.symm.trans e'
  | _, _, _, _, _, _, _, .tup e h, .exc e' _ _ _ _ => absurd (Option.some.inj (e.symm.trans e')).symm exq_tup
  | _, _, _, _, _, _, _, .dct e _ _, .lst e' h' => nomatch e.symm.trans e'
  | _, _, _, _, _, _, _, .dct e _ _, .tup e' h' => nomatch e.symm.trans e'
  | _, _, _, _, _, _, _, .dct e h1 h2, .dct e' h1' h2' => by
    cases e.symm.trans e'
    rw [ShwL.one h1 h1', ShwL.one h2 h2']
  | _, _, _, _, _, _, _, .dct e _ _, .exc e' _ _ _ _ => absurd (Option.some.inj (e.symm.trans e')) dK_exq
  | _, _, _, _, _, _, _, .exc e _ _ _ _, .lst e' h' => absurd (Option.some.inj (e.symm.trans e')) exq_lst
  | _, _, _, _, _, _, _, .exc e _ _ _ _, .tup e' h' => absurd (Option.some.inj (e.symm.trans e')) exq_tup
  | _, _, _, _, _, _, _, .exc e _ _ _ _, .dct e' _ _ => absurd (Option.some.inj (e.symm.trans e')).symm dK_exq
  | _, _, _, _, _, _, _, .exc e _ _ _ _, .exc e' _ _ _ _ => rfl
theorem ShwL.one : ∀ {vs : List V} {d n d' n' : Nat} {ts ts' : List Str}, ShwL K H vs d n ts → ShwL K H vs d' n' ts' → d = d'
  | _, _, _, _, _, _, _, .nil, .nil => rfl
  | _, _, _, _, _, _, _, .cons h hs, .cons h' hs' => by rw [Shw.one h h', ShwL.one hs hs']
end

/-- the length of a join of texts, each with two signs more -/
theorem join_le (sep : Str) (hsep : sep.length = 2) : ∀ ts : List Str, (Str.join sep ts).length ≤ (ts.map fun t => t.length + 2).sum
  | [] => by
    show (Str.join sep []).length ≤ 0
    exact Nat.le_of_eq rfl
  | [x] => by
    show x.length ≤ _
    simp only [List.map_cons, List.map_nil, List.sum_cons, List.sum_nil]
    omega
  | x :: y :: r => by
    have ih := join_le sep hsep (y :: r)
    show (x ++ sep ++ Str.join sep (y :: r)).length ≤ _
    rw [strLen_append, strLen_append, hsep]
    simp only [List.map_cons, List.sum_cons] at ih ⊢
    omega
theorem textFrom_le : ∀ (ts : List Str) (i : Nat) (b : Str), (textFrom i b ts).length ≤ b.length + (ts.map fun t => t.length + 2).sum := by
  intro ts
  induction ts with
  | nil =>
    intro i b
    exact Nat.le_add_right _ _
  | cons t r ih =>
    intro i b
    have h := ih (i + 1) (b ++ Str.ofString (if 0 < i then ", " else "") ++ t)
    have e : textFrom i b (t :: r) = textFrom (i + 1) (b ++ Str.ofString (if 0 < i then ", " else "") ++ t) r := rfl
    rw [e]
    refine Nat.le_trans h ?_
    rw [strLen_append, strLen_append]
    have h2 : (Str.ofString (if 0 < i then ", " else "")).length ≤ 2 := by
      split <;> decide +kernel
    simp only [List.map_cons, List.sum_cons]
    omega
mutual
theorem Shw.len : ∀ {v : V} {d n : Nat} {t : Str}, Shw K H v d n t → t.length ≤ n
  | _, _, _, _, .non => by decide +kernel
  | _, _, _, _, .bl b => by cases b <;> decide +kernel
  | _, _, _, _, .int i h => int_text_len_1921 h
  | _, _, _, _, .str x m h => h
  | _, _, _, _, .lst (ts := ts) e h => by
    have h1 := ShwL.len h
    have h2 := textFrom_le ts 0 "["
    have e1 : ("[" : Str).length = 1 := rfl
    have e2 : (listText ts).length = (textFrom 0 "[" ts).length + 1 := by
      show (textFrom 0 "[" ts ++ "]").length = _
      rw [strLen_append]; rfl
    omega
  | _, _, _, _, .tup (ts := ts) e h => by
    have h1 := ShwL.len h
    have h2 := join_le ", " rfl ts
    unfold tupleText
    rw [strLen_append, strLen_append]
    have e1 : ("(" : Str).length = 1 := rfl
    have e2 : (Str.ofString (if (ts.length == 1) = true then ",)" else ")")).length ≤ 2 := by split <;> decide +kernel
    omega
  | _, _, _, _, .dct (ks := ks) (vs := vs) e h1 h2 => by
    have q1 := ShwL.len h1
    have q2 := ShwL.len h2
    have q3 := join_le ", " rfl (List.zipWith (fun k v : Str => k ++ ": " ++ v) ks vs)
    have q4 : ∀ (ks vs : List Str), ((List.zipWith (fun k v : Str => k ++ ": " ++ v) ks vs).map fun t => t.length + 2).sum ≤ (ks.map fun t => t.length + 2).sum + (vs.map fun t => t.length + 2).sum := by
      intro ks
      induction ks with
      | nil => intro vs; simp
      | cons k r ih =>
        intro vs
        cases vs with
        | nil => simp
        | cons v r' =>
          have i1 := ih r'
          have i2 : (k ++ (": " : Str) ++ v).length = k.length + 2 + v.length := by
            rw [strLen_append, strLen_append]; rfl
          simp only [List.zipWith_cons_cons, List.map_cons, List.sum_cons] at i1 ⊢
          omega
    have q5 := q4 ks vs
    unfold dictText
    rw [strLen_append, strLen_append]
    have e1 : ("{" : Str).length = 1 := rfl
    have e2 : ("}" : Str).length = 1 := rfl
    omega
  | _, _, _, _, .exc e et c l1 l2 => by
    rw [strLen_append, strLen_append, strLen_append]
    have e1 : ("(" : Str).length = 1 := rfl
    have e2 : (")" : Str).length = 1 := rfl
    omega
theorem ShwL.len : ∀ {vs : List V} {d n : Nat} {ts : List Str}, ShwL K H vs d n ts → (ts.map fun t => t.length + 2).sum ≤ n
  | _, _, _, _, .nil => Nat.le_refl _
  | _, _, _, _, .cons h hs => by
    have h1 := Shw.len h
    have h2 := ShwL.len hs
    simp only [List.map_cons, List.sum_cons]
    omega
end
end

/-! ### an exception of one's own is shown -/
section
variable {prog : Program} {w : World} {h₀ : Heap} {K : PySem.W.Frag} {C : Addr} {nm : Str}
theorem typ_at {M : Model} {h : Heap} {e t : Addr} {d : Option Addr} (he : h.get? e = some (exOb C d t)) :
    PySem.W.Looks M h (typeOf (.ref e)) (.ref C) := by
  intro A' Q' E' s' k q
  unfold typeOf
  exact wpAny_bind (wpAny_loadPart (k _ _ he) (wpAny_pure q))
/-- the displayed class, by name -/
theorem name_of {M : Model} {A : Around} {E : Value → Shared → Prop} {s : Shared} {e t : Addr} {d : Option Addr}
    {cd : ClassData} {Q : String → Shared → Prop} (X : K.In s.heap) (he : s.heap.get? e = some (exOb C d t))
    (hc : PySem.W.clsIn K C = some cd) (hq : Q cd.name.toString s) : wpAny M A (typeNameOfWhole (.ref e)) Q E s := by
  unfold typeNameOfWhole shownTypeOf
  have L0 : PySem.W.Looks M s.heap (typeOf (.ref e)) (.ref C) := typ_at he
  refine wpAny_bind (wpAny_bind (L0.here ?_))
  have e0 : (Value.ref C == Value.type "builtin_function_or_method") = false := rfl
  simp only [e0, Bool.false_eq_true, if_false]
  refine wpAny_pure ?_
  unfold typeNameWhole
  exact wpAny_bind ((PySem.W.looks_clsIn X hc).here (wpAny_pure hq))

theorem exc_body {A : Around} {E : Value → Shared → Prop} {s : Shared} {e t : Addr} {d : Option Addr} {cd : ClassData}
    {x : Str} {tk : Tok} {Q : Fin → Shared → Prop} (b : Nat) (X : K.In s.heap) (he : s.heap.get? e = some (exOb C d t))
    (ht : s.heap.TupAt t [.str x tk]) (hc : PySem.W.clsIn K C = some cd)
    (hq : Q (.done (.ret (.str (clsHead cd.name ++ "(" ++ reprText x ++ ")") (s.toks + 1)))) { s with toks := s.toks + 1 + 1 })
    (hsz : b + (clsHead cd.name ++ "(" ++ reprText x ++ ")").length ≤ sizeLine) :
    wpAny (model prog w) A (Builtin.bexcReprAt b ⟨[.ref e], []⟩) Q E s := by
  have e1 : b + (clsHead cd.name ++ Str.ofString "(" ++ reprText x ++ Str.ofString ")").length ≤ sizeLine := hsz
  have hsz2 : (clsHead cd.name ++ Str.ofString "(" ++ reprText x ++ Str.ofString ")").length ≤ sizeLine := by omega
  have eP : (Str.ofString "(").length = 1 := rfl
  rw [strLen_append, strLen_append, strLen_append, eP] at e1
  have hsz1 : (reprText x).length ≤ sizeLine := by omega
  have hpile : b + ((clsHead cd.name).length + 1) ≤ sizeLine := by omega
  obtain ⟨ot, k, hto, _, htd⟩ := id ht
  have args : ∀ {A' : Around} {E' : Value → Shared → Prop} {Q' : Value × List Value → Shared → Prop},
      Q' (.ref t, [.str x tk]) s → wpAny (model prog w) A' (bexcArgs (.ref e)) Q' E' s := fun {A' E' Q'} q => by
    unfold bexcArgs
    exact wpAny_bind (wpAny_field he rfl rfl (wpAny_bind (wpAny_seqItems hto htd (wpAny_pure q))))
  unfold Builtin.bexcReprAt
  unfold clsHead at hpile hsz2
  repeat (first | with_reducible refine name_of X he hc ?_ | with_reducible refine args ?_ | rw [pyReprUnder_leaf (v := .str x tk) hpile (by intro a; nofun)] | with_reducible refine wpAny_pyRepr_str ?_ | wp_step)
  exact hq

theorem ReprK.exq {e t : Addr} {d : Option Addr} {x : Str} {tk : Tok} (X : K.In h₀) (he : h₀.get? e = some (exOb C d t))
    (ht : h₀.TupAt t [.str x tk]) (R : ExR K C nm) :
    ReprK prog w [] h₀ 0 (.ref e) (clsHead nm ++ "(" ++ reprText x ++ ")") := by
  intro base hb A g E s Q hg hcl hu hk0 hQ
  obtain ⟨cd, hc, rfl⟩ := R.nam
  have X' : K.In s.heap := fun a o z => hk0 a o (X a o z)
  have he' := hk0 _ _ he
  have ht' : s.heap.TupAt t [.str x tk] := let ⟨o, k, h1, h2⟩ := ht; ⟨o, k, hk0 _ _ h1, h2⟩
  have L0 : PySem.W.Looks (model prog w) s.heap (typeOf (.ref e)) (.ref C) := typ_at he'
  have L1 := PySem.W.looks_findIn (M := model prog w) X' R.rep
  have sub : PySem.W.Looks (model prog w) s.heap (isInstance (.ref e) (.type "BaseException")) true :=
    L0.andThen (PySem.W.looks_subIn X' R.sub)
  refine wpAny_pyReprUnder_ref (by omega) ?_
  unfold pyReprObjUnder pyReprObjBy
  refine wpAny_bind (wpAny_cRoomFor (by omega) ?_)
  refine wpAny_bind (wpAny_bind (L0.here (L1.here ?_)))
  have last : wpAny (model prog w) A (call (.builtin "BaseException.__repr__.under") [.ref e, rawInt base])
      (fun v s' => ∃ y u, v = .str y u ∧ Q y s') E s := by
    refine wpAny_call (codeAny_call_builtin F.plain_bexc_repr_under F.entry_bexc_repr_under ?_)
    rw [F.check_bexc_repr_under]
    refine wpAny_pure ?_
    show wpAny _ _ (reprTwin "BaseException.__repr__" Builtin.bexcReprAt ⟨[.ref e, rawInt base], []⟩) _ _ _
    rw [reprTwin_eq]
    refine wpAny_bind (PySem.W.check_slot (i := "BaseException.__repr__") (owner := "BaseException") (n := "__repr__")
      (by decide +kernel) (by decide +kernel) sub (F.args_bexc_repr _) ?_)
    refine exc_body base X' he' ht' hc ?_ hb
    exact ⟨_, _, rfl, hQ s.heap _ fun _ _ z => z⟩
  simp only [Option.isNone_some, Bool.false_eq_true, if_false, callSpecialIfBoundBy?, bindSpecialIfBound?]
  refine wpAny_bind (wpAny_holding (wpAny_bind (wpAny_bind (wpAny_bind (L0.here (L1.here ?_))))))
  have fin : wpAny (model prog w) A (call (.builtin "BaseException.__repr__.under") [.ref e, rawInt base] >>= fun v => pure (some v))
      (fun r s' => wpAny (model prog w) A (match r with
        | some r => do
          if (← isInstance r (.type "str")) = true then pure r else
            raiseError "TypeError" s!"__repr__ returned non-string (type {← typeNameOf r})"
        | none => unsupported "repr:special-get-raises") (fun v s' => ∃ y u, v = .str y u ∧ Q y s') E s') E s :=
    wpAny_bind (wpAny_mono last (fun v s' z => by
      obtain ⟨y, u, rfl, q⟩ := z
      exact wpAny_pure (wpAny_bind (wpAny_isInstance (T := "str") (b := true) rfl isSubtype_str_str (wpAny_pure ⟨y, u, rfl, q⟩))))
      fun _ _ z => z)
  have bd : bindSpecial (.builtin "BaseException.__repr__") (.ref e) = pure (.builtin "BaseException.__repr__", [.ref e]) :=
    F.excStr_ValueError.repr.bind _
  dsimp only
  simp only [bd]
  refine wpAny_bind (wpAny_askSetting (wpAny_ite ?_))
  split
  · exact wpAny_bind (wpAny_pure (wpAny_pure fin))
  · exact wpAny_tryCatch (wpAny_bind (wpAny_pure (wpAny_pure fin)))
end
end Pw

namespace Pw
open PySem PySem.Spec PyProof.Rows L2

/-- places that are shown no deeper than that -/
def AtM (K : PySem.W.Frag) (H : Hp) (n : Nat) (bs : List Addr) : Prop :=
  ∀ b ∈ bs, ∃ d m t, Shw K H (.ref b) d m t ∧ d ≤ n
theorem AtM.mono {K : PySem.W.Frag} {H : Hp} {n m : Nat} {bs : List Addr} (h : AtM K H n bs) (l : n ≤ m) : AtM K H m bs :=
  fun b hb => let ⟨d, k, t, s, z⟩ := h b hb; ⟨d, k, t, s, Nat.le_trans z l⟩
theorem AtM.app {K : PySem.W.Frag} {H : Hp} {n : Nat} {as bs : List Addr} (h : AtM K H n as) (g : AtM K H n bs) :
    AtM K H n (as ++ bs) := fun b hb => (List.mem_append.mp hb).elim (h b) (g b)
theorem AtM.out {K : PySem.W.Frag} {H : Hp} {n d m : Nat} {a : Addr} {t : Str} {bs : List Addr} (h : AtM K H n bs)
    (s : Shw K H (.ref a) d m t) (l : n < d) : a ∉ bs := fun hm => by
  obtain ⟨d', m', t', s', z⟩ := h a hm
  have e := Shw.one s s'
  omega
theorem AtM.con {K : PySem.W.Frag} {H : Hp} {n d m : Nat} {a : Addr} {t : Str} {bs : List Addr} (h : AtM K H n bs)
    (s : Shw K H (.ref a) d m t) (l : n ≤ d) : AtM K H d (a :: bs) := fun b hb => by
  rcases List.mem_cons.mp hb with e | hb
  · subst e
    exact ⟨d, m, t, s, Nat.le_refl _⟩
  · exact (h.mono l) b hb

theorem pairs_keys {P : Program} {w : World} : ∀ {kvs : List (Key × V)} {vs : List (Key × Value)} {es : List DictEntry},
    KV kvs vs → PySem.Pairs (mixKind P w) es vs →
    Vals (kvs.map fun p => kV p.1) (es.map (·.key)) ∧ Vals (kvs.map fun p => p.2) (es.map (·.val))
  | _, _, _, .nil, .nil => ⟨.nil, .nil⟩
  | _, _, _, .cons (a := p) (b := q) h hs, .cons (e := e) hk hv ps => by
    obtain ⟨h1, h2⟩ := pairs_keys hs ps
    refine ⟨.cons ?_ h1, .cons ?_ h2⟩
    · have hk' : keyIs q.1 e.key = true := hk
      show RelV (kV p.1) e.key
      rw [h.1]
      rcases keyIs_shape hk' with ⟨i, t, e1, e2⟩ | ⟨x, t, e1, e2⟩
      · rw [e1, e2]; exact ⟨t, rfl⟩
      · rw [e1, e2]; exact ⟨t, rfl⟩
    · show RelV p.2 e.val
      rw [hv]; exact h.2

section
variable {P : Program} {w : World} {K : PySem.W.Frag} {H : Hp} {h : Heap}
mutual
theorem Shw.run (hok : HOk P w H h) (X : K.In h) : ∀ {v : V} {d n : Nat} {t : Str}, Shw K H v d n t → n ≤ sizeLine →
    ∀ u, RelV v u → ∃ bs, AtM K H d bs ∧ ReprK P w bs h d u t
  | _, _, _, _, .non, _, u, r => by
    obtain rfl : u = Value.none := r
    exact ⟨[], (fun _ z => nomatch z), .of_is ReprIs.none _ _ _⟩
  | _, _, _, _, .bl b, _, u, r => by
    obtain rfl : u = Value.bool b := r
    exact ⟨[], (fun _ z => nomatch z), .of_is (ReprIs.bool b) _ _ _⟩
  | _, _, _, _, .int i hi, _, u, r => by
    obtain ⟨t, rfl⟩ := (show ∃ t, u = Value.int i t from r)
    exact ⟨[], (fun _ z => nomatch z), .of_is (ReprIs.int t hi) _ _ _⟩
  | _, _, _, _, .str x m hm, hl, u, r => by
    obtain ⟨t, rfl⟩ := (show ∃ t, u = Value.str x t from r)
    exact ⟨[], (fun _ z => nomatch z), .of_is (ReprIs.str x t (Nat.le_trans hm hl)) _ _ _⟩
  | _, _, _, _, .lst (a := a) (xs := xs) (d := d) (ts := ts) e hs, hl, u, r => by
    obtain rfl : u = Value.ref a := r
    obtain ⟨_, its, k, rv, h1⟩ := (show ObjOk P w H h a (.lst xs) from hok a _ e)
    obtain ⟨bs, hb, hk⟩ := ShwL.run hok X hs (by omega) its rv
    have sh := Shw.lst e hs
    have hna := hb.out sh (Nat.lt_succ_self _)
    refine ⟨a :: bs, hb.con sh (Nat.le_succ _), ?_⟩
    cases its with
    | nil =>
      cases hk
      rw [listText_nil]
      exact ReprK.listEmpty h1 rfl rfl
    | cons y l => exact ReprK.list h1 rfl rfl hna (by simpa using hk.length_eq) (fun i z q => hk.item i z (by simpa using q))
  | _, _, _, _, .tup (a := a) (xs := xs) (d := d) (ts := ts) e hs, hl, u, r => by
    obtain rfl : u = Value.ref a := r
    obtain ⟨_, its, rv, o, h1, h2, k, h3⟩ := (show ObjOk P w H h a (.tup xs) from hok a _ e)
    obtain ⟨bs, hb, hk⟩ := ShwL.run hok X hs (by omega) its rv
    have sh := Shw.tup e hs
    exact ⟨a :: bs, hb.con sh (Nat.le_succ _), ReprK.tuple h1 h2 h3 (hb.out sh (Nat.lt_succ_self _)) (by simpa using hk)⟩
  | _, _, _, _, .dct (a := a) (kvs := kvs) (ks := ks) (vs := vs) e hs1 hs2, hl, u, r => by
    obtain rfl : u = Value.ref a := r
    obtain ⟨_, hsys, us, hkv, o, es, ep, h1, h2, h3, _, h4, _⟩ := (show ObjOk P w H h a (.dK kvs) from hok a _ e)
    obtain ⟨r1, r2⟩ := pairs_keys hkv h4
    obtain ⟨b1, hb1, k1⟩ := ShwL.run hok X hs1 (by omega) _ r1
    obtain ⟨b2, hb2, k2⟩ := ShwL.run hok X hs2 (by omega) _ r2
    have sh := Shw.dct e hs1 hs2
    have hb := (hb1.mono (Nat.le_max_left _ _)).app (hb2.mono (Nat.le_max_right _ _))
    exact ⟨a :: (b1 ++ b2), hb.con sh (Nat.le_succ _), ReprK.dict h1 h2.1 h3 hsys (hb.out sh (Nat.lt_succ_self _))
      (ReprEntriesK.of_two es.toList _ _ (k1.more_le (fun b z => List.mem_append_left _ z) (Nat.le_max_left _ _))
        (k2.more_le (fun b z => List.mem_append_right _ z) (Nat.le_max_right _ _)))⟩
  | _, _, _, _, .exc (a := a) (C := C) (t := t) e et c l1 l2, hl, u, r => by
    obtain rfl : u = Value.ref a := r
    obtain ⟨_, its, rv, o, h1, h2, k, h3⟩ := (show ObjOk P w H h t (.tup _) from hok t _ et)
    cases rv with
    | cons rx rr =>
      cases rr
      obtain ⟨tk, rfl⟩ := (show ∃ tk, _ = Value.str _ tk from rx)
      exact ⟨[], (fun _ z => nomatch z), ReprK.exq X (exq_at hok e) ⟨o, k, h1, h2, h3⟩ c⟩
theorem ShwL.run (hok : HOk P w H h) (X : K.In h) : ∀ {vs : List V} {d n : Nat} {ts : List Str}, ShwL K H vs d n ts → n ≤ sizeLine →
    ∀ us, Vals vs us → ∃ bs, AtM K H d bs ∧ ReprAllK P w bs h d us ts
  | _, _, _, _, .nil, _, us, r => by
    cases r
    exact ⟨[], (fun _ z => nomatch z), .nil⟩
  | _, _, _, _, .cons s ss, hl, us, r => by
    cases r with
    | cons rx rr =>
      obtain ⟨b1, hb1, k1⟩ := Shw.run hok X s (by omega) _ rx
      obtain ⟨b2, hb2, k2⟩ := ShwL.run hok X ss (by omega) _ rr
      refine ⟨b1 ++ b2, (hb1.mono (Nat.le_max_left _ _)).app (hb2.mono (Nat.le_max_right _ _)), .cons ?_ ?_⟩
      · exact (k1.more fun b z => List.mem_append_left _ z).level_le (Nat.le_max_left _ _)
      · exact k2.more_le (fun b z => List.mem_append_right _ z) (Nat.le_max_right _ _)
end
end

/-- repr(x): its text -/
def rRepr (K : PySem.W.Frag) : List V → Hp → VK → Prop := fun xs H Q => ∃ (x : V) (d n : Nat) (t : Str),
  xs = [x] ∧ Shw K H x d n t ∧ (∀ a, x = .ref a → 0 < d) ∧ n ≤ sizeLine ∧ d ≤ 60 ∧ Q (.str t) H
theorem call_repr {X : Cx} (gd : X.A.guards = some []) (hu : X.A.units + 64 < cLine) : CallR X (.builtin "repr") (rRepr X.K) := by
  intro pins s σ H xs us Q I r h
  obtain ⟨x, d, n, t, rfl, sh, hpos, hl, hd, q⟩ := h
  have hlen := Shw.len sh
  cases r with
  | cons rx rr =>
    cases rr
    rename_i u
    have hback : ∀ h' uu tk, (∀ b o, s.heap.get? b = some o → h'.get? b = some o) →
        EP X pins σ Q (.str t uu) { s with heap := h', toks := tk } := fun h' uu tk k =>
      ⟨.str t, H, I.kept k, ⟨uu, rfl⟩, q⟩
    cases sh with
    | non =>
      obtain rfl : u = Value.none := rx
      exact PySem.P.repr_of_none (hback s.heap _ _ fun _ _ z => z)
    | bl b =>
      obtain rfl : u = Value.bool b := rx
      exact PySem.P.repr_of_bool (hback s.heap _ _ fun _ _ z => z)
    | int i hi =>
      obtain ⟨tk, rfl⟩ := (show ∃ tk, u = Value.int i tk from rx)
      exact PySem.P.repr_of_int hi (hback s.heap _ _ fun _ _ z => z)
    | str z m hm =>
      obtain ⟨tk, rfl⟩ := (show ∃ tk, u = Value.str z tk from rx)
      exact PySem.P.repr_of_str (hback s.heap _ _ fun _ _ z => z) (Nat.le_trans hm hl)
    | @lst a ys d0 n0 ts e hs =>
      obtain rfl : u = Value.ref a := rx
      obtain ⟨_, its, k, rv, h1⟩ := (show ObjOk X.prog X.w H s.heap a (.lst ys) from I.hok a _ e)
      obtain ⟨bs, hb, hk⟩ := ShwL.run I.hok I.kIn hs (by omega) its rv
      have hna := hb.out (Shw.lst e hs) (Nat.lt_succ_self _)
      refine call_repr_slot (by omega) ⟨_, h1, rfl⟩ F.slot_list_repr.toG ?_
      cases its with
      | nil =>
        cases hk
        rw [listText_nil] at hback
        exact call_list_repr_empty ⟨_, h1, rfl⟩ h1 rfl ⟨_, _, rfl, hback s.heap _ _ fun _ _ z => z⟩
      | cons y l =>
        exact call_list_reprK h1 rfl rfl hna (by simpa using hk.length_eq) (fun i z q => hk.item i z (by simpa using q))
          (g := []) gd (fun b _ => Clear.nil b) (by show X.A.units + 1 + _ < _; omega) (fun _ _ z => z)
          (fun h' uu tk k => ⟨_, _, rfl, hback h' uu tk k⟩) (Nat.le_trans hlen hl)
    | @tup a ys d0 n0 ts e hs =>
      obtain rfl : u = Value.ref a := rx
      obtain ⟨_, its, rv, o, h1, h2, k, h3⟩ := (show ObjOk X.prog X.w H s.heap a (.tup ys) from I.hok a _ e)
      obtain ⟨bs, hb, hk⟩ := ShwL.run I.hok I.kIn hs (by omega) its rv
      have hna := hb.out (Shw.tup e hs) (Nat.lt_succ_self _)
      refine call_repr_slot (by omega) ⟨_, h1, h2⟩ F.slot_tuple_repr ?_
      exact call_tuple_reprK h1 h2 h3 hna (by simpa using hk)
        (g := []) gd (fun b _ => Clear.nil b) (by show X.A.units + 1 + _ < _; omega) (fun _ _ z => z)
        (fun h' uu tk k => ⟨_, _, rfl, hback h' uu tk k⟩) (Nat.le_trans hlen hl)
    | @dct a kvs d1 d2 n1 n2 ks vs e hs1 hs2 =>
      obtain rfl : u = Value.ref a := rx
      obtain ⟨_, hsys, us, hkv, o, es, ep, h1, h2, h3, _, h4, _⟩ := (show ObjOk X.prog X.w H s.heap a (.dK kvs) from I.hok a _ e)
      obtain ⟨r1, r2⟩ := pairs_keys hkv h4
      obtain ⟨b1, hb1, k1⟩ := ShwL.run I.hok I.kIn hs1 (by omega) _ r1
      obtain ⟨b2, hb2, k2⟩ := ShwL.run I.hok I.kIn hs2 (by omega) _ r2
      have hb := (hb1.mono (Nat.le_max_left d1 d2)).app (hb2.mono (Nat.le_max_right d1 d2))
      have hna := hb.out (Shw.dct e hs1 hs2) (Nat.lt_succ_self _)
      refine call_repr_slot (by omega) ⟨_, h1, h2.1⟩ F.slot_dict_repr ?_
      exact call_dict_reprK h1 h2.1 h3 hsys hna
        (ReprEntriesK.of_two es.toList _ _ (k1.more_le (fun b z => List.mem_append_left _ z) (Nat.le_max_left _ _))
          (k2.more_le (fun b z => List.mem_append_right _ z) (Nat.le_max_right _ _)))
        (g := []) gd (fun b _ => Clear.nil b) (by show X.A.units + 1 + _ < _; omega) (fun _ _ z => z)
        (fun h' uu tk k => ⟨_, _, rfl, hback h' uu tk k⟩) (Nat.le_trans hlen hl)
    | exc e et c l1 l2 => exact absurd (hpos _ rfl) (Nat.lt_irrefl 0)

/-! ### what is shown stays while what is tracked stays -/
section
variable {K : PySem.W.Frag} {H H' : Hp}
mutual
theorem Shw.same (S : Same H H') : ∀ {v : V} {d n : Nat} {t : Str}, Shw K H v d n t → Shw K H' v d n t
  | _, _, _, _, .non => .non
  | _, _, _, _, .bl b => .bl b
  | _, _, _, _, .int i h => .int i h
  | _, _, _, _, .str x m h => .str x m h
  | _, _, _, _, .lst e h => .lst (S _ _ e) (ShwL.same S h)
  | _, _, _, _, .tup e h => .tup (S _ _ e) (ShwL.same S h)
  | _, _, _, _, .dct e h1 h2 => .dct (S _ _ e) (ShwL.same S h1) (ShwL.same S h2)
  | _, _, _, _, .exc e et c l1 l2 => .exc (S _ _ e) (S _ _ et) c l1 l2
theorem ShwL.same (S : Same H H') : ∀ {vs : List V} {d n : Nat} {ts : List Str}, ShwL K H vs d n ts → ShwL K H' vs d n ts
  | _, _, _, _, .nil => .nil
  | _, _, _, _, .cons h hs => .cons (Shw.same S h) (ShwL.same S hs)
end
end
end Pw

namespace PySem.W
open PySem PySem.Calls PyProof.Rows Builtin Builtin.ObjectAttr Builtin.Getset_descriptor
section
variable {prog : Program} {w : World} {A : Around} {E : Value → Shared → Prop} {s : Shared} {K : Frag} {D x : Addr}
  {ox oD : Obj}
/-- e.__class__, e an exception of one's own that has its dict -/
theorem pw_class {Q : Option Value → Shared → Prop}
    (hga : findIn K (.ref D) "__getattribute__" = some (some (.builtin "BaseException.__getattribute__")))
    (hgt : findIn K (.ref D) "__getattr__" = some none)
    (hsub : subIn K (.ref D) (.type "BaseException") = some true)
    (hf : findObj K D (some oD) "__class__" =
      some (.bind (.builtin "getset_descriptor.__get__") (.builtin "object.__class__")))
    (hm : mroIn K D (.type "object") = some true) (X : K.In s.heap) (I : InstAt s.heap x ox D (some oD))
    (h : Q (some (.ref D)) { s with toks := s.toks + 1 }) :
    wpAny (model prog w) A (getAttr? (.ref x) "__class__") Q E s := by
  obtain ⟨hp, g, d, t, os⟩ := s
  have T0 := I.type (M := model prog w)
  have T1 := looks_findIn (M := model prog w) X hga
  have T2 := looks_findIn (M := model prog w) X hgt
  have T3 := looks_find (M := model prog w) X I hf
  have isE : Looks (model prog w) hp (isInstance (.ref x) (.type "BaseException")) true :=
    T0.andThen (looks_subIn X hsub)
  have z0 : (false && onTheHeap (Value.builtin "BaseException.__getattribute__")) = false := rfl
  have z2 : (Value.builtin "BaseException.__getattribute__" ==
    Value.builtin "object.__getattribute__") = false := by decide +kernel
  have z1 : (onTheHeap (Value.ref D) && Value.builtin "BaseException.__getattribute__" ==
    Value.builtin "object.__getattribute__") = false := by rw [z2]; rfl
  unfold getAttr? getAttrBy? getAttrBy
  refine wpAny_bind (wpAny_mkText (wpAny_bind (wpAny_attempt (wpAny_holding (wpAny_bind
    (T0.at (wpAny_bind (T1.at ?_))))))))
  show wpAny _ _ (if (onTheHeap (Value.ref D) && Value.builtin "BaseException.__getattribute__" ==
    Value.builtin "object.__getattribute__") = true then _ else _) _ _ _
  rw [z1, if_neg Bool.false_ne_true]
  unfold getAttrByItsOwn hookBefore
  refine wpAny_bind ?_
  rw [if_pos (show onTheHeap (Value.ref D) = true from rfl)]
  refine T2.at (wpAny_bind (wpAny_attempt (wpAny_holding ?_)))
  unfold callGetattribute
  rw [z0, if_neg Bool.false_ne_true]
  unfold boundAndCalled
  rw [PySem.F.excAttr_ValueError.ga.bind (.ref x)]
  refine wpAny_bind (wpAny_pure ?_)
  show wpAny _ _ (call (.builtin "BaseException.__getattribute__")
    [.ref x, .str "__class__" t]) _ _ _
  refine wpAny_call (codeAny_call_builtin PySem.F.excAttr_ValueError.ga.plain
    PySem.F.entry_bexc_ga ?_)
  refine @check_slot (model prog w) _ _ ⟨hp, g, d, t + 1, os⟩ "BaseException.__getattribute__"
    "BaseException" "__getattribute__" (.ref x) [.str "__class__" t] [] _ (by decide +kernel)
    (by decide +kernel) isE (PySem.F.args_bexc_ga (.ref x) (.str "__class__" t)) ?_
  unfold Builtin.«object.__getattribute__»
  refine wpAny_bind (wpAny_of_eq (a := ((Value.ref x : Value), [Value.str "__class__" t]))
    (by first | rfl | (simp only [slotArgs]; rfl)) ?_)
  refine wpAny_bind (wpAny_pure (wpAny_bind (T0.at (wpAny_bind (T3.at ?_)))))
  show wpAny _ _ (holding [Value.builtin "object.__class__"] (call (.builtin "getset_descriptor.__get__")
    [.builtin "object.__class__", .ref x, .ref D]) >>= ret) _ _ _
  refine wpAny_bind (wpAny_holding (wpAny_call (class_get (s := ⟨hp, g, d, t + 1, os⟩)
    (ox := ox) (od := some oD) X I hm ?_)))
  refine wpAny_pure ?_
  show wpAny _ _ (handedOut (.ref D)) _ _ _
  rw [handedOut_of (v := .ref D) rfl]
  first
    | exact wpAny_pure (wpAny_pure h)
    | exact wpAny_pure h
    | exact wpAny_pure (wpAny_bind (wpAny_pure (wpAny_pure h)))
end
end PySem.W

namespace Pw
open PySem PySem.Spec PyProof.Rows L2

theorem cls_of_dict {K : PySem.W.Frag} {D : Addr} (hd : PySem.W.hasDictIn K D = true) :
    (PySem.W.clsIn K D).isSome = true := by
  cases e : PySem.W.clsIn K D with
  | some _ => rfl
  | none =>
    unfold PySem.W.hasDictIn at hd
    rw [e] at hd
    cases hd

theorem kit_exq {K : PySem.W.Frag} {x D t dx : Addr} {oD : Obj} (C : ExcC K D) :
    PySem.W.KitX K (.ref x) (.ref D) (fun h => PySem.W.InstAt h x (exOb D (some dx) t) D (some oD)) where
  ty := fun _ _ _ I => I.type
  it := fun M h X _ => by
    obtain ⟨cd, hc⟩ := Option.isSome_iff_exists.mp (cls_of_dict C.hd)
    unfold PySem.W.clsIn at hc
    split at hc
    · rename_i ho
      intro A' Q' E' s' k q
      unfold isType loadHead
      exact wpAny_bind (wpAny_loadPart (k _ _ (X _ _ ho)) (wpAny_pure q))
    · cases hc
  ne := fun h tp dd its n sl X htp => by
    obtain ⟨cd, hc⟩ := Option.isSome_iff_exists.mp (cls_of_dict C.hd)
    refine Bool.eq_false_iff.mpr fun q => ?_
    obtain rfl : D = tp := Value.ref.inj (beq_iff_eq.mp q)
    unfold PySem.W.clsIn at hc
    split at hc
    · rename_i ho
      cases (X _ _ ho).symm.trans htp
    · cases hc
  ca := fun X I k => PySem.W.pw_class C.hg C.hk C.hs
    (PySem.W.findObj_data (cls_of_dict C.hd) C.ha C.hn C.ht) C.hm X I k

/-- a value's type, exceptions of one's own too -/
inductive TyQ (K : PySem.W.Frag) (H : Hp) : V → Value → Prop where
  | base {x : V} {t : Value} (h : TyX K H x t) : TyQ K H x t
  | exc {a D t dx : Addr} {fs : List (Str × V)} (e : H a = some (exq a D (some dx) t)) (ed : H dx = some (exd dx fs))
      (c : ExcC K D) : TyQ K H (.ref a) (.ref D)

/-- isinstance(x, c): one class -/
def rIsA (K : PySem.W.Frag) : List V → Hp → VK → Prop := fun xs H Q => ∃ (x c : V) (t u : Value) (b : Bool),
  xs = [x, c] ∧ ClsV c u ∧ TyQ K H x t ∧ PySem.W.kitOne K t u = some b ∧ Q (.bl b) H
theorem call_isa {X : Cx} : CallR X (.builtin "isinstance") (rIsA X.K) := by
  intro pins s σ H xs us Q I r h
  obtain ⟨x, c, t, u, b, rfl, k, ty, e, q⟩ := h
  cases ty with
  | base ty => exact call_isi pins s σ H _ us Q I r ⟨x, c, t, u, b, rfl, k, ty, e, q⟩
  | exc ex ed C =>
    obtain ⟨u1, u2, rfl, r1, r2⟩ := vals2 r
    obtain rfl := k.eq r2
    obtain rfl : u1 = Value.ref _ := r1
    have ha := exq_at I.hok ex
    obtain ⟨mA, ⟨oD, es, ep, hd, hr⟩, _⟩ := exd_at I.hok ed
    refine PySem.W.kia_one (kit_exq (oD := oD) C) I.kIn ⟨ha, rfl, rfl, hd⟩ e (fun z => nomatch z)
      fun tk => ⟨.bl b, H, I.tok tk, rfl, q⟩
end Pw

/-! Kinds of things, and short words for defs. -/
namespace Pw
open PySem PySem.Spec PyProof.Rows L2

/-! ### the kinds of things -/
/-- what an exception's class must say, so that it is told from the built-in kinds -/
structure ExT (K : PySem.W.Frag) (D : Addr) : Prop where
  c : ExcC K D
  int : PySem.W.kitOne K (.ref D) (.type "int") = some false
  bool : PySem.W.kitOne K (.ref D) (.type "bool") = some false
  str : PySem.W.kitOne K (.ref D) (.type "str") = some false
  tuple : PySem.W.kitOne K (.ref D) (.type "tuple") = some false
/-- a thing and its type -/
inductive Ty (K : PySem.W.Frag) (H : Hp) : V → Value → Prop where
  | non : Ty K H .non (.type "NoneType")
  | bl (b : Bool) : Ty K H (.bl b) (.type "bool")
  | int (i : Int) : Ty K H (.int i) (.type "int")
  | str (s : Str) : Ty K H (.str s) (.type "str")
  | lst {a : Addr} {xs : List V} (e : H a = some (.lst xs)) : Ty K H (.ref a) (.type "list")
  | tup {a : Addr} {xs : List V} (e : H a = some (.tup xs)) : Ty K H (.ref a) (.type "tuple")
  | dct {a : Addr} {kvs : List (Key × V)} (e : H a = some (.dK kvs)) : Ty K H (.ref a) (.type "dict")
  | exc {a D t dx : Addr} {fs : List (Str × V)} (e : H a = some (exq a D (some dx) t)) (ed : H dx = some (exd dx fs))
      (c : ExT K D) : Ty K H (.ref a) (.ref D)
theorem Ty.q {K : PySem.W.Frag} {H : Hp} {x : V} {t : Value} (h : Ty K H x t) : TyQ K H x t := by
  cases h with
  | non => exact .base (.base .non)
  | bl b => exact .base (.base (.bl b))
  | int i => exact .base (.base (.int i))
  | str s => exact .base (.base (.str s))
  | lst e => exact .base (.base (.lst e))
  | tup e => exact .base (.base (.tup e))
  | dct e => exact .base (.base (.dK e))
  | exc e ed c => exact .exc e ed c.c
theorem Ty.same {K : PySem.W.Frag} {H H' : Hp} {x : V} {t : Value} (S : Same H H') (h : Ty K H x t) : Ty K H' x t := by
  cases h with
  | non => exact .non
  | bl b => exact .bl b
  | int i => exact .int i
  | str s => exact .str s
  | lst e => exact .lst (S _ _ e)
  | tup e => exact .tup (S _ _ e)
  | dct e => exact .dct (S _ _ e)
  | exc e ed c => exact .exc (S _ _ e) (S _ _ ed) c
def numB : V → Bool
  | .int _ => true
  | _ => false
def blB : V → Bool
  | .bl _ => true
  | _ => false
def strB : V → Bool
  | .str _ => true
  | _ => false
def tupB (H : Hp) : V → Bool
  | .ref a => match H a with
    | some (.tup _) => true
    | _ => false
  | _ => false
theorem Ty.isInt {K : PySem.W.Frag} {H : Hp} {x : V} {t : Value} (h : Ty K H x t) :
    PySem.W.kitOne K t (.type "int") = some (numB x || blB x) := by
  cases h with
  | non  => exact (kit_ty (a := "NoneType") (b := "int") (r := false) (by decide +kernel) : _ = some false)
  | bl b => exact (kit_ty (a := "bool") (b := "int") (r := true) (by decide +kernel) : _ = some true)
  | int i => exact (kit_ty (a := "int") (b := "int") (r := true) (by decide +kernel) : _ = some true)
  | str s => exact (kit_ty (a := "str") (b := "int") (r := false) (by decide +kernel) : _ = some false)
  | lst e => exact (kit_ty (a := "list") (b := "int") (r := false) (by decide +kernel) : _ = some false)
  | tup e => exact (kit_ty (a := "tuple") (b := "int") (r := false) (by decide +kernel) : _ = some false)
  | dct e => exact (kit_ty (a := "dict") (b := "int") (r := false) (by decide +kernel) : _ = some false)
  | exc e ed c => exact c.int
theorem Ty.isBool {K : PySem.W.Frag} {H : Hp} {x : V} {t : Value} (h : Ty K H x t) :
    PySem.W.kitOne K t (.type "bool") = some (blB x) := by
  cases h with
  | non  => exact (kit_ty (a := "NoneType") (b := "bool") (r := false) (by decide +kernel) : _ = some false)
  | bl b => exact (kit_ty (a := "bool") (b := "bool") (r := true) (by decide +kernel) : _ = some true)
  | int i => exact (kit_ty (a := "int") (b := "bool") (r := false) (by decide +kernel) : _ = some false)
  | str s => exact (kit_ty (a := "str") (b := "bool") (r := false) (by decide +kernel) : _ = some false)
  | lst e => exact (kit_ty (a := "list") (b := "bool") (r := false) (by decide +kernel) : _ = some false)
  | tup e => exact (kit_ty (a := "tuple") (b := "bool") (r := false) (by decide +kernel) : _ = some false)
  | dct e => exact (kit_ty (a := "dict") (b := "bool") (r := false) (by decide +kernel) : _ = some false)
  | exc e ed c => exact c.bool
theorem Ty.isStr {K : PySem.W.Frag} {H : Hp} {x : V} {t : Value} (h : Ty K H x t) :
    PySem.W.kitOne K t (.type "str") = some (strB x) := by
  cases h with
  | non  => exact (kit_ty (a := "NoneType") (b := "str") (r := false) (by decide +kernel) : _ = some false)
  | bl b => exact (kit_ty (a := "bool") (b := "str") (r := false) (by decide +kernel) : _ = some false)
  | int i => exact (kit_ty (a := "int") (b := "str") (r := false) (by decide +kernel) : _ = some false)
  | str s => exact (kit_ty (a := "str") (b := "str") (r := true) (by decide +kernel) : _ = some true)
  | lst e => exact (kit_ty (a := "list") (b := "str") (r := false) (by decide +kernel) : _ = some false)
  | tup e => exact (kit_ty (a := "tuple") (b := "str") (r := false) (by decide +kernel) : _ = some false)
  | dct e => exact (kit_ty (a := "dict") (b := "str") (r := false) (by decide +kernel) : _ = some false)
  | exc e ed c => exact c.str
theorem Ty.isTuple {K : PySem.W.Frag} {H : Hp} {x : V} {t : Value} (h : Ty K H x t) :
    PySem.W.kitOne K t (.type "tuple") = some (tupB H x) := by
  cases h with
  | non  => exact (kit_ty (a := "NoneType") (b := "tuple") (r := false) (by decide +kernel) : _ = some false)
  | bl b => exact (kit_ty (a := "bool") (b := "tuple") (r := false) (by decide +kernel) : _ = some false)
  | int i => exact (kit_ty (a := "int") (b := "tuple") (r := false) (by decide +kernel) : _ = some false)
  | str s => exact (kit_ty (a := "str") (b := "tuple") (r := false) (by decide +kernel) : _ = some false)
  | @lst ad xs e =>
    have z : tupB H (.ref ad) = false := by simp only [tupB, e]
    rw [z]
    exact kit_ty (a := "list") (b := "tuple") (r := false) (by decide +kernel)
  | @tup ad xs e =>
    have z : tupB H (.ref ad) = true := by simp only [tupB, e]
    rw [z]
    exact kit_ty (a := "tuple") (b := "tuple") (r := true) (by decide +kernel)
  | @dct ad xs e =>
    have z : tupB H (.ref ad) = false := by simp only [tupB, e]
    rw [z]
    exact kit_ty (a := "dict") (b := "tuple") (r := false) (by decide +kernel)
  | @exc ad D t dx fs e ed c =>
    have z : tupB H (.ref ad) = false := by simp only [tupB, e]; rfl
    rw [z]
    exact c.tuple

/-! ### defs by name -/
section
variable (P : Program) (w : World) (K : PySem.W.Frag) (mg : Str → Option Value) (base : Heap)
/-- the def st of the text stands under its name x -/
structure At (x : Str) (st : Stmt) : Prop where
  ex : ∃ f fd, Fun K x x st f fd ∧ mg x = some (.ref f)
/-- under its name x a def stands that keeps the promise sp -/
structure Def (x : Str) (k : Nat) (ps : List Str) (sp : Sp) : Prop where
  ex : ∃ f fd, mg x = some (.ref f) ∧ PySem.W.keepIn K (.ref f) = true ∧ Binds K fd ps [] ∧
    FnOk P w K mg base CX0 k f fd ps sp
structure DefG (x : Str) (k : Nat) (ps : List Str) (sp : Sp) : Prop where
  ex : ∃ f fd, mg x = some (.ref f) ∧ PySem.W.keepIn K (.ref f) = true ∧ Binds K fd ps [] ∧
    FnG P w K mg base CX0 k f fd ps sp
end
section
variable {P : Program} {w : World} {K : PySem.W.Frag} {mg : Str → Option Value} {base : Heap}
theorem Def.mono {x : Str} {k j : Nat} {ps : List Str} {sp : Sp} (d : Def P w K mg base x k ps sp) (h : k ≤ j) :
    Def P w K mg base x j ps sp :=
  let ⟨f, fd, a, b, c, F⟩ := d.ex
  ⟨f, fd, a, b, c, F.mono h⟩
theorem mkDef {x : Str} {st : Stmt} {N ps : List Str} {k : Nat} {sp : Sp} (A : At K mg x st)
    (S : FnScope N ps (defScope st))
    (hb : ∀ (kV doc pm : Value) (an : Option Addr) (cdv ct : Value) (us : List Value), us.length = ps.length →
      bindArgs (PySem.W.fnOf x x (defArgs st) (defBody st) (defScope st) .none kV doc pm an cdv ct) ⟨us, []⟩ = pure (ps.zip us))
    (len : ∀ vs H Q E, sp vs H Q E → vs.length = ps.length)
    (body : ∀ (f : Addr) (cdv : Value) (A : Around) (out : List Env) (s : Shared) (H : Hp) (vs : List V) (Q : VK) (E : XK),
      Room k (A.deeper (envOfC x (defScope st) s.heap.objs.size f cdv)) → sp vs H Q E →
      ∃ t, PSs (cxOf CX0 P w K mg base N x (defScope st) f cdv A out s H E).nox (defBody st) t ∧
        t { nx := fun _ H' => Q .non H', rt := Q } (start N vs) H) : Def P w K mg base x (k + 1) ps sp := by
  obtain ⟨f, fd, F, m⟩ := A.ex
  exact ⟨f, fd, m, F.kp, F.binds hb, F.ok S len (body f)⟩
theorem mkDefG {x : Str} {st : Stmt} {N ps : List Str} {k : Nat} {sp : Sp} (A : At K mg x st)
    (S : FnScope N ps (defScope st))
    (hb : ∀ (kV doc pm : Value) (an : Option Addr) (cdv ct : Value) (us : List Value), us.length = ps.length →
      bindArgs (PySem.W.fnOf x x (defArgs st) (defBody st) (defScope st) .none kV doc pm an cdv ct) ⟨us, []⟩ = pure (ps.zip us))
    (len : ∀ vs H Q E, sp vs H Q E → vs.length = ps.length)
    (body : ∀ (f : Addr) (cdv : Value) (A : Around) (out : List Env) (s : Shared) (H : Hp) (vs : List V) (Q : VK) (E : XK),
      A.guards = some [] → Room k (A.deeper (envOfC x (defScope st) s.heap.objs.size f cdv)) → sp vs H Q E →
      ∃ t, PSs (cxOf CX0 P w K mg base N x (defScope st) f cdv A out s H E).nox (defBody st) t ∧
        t { nx := fun _ H' => Q .non H', rt := Q } (start N vs) H) : DefG P w K mg base x (k + 1) ps sp := by
  obtain ⟨f, fd, F, m⟩ := A.ex
  exact ⟨f, fd, m, F.kp, F.binds hb, okG F S len (body f)⟩
end
section
variable {X : Cx} {x : Str} {k j : Nat} {ps : List Str} {sp : Sp} {p pos : Pos} {e : Expr} {es : List Expr} {t : TA}
/-- x(e, ..), by the promise of the def under that name -/
theorem pe_d (D : Def X.prog X.w X.K X.mg X.base x k ps sp) (hr : Room j X.A) (hk : k ≤ j) (hg : Gl X x) (ha : PA X (e :: es) t)
    (hdb : (x == ("__debug__" : Str)) = false := by decide)
    (he : starEach (e :: es) X.env = (false, eval e X.env) :: starEach es X.env := by rfl)
    (hpl : (backTo pos (starEach es X.env)).any (·.1) = false := by rfl) :
    PE X (.Call (.Name x p) (e :: es) [] pos) (tCall sp [] E0 t) := by
  obtain ⟨f, fd, m, kp, b, F⟩ := D.ex
  exact pe_call F (hr.mono hk) hg m kp b .nil pass0 ha hdb he hpl
theorem pe_dG (D : DefG X.prog X.w X.K X.mg X.base x k ps sp) (gd : X.A.guards = some []) (hr : Room j X.A) (hk : k ≤ j) (hg : Gl X x)
    (ha : PA X (e :: es) t) (hdb : (x == ("__debug__" : Str)) = false := by decide)
    (he : starEach (e :: es) X.env = (false, eval e X.env) :: starEach es X.env := by rfl)
    (hpl : (backTo pos (starEach es X.env)).any (·.1) = false := by rfl) :
    PE X (.Call (.Name x p) (e :: es) [] pos) (tCall sp [] E0 t) := by
  obtain ⟨f, fd, m, kp, b, F⟩ := D.ex
  exact pe_callG F gd (hr.mono hk) hg m kp b .nil pass0 ha hdb he hpl
end

/-! ### heaps: all but one place stays -/
/-- the heap without one place -/
def wo (H : Hp) (p : Addr) : Hp := fun b => if b = p then none else H b
theorem wo_ne {H : Hp} {p b : Addr} (h : b ≠ p) : wo H p b = H b := if_neg h
theorem wo_same {H : Hp} {p : Addr} : Same (wo H p) H := fun b o e => by
  unfold wo at e
  split at e
  · cases e
  · exact e
theorem wo_at {H : Hp} {p b : Addr} {o : HO} (e : wo H p b = some o) : b ≠ p ∧ H b = some o := by
  unfold wo at e
  split at e
  · cases e
  · rename_i n
    exact ⟨n, e⟩
theorem wo_of {H : Hp} {p b : Addr} {o : HO} (n : b ≠ p) (e : H b = some o) : wo H p b = some o := (wo_ne n).trans e
/-- all that is tracked, but at p, stays -/
def But (p : Addr) (H H' : Hp) : Prop := Same (wo H p) (wo H' p)
theorem But.refl {p : Addr} {H : Hp} : But p H H := fun _ _ e => e
theorem But.trans {p : Addr} {H H1 H2 : Hp} (a : But p H H1) (b : But p H1 H2) : But p H H2 := fun c o h => b c o (a c o h)
theorem But.of {p : Addr} {H H' : Hp} (h : ∀ b o, b ≠ p → H b = some o → H' b = some o) : But p H H' := fun b o e =>
  let ⟨n, z⟩ := wo_at e
  wo_of n (h b o n z)
theorem But.at {p : Addr} {H H' : Hp} (h : But p H H') {b : Addr} {o : HO} (n : b ≠ p) (e : H b = some o) : H' b = some o :=
  (wo_at (h b o (wo_of n e))).2
theorem Same.but {p : Addr} {H H' : Hp} (h : Same H H') : But p H H' := But.of fun b o _ e => h b o e
theorem Same.laid {H : Hp} {q : Addr} {o : HO} (n : H q = none) : Same H (upd H q o) := fun b u e =>
  (upd_ne (ne_of_none e n)).trans e
theorem But.laid {p : Addr} {H : Hp} {q : Addr} {o : HO} (n : H q = none) : But p H (upd H q o) := Same.but (Same.laid n)
theorem But.set {p : Addr} {H : Hp} {o : HO} : But p H (upd H p o) := But.of fun b u n e => (upd_ne n).trans e
end Pw

/-! Lists of tuples; comprehensions and loops that lay a new list, all else staying. -/
namespace Pw
open PySem PySem.Spec PyProof.Rows L2

/-! ### lists of tuples -/
/-- at each place of vs the tuple that f makes of the row -/
inductive Al {α : Type} (f : α → List V) (H : Hp) : List V → List α → Prop where
  | nil : Al f H [] []
  | cons {p : Addr} {vs : List V} {r : α} {rs : List α} (e : H p = some (.tup (f r))) (t : Al f H vs rs) : Al f H (.ref p :: vs) (r :: rs)
section
variable {α : Type} {f : α → List V} {H H' : Hp}
theorem Al.same {vs : List V} {rs : List α} (h : Al f H vs rs) (S : Same H H') : Al f H' vs rs := by
  induction h with
  | nil => exact .nil
  | cons e _ ih => exact .cons (S _ _ e) ih
theorem Al.imp {vs : List V} {rs : List α} (h : Al f H vs rs) (S : ∀ p xs, H p = some (.tup xs) → H' p = some (.tup xs)) : Al f H' vs rs := by
  induction h with
  | nil => exact .nil
  | cons e _ ih => exact .cons (S _ _ e) ih
theorem Al.length {vs : List V} {rs : List α} (h : Al f H vs rs) : vs.length = rs.length := by
  induction h with
  | nil => rfl
  | cons _ _ ih => simp only [List.length_cons, ih]
theorem Al.append {vs ws : List V} {rs ss : List α} (h : Al f H vs rs) (k : Al f H ws ss) : Al f H (vs ++ ws) (rs ++ ss) := by
  induction h with
  | nil => exact k
  | cons e _ ih => exact .cons e ih
theorem Al.one {p : Addr} {r : α} (e : H p = some (.tup (f r))) : Al f H [.ref p] [r] := .cons e .nil
theorem Al.snoc {vs : List V} {rs : List α} {p : Addr} {r : α} (h : Al f H vs rs) (e : H p = some (.tup (f r))) :
    Al f H (vs ++ [.ref p]) (rs ++ [r]) := h.append (.one e)
theorem Al.get {vs : List V} {rs : List α} (h : Al f H vs rs) : ∀ {i : Nat} {v : V}, vs[i]? = some v →
    ∃ p r, v = .ref p ∧ rs[i]? = some r ∧ H p = some (.tup (f r)) := by
  induction h with
  | nil => intro i v e; simp at e
  | @cons p _ r _ e _ ih =>
    intro i v z
    cases i with
    | zero =>
      simp only [List.getElem?_cons_zero, Option.some.injEq] at z
      exact ⟨p, r, z.symm, rfl, e⟩
    | succ i =>
      simp only [List.getElem?_cons_succ] at z
      obtain ⟨q, r', h1, h2, h3⟩ := ih z
      exact ⟨q, r', h1, by simpa using h2, h3⟩
theorem Al.at {vs : List V} {rs : List α} (h : Al f H vs rs) {i : Nat} {r : α} (e : rs[i]? = some r) :
    ∃ p, vs[i]? = some (.ref p) ∧ H p = some (.tup (f r)) := by
  have hi : i < vs.length := by
    rw [h.length]
    exact (List.getElem?_eq_some_iff.mp e).1
  have hv : vs[i]? = some vs[i] := List.getElem?_eq_getElem hi
  obtain ⟨p, r', h1, h2, h3⟩ := h.get hv
  rw [e] at h2
  cases h2
  exact ⟨p, by rw [hv, h1], h3⟩
theorem Al.mem {vs : List V} {rs : List α} (h : Al f H vs rs) {v : V} (m : v ∈ vs) : ∃ p r, v = .ref p ∧ r ∈ rs ∧ H p = some (.tup (f r)) := by
  obtain ⟨i, e⟩ := List.mem_iff_getElem?.mp m
  obtain ⟨p, r, h1, h2, h3⟩ := h.get e
  exact ⟨p, r, h1, List.mem_of_getElem? h2, h3⟩
theorem Al.take {vs : List V} {rs : List α} (h : Al f H vs rs) (n : Nat) : Al f H (vs.take n) (rs.take n) := by
  induction h generalizing n with
  | nil => simp; exact .nil
  | cons e _ ih =>
    cases n with
    | zero => exact .nil
    | succ n => exact .cons e (ih n)
end
/-- at a: a list of such tuples -/
structure LT {α : Type} (f : α → List V) (H : Hp) (a : Addr) (rs : List α) : Prop where
  ex : ∃ vs, H a = some (.lst vs) ∧ Al f H vs rs
section
variable {α : Type} {f : α → List V} {H H' : Hp}
theorem LT.same {a : Addr} {rs : List α} (h : LT f H a rs) (S : Same H H') : LT f H' a rs :=
  let ⟨vs, e, k⟩ := h.ex
  ⟨vs, S _ _ e, k.same S⟩
theorem LT.mk' {a : Addr} {vs : List V} {rs : List α} (e : H a = some (.lst vs)) (k : Al f H vs rs) : LT f H a rs := ⟨vs, e, k⟩
end

/-! ### data: rows of numbers and texts -/
mutual
theorem eqv_refl_ : ∀ d : PyData, d.canLay0 = true → PyData.eqv d d = true
  | .none, _ => rfl
  | .bool b, _ => by simp [PyData.eqv]
  | .int i, _ => by simp [PyData.eqv]
  | .str x, _ => by simp [PyData.eqv]
  | .list xs, h => by rw [PyData.eqv]; exact eqvAll_refl_ xs (by simpa [PyData.canLay0] using h)
  | .tuple xs, h => by rw [PyData.eqv]; exact eqvAll_refl_ xs (by simpa [PyData.canLay0] using h)
  | .dict _, h => by simp [PyData.canLay0] at h
theorem eqvAll_refl_ : ∀ xs : List PyData, PyData.canLayAll0 xs = true → PyData.eqvAll xs xs = true
  | [], _ => rfl
  | x :: xs, h => by
    have h' : x.canLay0 = true ∧ PyData.canLayAll0 xs = true := by simpa [PyData.canLayAll0] using h
    rw [PyData.eqvAll, eqv_refl_ x h'.1, eqvAll_refl_ xs h'.2]; rfl
end
/-- what a row's things are, as data, of rows that are ok -/
structure Dat {α : Type} (f : α → List V) (g : α → List PyData) (ok : α → Prop) : Prop where
  dp : ∀ (K : PySem.W.Frag) (H : Hp) (r : α), DpAll K H (f r) (g r)
  lay : ∀ r, ok r → PyData.canLayAll0 (g r) = true
  dep : ∀ r, PyData.depthAll (g r) = 0
section
variable {α : Type} {f : α → List V} {g : α → List PyData} {ok : α → Prop} {K : PySem.W.Frag} {H : Hp}
theorem Al.dp (D : Dat f g ok) {vs : List V} {rs : List α} (h : Al f H vs rs) : DpAll K H vs (rs.map fun r => .tuple (g r)) := by
  induction h with
  | nil => exact .nil
  | cons e _ ih => exact .cons (.tup (SqT.of e) (D.dp K H _)) ih
theorem lay_rows (D : Dat f g ok) : ∀ rs : List α, (∀ r ∈ rs, ok r) → PyData.canLayAll0 (rs.map fun r => .tuple (g r)) = true
  | [], _ => by simp only [List.map_nil, PyData.canLayAll0]
  | r :: t, h => by
    simp only [List.map_cons, PyData.canLayAll0, PyData.canLay0, lay_rows D t fun r' m => h r' (List.mem_cons_of_mem _ m), D.lay r (h r List.mem_cons_self), Bool.and_self]
theorem dep_rows (D : Dat f g ok) : ∀ rs : List α, PyData.depthAll (rs.map fun r => .tuple (g r)) ≤ 1
  | [] => by simp only [List.map_nil, PyData.depthAll]; exact Nat.zero_le _
  | r :: t => by
    have := dep_rows D t
    simp only [List.map_cons, PyData.depthAll, PyData.depth, D.dep r]
    omega
theorem shaped_rows (D : Dat f g ok) (rs : List α) (ho : ∀ r ∈ rs, ok r) : SeqAt.shaped (.list (rs.map fun r => .tuple (g r))) = true := by
  unfold SeqAt.shaped
  have h := dep_rows D rs
  have e1 : PyData.canLay0 (.list (rs.map fun r => .tuple (g r))) = true := by
    simp only [PyData.canLay0]
    exact lay_rows D rs ho
  have e2 : PyData.depth (.list (rs.map fun r => .tuple (g r))) ≤ 64 := by
    simp only [PyData.depth]
    omega
  rw [e1, decide_eq_true e2]
  rfl
theorem LT.dp (D : Dat f g ok) {a : Addr} {rs : List α} (h : LT f H a rs) : Dp K H (.ref a) (.list (rs.map fun r => .tuple (g r))) :=
  let ⟨_, e, k⟩ := h.ex
  .lst (SqL.of e) (k.dp D)
theorem eqv_rows (D : Dat f g ok) (rs : List α) (ho : ∀ r ∈ rs, ok r) : PyData.eqv (.list (rs.map fun r => .tuple (g r))) (.list (rs.map fun r => .tuple (g r))) = true :=
  eqv_refl_ _ (by simp only [PyData.canLay0]; exact lay_rows D rs ho)
/-- two lists of the same rows are equal -/
theorem eq_rows {Q : VK} (D : Dat f g ok) {a b : Addr} {rs : List α} (ho : ∀ r ∈ rs, ok r) (h : LT f H a rs) (k : LT f H b rs) (q : Q (.bl true) H) :
    rEqD K (.ref a) (.ref b) H Q :=
  ⟨_, _, h.dp D, k.dp D, shaped_rows D rs ho, shaped_rows D rs ho, by rw [eqv_rows D rs ho]; exact q⟩
theorem ne_rows {Q : VK} (D : Dat f g ok) {a b : Addr} {rs : List α} (ho : ∀ r ∈ rs, ok r) (h : LT f H a rs) (k : LT f H b rs) (q : Q (.bl false) H) :
    rNeD K (.ref a) (.ref b) H Q :=
  ⟨_, _, h.dp D, k.dp D, shaped_rows D rs ho, shaped_rows D rs ho, by rw [eqv_rows D rs ho]; exact q⟩
/-- such a list held against the empty one -/
theorem eqv_nil (g : α → List PyData) (rs : List α) : PyData.eqv (.list (rs.map fun r => PyData.tuple (g r))) (.list []) = rs.isEmpty := by
  cases rs <;> simp [PyData.eqv, PyData.eqvAll]
theorem ne_empty {Q : VK} (D : Dat f g ok) {a b : Addr} {rs : List α} (ho : ∀ r ∈ rs, ok r) (h : LT f H a rs) (k : H b = some (.lst [])) (q : Q (.bl !rs.isEmpty) H) :
    rNeD K (.ref a) (.ref b) H Q :=
  ⟨_, .list [], h.dp D, .lst (xs := []) (SqL.of k) .nil, shaped_rows D rs ho, rfl, by rw [eqv_nil]; exact q⟩
theorem eq_empty {Q : VK} (D : Dat f g ok) {a b : Addr} {rs : List α} (ho : ∀ r ∈ rs, ok r) (h : LT f H a rs) (k : H b = some (.lst [])) (q : Q (.bl rs.isEmpty) H) :
    rEqD K (.ref a) (.ref b) H Q :=
  ⟨_, .list [], h.dp D, .lst (xs := []) (SqL.of k) .nil, shaped_rows D rs ho, rfl, by rw [eqv_nil]; exact q⟩
/-- lists of numbers -/
theorem dp_ints {K : PySem.W.Frag} {H : Hp} : ∀ ns : List Int, DpAll K H (ns.map V.int) (ns.map .int)
  | [] => .nil
  | i :: r => .cons (.int i) (dp_ints r)
theorem lay_ints : ∀ ns : List Int, PyData.canLayAll0 (ns.map .int) = true
  | [] => by simp only [List.map_nil, PyData.canLayAll0]
  | r :: t => by simp only [List.map_cons, PyData.canLayAll0, PyData.canLay0, lay_ints t, Bool.and_self]
theorem dep_ints : ∀ ns : List Int, PyData.depthAll (ns.map .int) = 0
  | [] => by simp only [List.map_nil, PyData.depthAll]
  | r :: t => by simp only [List.map_cons, PyData.depthAll, PyData.depth, dep_ints t, Nat.max_self]
theorem shaped_ints (ns : List Int) : SeqAt.shaped (.list (ns.map .int)) = true := by
  unfold SeqAt.shaped
  simp only [PyData.canLay0, PyData.depth, lay_ints ns, dep_ints ns]
  rfl
theorem ne_ints {Q : VK} {a b : Addr} {ns : List Int} (h : H a = some (.lst (ns.map V.int))) (k : H b = some (.lst (ns.map V.int))) (q : Q (.bl false) H) :
    rNeD K (.ref a) (.ref b) H Q :=
  ⟨_, _, .lst (SqL.of h) (dp_ints ns), .lst (SqL.of k) (dp_ints ns), shaped_ints ns, shaped_ints ns, by
    rw [eqv_refl_ _ (by simp only [PyData.canLay0]; exact lay_ints ns)]; exact q⟩
end

/-- a number that the text's top keeps under a name -/
theorem pe_gi {X : Cx} {x : Str} {p : Pos} {n : Int} (h : ∃ t, X.mg x = some (.int n t)) (hg : Gl X x := by rfl)
    (hd : (x == ("__debug__" : Str)) = false := by decide) : PE X (.Name x p) (tC (.int n)) := by
  obtain ⟨t, h⟩ := h
  exact pe_glob (v := .int n) hg h ⟨_, rfl⟩ hd
/-- len(..) of a list or a tuple -/
def rLn (K : PySem.W.Frag) : List V → Hp → VK → Prop := fun xs H Q => ∃ p ys, xs = [V.ref p] ∧ (SqL K H p ys ∨ SqT K H p ys) ∧ Q (.int (ys.length : Int)) H
theorem kit_lt_list {K : PySem.W.Frag} : PySem.W.kitAny K (.type "list") [.type "list", .type "tuple"] = some true := by
  have e : PySem.W.kitOne K (.type "list") (.type "list") = some true := kit_ty (a := "list") (b := "list") (r := true) (by decide +kernel)
  simp only [PySem.W.kitAny, e]
theorem kit_lt_tuple {K : PySem.W.Frag} : PySem.W.kitAny K (.type "tuple") [.type "list", .type "tuple"] = some true := by
  have e : PySem.W.kitOne K (.type "tuple") (.type "list") = some false := kit_ty (a := "tuple") (b := "list") (r := false) (by decide +kernel)
  have e2 : PySem.W.kitOne K (.type "tuple") (.type "tuple") = some true := kit_ty (a := "tuple") (b := "tuple") (r := true) (by decide +kernel)
  simp only [PySem.W.kitAny, e, e2]

/-! ### a comprehension that lays a new list, all else staying -/
theorem Same.wo_upd {H H' : Hp} {D : Addr} {o : HO} (S : Same H H') (n : H D = none) : Same H (upd H' D o) := fun b u e =>
  (upd_ne (ne_of_none e n)).trans (S b u e)
theorem wo_upd {H : Hp} {D : Addr} {o : HO} : wo (upd H D o) D = wo H D := by
  funext b
  unfold wo
  split
  · rfl
  · rename_i h
    exact upd_ne h
theorem Same.wo {H H' : Hp} {p : Addr} (S : Same H H') : Same (wo H p) (wo H' p) := Same.but S
theorem wo_none {H : Hp} {D : Addr} (n : H D = none) : wo H D = H := by
  funext b
  unfold wo
  split
  · rename_i e
    rw [e, n]
  · rfl
theorem lc_acc {J : It} {n : Nat} {G : Hp → Prop} {Y : Nat → Hp → V → Hp → Prop} (w : Walk J n G Y) {g : TG} {tt : TT} {te : TE} {vs : List Nat} {σ : L2.St}
    {H1 : Hp} {D : Addr} {Qd : Hp → Prop} (hD : H1 D = none) (hn : n ≤ 1000000) (R : Nat → List V → Hp → Prop) (r0 : R 0 [] H1)
    (hG : ∀ H, Same H1 H → G H)
    (hs : ∀ i x H H' acc, i < n → Same H1 H → H D = some (.lst acc) → acc.length ≤ i → R i acc (wo H D) → Y i H x H' →
      ∀ (Fy : V → Hp → Prop) (Fn : Hp → Prop), (∀ y H4, Same H H4 → R (i + 1) (acc ++ [y]) (wo H4 D) → Fy y H4) →
        (∀ H3, Same H H3 → R (i + 1) acc (wo H3 D) → Fn H3) →
      g x (wipe σ vs) H' fun σ2 H2 => wipe σ2 vs = wipe σ vs ∧ tt σ2 H2 fun b H3 => if b = true then te σ2 H3 Fy else Fn H3)
    (hd : ∀ H acc, Same H1 H → H D = some (.lst acc) → R n acc (wo H D) → Qd H) :
    ∃ W : Nat → Nat → Hp → Prop, (∃ m, W 0 m (upd H1 D (.lst []))) ∧ ∀ i m H, W i m H →
      (J.stop i H ∧ Qd H) ∨ (J.go i H ∧ ∃ Nx : Hp → Prop, (∀ H', Nx H' → ∃ m', m' < m ∧ W (i + 1) m' H') ∧ ∀ x H', J.yld i H x H' → g x (wipe σ vs) H' fun σ2 H2 => wipe σ2 vs = wipe σ vs ∧ tt σ2 H2 fun b H3 =>
        if b = true then te σ2 H3 fun y H4 => ∃ acc, H4 D = some (.lst acc) ∧ acc.length < sizeLine ∧ Nx (upd H4 D (.lst (acc ++ [y]))) else Nx H3) := by
  have line : 1000000 < sizeLine := by decide
  refine lc_it w (fun i H => Same H1 H ∧ ∃ acc, H D = some (.lst acc) ∧ acc.length ≤ i ∧ R i acc (wo H D))
    ⟨Same.laid hD, [], upd_same, Nat.le_refl _, by rw [wo_upd, wo_none hD]; exact r0⟩ (fun i H _ h => hG H h.1) ?_ ?_
  · rintro i x H H' hi ⟨S, acc, e, hl, r⟩ y
    refine hs i x H H' acc hi S e hl r y _ _ (fun y H4 S4 r4 => ?_) fun H3 S3 r3 => ?_
    · refine ⟨acc, S4 _ _ e, Nat.lt_of_le_of_lt hl (Nat.lt_of_lt_of_le hi (Nat.le_trans hn (Nat.le_of_lt line))), Same.wo_upd (S.trans S4) hD, acc ++ [y], upd_same, ?_, ?_⟩
      · rw [List.length_append, List.length_singleton]
        omega
      · rw [wo_upd]
        exact r4
    · exact ⟨S.trans S3, acc, S3 _ _ e, by omega, r3⟩
  · rintro H ⟨S, acc, e, _, r⟩
    exact hd H acc S e r
/-- a while by a measure, its end told to the test -/
theorem while_m {c : TT} {tb : TS} {D : Ends} {σ : L2.St} {H : Hp} (Pv : Nat → L2.St → Hp → Prop) (m0 : Nat) (h0 : Pv m0 σ H)
    (hs : ∀ m σ H, Pv m σ H → ∀ F : Bool → Hp → Prop,
      (∀ H1, (∀ N : L2.St → Hp → Prop, (∀ m' σ' H', m' < m → Pv m' σ' H' → N σ' H') → tb { D with nx := N, ct := N, bk := D.nx } σ H1) → F true H1) →
      (∀ H1, D.nx σ H1 → F false H1) → c σ H F) : tWhile c tb D σ H := by
  refine ⟨Pv, ⟨m0, h0⟩, fun m σ H p => hs m σ H p _ (fun H1 h => ?_) fun H1 h => ?_⟩
  · rw [if_pos rfl]
    exact ⟨fun σ' H' => ∃ m', m' < m ∧ Pv m' σ' H', fun _ _ h => h, h _ fun m' σ' H' l p => ⟨m', l, p⟩⟩
  · rw [if_neg Bool.false_ne_true]
    exact h

/-- what is laid since then -/
def fre (H G : Hp) : Hp := fun b => match H b with
  | none => G b
  | some _ => none
theorem fre_at {H G : Hp} {b : Addr} {o : HO} (e : fre H G b = some o) : H b = none ∧ G b = some o := by
  unfold fre at e
  cases q : H b with
  | none => rw [q] at e; exact ⟨rfl, e⟩
  | some u => rw [q] at e; cases e
theorem fre_of {H G : Hp} {b : Addr} {o : HO} (n : H b = none) (e : G b = some o) : fre H G b = some o := by
  unfold fre
  rw [n]
  exact e
theorem Same.no {H G : Hp} {b : Addr} (S : Same H G) (n : G b = none) : H b = none := by
  cases q : H b with
  | none => rfl
  | some o => rw [S _ _ q] at n; cases n

/-! ### dicts with number keys -/
theorem valV_none_of {kvs : List (Key × V)} {k : Key} (h : ∀ kv ∈ kvs, kv.1 ≠ k) : valV kvs k = none := by
  induction kvs with
  | nil => rfl
  | cons p r ih =>
    rw [valV_neg (h p (by simp))]
    exact ih fun kv m => h kv (by simp [m])
theorem valV_last {kvs : List (Key × V)} {k : Key} {v : V} (h : ∀ kv ∈ kvs, kv.1 ≠ k) : valV (kvs ++ [(k, v)]) k = some v := by
  rw [valV_snoc k k v kvs (valV_none_of h), if_pos rfl]

/-! ### defs with keyword-only defaults -/
section
variable (P : Program) (w : World) (K : PySem.W.Frag) (mg : Str → Option Value) (base : Heap)
structure AtD (x : Str) (st : Stmt) (kws : List (Str × V)) : Prop where
  ex : ∃ f fd, FunD K x x (defArgs st) (defBody st) (defScope st) [] kws f fd ∧ mg x = some (.ref f)
/-- under its name x a def stands that keeps the promise sp; ds fill up what is left out -/
structure DefD (x : Str) (k : Nat) (ps : List Str) (ds : List V) (sp : Sp) : Prop where
  ex : ∃ f fd us, mg x = some (.ref f) ∧ PySem.W.keepIn K (.ref f) = true ∧ Vals ds us ∧ Binds K fd ps us ∧
    FnOk P w K mg base CX0 k f fd ps sp
/-- the same, the keywords ks told behind n things -/
structure DefK (x : Str) (k : Nat) (ps : List Str) (n : Nat) (ks : List Str) (gV : List V → List V → List V) (sp : Sp) : Prop where
  ex : ∃ f fd g, mg x = some (.ref f) ∧ PySem.W.keepIn K (.ref f) = true ∧ KBn K fd ps n ks g gV ∧
    FnOk P w K mg base CX0 k f fd ps sp
end
section
variable {P : Program} {w : World} {K : PySem.W.Frag} {mg : Str → Option Value} {base : Heap}
theorem mkFnD {x : Str} {st : Stmt} {kws : List (Str × V)} {f : Addr} {fd : FuncData} {N ps : List Str} {k : Nat} {sp : Sp}
    (F : FunD K x x (defArgs st) (defBody st) (defScope st) [] kws f fd) (S : FnScope N ps (defScope st))
    (len : ∀ vs H Q E, sp vs H Q E → vs.length = ps.length)
    (body : ∀ (f : Addr) (cdv : Value) (A : Around) (out : List Env) (s : Shared) (H : Hp) (vs : List V) (Q : VK) (E : XK),
      Room k (A.deeper (envOfC x (defScope st) s.heap.objs.size f cdv)) → sp vs H Q E →
      ∃ t, PSs (cxOf CX0 P w K mg base N x (defScope st) f cdv A out s H E).nox (defBody st) t ∧
        t { nx := fun _ H' => Q .non H', rt := Q } (start N vs) H) : FnOk P w K mg base CX0 (k + 1) f fd ps sp :=
  F.ok S len fun cdv A out s H vs Q E hr hs =>
    let ⟨t, h, q⟩ := body f cdv A out s H vs Q E hr hs
    ⟨t, h.nox, q⟩
theorem mkDefD {x : Str} {st : Stmt} {kws : List (Str × V)} {N ps : List Str} {k n : Nat} {sp : Sp} (A : AtD K mg x st kws)
    (S : FnScope N ps (defScope st)) (hk : kws ≠ []) (hn : n + kws.length = ps.length)
    (hb : ∀ (D : Addr) (doc pm : Value) (an : Option Addr) (cdv ct : Value) (us ks : List Value), us.length = n → ks.length = kws.length →
      KwChain D ((kws.map (·.1)).zip ks) (bindArgs (PySem.W.fnOf x x (defArgs st) (defBody st) (defScope st) .none (.ref D) doc pm an cdv ct) ⟨us, []⟩) (ps.zip (us ++ ks)))
    (len : ∀ vs H Q E, sp vs H Q E → vs.length = ps.length)
    (body : ∀ (f : Addr) (cdv : Value) (A : Around) (out : List Env) (s : Shared) (H : Hp) (vs : List V) (Q : VK) (E : XK),
      Room k (A.deeper (envOfC x (defScope st) s.heap.objs.size f cdv)) → sp vs H Q E →
      ∃ t, PSs (cxOf CX0 P w K mg base N x (defScope st) f cdv A out s H E).nox (defBody st) t ∧
        t { nx := fun _ H' => Q .non H', rt := Q } (start N vs) H) : DefD P w K mg base x (k + 1) ps (kws.map (·.2)) sp := by
  obtain ⟨f, fd, F, m⟩ := A.ex
  obtain ⟨us, hv, b⟩ := F.binds0 n hk hn hb
  exact ⟨f, fd, us, m, F.kp, hv, b, mkFnD F S len body⟩
/-- all keyword-only ones are told -/
theorem mkDefK {x : Str} {st : Stmt} {kws : List (Str × V)} {N ps ks : List Str} {k n : Nat} {sp : Sp} {g : {α : Type} → List α → List α → List α} (A : AtD K mg x st kws)
    (S : FnScope N ps (defScope st))
    (hb : ∀ (kV doc pm : Value) (an : Option Addr) (cdv ct : Value) (us ws : List Value), us.length = n → ws.length = ks.length →
      bindArgs (PySem.W.fnOf x x (defArgs st) (defBody st) (defScope st) .none kV doc pm an cdv ct) ⟨us, ks.zip ws⟩ = pure (ps.zip (g us ws)))
    (hg : ∀ {vs : List V} {us : List Value} {zs : List V} {ws : List Value}, Vals vs us → Vals zs ws → Vals (g vs zs) (g us ws))
    (len : ∀ vs H Q E, sp vs H Q E → vs.length = ps.length)
    (body : ∀ (f : Addr) (cdv : Value) (A : Around) (out : List Env) (s : Shared) (H : Hp) (vs : List V) (Q : VK) (E : XK),
      Room k (A.deeper (envOfC x (defScope st) s.heap.objs.size f cdv)) → sp vs H Q E →
      ∃ t, PSs (cxOf CX0 P w K mg base N x (defScope st) f cdv A out s H E).nox (defBody st) t ∧
        t { nx := fun _ H' => Q .non H', rt := Q } (start N vs) H) : DefK P w K mg base x (k + 1) ps n ks g sp := by
  obtain ⟨f, fd, F, m⟩ := A.ex
  have F' := F
  obtain ⟨oc, od, dV, kV, doc, pm, an, cdv, ct, osl, rfl, lk, hcd, hD, hK⟩ := F.ex
  rcases hD with ⟨_, rfl⟩ | ⟨e, _⟩
  · exact ⟨f, _, fun us ws => g us ws, m, F'.kp, ⟨fun s us ws X l1 l2 => .of_eq (hb kV doc pm an cdv ct us ws l1 l2), hg⟩, mkFnD F' S len body⟩
  · exact absurd rfl e
end
section
variable {X : Cx} {x : Str} {k j n : Nat} {ps ks : List Str} {ds : List V} {sp : Sp} {p pos : Pos} {e : Expr} {es : List Expr} {t tk : TA} {gV : List V → List V → List V}
  {kws : List Keyword}
theorem pe_dD (D : DefD X.prog X.w X.K X.mg X.base x k ps ds sp) (hr : Room j X.A) (hk : k ≤ j) (hg : Gl X x) (ha : PA X (e :: es) t)
    (hdb : (x == ("__debug__" : Str)) = false := by decide)
    (he : starEach (e :: es) X.env = (false, eval e X.env) :: starEach es X.env := by rfl)
    (hpl : (backTo pos (starEach es X.env)).any (·.1) = false := by rfl) :
    PE X (.Call (.Name x p) (e :: es) [] pos) (tCall sp ds E0 t) := by
  obtain ⟨f, fd, us, m, kp, hv, b, F⟩ := D.ex
  exact pe_call F (hr.mono hk) hg m kp b hv pass0 ha hdb he hpl
theorem pe_dK (D : DefK X.prog X.w X.K X.mg X.base x k ps n ks gV sp) (hr : Room j X.A) (hk : k ≤ j) (hg : Gl X x) (ha : PA X (e :: es) t) (hkw : PK X kws tk)
    (hall : (backToKw pos (keywordEach kws X.env)).all (·.1.isSome) = true := by rfl) (hks : (backToKw pos (keywordEach kws X.env)).filterMap (·.1) = ks := by rfl)
    (hdb : (x == ("__debug__" : Str)) = false := by decide)
    (he : starEach (e :: es) X.env = (false, eval e X.env) :: starEach es X.env := by rfl)
    (hpl : ((backTo pos (starEach (e :: es) X.env)).any (·.1) || (backToKw pos (keywordEach kws X.env)).any (·.1.isNone)) = false := by rfl) :
    PE X (.Call (.Name x p) (e :: es) kws pos) (tCallN n ks.length sp gV E0 t tk) := by
  obtain ⟨f, fd, g, m, kp, b, F⟩ := D.ex
  exact pe_callN F (hr.mono hk) hg m kp b pass0 ha hkw hall hks hdb he hpl
end
end Pw

/-! Classes: methods by name, objects made, their fields. -/
namespace Pw
open PySem PySem.Spec PyProof.Rows L2
section
variable (P : Program) (w : World) (K : PySem.W.Frag) (mg : Str → Option Value) (base : Heap)
/-- the method m of the class at C is the def st of the text -/
structure AtMt (C : Addr) (m q : Str) (st : Stmt) : Prop where
  ex : ∃ f fd, Fun K m q st f fd ∧ Meth K C m f
/-- the method m of the class at C keeps the promise sp -/
structure DefM (C : Addr) (m : Str) (k : Nat) (ps : List Str) (sp : Sp) : Prop where
  ex : ∃ f fd, Meth K C m f ∧ Binds K fd ps [] ∧ FnOk P w K mg base CX0 k f fd ps sp
/-- C(..) is made, its __init__ keeping the promise sp -/
structure DefI (x : Str) (C : Addr) (k : Nat) (ps : List Str) (sp : Sp) : Prop where
  ex : ∃ f fd, mg x = some (.ref C) ∧ Mk K C f ∧ Binds K fd ps [] ∧ FnOk P w K mg base CX0 k f fd ps sp
end
section
variable {P : Program} {w : World} {K : PySem.W.Frag} {mg : Str → Option Value} {base : Heap}
theorem DefM.mono {C : Addr} {m : Str} {k j : Nat} {ps : List Str} {sp : Sp} (d : DefM P w K mg base C m k ps sp) (h : k ≤ j) : DefM P w K mg base C m j ps sp :=
  let ⟨f, fd, a, b, F⟩ := d.ex
  ⟨f, fd, a, b, F.mono h⟩
theorem mkDefM {C : Addr} {m q : Str} {st : Stmt} {N ps : List Str} {k : Nat} {sp : Sp} (A : AtMt K C m q st)
    (S : FnScope N ps (defScope st))
    (hb : ∀ (kV doc pm : Value) (an : Option Addr) (cdv ct : Value) (us : List Value), us.length = ps.length →
      bindArgs (PySem.W.fnOf m q (defArgs st) (defBody st) (defScope st) .none kV doc pm an cdv ct) ⟨us, []⟩ = pure (ps.zip us))
    (len : ∀ vs H Q E, sp vs H Q E → vs.length = ps.length)
    (body : ∀ (f : Addr) (cdv : Value) (A : Around) (out : List Env) (s : Shared) (H : Hp) (vs : List V) (Q : VK) (E : XK),
      Room k (A.deeper (envOfC q (defScope st) s.heap.objs.size f cdv)) → sp vs H Q E →
      ∃ t, PSs (cxOf CX0 P w K mg base N q (defScope st) f cdv A out s H E).nox (defBody st) t ∧
        t { nx := fun _ H' => Q .non H', rt := Q } (start N vs) H) : DefM P w K mg base C m (k + 1) ps sp := by
  obtain ⟨f, fd, F, M⟩ := A.ex
  exact ⟨f, fd, M, F.binds hb, F.ok S len (body f)⟩
theorem mkDefI {x : Str} {C f : Addr} {fd : FuncData} {m q : Str} {st : Stmt} {N ps : List Str} {k : Nat} {sp : Sp} (hm : mg x = some (.ref C)) (M : Mk K C f) (F : Fun K m q st f fd)
    (S : FnScope N ps (defScope st))
    (hb : ∀ (kV doc pm : Value) (an : Option Addr) (cdv ct : Value) (us : List Value), us.length = ps.length →
      bindArgs (PySem.W.fnOf m q (defArgs st) (defBody st) (defScope st) .none kV doc pm an cdv ct) ⟨us, []⟩ = pure (ps.zip us))
    (len : ∀ vs H Q E, sp vs H Q E → vs.length = ps.length)
    (body : ∀ (f : Addr) (cdv : Value) (A : Around) (out : List Env) (s : Shared) (H : Hp) (vs : List V) (Q : VK) (E : XK),
      Room k (A.deeper (envOfC q (defScope st) s.heap.objs.size f cdv)) → sp vs H Q E →
      ∃ t, PSs (cxOf CX0 P w K mg base N q (defScope st) f cdv A out s H E).nox (defBody st) t ∧
        t { nx := fun _ H' => Q .non H', rt := Q } (start N vs) H) : DefI P w K mg base x C (k + 1) ps sp :=
  ⟨f, fd, hm, M, F.binds hb, F.ok S len (body f)⟩
/-- under its name x a def stands (nothing is promised of it) -/
theorem At.any {x : Str} {st : Stmt} {ps : List Str} (A : At K mg x st)
    (hb : ∀ (kV doc pm : Value) (an : Option Addr) (cdv ct : Value) (us : List Value), us.length = ps.length →
      bindArgs (PySem.W.fnOf x x (defArgs st) (defBody st) (defScope st) .none kV doc pm an cdv ct) ⟨us, []⟩ = pure (ps.zip us))
    (k : Nat) (sp : Sp) (no : ∀ vs H Q E, ¬ sp vs H Q E) : Def P w K mg base x k ps sp := by
  obtain ⟨f, fd, F, m⟩ := A.ex
  exact ⟨f, fd, m, F.kp, F.binds hb, ⟨fun vs H Q E h => absurd h (no vs H Q E), fun A out s H ar us vs Q E _ _ _ _ h => absurd h (no vs H Q E)⟩⟩
end
section
variable {X : Cx} {x m : Str} {C : Addr} {k j : Nat} {ps : List Str} {sp : Sp} {o : Expr} {p pos apos : Pos} {e : Expr} {es : List Expr} {ta : TE} {t : TA}
theorem pe_mm {pl : Sem Bool} (he : PE X o ta) (c : Cls X.K C) (D : DefM X.prog X.w X.K X.mg X.base C m k ps sp) (hr : Room j X.A) (hk : k ≤ j) (ha : PA X (e :: es) t)
    (hst : starEach (e :: es) X.env = (false, eval e X.env) :: starEach es X.env := by rfl) (hpl : (backTo pos (starEach es X.env)).any (·.1) = false := by rfl)
    (ht : eval (.Call (.Attribute o m apos) (e :: es) [] pos) X.env = (do
      let ov ← eval o X.env
      standAt apos.atName
      let (f, first) ← holding [ov] (getMethod ov m pl)
      callWith pos f first (backTo pos (starEach (e :: es) X.env)) (backToKw pos (keywordEach [] X.env))) := by rfl) :
    PE X (.Call (.Attribute o m apos) (e :: es) [] pos) (tMeth C m sp [] E0 ta t) := by
  obtain ⟨f, fd, M, b, F⟩ := D.ex
  exact pe_meth (pl := pl) he c M F (hr.mono hk) b .nil pass0 ha hst hpl ht
theorem pe_mm0 {pl : Sem Bool} (he : PE X o ta) (c : Cls X.K C) (D : DefM X.prog X.w X.K X.mg X.base C m k ps sp) (hr : Room j X.A) (hk : k ≤ j)
    (ht : eval (.Call (.Attribute o m apos) [] [] pos) X.env = (do
      let ov ← eval o X.env
      standAt apos.atName
      let (f, first) ← holding [ov] (getMethod ov m pl)
      callWith pos f first (backTo pos (starEach [] X.env)) (backToKw pos (keywordEach [] X.env))) := by rfl) :
    PE X (.Call (.Attribute o m apos) [] [] pos) (tMeth C m sp [] E0 ta tNil) := by
  obtain ⟨f, fd, M, b, F⟩ := D.ex
  exact pe_meth0 (pl := pl) he c M F (hr.mono hk) b .nil pass0 ht
theorem pe_mi (D : DefI X.prog X.w X.K X.mg X.base x C k ps sp) (hr : Room j X.A) (hk : k + 1 ≤ j) (hg : Gl X x) (ha : PA X (e :: es) t)
    (hdb : (x == ("__debug__" : Str)) = false := by decide) (he : starEach (e :: es) X.env = (false, eval e X.env) :: starEach es X.env := by rfl) (hpl : (backTo pos (starEach es X.env)).any (·.1) = false := by rfl) :
    PE X (.Call (.Name x p) (e :: es) [] pos) (tMake C sp [] E0 t) := by
  obtain ⟨f, fd, hm, M, b, F⟩ := D.ex
  exact pe_make M F (hr.mono hk) hg hm b .nil pass0 ha hdb he hpl
end
/-! ### fields by name -/
theorem lk_eq {f : Str} {v : V} {r : List (Str × V)} : List.lookup f ((f, v) :: r) = some v := by
  simp only [List.lookup, beq_self_eq_true]
theorem lk_ne {f g : Str} {v : V} {r : List (Str × V)} (h : (f == g) = false) : List.lookup f ((g, v) :: r) = List.lookup f r := by
  simp only [List.lookup, h]
theorem put_eq {f : Str} {v x : V} {r : List (Str × V)} : putF f v ((f, x) :: r) = (f, v) :: r := by
  show (if f = f then _ else _) = _
  rw [if_pos rfl]
theorem put_ne {f g : Str} {v x : V} {r : List (Str × V)} (h : (g == f) = false) : putF f v ((g, x) :: r) = (g, x) :: putF f v r := by
  show (if g = f then _ else _) = _
  rw [if_neg (by simpa using h)]
end Pw

/-! Calls by names alone. -/
namespace Pw
open PySem PySem.Spec PyProof.Rows L2
section
variable (P : Program) (w : World) (K : PySem.W.Frag) (mg : Str → Option Value) (base : Heap)
/-- called by the names ks alone, in this order -/
structure DefK0 (x : Str) (k : Nat) (ps ks : List Str) (g : {α : Type} → List α → List α) (sp : Sp) : Prop where
  ex : ∃ f fd, mg x = some (.ref f) ∧ PySem.W.keepIn K (.ref f) = true ∧
    (∀ (s : Shared) (ws : List Value), K.In s.heap → ws.length = ks.length → BindsTo s fd ⟨[], ks.zip ws⟩ (ps.zip (g ws))) ∧ FnOk P w K mg base CX0 k f fd ps sp
end
section
variable {P : Program} {w : World} {K : PySem.W.Frag} {mg : Str → Option Value} {base : Heap}
theorem mkDefK0 {x : Str} {st : Stmt} {N ps ks : List Str} {k : Nat} {sp : Sp} {g : {α : Type} → List α → List α} (A : At K mg x st)
    (S : FnScope N ps (defScope st))
    (hb : ∀ (kV doc pm : Value) (an : Option Addr) (cdv ct : Value) (ws : List Value), ws.length = ks.length →
      bindArgs (PySem.W.fnOf x x (defArgs st) (defBody st) (defScope st) .none kV doc pm an cdv ct) ⟨[], ks.zip ws⟩ = pure (ps.zip (g ws)))
    (len : ∀ vs H Q E, sp vs H Q E → vs.length = ps.length)
    (body : ∀ (f : Addr) (cdv : Value) (A : Around) (out : List Env) (s : Shared) (H : Hp) (vs : List V) (Q : VK) (E : XK),
      Room k (A.deeper (envOfC x (defScope st) s.heap.objs.size f cdv)) → sp vs H Q E →
      ∃ t, PSs (cxOf CX0 P w K mg base N x (defScope st) f cdv A out s H E).nox (defBody st) t ∧
        t { nx := fun _ H' => Q .non H', rt := Q } (start N vs) H) : DefK0 P w K mg base x (k + 1) ps ks g sp := by
  obtain ⟨f, fd, F, m⟩ := A.ex
  have F' := F
  obtain ⟨oc, od, kV, doc, pm, an, cdv, ct, osl, rfl, lk, hcd⟩ := F.ex
  exact ⟨f, _, m, F'.kp, fun s ws _ hl => .of_eq (hb kV doc pm an cdv ct ws hl), F'.ok S len (body f)⟩
end
section
variable {X : Cx} {x : Str} {k j : Nat} {ps ks : List Str} {sp : Sp} {p pos : Pos} {tk : TA} {kws : List Keyword}
def tCallK0 (n : Nat) (g : {α : Type} → List α → List α) (sp : Sp) (tk : TA) : TE := fun σ H Q => tk σ H fun zs H2 => zs.length = n ∧ sp (g zs) H2 Q E0
theorem pe_dK0 {g : {α : Type} → List α → List α} (D : DefK0 X.prog X.w X.K X.mg X.base x k ps ks g sp) (hgv : ∀ {vs : List V} {us : List Value}, Vals vs us → Vals (g vs) (g us)) (hr : Room j X.A) (hk : k ≤ j) (hg : Gl X x) (hkw : PK X kws tk)
    (hall : (backToKw pos (keywordEach kws X.env)).all (·.1.isSome) = true := by rfl) (hks : (backToKw pos (keywordEach kws X.env)).filterMap (·.1) = ks := by rfl)
    (hdb : (x == ("__debug__" : Str)) = false := by decide)
    (hpl : ((backTo pos (starEach [] X.env)).any (·.1) || (backToKw pos (keywordEach kws X.env)).any (·.1.isNone)) = false := by rfl) :
    PE X (.Call (.Name x p) [] kws pos) (tCallK0 ks.length g sp tk) := by
  obtain ⟨f, fd, m, kp, hb, F⟩ := D.ex
  refine ⟨fun pins s σ H Q I h => ?_⟩
  refine wpAny_Call_Name_kw (ld_glob I hg m ?_ hdb)
  refine PySem.W.callWith_KW0 (h₀ := X.base) I.ok.mod.kin kp hall ?_ hpl
  refine thn (hkw.run pos pins s σ H _ I h) fun ws s2 ⟨zs, H2, I2, rz, l, q2⟩ => ⟨I2.kIn, ?_⟩
  rw [hks]
  have r2 := hgv rz
  refine wpAny_call (codeAny_mono (F.run X.A X.stack s2 H2 ⟨[], ks.zip ws⟩ (g ws) (g zs) Q E0 (hr.mono hk) I2.env0 (hb s2 ws I2.kIn (rz.length.symm.trans l)) r2 q2) fun r s' hq => ?_)
  cases r with
  | error e => exact pass0 pins σ H2 s2 e s' I2 hq
  | ok fl =>
    cases fl with
    | ret u => exact I2.after hq
    | next => exact False.elim hq
    | brk => exact False.elim hq
    | cont => exact False.elim hq
end
/-- the third ahead -/
def g201 {α : Type} : List α → List α
  | [a, b, c] => [c, a, b]
  | _ => []
/-- the first behind -/
def g120 {α : Type} : List α → List α
  | [a, b, c] => [b, c, a]
  | _ => []
theorem g201_vals {vs : List V} {us : List Value} (r : Vals vs us) : Vals (g201 vs) (g201 us) := by
  cases r with
  | nil => exact .nil
  | cons r1 r =>
    cases r with
    | nil => exact .nil
    | cons r2 r =>
      cases r with
      | nil => exact .nil
      | cons r3 r =>
        cases r with
        | nil => exact .cons r3 (.cons r1 (.cons r2 .nil))
        | cons r4 r => exact .nil
theorem g120_vals {vs : List V} {us : List Value} (r : Vals vs us) : Vals (g120 vs) (g120 us) := by
  cases r with
  | nil => exact .nil
  | cons r1 r =>
    cases r with
    | nil => exact .nil
    | cons r2 r =>
      cases r with
      | nil => exact .nil
      | cons r3 r =>
        cases r with
        | nil => exact .cons r2 (.cons r3 (.cons r1 .nil))
        | cons r4 r => exact .nil
end Pw

/-! A watch: the mathematics of its events. -/
namespace Wm
structure Rule where
  ab : Bool
  lim : Int
  back : Int
  hold : Int
structure Good (R : Rule) : Prop where
  back : 0 ≤ R.back
  hold : 0 ≤ R.hold
def bey (R : Rule) (w : Int) : Bool := if R.ab = true then decide (w > R.lim) else decide (w < R.lim)
def rst (R : Rule) (w : Int) : Bool := if R.ab = true then decide (w ≤ R.lim - R.back) else decide (w ≥ R.lim + R.back)
theorem rst_not_bey {R : Rule} (g : Good R) {w : Int} (h : rst R w = true) : bey R w = false := by
  have := g.back
  unfold rst at h
  unfold bey
  split at h <;> rename_i c <;> simp only [c, if_true, if_false, decide_eq_true_eq, decide_eq_false_iff_not] at * <;> first | omega | simp_all <;> omega
abbrev Ev := Int × Option Int
/-- the events, and since when the worth is beyond, while no event was raised of it -/
structure S where
  ev : List Ev
  si : Option Int
deriving DecidableEq
def stnd (ev : List Ev) : Bool := match ev.getLast? with
  | some (_, none) => true
  | _ => false
/-- on to the time T, the worth as it is -/
def waitS (R : Rule) (s : S) (T : Int) : S := match s.si with
  | none => s
  | some a => if a + R.hold > T then s else ⟨s.ev ++ [(a + R.hold, none)], none⟩
/-- what came of it: true stands for raised -/
def waitT (R : Rule) (s : S) (T : Int) : List (Bool × Int) := match s.si with
  | none => []
  | some a => if a + R.hold > T then [] else [(true, a + R.hold)]
def lastR (ev : List Ev) : Int := match ev.getLast? with
  | some (r, _) => r
  | none => 0
def takeS (R : Rule) (s : S) (t w : Int) : S :=
  if stnd s.ev = true then (if rst R w = true then ⟨s.ev.dropLast ++ [(lastR s.ev, some t)], s.si⟩ else s)
  else if bey R w = false then ⟨s.ev, none⟩
  else waitS R ⟨s.ev, some (s.si.getD t)⟩ t
def takeT (R : Rule) (s : S) (t w : Int) : List (Bool × Int) :=
  if stnd s.ev = true then (if rst R w = true then [(false, t)] else [])
  else if bey R w = false then []
  else waitT R ⟨s.ev, some (s.si.getD t)⟩ t
def hearS (R : Rule) (s : S) (t w : Int) : S := takeS R (waitS R s (t - 1)) t w
def hearT (R : Rule) (s : S) (t w : Int) : List (Bool × Int) := waitT R s (t - 1) ++ takeT R (waitS R s (t - 1)) t w
def init : S := ⟨[], none⟩
/-- what a watch has behind some signs -/
def runS (R : Rule) (l : List (Int × Int)) : S := l.foldl (fun s r => hearS R s r.1 r.2) init
theorem runS_snoc (R : Rule) (l : List (Int × Int)) (r : Int × Int) : runS R (l ++ [r]) = hearS R (runS R l) r.1 r.2 := by
  unfold runS
  rw [List.foldl_append]
  rfl
theorem stnd_snoc (ev : List Ev) (r : Int) (o : Option Int) : stnd (ev ++ [(r, o)]) = o.isNone := by
  unfold stnd
  rw [List.getLast?_concat]
  cases o <;> rfl
theorem waitS_wait {R : Rule} (s : S) {a b : Int} (h : a ≤ b) : waitS R (waitS R s a) b = waitS R s b := by
  unfold waitS
  cases hs : s.si with
  | none => simp [hs]
  | some c =>
    simp only
    by_cases h1 : c + R.hold > a
    · rw [if_pos h1]
      simp [hs]
    · rw [if_neg h1, if_neg (by omega)]
/-- to go on between changes nothing of what a sign makes -/
theorem hear_wait {R : Rule} (s : S) {a t w : Int} (h : a < t) : hearS R (waitS R s a) t w = hearS R s t w := by
  unfold hearS
  rw [waitS_wait s (by omega)]

/-! ### what a state is -/
/-- a state behind the tick t, at which the worth was w -/
structure At (R : Rule) (s : S) (t w : Int) : Prop where
  st : stnd s.ev = true → s.si = none ∧ rst R w = false
  no : stnd s.ev = false → ∀ a, s.si = some a → bey R w = true ∧ a + R.hold > t
  be : stnd s.ev = false → bey R w = true → s.si ≠ none
theorem At.take {R : Rule} (g : Good R) {s : S} {t w : Int} (h0 : stnd s.ev = true → s.si = none) : At R (takeS R s t w) t w := by
  unfold takeS
  cases hs : stnd s.ev with
  | true =>
    simp only [if_true]
    cases hr : rst R w with
    | true =>
      simp only [if_true]
      have hb := rst_not_bey g hr
      refine ⟨fun q => ?_, fun _ a e => ?_, fun _ e => ?_⟩
      · rw [stnd_snoc] at q
        cases q
      · rw [h0 hs] at e
        cases e
      · rw [hb] at e
        cases e
    | false =>
      simp only [Bool.false_eq_true, if_false]
      exact ⟨fun _ => ⟨h0 hs, hr⟩, (fun q => by rw [hs] at q; cases q), fun q => by rw [hs] at q; cases q⟩
  | false =>
    simp only [Bool.false_eq_true, if_false]
    cases hb : bey R w with
    | false =>
      simp only [if_true]
      exact ⟨(fun q => by rw [hs] at q; cases q), (fun _ a e => by cases e), fun _ e => by cases (hb.symm.trans e)⟩
    | true =>
      simp only [Bool.true_eq_false, if_false]
      have hr : rst R w = false := by
        cases q : rst R w with
        | false => rfl
        | true => rw [rst_not_bey g q] at hb; cases hb
      unfold waitS
      simp only
      by_cases h1 : s.si.getD t + R.hold > t
      · rw [if_pos h1]
        refine ⟨(fun q => by rw [hs] at q; cases q), fun _ a e => ?_, fun _ _ e => by cases e⟩
        cases e
        exact ⟨hb, h1⟩
      · rw [if_neg h1]
        refine ⟨fun q => ⟨rfl, hr⟩, fun q => ?_, fun q => ?_⟩
        · rw [stnd_snoc] at q
          cases q
        · rw [stnd_snoc] at q
          cases q
theorem wait_h0 {R : Rule} {s : S} (T : Int) (h : stnd s.ev = true → s.si = none) : stnd (waitS R s T).ev = true → (waitS R s T).si = none := by
  unfold waitS
  cases hs : s.si with
  | none => simp only; exact fun q => hs
  | some a =>
    simp only
    split
    · intro q
      rw [h q] at hs
      cases hs
    · exact fun _ => rfl
theorem take_h0 {R : Rule} (g : Good R) {s : S} (t w : Int) (h : stnd s.ev = true → s.si = none) : stnd (takeS R s t w).ev = true → (takeS R s t w).si = none :=
  fun q => ((At.take g h (t := t) (w := w)).st q).1
theorem run_h0 {R : Rule} (g : Good R) (l : List (Int × Int)) : stnd (runS R l).ev = true → (runS R l).si = none := by
  have : ∀ s : S, (stnd s.ev = true → s.si = none) → stnd (l.foldl (fun s r => hearS R s r.1 r.2) s).ev = true → (l.foldl (fun s r => hearS R s r.1 r.2) s).si = none := by
    induction l with
    | nil => intro s h; exact h
    | cons r l ih => intro s h; exact ih _ (take_h0 g _ _ (wait_h0 _ h))
  exact this init fun q => rfl
/-- the same worth again, one tick on: it is as if one went on -/
theorem take_again {R : Rule} {s : S} {t w : Int} (h : At R s t w) : takeS R s (t + 1) w = waitS R s (t + 1) := by
  unfold takeS
  cases hs : stnd s.ev with
  | true =>
    obtain ⟨e1, e2⟩ := h.st hs
    simp only [if_true, e2, Bool.false_eq_true, if_false]
    unfold waitS
    rw [e1]
  | false =>
    simp only [Bool.false_eq_true, if_false]
    cases hb : bey R w with
    | false =>
      simp only [if_true]
      have : s.si = none := by
        cases q : s.si with
        | none => rfl
        | some a => rw [(h.no hs a q).1] at hb; cases hb
      unfold waitS
      rw [this]
      cases s
      simp_all
    | true =>
      simp only [Bool.true_eq_false, if_false]
      cases q : s.si with
      | none => exact absurd q (h.be hs hb)
      | some a =>
        have e : (⟨s.ev, some ((some a).getD (t + 1))⟩ : S) = s := by
          obtain ⟨ev, si⟩ := s
          simp only at q
          rw [q]
          rfl
        rw [e]
theorem At.wait {R : Rule} (g : Good R) {s : S} {t w : Int} (h : At R s t w) : At R (waitS R s (t + 1)) (t + 1) w := by
  rw [← take_again h]
  exact At.take g fun q => (h.st q).1

/-! ### tick by tick -/
/-- tick by tick from lo on, n ticks; f tells the worth of each, none ahead of the first sign -/
def tickS (R : Rule) (f : Int → Option Int) (lo : Int) : Nat → S
  | 0 => init
  | n + 1 => match f (lo + n) with
    | none => tickS R f lo n
    | some w => takeS R (tickS R f lo n) (lo + n) w
theorem tickS_congr {R : Rule} {f f' : Int → Option Int} {lo : Int} : ∀ {n : Nat}, (∀ i : Nat, i < n → f (lo + i) = f' (lo + i)) → tickS R f lo n = tickS R f' lo n
  | 0, _ => rfl
  | n + 1, h => by
    unfold tickS
    rw [h n (by omega), tickS_congr fun i hi => h i (by omega)]
/-- the worth of the last row, of all, that is no later than t -/
def lw (l : List (Int × Int)) (t : Int) : Option Int := ((l.filter fun r => decide (r.1 ≤ t)).getLast?).map (·.2)
theorem lw_nil (t : Int) : lw [] t = none := rfl
theorem lw_snoc (l : List (Int × Int)) (r : Int × Int) (t : Int) : lw (l ++ [r]) t = if r.1 ≤ t then some r.2 else lw l t := by
  unfold lw
  rw [List.filter_append]
  by_cases h : r.1 ≤ t
  · rw [if_pos h, List.filter_cons, if_pos (decide_eq_true h), List.filter_nil, List.getLast?_concat]
    rfl
  · rw [if_neg h, List.filter_cons, if_neg (by rw [decide_eq_false h]; decide), List.filter_nil, List.append_nil]
/-- n ticks more, the worth w behind the tick t -/
theorem tick_const {R : Rule} (g : Good R) {f : Int → Option Int} {lo : Int} {k : Nat} {w : Int} (h : At R (tickS R f lo (k + 1)) (lo + k) w) :
    ∀ n : Nat, (∀ i : Nat, i < n → f (lo + (k + 1 + i : Nat)) = some w) → tickS R f lo (k + 1 + n) = waitS R (tickS R f lo (k + 1)) (lo + (k + n : Nat)) ∧ At R (tickS R f lo (k + 1 + n)) (lo + (k + n : Nat)) w
  | 0, _ => by
    refine ⟨?_, h⟩
    rw [Nat.add_zero, Nat.add_zero]
    unfold waitS
    cases hs : (tickS R f lo (k + 1)).si with
    | none => rfl
    | some a =>
      simp only
      by_cases q : stnd (tickS R f lo (k + 1)).ev = true
      · rw [(h.st q).1] at hs
        cases hs
      · have := (h.no (by simpa using q) a hs).2
        rw [if_pos (by omega)]
  | n + 1, hf => by
    obtain ⟨e1, e2⟩ := tick_const g h n fun i hi => hf i (by omega)
    have e3 : tickS R f lo (k + 1 + (n + 1)) = takeS R (tickS R f lo (k + 1 + n)) (lo + (k + n : Nat) + 1) w := by
      show tickS R f lo ((k + 1 + n) + 1) = _
      rw [tickS, hf n (by omega)]
      show takeS R _ (lo + (k + 1 + n : Nat)) w = _
      congr 1
      omega
    have e4 : lo + ((k + (n + 1) : Nat) : Int) = lo + (k + n : Nat) + 1 := by omega
    rw [e3, e4]
    rw [take_again e2]
    refine ⟨?_, e2.wait g⟩
    rw [e1, waitS_wait _ (by omega)]
theorem tick_none {R : Rule} {f : Int → Option Int} {lo : Int} : ∀ n : Nat, (∀ i : Nat, i < n → f (lo + i) = none) → tickS R f lo n = init
  | 0, _ => rfl
  | n + 1, h => by
    unfold tickS
    rw [h n (by omega)]
    exact tick_none n fun i hi => h i (by omega)
/-- THE EVENTS: a watch that hears signs and goes on has what the ticks make -/
theorem run_ticks {R : Rule} (g : Good R) (lo : Int) : ∀ (m : Nat) (l : List (Int × Int)), l.length = m → l.Pairwise (fun a b => a.1 < b.1) → (∀ r ∈ l, lo ≤ r.1) →
    ∀ n : Nat, (∀ r ∈ l, r.1 < lo + n) → (n = 0 → l = []) →
    waitS R (runS R l) (lo + n - 1) = tickS R (lw l) lo n ∧ (∀ r, l.getLast? = some r → At R (tickS R (lw l) lo n) (lo + n - 1) r.2) := by
  intro m
  induction m with
  | zero =>
    intro l hl _ _ n _ _
    rw [List.length_eq_zero_iff.mp hl]
    refine ⟨?_, fun r e => by cases e⟩
    rw [tick_none n fun i _ => lw_nil _]
    rfl
  | succ m ih =>
    intro l hl hp hlo n hn _
    rcases List.eq_nil_or_concat l with h | ⟨l', r, h⟩
    · rw [h] at hl
      cases hl
    · rw [List.concat_eq_append] at h
      subst h
      have hp' := List.pairwise_append.mp hp
      have hr := hn r (by simp)
      have hrl := hlo r (by simp)
      -- the tick of r
      obtain ⟨k, hk⟩ := Int.eq_ofNat_of_zero_le (show 0 ≤ r.1 - lo by omega)
      have ek : r.1 = lo + k := by omega
      have hkn : k < n := by omega
      have hlt : ∀ q ∈ l', q.1 < lo + k := fun q hq => by
        rw [← ek]
        exact hp'.2.2 q hq r (by simp)
      have ih1 := ih l' (by simpa using hl) hp'.1 (fun q hq => hlo q (by simp [hq])) k hlt (fun z => by
        cases l' with
        | nil => rfl
        | cons q t =>
          have h1 := hlt q (by simp)
          have h2 := hlo q (by simp)
          omega)
      have f1 : ∀ i : Nat, i < k → lw (l' ++ [r]) (lo + i) = lw l' (lo + i) := fun i hi => by
        rw [lw_snoc, if_neg (by omega)]
      have e1 : tickS R (lw (l' ++ [r])) lo k = waitS R (runS R l') (lo + k - 1) := by
        rw [tickS_congr f1]
        exact ih1.1.symm
      have f2 : lw (l' ++ [r]) (lo + k) = some r.2 := by rw [lw_snoc, if_pos (by omega)]
      have e2 : tickS R (lw (l' ++ [r])) lo (k + 1) = hearS R (runS R l') r.1 r.2 := by
        rw [tickS, f2]
        show takeS R _ _ _ = _
        rw [e1, ← ek]
        rfl
      have a2 : At R (tickS R (lw (l' ++ [r])) lo (k + 1)) (lo + k) r.2 := by
        rw [e2, ← ek]
        exact At.take g (wait_h0 _ (run_h0 g _))
      obtain ⟨j, hj⟩ : ∃ j, n = k + 1 + j := ⟨n - (k + 1), by omega⟩
      obtain ⟨e3, a3⟩ := tick_const g a2 j fun i _ => by rw [lw_snoc, if_pos (by omega)]
      rw [hj, runS_snoc, e3, e2]
      refine ⟨?_, fun r' er => ?_⟩
      · congr 1
        omega
      · rw [List.getLast?_concat] at er
        cases er
        rw [← e2, ← e3]
        have : lo + ((k + 1 + j : Nat) : Int) - 1 = lo + (k + j : Nat) := by omega
        rw [this]
        exact a3
theorem waitS_len (R : Rule) (s : S) (T : Int) : (waitS R s T).ev.length ≤ s.ev.length + 1 := by
  unfold waitS
  cases s.si with
  | none => simp
  | some a => simp only; split <;> simp
theorem takeS_len (R : Rule) (s : S) (t w : Int) : (takeS R s t w).ev.length ≤ s.ev.length + 1 := by
  unfold takeS
  split
  · split
    · simp
    · simp
  · split
    · simp
    · exact waitS_len R _ t
theorem runS_len (R : Rule) : ∀ (n : Nat) (l : List (Int × Int)), l.length = n → (runS R l).ev.length ≤ 2 * n := by
  intro n
  induction n with
  | zero => intro l h; rw [List.length_eq_zero_iff.mp h]; simp [runS, init]
  | succ n ih =>
    intro l h
    rcases List.eq_nil_or_concat l with z | ⟨l', r, z⟩
    · rw [z] at h; cases h
    · rw [List.concat_eq_append] at z
      subst z
      have := ih l' (by simpa using h)
      rw [runS_snoc]
      have h1 := takeS_len R (waitS R (runS R l') (r.1 - 1)) r.1 r.2
      have h2 := waitS_len R (runS R l') (r.1 - 1)
      show (takeS R (waitS R (runS R l') (r.1 - 1)) r.1 r.2).ev.length ≤ _
      omega
/-- how a state is told -/
def told (s : S) : Nat × Option Int := if stnd s.ev = true then (0, some (lastR s.ev)) else match s.si with
  | some a => (1, some a)
  | none => (2, none)
end Wm

/-! A watch: turned about, later, by its last worths alone. -/
namespace Wm
def turnR (R : Rule) : Rule := { R with ab := !R.ab, lim := 63 - R.lim }
theorem bey_turn (R : Rule) (w : Int) : bey (turnR R) (63 - w) = bey R w := by
  unfold bey turnR
  cases hR : R.ab <;> simp <;> omega
theorem rst_turn (R : Rule) (w : Int) : rst (turnR R) (63 - w) = rst R w := by
  unfold rst turnR
  cases hR : R.ab <;> simp <;> omega
theorem wait_turn (R : Rule) (s : S) (T : Int) : waitS (turnR R) s T = waitS R s T := rfl
theorem take_turn (R : Rule) (s : S) (t w : Int) : takeS (turnR R) s t (63 - w) = takeS R s t w := by
  unfold takeS
  rw [bey_turn, rst_turn]
  rfl
theorem hear_turn (R : Rule) (s : S) (t w : Int) : hearS (turnR R) s t (63 - w) = hearS R s t w := by
  unfold hearS
  rw [take_turn]
  rfl
theorem run_turn (R : Rule) (l : List (Int × Int)) : runS (turnR R) (l.map fun p => (p.1, 63 - p.2)) = runS R l := by
  unfold runS
  rw [List.foldl_map]
  congr 1
  funext s r
  exact hear_turn R s r.1 r.2

/-! ### later -/
def shEv (m : Int) (e : Ev) : Ev := (e.1 + m, e.2.map (· + m))
def sh (m : Int) (s : S) : S := ⟨s.ev.map (shEv m), s.si.map (· + m)⟩
theorem stnd_sh (m : Int) (ev : List Ev) : stnd (ev.map (shEv m)) = stnd ev := by
  unfold stnd
  rw [List.getLast?_map]
  cases ev.getLast? with
  | none => rfl
  | some e =>
    obtain ⟨a, o⟩ := e
    cases o <;> rfl
theorem lastR_sh (m : Int) (ev : List Ev) (h : stnd ev = true) : lastR (ev.map (shEv m)) = lastR ev + m := by
  unfold stnd at h
  unfold lastR
  rw [List.getLast?_map]
  cases hl : ev.getLast? with
  | none => rw [hl] at h; cases h
  | some e => rfl
theorem wait_sh (R : Rule) (m : Int) (s : S) (T : Int) : waitS R (sh m s) (T + m) = sh m (waitS R s T) := by
  unfold waitS
  cases hs : s.si with
  | none =>
    simp only [sh, hs, Option.map_none]
  | some a =>
    simp only [sh, hs, Option.map_some]
    by_cases h : a + R.hold > T
    · rw [if_pos h, if_pos (by omega)]
      simp only [hs, Option.map_some]
    · rw [if_neg h, if_neg (by omega)]
      simp only [List.map_append, List.map_cons, List.map_nil, shEv, Option.map_none]
      rw [show a + m + R.hold = a + R.hold + m by omega]
theorem take_sh (R : Rule) (m : Int) (s : S) (t w : Int) : takeS R (sh m s) (t + m) w = sh m (takeS R s t w) := by
  unfold takeS
  rw [show stnd (sh m s).ev = stnd s.ev from stnd_sh m s.ev]
  cases hst : stnd s.ev with
  | true =>
    simp only [if_true]
    split
    · simp only [sh, List.map_append, List.map_dropLast, List.map_cons, List.map_nil, shEv, Option.map_some]
      congr 4
      exact lastR_sh m s.ev hst
    · rfl
  | false =>
    simp only [Bool.false_eq_true, if_false]
    split
    · simp only [sh, Option.map_none]
    · have e : (⟨(sh m s).ev, some ((sh m s).si.getD (t + m))⟩ : S) = sh m ⟨s.ev, some (s.si.getD t)⟩ := by
        unfold sh
        cases s.si <;> rfl
      rw [e]
      exact wait_sh R m _ t
theorem hear_sh (R : Rule) (m : Int) (s : S) (t w : Int) : hearS R (sh m s) (t + m) w = sh m (hearS R s t w) := by
  unfold hearS
  rw [show t + m - 1 = t - 1 + m by omega, wait_sh, take_sh]
theorem run_sh (R : Rule) (m : Int) (l : List (Int × Int)) : runS R (l.map fun p => (p.1 + m, p.2)) = sh m (runS R l) := by
  unfold runS
  rw [List.foldl_map]
  have : ∀ s : S, l.foldl (fun s (r : Int × Int) => hearS R s (r.1 + m) r.2) (sh m s) = sh m (l.foldl (fun s r => hearS R s r.1 r.2) s) := by
    induction l with
    | nil => intro s; rfl
    | cons r l ih =>
      intro s
      rw [List.foldl_cons, List.foldl_cons, hear_sh, ih]
  exact this init
theorem told_sh (m : Int) (s : S) : told (sh m s) = ((told s).1, (told s).2.map (· + m)) := by
  unfold told
  rw [show stnd (sh m s).ev = stnd s.ev from stnd_sh m s.ev]
  cases hst : stnd s.ev with
  | true =>
    simp only [if_true]
    rw [show lastR (sh m s).ev = lastR s.ev + m from lastR_sh m s.ev hst]
    rfl
  | false =>
    simp only [Bool.false_eq_true, if_false]
    unfold sh
    cases s.si <;> rfl

/-! ### by the last worths alone -/
theorem lw_cut (l : List (Int × Int)) {t T : Int} (h : t ≤ T) : lw (l.filter fun r => decide (r.1 ≤ T)) t = lw l t := by
  unfold lw
  rw [List.filter_filter]
  congr 2
  refine List.filter_congr fun r _ => ?_
  by_cases c : r.1 ≤ t
  · rw [decide_eq_true c, decide_eq_true (show r.1 ≤ T by omega)]
    rfl
  · rw [decide_eq_false c]
    rfl
theorem by_worths {R : Rule} (g : Good R) {l l' : List (Int × Int)} {T : Int} (hT : 0 ≤ T) (h1 : l.Pairwise fun a b => a.1 < b.1) (h2 : l'.Pairwise fun a b => a.1 < b.1) (z1 : ∀ r ∈ l, 0 ≤ r.1) (z2 : ∀ r ∈ l', 0 ≤ r.1)
    (h : ∀ t, t ≤ T → lw l t = lw l' t) : waitS R (runS R (l.filter fun r => decide (r.1 ≤ T))) T = waitS R (runS R (l'.filter fun r => decide (r.1 ≤ T))) T := by
  have go : ∀ l : List (Int × Int), l.Pairwise (fun a b => a.1 < b.1) → (∀ r ∈ l, 0 ≤ r.1) →
      waitS R (runS R (l.filter fun r => decide (r.1 ≤ T))) T = tickS R (lw l) 0 (T.toNat + 1) := by
    intro l h1 z1
    have := (run_ticks g 0 _ (l.filter fun r => decide (r.1 ≤ T)) rfl (h1.sublist List.filter_sublist) (fun r hr => z1 r (List.mem_filter.mp hr).1) (T.toNat + 1)
      (fun r hr => by have := of_decide_eq_true (List.mem_filter.mp hr).2; omega) (fun z => by omega)).1
    rw [show (0 : Int) + ((T.toNat + 1 : Nat) : Int) - 1 = T by omega] at this
    rw [this]
    exact tickS_congr fun i hi => lw_cut l (by omega)
  rw [go l h1 z1, go l' h2 z2]
  exact tickS_congr fun i hi => h _ (by omega)
end Wm

/-! The walk tick by tick, as a law writes it. -/
namespace Wm
/-- what is told and held: the events, since when, whether it stands -/
structure M where
  ev : List Ev
  si : Option Int
  st : Bool
/-- one tick -/
def stepM (R : Rule) (m : M) (t w : Int) : M :=
  let m1 : M := if m.st = true ∧ rst R w = true then ⟨m.ev.dropLast ++ [(lastR m.ev, some t)], none, false⟩
    else if m.st = false ∧ bey R w = false then ⟨m.ev, none, m.st⟩
    else if m.st = false ∧ m.si = none then ⟨m.ev, some t, m.st⟩ else m
  match m1.st, m1.si with
  | false, some a => if t - a ≥ R.hold then ⟨m1.ev ++ [(t, none)], some a, true⟩ else m1
  | _, _ => m1
/-- it is the state s -/
structure Is (m : M) (s : S) : Prop where
  ev : m.ev = s.ev
  st : m.st = stnd s.ev
  si : m.st = false → m.si = s.si
theorem Is.step {R : Rule} (g : Good R) {m : M} {s : S} (h : Is m s) {t w : Int} (h0 : stnd s.ev = true → s.si = none) (h1 : stnd s.ev = false → ∀ a, s.si = some a → a + R.hold > t - 1) :
    Is (stepM R m t w) (takeS R s t w) := by
  obtain ⟨mev, msi, mst⟩ := m
  obtain ⟨e1, e2, e3⟩ := h
  simp only at e1 e2 e3
  subst e1
  unfold stepM takeS
  cases hs : stnd s.ev with
  | true =>
    rw [hs] at e2
    subst e2
    simp only [true_and, if_true, Bool.true_eq_false, false_and, if_false]
    cases hr : rst R w with
    | true =>
      simp only [if_true]
      exact ⟨rfl, (stnd_snoc s.ev.dropLast (lastR s.ev) (some t)).symm, fun _ => (h0 hs).symm⟩
    | false =>
      simp only [Bool.false_eq_true, if_false]
      exact ⟨rfl, hs.symm, fun z => by cases z⟩
  | false =>
    rw [hs] at e2
    subst e2
    have e4 : msi = s.si := e3 rfl
    subst e4
    simp only [Bool.false_eq_true, false_and, if_false, true_and]
    cases hb : bey R w with
    | false =>
      simp only [if_true]
      exact ⟨rfl, hs.symm, fun _ => rfl⟩
    | true =>
      simp only [Bool.true_eq_false, if_false]
      cases hsi : s.si with
      | none =>
        simp only [if_true, Option.getD_none]
        unfold waitS
        simp only
        have := g.hold
        by_cases hh : R.hold = 0
        · rw [if_pos (by omega), if_neg (by omega)]
          refine ⟨?_, (stnd_snoc s.ev (t + R.hold) none).symm, fun z => by cases z⟩
          show _ ++ [(t, none)] = _ ++ [(t + R.hold, none)]
          rw [hh, Int.add_zero]
        · rw [if_neg (by omega), if_pos (by omega)]
          exact ⟨rfl, hs.symm, fun _ => rfl⟩
      | some a =>
        simp only [Option.getD_some]
        rw [if_neg (by simp)]
        simp only
        have := h1 hs a hsi
        unfold waitS
        simp only
        by_cases hh : t - a ≥ R.hold
        · rw [if_pos hh, if_neg (by omega)]
          refine ⟨?_, (stnd_snoc s.ev (a + R.hold) none).symm, fun z => by cases z⟩
          show _ ++ [(t, none)] = _ ++ [(a + R.hold, none)]
          rw [show a + R.hold = t by omega]
        · rw [if_neg hh, if_pos (by omega)]
          exact ⟨rfl, hs.symm, fun _ => rfl⟩
/-- from the first tick on -/
theorem lw_none {l : List (Int × Int)} {t t' : Int} (h : lw l t = none) (l1 : t' ≤ t) : lw l t' = none := by
  unfold lw at h ⊢
  rw [Option.map_eq_none_iff, List.getLast?_eq_none_iff] at h ⊢
  rw [List.filter_eq_nil_iff] at h ⊢
  intro x hx
  have := h x hx
  simp only [decide_eq_true_eq] at this ⊢
  omega
theorem tick_at {R : Rule} (g : Good R) (l : List (Int × Int)) (lo : Int) : ∀ n : Nat,
    (lw l (lo + n - 1) = none → tickS R (lw l) lo n = init) ∧ (∀ w, lw l (lo + n - 1) = some w → n ≠ 0 → At R (tickS R (lw l) lo n) (lo + n - 1) w) := by
  intro n
  induction n with
  | zero => exact ⟨fun _ => rfl, fun _ _ z => absurd rfl z⟩
  | succ n ih =>
    have e : lo + ((n + 1 : Nat) : Int) - 1 = lo + n := by omega
    rw [e]
    refine ⟨fun h => ?_, fun w h _ => ?_⟩
    · exact tick_none (n + 1) fun i hi => lw_none h (by omega)
    · rw [tickS, h]
      show At R (takeS R (tickS R (lw l) lo n) (lo + n) w) _ _
      refine At.take g fun z => ?_
      cases hl : lw l (lo + n - 1) with
      | none =>
        rw [ih.1 hl]
        rfl
      | some w' =>
        by_cases hn : n = 0
        · subst hn
          rfl
        · exact ((ih.2 w' hl hn).st z).1
theorem tick_pre {R : Rule} (g : Good R) (l : List (Int × Int)) (lo : Int) (n : Nat) :
    (stnd (tickS R (lw l) lo n).ev = true → (tickS R (lw l) lo n).si = none) ∧ (stnd (tickS R (lw l) lo n).ev = false → ∀ a, (tickS R (lw l) lo n).si = some a → a + R.hold > lo + n - 1) := by
  obtain ⟨h1, h2⟩ := tick_at g l lo n
  cases hl : lw l (lo + n - 1) with
  | none =>
    rw [h1 hl]
    exact ⟨fun _ => rfl, fun _ a e => by cases e⟩
  | some w =>
    by_cases hn : n = 0
    · subst hn
      exact ⟨fun _ => rfl, fun _ a e => by cases e⟩
    · exact ⟨fun z => ((h2 w hl hn).st z).1, fun z a e => ((h2 w hl hn).no z a e).2⟩
/-- behind the last tick: what signs make -/
theorem ticks_to {R : Rule} (g : Good R) {l : List (Int × Int)} {lo T : Int} (hT : lo ≤ T) (h1 : l.Pairwise fun a b => a.1 < b.1) (z1 : ∀ r ∈ l, lo ≤ r.1) :
    waitS R (runS R (l.filter fun r => decide (r.1 ≤ T))) T = tickS R (lw l) lo (T + 1 - lo).toNat := by
  have := (run_ticks g lo _ (l.filter fun r => decide (r.1 ≤ T)) rfl (h1.sublist List.filter_sublist) (fun r hr => z1 r (List.mem_filter.mp hr).1) (T + 1 - lo).toNat
    (fun r hr => by have := of_decide_eq_true (List.mem_filter.mp hr).2; omega) (fun z => by omega)).1
  rw [show lo + (((T + 1 - lo).toNat : Nat) : Int) - 1 = T by omega] at this
  rw [this]
  exact tickS_congr fun i hi => lw_cut l (by omega)
/-- one tick more, with the walk's own step -/
theorem tick_is {R : Rule} (g : Good R) (l : List (Int × Int)) (lo : Int) (n : Nat) {m : M} (h : Is m (tickS R (lw l) lo n)) {w : Int} (hw : lw l (lo + n) = some w) :
    Is (stepM R m (lo + n) w) (tickS R (lw l) lo (n + 1)) := by
  rw [tickS, hw]
  obtain ⟨p1, p2⟩ := tick_pre g l lo n
  exact h.step g p1 p2
theorem tick_skip {R : Rule} (l : List (Int × Int)) (lo : Int) (n : Nat) (hw : lw l (lo + n) = none) : tickS R (lw l) lo (n + 1) = tickS R (lw l) lo n := by
  rw [tickS, hw]
end Wm

/-! Events grow; what is behind the last sign. -/
namespace Wm
/-- only the last is open -/
def Cl (ev : List Ev) : Prop := ∀ (k : Nat) (e : Ev), ev[k]? = some e → e.2 = none → k + 1 = ev.length
structure Grow (a b : List Ev) : Prop where
  len : a.length ≤ b.length
  one : ∀ (k : Nat) (e : Ev), a[k]? = some e → ∃ e', b[k]? = some e' ∧ e'.1 = e.1 ∧ (e.2 ≠ none → e'.2 = e.2)
  cl : Cl a
theorem Grow.refl {a : List Ev} (h : Cl a) : Grow a a := ⟨Nat.le_refl _, fun _ e he => ⟨e, he, rfl, fun _ => rfl⟩, h⟩
theorem Cl.snoc {ev : List Ev} (h : Cl ev) (hs : stnd ev = false) (e : Ev) : Cl (ev ++ [e]) := by
  intro k e' he hn
  rw [List.length_append, List.length_singleton]
  by_cases hk : k < ev.length
  · rw [List.getElem?_append_left hk] at he
    have h1 := h k e' he hn
    exfalso
    unfold stnd at hs
    have h2 : ev.getLast? = some e' := by
      rw [List.getLast?_eq_getElem?, show ev.length - 1 = k by omega]
      exact he
    rw [h2] at hs
    obtain ⟨x, o⟩ := e'
    simp only at hn
    subst hn
    cases hs
  · have : k = ev.length := by
      rcases Nat.lt_or_ge k (ev ++ [e]).length with z | z
      · rw [List.length_append, List.length_singleton] at z
        omega
      · rw [List.getElem?_eq_none z] at he
        cases he
    omega
theorem Grow.snoc {ev : List Ev} (h : Cl ev) (e : Ev) : Grow ev (ev ++ [e]) :=
  ⟨by simp, fun k x hx => ⟨x, by rw [List.getElem?_append_left (List.getElem?_eq_some_iff.mp hx).1]; exact hx, rfl, fun _ => rfl⟩, h⟩
theorem grow_end {ev : List Ev} (h : Cl ev) (hs : stnd ev = true) (t : Int) : Grow ev (ev.dropLast ++ [(lastR ev, some t)]) ∧ Cl (ev.dropLast ++ [(lastR ev, some t)]) := by
  rcases List.eq_nil_or_concat ev with z | ⟨ev', e, z⟩
  · rw [z] at hs
    cases hs
  · rw [List.concat_eq_append] at z
    subst z
    rw [List.dropLast_concat]
    have el : lastR (ev' ++ [e]) = e.1 := by
      unfold lastR
      rw [List.getLast?_concat]
    rw [el]
    have e2 : e.2 = none := by
      unfold stnd at hs
      rw [List.getLast?_concat] at hs
      obtain ⟨x, o⟩ := e
      cases o with
      | none => rfl
      | some u => cases hs
    refine ⟨⟨by simp, fun k x hx => ?_, h⟩, fun k x hx hn => ?_⟩
    · by_cases hk : k < ev'.length
      · rw [List.getElem?_append_left hk] at hx ⊢
        exact ⟨x, hx, rfl, fun _ => rfl⟩
      · rw [List.getElem?_append_right (by omega)] at hx ⊢
        have hk0 : k - ev'.length = 0 := by
          rcases Nat.eq_zero_or_pos (k - ev'.length) with z | z
          · exact z
          · rw [List.getElem?_eq_none (by show 1 ≤ k - ev'.length; omega)] at hx
            cases hx
        rw [hk0] at hx ⊢
        cases hx
        exact ⟨_, rfl, rfl, fun z => absurd e2 z⟩
    · by_cases hk : k < ev'.length
      · rw [List.getElem?_append_left hk] at hx
        have := h k x (by rw [List.getElem?_append_left hk]; exact hx) hn
        rw [List.length_append, List.length_singleton] at this
        omega
      · rw [List.getElem?_append_right (by omega)] at hx
        have hk0 : k - ev'.length = 0 := by
          rcases Nat.eq_zero_or_pos (k - ev'.length) with z | z
          · exact z
          · rw [List.getElem?_eq_none (by show 1 ≤ k - ev'.length; omega)] at hx
            cases hx
        rw [hk0] at hx
        cases hx
        cases hn
theorem take_grow {R : Rule} {s : S} (t w : Int) (h : Cl s.ev) : Grow s.ev (takeS R s t w).ev ∧ Cl (takeS R s t w).ev := by
  unfold takeS
  cases hs : stnd s.ev with
  | true =>
    simp only [if_true]
    split
    · exact grow_end h hs t
    · exact ⟨Grow.refl h, h⟩
  | false =>
    simp only [Bool.false_eq_true, if_false]
    split
    · exact ⟨Grow.refl h, h⟩
    · unfold waitS
      simp only
      split
      · exact ⟨Grow.refl h, h⟩
      · exact ⟨Grow.snoc h _, h.snoc hs _⟩
theorem tick_cl {R : Rule} (f : Int → Option Int) (lo : Int) : ∀ n : Nat, Cl (tickS R f lo n).ev
  | 0 => fun k e he => by cases he
  | n + 1 => by
    unfold tickS
    split
    · exact tick_cl f lo n
    · exact (take_grow _ _ (tick_cl f lo n)).2
theorem tick_grow {R : Rule} (f : Int → Option Int) (lo : Int) (n : Nat) : Grow (tickS R f lo n).ev (tickS R f lo (n + 1)).ev := by
  have h := tick_cl (R := R) f lo n
  show Grow _ (match f (lo + n) with | none => tickS R f lo n | some w => takeS R (tickS R f lo n) (lo + n) w).ev
  split
  · exact Grow.refl h
  · exact (take_grow _ _ h).1
/-- the numbers of the events -/
def Num (lo hi : Int) (ev : List Ev) : Prop := ∀ e ∈ ev, (lo ≤ e.1 ∧ e.1 ≤ hi) ∧ ∀ u, e.2 = some u → lo ≤ u ∧ u ≤ hi
theorem Num.mono {lo hi hi' : Int} {ev : List Ev} (h : Num lo hi ev) (l : hi ≤ hi') : Num lo hi' ev := fun e he => by
  have := h e he
  exact ⟨⟨this.1.1, by omega⟩, fun u hu => ⟨(this.2 u hu).1, by have := (this.2 u hu).2; omega⟩⟩
theorem step_num {R : Rule} {m : M} {lo hi t w : Int} (h : Num lo hi m.ev) (l1 : hi ≤ t) (l2 : lo ≤ t) (hst : m.st = true → stnd m.ev = true) : Num lo t (stepM R m t w).ev := by
  have h' := h.mono l1
  have hsn : ∀ ev : List Ev, Num lo t ev → Num lo t (ev ++ [(t, none)]) := fun ev hv e he => by
    rcases List.mem_append.mp he with z | z
    · exact hv e z
    · simp only [List.mem_singleton] at z
      subst z
      exact ⟨⟨l2, Int.le_refl _⟩, fun u hu => by cases hu⟩
  have hend : m.st = true → Num lo t (m.ev.dropLast ++ [(lastR m.ev, some t)]) := fun hm e he => by
    rcases List.mem_append.mp he with z | z
    · exact h' e (List.dropLast_subset _ z)
    · simp only [List.mem_singleton] at z
      subst z
      refine ⟨?_, fun u hu => by cases hu; exact ⟨l2, Int.le_refl _⟩⟩
      have hs := hst hm
      unfold stnd at hs
      cases hl : m.ev.getLast? with
      | none => rw [hl] at hs; cases hs
      | some x =>
        have := h' x (List.mem_of_getLast? hl)
        unfold lastR
        rw [hl]
        exact this.1
  have fin : ∀ m1 : M, Num lo t m1.ev → Num lo t (match m1.st, m1.si with
      | false, some a => if t - a ≥ R.hold then (⟨m1.ev ++ [(t, none)], some a, true⟩ : M) else m1
      | _, _ => m1).ev := by
    rintro ⟨ev, si, st⟩ h1
    cases st with
    | true => exact h1
    | false =>
      cases si with
      | none => exact h1
      | some a =>
        simp only
        split
        · exact hsn _ h1
        · exact h1
  unfold stepM
  refine fin _ ?_
  split
  · rename_i c
    exact hend c.1
  · split
    · exact h'
    · split <;> exact h'
theorem tick_num {R : Rule} (g : Good R) (l : List (Int × Int)) (lo : Int) : ∀ n : Nat, Num lo (lo + n - 1) (tickS R (lw l) lo n).ev
  | 0 => fun e he => by cases he
  | n + 1 => by
    have ih := tick_num g l lo n
    have e : lo + ((n + 1 : Nat) : Int) - 1 = lo + n := by omega
    rw [e]
    cases hw : lw l (lo + n) with
    | none =>
      rw [tick_skip l lo n hw]
      exact ih.mono (by omega)
    | some w =>
      have his : Is ⟨(tickS R (lw l) lo n).ev, (tickS R (lw l) lo n).si, stnd (tickS R (lw l) lo n).ev⟩ (tickS R (lw l) lo n) := ⟨rfl, rfl, fun _ => rfl⟩
      have := tick_is g l lo n his hw
      rw [← this.ev]
      exact step_num (hi := lo + n - 1) ih (by omega) (by omega) fun z => z
/-- since is no later than the last sign -/
theorem wait_si {R : Rule} {s : S} {T a : Int} (h : (waitS R s T).si = some a) : s.si = some a := by
  unfold waitS at h
  cases hs : s.si with
  | none => rw [hs] at h; simp only [hs] at h; cases h
  | some b =>
    rw [hs] at h
    simp only at h
    split at h
    · rw [← h, hs]
    · cases h
theorem run_si {R : Rule} {b : Int} : ∀ (n : Nat) (l : List (Int × Int)), l.length = n → (∀ r ∈ l, r.1 ≤ b) → ∀ a, (runS R l).si = some a → a ≤ b := by
  intro n
  induction n with
  | zero => intro l h _ a e; rw [List.length_eq_zero_iff.mp h] at e; cases e
  | succ n ih =>
    intro l h hb a e
    rcases List.eq_nil_or_concat l with z | ⟨l', r, z⟩
    · rw [z] at h; cases h
    · rw [List.concat_eq_append] at z
      subst z
      have ih' := ih l' (by simpa using h) (fun r hr => hb r (by simp [hr]))
      have hr := hb r (by simp)
      rw [runS_snoc] at e
      unfold hearS takeS at e
      split at e
      · split at e
        · exact ih' a (wait_si e)
        · exact ih' a (wait_si e)
      · split at e
        · cases e
        · have e2 := wait_si e
          simp only at e2
          cases hw : (waitS R (runS R l') (r.1 - 1)).si with
          | none =>
            rw [hw] at e2
            simp only [Option.getD_none, Option.some.injEq] at e2
            omega
          | some c =>
            rw [hw] at e2
            simp only [Option.getD_some, Option.some.injEq] at e2
            rw [← e2]
            exact ih' c (wait_si hw)
theorem wait_far {R : Rule} {s : S} {b T T' : Int} (h : ∀ a, s.si = some a → a + R.hold ≤ b) (h1 : b ≤ T) (h2 : b ≤ T') : waitS R s T = waitS R s T' := by
  unfold waitS
  cases hs : s.si with
  | none => rfl
  | some a =>
    have := h a hs
    simp only
    rw [if_neg (by omega), if_neg (by omega)]
end Wm

namespace W24
open PySem PySem.Spec PyProof.Rows L2 Pw
def top (i : Nat) : Stmt := PySem.Challenge.pw_panelwatch_k24_watches_step_by_step.main.body.getD i (.Pass ⟨0, 0, 0, 0⟩)
abbrev sWall : Stmt := top 0
theorem scWall : FnScope ["k"] ["k"] (defScope sWall) := ⟨rfl, rfl, rfl, by decide +kernel, rfl, by decide +kernel, by decide +kernel⟩
abbrev sIsNumber : Stmt := top 14
theorem scIsNumber : FnScope ["thing"] ["thing"] (defScope sIsNumber) := ⟨rfl, rfl, rfl, by decide +kernel, rfl, by decide +kernel, by decide +kernel⟩
abbrev sCheckNumber : Stmt := top 15
theorem scCheckNumber : FnScope ["thing"] ["thing"] (defScope sCheckNumber) := ⟨rfl, rfl, rfl, by decide +kernel, rfl, by decide +kernel, by decide +kernel⟩
abbrev sIsWhole : Stmt := top 16
theorem scIsWhole : FnScope ["thing", "low", "high"] ["thing", "low", "high"] (defScope sIsWhole) := ⟨rfl, rfl, rfl, by decide +kernel, rfl, by decide +kernel, by decide +kernel⟩
abbrev sIsName : Stmt := top 17
theorem scIsName : FnScope ["thing", "sign"] ["thing"] (defScope sIsName) := ⟨rfl, rfl, rfl, by decide +kernel, rfl, by decide +kernel, by decide +kernel⟩
abbrev sIsTime : Stmt := top 18
theorem scIsTime : FnScope ["thing"] ["thing"] (defScope sIsTime) := ⟨rfl, rfl, rfl, by decide +kernel, rfl, by decide +kernel, by decide +kernel⟩
abbrev sIsOneOf : Stmt := top 19
theorem scIsOneOf : FnScope ["thing", "words"] ["thing", "words"] (defScope sIsOneOf) := ⟨rfl, rfl, rfl, by decide +kernel, rfl, by decide +kernel, by decide +kernel⟩
abbrev sIsTuple : Stmt := top 20
theorem scIsTuple : FnScope ["thing", "many"] ["thing", "many"] (defScope sIsTuple) := ⟨rfl, rfl, rfl, by decide +kernel, rfl, by decide +kernel, by decide +kernel⟩
abbrev sCheckTime : Stmt := top 21
theorem scCheckTime : FnScope ["thing"] ["thing"] (defScope sCheckTime) := ⟨rfl, rfl, rfl, by decide +kernel, rfl, by decide +kernel, by decide +kernel⟩
abbrev sIsLevel : Stmt := top 25
theorem scIsLevel : FnScope ["thing"] ["thing"] (defScope sIsLevel) := ⟨rfl, rfl, rfl, by decide +kernel, rfl, by decide +kernel, by decide +kernel⟩
abbrev sIsRuleShape : Stmt := top 26
theorem scIsRuleShape : FnScope ["thing", "name", "point", "word", "limit", "back", "hold", "rank"] ["thing"] (defScope sIsRuleShape) := ⟨rfl, rfl, rfl, by decide +kernel, rfl, by decide +kernel, by decide +kernel⟩
abbrev sIsLockShape : Stmt := top 27
theorem scIsLockShape : FnScope ["thing", "point", "word", "limit"] ["thing"] (defScope sIsLockShape) := ⟨rfl, rfl, rfl, by decide +kernel, rfl, by decide +kernel, by decide +kernel⟩
abbrev sIsBeyond : Stmt := top 29
theorem scIsBeyond : FnScope ["word", "limit", "worth"] ["word", "limit", "worth"] (defScope sIsBeyond) := ⟨rfl, rfl, rfl, by decide +kernel, rfl, by decide +kernel, by decide +kernel⟩
abbrev sIsAtRest : Stmt := top 32
theorem scIsAtRest : FnScope ["rule", "worth", "_", "word", "limit", "back"] ["rule", "worth"] (defScope sIsAtRest) := ⟨rfl, rfl, rfl, by decide +kernel, rfl, by decide +kernel, by decide +kernel⟩
abbrev sCheckRule : Stmt := top 33
theorem scCheckRule : FnScope ["thing"] ["thing"] (defScope sCheckRule) := ⟨rfl, rfl, rfl, by decide +kernel, rfl, by decide +kernel, by decide +kernel⟩
abbrev sLawCellAt : Stmt := top 35
theorem scLawCellAt : FnScope ["_law_script", "_law_k"] ["_law_script", "_law_k"] (defScope sLawCellAt) := ⟨rfl, rfl, rfl, by decide +kernel, rfl, by decide +kernel, by decide +kernel⟩
abbrev sLawRow : Stmt := top 36
theorem scLawRow : FnScope ["_law_cell", "_law_many", "_law_salt", "_law_row_here", "_law_rest", "_law_k", "_law_mixed"] ["_law_cell", "_law_many", "_law_salt"] (defScope sLawRow) := ⟨rfl, rfl, rfl, by decide +kernel, rfl, by decide +kernel, by decide +kernel⟩
abbrev sLawAlike : Stmt := top 37
theorem scLawAlike : FnScope ["_law_found", "_law_due", "_law_name", "_law_k"] ["_law_found", "_law_due"] (defScope sLawAlike) := ⟨rfl, rfl, rfl, by decide +kernel, rfl, by decide +kernel, by decide +kernel⟩
abbrev sLawRule : Stmt := top 38
theorem scLawRule : FnScope ["_law_name", "_law_point", "_law_row_here", "_law_word", "_law_back", "_law_hold"] ["_law_name", "_law_point", "_law_row_here"] (defScope sLawRule) := ⟨rfl, rfl, rfl, by decide +kernel, rfl, by decide +kernel, by decide +kernel⟩
abbrev sLawBeyond : Stmt := top 39
theorem scLawBeyond : FnScope ["_law_rule_here", "_law_worth"] ["_law_rule_here", "_law_worth"] (defScope sLawBeyond) := ⟨rfl, rfl, rfl, by decide +kernel, rfl, by decide +kernel, by decide +kernel⟩
abbrev sLawRests : Stmt := top 40
theorem scLawRests : FnScope ["_law_rule_here", "_law_worth"] ["_law_rule_here", "_law_worth"] (defScope sLawRests) := ⟨rfl, rfl, rfl, by decide +kernel, rfl, by decide +kernel, by decide +kernel⟩
abbrev sLawModel : Stmt := top 41
theorem scLawModel : FnScope ["_law_rule_here", "_law_signs", "_law_till", "_law_worths", "_law_time", "_law_worth", "_law_mark", "_law_found", "_law_since", "_law_stands"] ["_law_rule_here", "_law_signs", "_law_till"] (defScope sLawModel) := ⟨rfl, rfl, rfl, by decide +kernel, rfl, by decide +kernel, by decide +kernel⟩
abbrev sLawRight : Stmt := top 42
theorem scLawRight : FnScope ["_law_watch", "_law_rule_here", "_law_signs", "_law_till", "_law_due", "_law_state", "_law_told"] ["_law_watch", "_law_rule_here", "_law_signs", "_law_till"] (defScope sLawRight) := ⟨rfl, rfl, rfl, by decide +kernel, rfl, by decide +kernel, by decide +kernel⟩
abbrev sLawNew : Stmt := top 43
theorem scLawNew : FnScope ["_law_rule_here", "_law_signs", "_law_elder", "_law_till", "_law_first", "_law_due", "_law_raised", "_law_ended_here", "_law_one"] ["_law_rule_here", "_law_signs", "_law_elder", "_law_till"] (defScope sLawNew) := ⟨rfl, rfl, rfl, by decide +kernel, rfl, by decide +kernel, by decide +kernel⟩
abbrev sLawRefused : Stmt := top 44
theorem scLawRefused : FnScope ["_law_watch", "_law_way", "_law_time", "e"] ["_law_watch", "_law_way", "_law_time"] (defScope sLawRefused) := ⟨rfl, rfl, rfl, by decide +kernel, rfl, by decide +kernel, by decide +kernel⟩
abbrev sLawNoWorth : Stmt := top 45
theorem scLawNoWorth : FnScope ["_law_watch", "_law_time", "e"] ["_law_watch", "_law_time"] (defScope sLawNoWorth) := ⟨rfl, rfl, rfl, by decide +kernel, rfl, by decide +kernel, by decide +kernel⟩
abbrev sLawStep : Stmt := top 46
theorem scLawStep : FnScope ["_law_box", "_law_row_here", "_law_watch", "_law_rule_here", "_law_signs", "_law_last", "_law_start", "_law_gap", "_law_time", "_law_told", "_law_back", "_law_rest", "_law_near", "_law_worth", "_law_due"] ["_law_box", "_law_row_here"] (defScope sLawStep) := ⟨rfl, rfl, rfl, by decide +kernel, rfl, by decide +kernel, by decide +kernel⟩
abbrev sLawEnded : Stmt := top 47
theorem scLawEnded : FnScope ["_law_box", "_law_watch", "_law_rule_here", "_law_signs", "_law_last", "_law_told"] ["_law_box"] (defScope sLawEnded) := ⟨rfl, rfl, rfl, by decide +kernel, rfl, by decide +kernel, by decide +kernel⟩
abbrev sLaw : Stmt := top 48
theorem scLaw : FnScope ["_law_script", "_law_rules", "_law_boxes", "_law_cell", "_law_row_here", "_law_which", "_law_watch", "_law_rule_here", "_law_signs", "_law_last", "_law_alike_here", "_law_k", "_law_box"] ["_law_script"] (defScope sLaw) := ⟨rfl, rfl, rfl, by decide +kernel, rfl, by decide +kernel, by decide +kernel⟩
abbrev mPanelError_Init : Stmt := inClass (top 2) 0
theorem scmPanelError_Init : FnScope ["self", "text"] ["self", "text"] (defScope mPanelError_Init) := ⟨rfl, rfl, rfl, by decide +kernel, rfl, by decide +kernel, by decide +kernel⟩
abbrev mAbsent_Init : Stmt := inClass (top 3) 0
theorem scmAbsent_Init : FnScope ["self", "text"] ["self", "text"] (defScope mAbsent_Init) := ⟨rfl, rfl, rfl, by decide +kernel, rfl, by decide +kernel, by decide +kernel⟩
abbrev mBarred_Init : Stmt := inClass (top 4) 0
theorem scmBarred_Init : FnScope ["self", "text"] ["self", "text"] (defScope mBarred_Init) := ⟨rfl, rfl, rfl, by decide +kernel, rfl, by decide +kernel, by decide +kernel⟩
abbrev mNoTime_Init : Stmt := inClass (top 5) 0
theorem scmNoTime_Init : FnScope ["self", "found"] ["self", "found"] (defScope mNoTime_Init) := ⟨rfl, rfl, rfl, by decide +kernel, rfl, by decide +kernel, by decide +kernel⟩
abbrev mNoWorth_Init : Stmt := inClass (top 6) 0
theorem scmNoWorth_Init : FnScope ["self", "found"] ["self", "found"] (defScope mNoWorth_Init) := ⟨rfl, rfl, rfl, by decide +kernel, rfl, by decide +kernel, by decide +kernel⟩
abbrev mNoNumber_Init : Stmt := inClass (top 7) 0
theorem scmNoNumber_Init : FnScope ["self", "found"] ["self", "found"] (defScope mNoNumber_Init) := ⟨rfl, rfl, rfl, by decide +kernel, rfl, by decide +kernel, by decide +kernel⟩
abbrev mNoRule_Init : Stmt := inClass (top 8) 0
theorem scmNoRule_Init : FnScope ["self", "found"] ["self", "found"] (defScope mNoRule_Init) := ⟨rfl, rfl, rfl, by decide +kernel, rfl, by decide +kernel, by decide +kernel⟩
abbrev mNotNow_Init : Stmt := inClass (top 9) 0
theorem scmNotNow_Init : FnScope ["self", "found"] ["self", "found"] (defScope mNotNow_Init) := ⟨rfl, rfl, rfl, by decide +kernel, rfl, by decide +kernel, by decide +kernel⟩
abbrev mWatch_Init : Stmt := inClass (top 31) 0
theorem scmWatch_Init : FnScope ["self", "rule"] ["self", "rule"] (defScope mWatch_Init) := ⟨rfl, rfl, rfl, by decide +kernel, rfl, by decide +kernel, by decide +kernel⟩
abbrev mWatch_Eq : Stmt := inClass (top 31) 1
theorem scmWatch_Eq : FnScope ["self", "other"] ["self", "other"] (defScope mWatch_Eq) := ⟨rfl, rfl, rfl, by decide +kernel, rfl, by decide +kernel, by decide +kernel⟩
abbrev mWatch_Len : Stmt := inClass (top 31) 2
theorem scmWatch_Len : FnScope ["self"] ["self"] (defScope mWatch_Len) := ⟨rfl, rfl, rfl, by decide +kernel, rfl, by decide +kernel, by decide +kernel⟩
abbrev mWatch_Hear : Stmt := inClass (top 31) 3
theorem scmWatch_Hear : FnScope ["self", "time", "worth", "told"] ["self", "time", "worth"] (defScope mWatch_Hear) := ⟨rfl, rfl, rfl, by decide +kernel, rfl, by decide +kernel, by decide +kernel⟩
abbrev mWatch_GoOn : Stmt := inClass (top 31) 4
theorem scmWatch_GoOn : FnScope ["self", "time"] ["self", "time"] (defScope mWatch_GoOn) := ⟨rfl, rfl, rfl, by decide +kernel, rfl, by decide +kernel, by decide +kernel⟩
abbrev mWatch_Events : Stmt := inClass (top 31) 5
theorem scmWatch_Events : FnScope ["self"] ["self"] (defScope mWatch_Events) := ⟨rfl, rfl, rfl, by decide +kernel, rfl, by decide +kernel, by decide +kernel⟩
abbrev mWatch_State : Stmt := inClass (top 31) 6
theorem scmWatch_State : FnScope ["self"] ["self"] (defScope mWatch_State) := ⟨rfl, rfl, rfl, by decide +kernel, rfl, by decide +kernel, by decide +kernel⟩
abbrev mWatch_Copied : Stmt := inClass (top 31) 7
theorem scmWatch_Copied : FnScope ["self"] ["self"] (defScope mWatch_Copied) := ⟨rfl, rfl, rfl, by decide +kernel, rfl, by decide +kernel, by decide +kernel⟩
abbrev mWatch_Stands : Stmt := inClass (top 31) 8
theorem scmWatch_Stands : FnScope ["self"] ["self"] (defScope mWatch_Stands) := ⟨rfl, rfl, rfl, by decide +kernel, rfl, by decide +kernel, by decide +kernel⟩
abbrev mWatch_WaitUntil : Stmt := inClass (top 31) 9
theorem scmWatch_WaitUntil : FnScope ["self", "time", "raised"] ["self", "time"] (defScope mWatch_WaitUntil) := ⟨rfl, rfl, rfl, by decide +kernel, rfl, by decide +kernel, by decide +kernel⟩
abbrev mWatch_Take : Stmt := inClass (top 31) 10
theorem scmWatch_Take : FnScope ["self", "_", "word", "limit"] ["self"] (defScope mWatch_Take) := ⟨rfl, rfl, rfl, by decide +kernel, rfl, by decide +kernel, by decide +kernel⟩
abbrev mWatch_Rest : Stmt := inClass (top 31) 11
theorem scmWatch_Rest : FnScope ["self", "raised", "_"] ["self"] (defScope mWatch_Rest) := ⟨rfl, rfl, rfl, by decide +kernel, rfl, by decide +kernel, by decide +kernel⟩
/-- the built-in names that the text calls, and its constants -/
structure Txt (mg : Str → Option Value) : Prop where
  KeyError : mg "KeyError" = none
  LookupError : mg "LookupError" = none
  ValueError : mg "ValueError" = none
  abs : mg "abs" = none
  all : mg "all" = none
  bool : mg "bool" = none
  dict : mg "dict" = none
  int : mg "int" = none
  isinstance : mg "isinstance" = none
  len : mg "len" = none
  list : mg "list" = none
  max : mg "max" = none
  min : mg "min" = none
  range : mg "range" = none
  str : mg "str" = none
  tuple : mg "tuple" = none
  cMOST_TIME : ∃ t, mg "MOST_TIME" = some (.int 9999 t)
  cMOST_LEVEL : ∃ t, mg "MOST_LEVEL" = some (.int 63 t)
  c_MOST_NAME : ∃ t, mg "_MOST_NAME" = some (.int 8 t)
  c_MOST_HOLD : ∃ t, mg "_MOST_HOLD" = some (.int 99 t)
  c_MOST_RANK : ∃ t, mg "_MOST_RANK" = some (.int 3 t)
end W24

namespace W24
open PySem PySem.Spec PyProof.Rows L2 Pw
/-! ### what is told of a thing -/
def wholeB (x : V) (lo hi : Int) : Bool := match x with
  | .int i => decide (lo ≤ i) && decide (i ≤ hi)
  | _ => false
def oneB (x : V) (ws : List Str) : Bool := match x with
  | .str s => ws.any fun y => y == s
  | _ => false
/-- is it a tuple of so many things -/
def tupNB (H : Hp) (x : V) (n : Int) : Bool := match x with
  | .ref a => match H a with
    | some (.tup xs) => decide ((xs.length : Int) = n)
    | _ => false
  | _ => false
def nameB (x : V) : Bool := match x with
  | .str s => decide (1 ≤ s.length ∧ s.length ≤ 8) && s.cps.toList.all fun c => decide (97 ≤ c ∧ c ≤ 122)
  | _ => false
/-- texts are short, and of plain signs -/
def Short (x : V) : Prop := ∀ s, x = .str s → s.length ≤ 1000 ∧ ∀ c ∈ s.cps.toList, c < 128

theorem let_lt (c k : Nat) : (!decide ([c] < [k])) = decide (k ≤ c) := by
  by_cases h : k ≤ c
  · have n : ¬ [c] < [k] := by
      intro q
      cases q with
      | rel q => omega
      | cons q => cases q
    rw [decide_eq_true h, decide_eq_false n]
    rfl
  · have y : [c] < [k] := List.Lex.rel (by omega)
    rw [decide_eq_false h, decide_eq_true y]
    rfl

section
variable {P : Program} {w : World} {K : PySem.W.Frag} {mg : Str → Option Value} {base : Heap}
/-- isinstance(slot i, T) -/
theorem pe_is {X : Cx} {i : Nat} {x T : Str} {Tn : String} {p p1 p2 p3 : Pos} (hm : X.mg "isinstance" = none) (hg : Gl X "isinstance")
    (hx : PE X (.Name x p2) (tVar i)) (hT : X.mg T = none) (hgT : Gl X T) (hv : bootBuiltins T = some (.type Tn))
    (hn : T ≠ "__name__" := by decide) (hd : (T == ("__debug__" : Str)) = false := by decide)
    (he : starEach [.Name x p2, .Name T p3] X.env = (false, eval (.Name x p2) X.env) :: starEach [.Name T p3] X.env := by rfl)
    (he2 : starEach [.Name T p3] X.env = (false, eval (.Name T p3) X.env) :: starEach [] X.env := by rfl)
    (hpl : (backTo p (starEach [.Name T p3] X.env)).any (·.1) = false := by rfl) :
    PE X (.Call (.Name "isinstance" p1) [.Name x p2, .Name T p3] [] p)
      (tCB (rIsA X.K) (tCons (tVar i) (tCons (tC (.ty Tn)) tNil))) :=
  pe_callB call_isa hg hm PyProof.Rows.boot_isinstance
    (pa_cons hx (pa_cons (pe_bltn hgT hT hv rfl hn hd) pa_nil he2) he) (by decide) (by decide) he hpl

def spNumber (K : PySem.W.Frag) : Sp := fun vs H Q _ => ∃ x t, vs = [x] ∧ Ty K H x t ∧ Q (.bl (numB x)) H
theorem d_number (T : Txt mg) (A : At K mg "_is_number" sIsNumber) :
    Def P w K mg base "_is_number" 1 ["thing"] (spNumber K) := by
  refine mkDef A scIsNumber (fun _ _ _ _ _ _ us hl => match us, hl with | [_], _ => rfl) (fun vs H Q E h => ?_)
    (fun f cdv A out s H vs Q E hr h => ?_)
  · obtain ⟨x, t, rfl, _⟩ := h
    rfl
  · obtain ⟨x, t, rfl, ty, k⟩ := h
    refine ⟨_, pss_one (ps_ret (pe_and (pe_is T.isinstance (by rfl) (pv 0) T.int (by rfl) (Tn := "int") (by decide +kernel))
      (pe_one (pe_not (pe_is T.isinstance (by rfl) (pv 0) T.bool (by rfl) (Tn := "bool") (by decide +kernel)))))), ?_⟩
    refine ⟨_, rfl, x, .ty "int", t, .type "int", _, rfl, .ty "int", ty.q, ty.isInt, _, rfl, ?_⟩
    have e : numB x = ((numB x || blB x) && !blB x) := by cases x <;> rfl
    cases hb : numB x || blB x with
    | false =>
      refine iteF ?_
      rw [hb] at e
      rw [e] at k
      exact k
    | true =>
      refine iteT ?_
      refine ⟨_, rfl, x, .ty "bool", t, .type "bool", _, rfl, .ty "bool", ty.q, ty.isBool, _, rfl, ?_⟩
      rw [hb, Bool.true_and] at e
      rw [e] at k
      exact k

def spCheck (K : PySem.W.Frag) : Sp := fun vs H Q _ => ∃ i, vs = [.int i] ∧ Q .non H
theorem d_check (A : At K mg "_check_number" sCheckNumber) (dn : Def P w K mg base "_is_number" 1 ["thing"] (spNumber K)) :
    Def P w K mg base "_check_number" 2 ["thing"] (spCheck K) := by
  refine mkDef A scCheckNumber (fun _ _ _ _ _ _ us hl => match us, hl with | [_], _ => rfl) (fun vs H Q E h => ?_)
    (fun f cdv A out s H vs Q E hr h => ?_)
  · obtain ⟨x, rfl, _⟩ := h
    rfl
  · obtain ⟨i, rfl, k⟩ := h
    refine ⟨_, pss_one (ps_if (pt_not (pt_val (pe_d dn hr (by decide) (by rfl) (pa_cons (pv 0) pa_nil))))
      (pss_one ps_never) pss_nil), ?_⟩
    refine ⟨_, rfl, _, _, rfl, .int i, true, rfl, ?_⟩
    exact iteF k

def spWhole (K : PySem.W.Frag) : Sp := fun vs H Q _ => ∃ x t lo hi, vs = [x, .int lo, .int hi] ∧ Ty K H x t ∧
  Q (.bl (wholeB x lo hi)) H
theorem d_whole (A : At K mg "is_whole" sIsWhole) (dn : Def P w K mg base "_is_number" 1 ["thing"] (spNumber K))
    (dc : Def P w K mg base "_check_number" 2 ["thing"] (spCheck K)) :
    Def P w K mg base "is_whole" 3 ["thing", "low", "high"] (spWhole K) := by
  refine mkDef A scIsWhole (fun _ _ _ _ _ _ us hl => match us, hl with | [_, _, _], _ => rfl) (fun vs H Q E h => ?_)
    (fun f cdv A out s H vs Q E hr h => ?_)
  · obtain ⟨x, t, lo, hi, rfl, _⟩ := h
    rfl
  · obtain ⟨x, t, lo, hi, rfl, ty, k⟩ := h
    refine ⟨_, pss_cons (ps_expr (pe_d dc hr (by decide) (by rfl) (pa_cons (pv 1) pa_nil)))
      (pss_cons (ps_expr (pe_d dc hr (by decide) (by rfl) (pa_cons (pv 2) pa_nil)))
      (pss_one (ps_ret (pe_and (pe_d dn hr (by decide) (by rfl) (pa_cons (pv 0) pa_nil))
        (pe_one (pe_chain op_le op_le (pv 1) (pv 0) (pv 2))))))), ?_⟩
    refine ⟨_, rfl, lo, rfl, _, rfl, hi, rfl, _, rfl, x, t, rfl, ty, _, rfl, ?_⟩
    cases x with
    | int i =>
      refine iteT ⟨_, rfl, _, rfl, lo, i, rfl, rfl, _, rfl, ?_⟩
      by_cases hlo : lo ≤ i
      · rw [decide_eq_true hlo]
        refine iteT ⟨_, rfl, i, hi, rfl, rfl, ?_⟩
        have e : wholeB (.int i) lo hi = decide (i ≤ hi) := by
          show (decide (lo ≤ i) && decide (i ≤ hi)) = _
          rw [decide_eq_true hlo, Bool.true_and]
        rw [e] at k
        exact k
      · rw [decide_eq_false hlo]
        refine iteF ?_
        have e : wholeB (.int i) lo hi = false := by
          show (decide (lo ≤ i) && decide (i ≤ hi)) = _
          rw [decide_eq_false hlo, Bool.false_and]
        rw [e] at k
        exact k
    | _ => exact iteF k
def spRange (K : PySem.W.Frag) (lo hi : Int) : Sp := fun vs H Q _ => ∃ x t, vs = [x] ∧ Ty K H x t ∧ Q (.bl (wholeB x lo hi)) H
theorem d_time (T : Txt mg) (A : At K mg "is_time" sIsTime) (dw : Def P w K mg base "is_whole" 3 ["thing", "low", "high"] (spWhole K)) :
    Def P w K mg base "is_time" 4 ["thing"] (spRange K 0 9999) := by
  refine mkDef A scIsTime (fun _ _ _ _ _ _ us hl => match us, hl with | [_], _ => rfl) (fun vs H Q E ⟨x, t, e, _⟩ => by rw [e]; rfl)
    (fun f cdv A out s H vs Q E hr h => ?_)
  obtain ⟨x, t, rfl, ty, k⟩ := h
  exact ⟨_, pss_one (ps_ret (pe_d dw hr (by decide) (by rfl) (pa_cons (pv 0) (pa_cons pe_int
    (pa_cons (pe_gi T.cMOST_TIME) pa_nil))))), _, rfl, x, t, 0, 9999, rfl, ty, k⟩
def spOne (K : PySem.W.Frag) : Sp := fun vs H Q _ => ∃ x t p ws, vs = [x, .ref p] ∧ Ty K H x t ∧
  H p = some (.tup (ws.map V.str)) ∧ Q (.bl (oneB x ws)) H
theorem d_oneof (T : Txt mg) (A : At K mg "is_one_of" sIsOneOf) : Def P w K mg base "is_one_of" 1 ["thing", "words"] (spOne K) := by
  refine mkDef A scIsOneOf (fun _ _ _ _ _ _ us hl => match us, hl with | [_, _], _ => rfl) (fun vs H Q E ⟨x, t, p, ws, e, _⟩ => by rw [e]; rfl)
    (fun f cdv A out s H vs Q E hr h => ?_)
  obtain ⟨x, t, p, ws, rfl, ty, hp, k⟩ := h
  refine ⟨_, pss_one (ps_ret (pe_and (pe_is T.isinstance (by rfl) (pv 0) T.str (by rfl) (Tn := "str") (by decide +kernel))
    (pe_one (pe_cmpR op_in_seq (pv 0) (pv 1) (by rfl))))), ?_⟩
  refine ⟨_, rfl, x, .ty "str", t, .type "str", _, rfl, .ty "str", ty.q, ty.isStr, _, rfl, ?_⟩
  cases x with
  | str z =>
    refine iteT ?_
    refine ⟨_, rfl, _, rfl, p, ws.map V.str, rfl, .inr (SqT.of hp), rfl, ?_, ?_⟩
    · rw [List.all_eq_true]
      intro y hy
      obtain ⟨z', _, rfl⟩ := List.mem_map.mp hy
      rfl
    · have e : inV (.str z) (ws.map V.str) = oneB (.str z) ws := by
        show (ws.map V.str).any (fun y => eqV y (.str z)) = ws.any fun y => y == z
        rw [List.any_map]
        rfl
      show Q (.bl (inV (.str z) (ws.map V.str))) H
      rw [e]
      exact k
  | _ => exact iteF k

def spTupN (K : PySem.W.Frag) : Sp := fun vs H Q _ => ∃ x t n, vs = [x, .int n] ∧ Ty K H x t ∧ Q (.bl (tupNB H x n)) H
theorem d_tuple (T : Txt mg) (A : At K mg "is_tuple" sIsTuple) : Def P w K mg base "is_tuple" 1 ["thing", "many"] (spTupN K) := by
  refine mkDef A scIsTuple (fun _ _ _ _ _ _ us hl => match us, hl with | [_, _], _ => rfl) (fun vs H Q E ⟨x, t, n, e, _⟩ => by rw [e]; rfl)
    (fun f cdv A out s H vs Q E hr h => ?_)
  obtain ⟨x, t, n, rfl, ty, k⟩ := h
  refine ⟨_, pss_one (ps_ret (pe_and (pe_is T.isinstance (by rfl) (pv 0) T.tuple (by rfl) (Tn := "tuple") (by decide +kernel))
    (pe_one (pe_cmpR op_eq (pe_callB call_len_seq (by rfl) T.len PySem.boot_len (pa_cons (pv 0) pa_nil)) (pv 1) (nomark _))))), ?_⟩
  refine ⟨_, rfl, x, .ty "tuple", t, .type "tuple", _, rfl, .ty "tuple", ty.q, ty.isTuple, _, rfl, ?_⟩
  cases ty with
  | @tup a xs e =>
    have e1 : tupB H (.ref a) = true := by simp only [tupB, e]
    have e2 : tupNB H (.ref a) n = decide ((xs.length : Int) = n) := by simp only [tupNB, e]
    rw [e1]
    rw [e2] at k
    refine iteT ?_
    refine ⟨_, rfl, a, xs, rfl, .inr (SqT.of e), _, rfl, ?_⟩
    have e3 : decide (V.int (xs.length : Int) = V.int n) = decide ((xs.length : Int) = n) :=
      decide_eq_decide.mpr ⟨V.int.inj, congrArg V.int⟩
    refine ⟨rfl, ?_⟩
    show Q (V.bl (decide (V.int (xs.length : Int) = V.int n))) H
    rw [e3]
    exact k
  | @lst a xs e =>
    have e1 : tupB H (.ref a) = false := by simp only [tupB, e]
    have e2 : tupNB H (.ref a) n = false := by simp only [tupNB, e]
    rw [e1]
    rw [e2] at k
    exact iteF k
  | @dct a xs e =>
    have e1 : tupB H (.ref a) = false := by simp only [tupB, e]
    have e2 : tupNB H (.ref a) n = false := by simp only [tupNB, e]
    rw [e1]
    rw [e2] at k
    exact iteF k
  | @exc a D t dx fs e ed c =>
    have e1 : tupB H (.ref a) = false := by simp only [tupB, e]; rfl
    have e2 : tupNB H (.ref a) n = false := by simp only [tupNB, e]; rfl
    rw [e1]
    rw [e2] at k
    exact iteF k
  | _ => exact iteF k

def spName (K : PySem.W.Frag) : Sp := fun vs H Q _ => ∃ x t, vs = [x] ∧ Ty K H x t ∧ Short x ∧
  ∀ H', Same H H' → Q (.bl (nameB x)) H'
def letB (c : Nat) : Bool := decide (97 ≤ c) && decide (c ≤ 122)
theorem d_name (T : Txt mg) (A : At K mg "is_name" sIsName) : Def P w K mg base "is_name" 1 ["thing"] (spName K) := by
  refine mkDef A scIsName (fun _ _ _ _ _ _ us hl => match us, hl with | [_], _ => rfl) (fun vs H Q E h => ?_)
    (fun f cdv A out s H vs Q E hr h => ?_)
  · obtain ⟨x, t, rfl, _⟩ := h
    rfl
  · obtain ⟨x, t, rfl, ty, sh, k⟩ := h
    obtain ⟨tk, hmn⟩ := T.c_MOST_NAME
    refine ⟨_, pss_cons (ps_if (PW.pt (pw_or (pt_not (pt_val (pe_is T.isinstance (by rfl) (pv 0) T.str (by rfl) (Tn := "str") (by decide +kernel))))
        (pw_or1 (pt_not (pt_chain op_le op_le pe_int (pe_callB call_len_str (by rfl) T.len PySem.boot_len (pa_cons (pv 0) pa_nil))
          (pe_glob (v := .int 8) (by rfl) hmn ⟨_, rfl⟩))))))
        (pss_one (ps_ret pe_bl)) pss_nil)
      (pss_one (ps_ret (pe_callB (cr_all rfl) (by rfl) T.all PyProof.Rows.boot_all (pa_cons
        (pe_lc (own := [("sign", 1)]) (g := gName 1) (tt := tYes) rfl scIsName.nd (pi_str (pv 0))
          (blkOk_by (own := [("sign", 1)]) (N := ["thing", "sign"]) (sc := defScope sIsName) (by decide +kernel))
          (fun _ _ _ _ _ => pg_name (i := 1) scIsName.nd rfl (Or.inl rfl)) (fun _ _ _ _ _ => pts_nil)
          (fun _ _ _ _ _ => pe_chain op_le_str op_le_str pe_str (pv 1) pe_str)) pa_nil)))), ?_⟩
    refine ⟨_, rfl, x, .ty "str", t, .type "str", _, rfl, .ty "str", ty.q, ty.isStr, _, rfl, ?_⟩
    cases x with
    | str z =>
      have hz := (sh z rfl).1
      have hzl : z.length ≤ sizeLine := Nat.le_trans hz (by decide)
      refine iteF ⟨_, rfl, z, rfl, hzl, 1, (z.length : Int), rfl, rfl, _, rfl, ?_⟩
      by_cases h1 : (1 : Int) ≤ (z.length : Int)
      · rw [decide_eq_true h1]
        refine iteT ⟨(z.length : Int), 8, rfl, rfl, _, rfl, ?_⟩
        by_cases h2 : (z.length : Int) ≤ 8
        · rw [decide_eq_true h2]
          refine iteF ⟨_, rfl, z, rfl, fun D hD => ?_⟩
          have nm : nameB (.str z) = ((z.cps.toList.map letB).all id) := by
            have e1 : decide (1 ≤ z.length ∧ z.length ≤ 8) = true := decide_eq_true ⟨by omega, by omega⟩
            show (decide (1 ≤ z.length ∧ z.length ≤ 8) && z.cps.toList.all fun c => decide (97 ≤ c ∧ c ≤ 122)) = _
            rw [e1, Bool.true_and, List.all_map]
            congr 1
            funext c
            show decide (97 ≤ c ∧ c ≤ 122) = (decide (97 ≤ c) && decide (c ≤ 122))
            exact Bool.decide_and _ _
          refine lc_it walk_str (fun i H' => Same H H' ∧ H' D = some (.lst (((z.cps.toList.take i).map letB).map V.bl)))
            ⟨Same.laid hD, upd_same⟩ (fun _ _ _ _ => trivial) ?_ ?_
          · rintro i v H1 H2 hi ⟨S1, e1⟩ ⟨rfl, c, hc, rfl⟩
            have hc' : z.cps.toList[i]? = some c := by rw [Array.getElem?_toList]; exact hc
            refine ⟨rfl, ?_⟩
            unfold tYes
            refine iteT ?_
            refine ⟨_, rfl, "a", ⟨#[c]⟩, rfl, rfl, !decide ([c] < [97]), rfl, ?_⟩
            have fin : ∀ b : Bool, b = letB c → ∃ acc, H2 D = some (.lst acc) ∧ acc.length < sizeLine ∧
                Same H (upd H2 D (.lst (acc ++ [V.bl b]))) ∧ upd H2 D (.lst (acc ++ [V.bl b])) D =
                  some (.lst (((z.cps.toList.take (i + 1)).map letB).map V.bl)) := by
              rintro b rfl
              refine ⟨_, e1, ?_, ?_, ?_⟩
              · have h4 : z.cps.size ≤ 1000 := hz
                simp only [List.length_map, List.length_take]
                exact Nat.lt_of_le_of_lt (Nat.min_le_left _ _) (Nat.lt_of_lt_of_le hi (Nat.le_trans h4 (by decide)))
              · exact fun b o e => (upd_ne (ne_of_none e hD)).trans (S1 b o e)
              · rw [upd_same, List.take_add_one, hc']
                simp
            rw [let_lt]
            by_cases ha : 97 ≤ c
            · rw [decide_eq_true ha]
              refine iteT ?_
              refine ⟨⟨#[c]⟩, "z", rfl, rfl, ?_⟩
              refine fin _ ?_
              show (!decide ([122] < [c])) = (decide (97 ≤ c) && decide (c ≤ 122))
              rw [decide_eq_true ha, Bool.true_and]
              have q := let_lt 122 c
              exact q
            · rw [decide_eq_false ha]
              refine iteF ?_
              refine fin false ?_
              show false = (decide (97 ≤ c) && decide (c ≤ 122))
              rw [decide_eq_false ha, Bool.false_and]
          · rintro H2 ⟨S1, e1⟩
            refine ⟨D, z.cps.toList.map letB, rfl, SqL.of ?_, ?_⟩
            · rw [e1, List.take_of_length_le (by simp)]
            · rw [← nm]
              exact k H2 S1
        · rw [decide_eq_false h2]
          refine iteT ?_
          have e1 : nameB (.str z) = false := by
            have e1 : decide (1 ≤ z.length ∧ z.length ≤ 8) = false := decide_eq_false (fun q => h2 (by omega))
            show (decide (1 ≤ z.length ∧ z.length ≤ 8) && _) = _
            rw [e1, Bool.false_and]
          rw [e1] at k
          exact k H (Same.refl H)
      · rw [decide_eq_false h1]
        refine iteF ⟨_, rfl, ?_⟩
        refine iteT ?_
        have e1 : nameB (.str z) = false := by
          have e1 : decide (1 ≤ z.length ∧ z.length ≤ 8) = false := decide_eq_false (fun q => h1 (by omega))
          show (decide (1 ≤ z.length ∧ z.length ≤ 8) && _) = _
          rw [e1, Bool.false_and]
        rw [e1] at k
        exact k H (Same.refl H)
    | _ => exact iteT (k H (Same.refl H))
end
end W24

namespace W24
open PySem PySem.Spec PyProof.Rows L2 Pw
abbrev R3 := Int × Int × Str
def f3 (r : R3) : List V := [.int r.1, .int r.2.1, .str r.2.2]
def f2 (r : Int × Int) : List V := [.int r.1, .int r.2]
structure GoodR (r : R3) : Prop where
  t0 : 0 ≤ r.1
  t1 : r.1 ≤ 9999
  w0 : 0 ≤ r.2.1
  w1 : r.2.1 ≤ 63
  m : r.2.2 = "good" ∨ r.2.2 = "odd"
structure GoodH (rs : List R3) : Prop where
  all : ∀ r ∈ rs, GoodR r
  rise : rs.Pairwise fun a b => a.1 < b.1
  len : rs.length ≤ 1000
theorem whole_in {i lo hi : Int} (h : lo ≤ i) (k : i ≤ hi) : wholeB (.int i) lo hi = true := by
  show (decide (lo ≤ i) && decide (i ≤ hi)) = true
  rw [decide_eq_true h, decide_eq_true k]
  rfl
theorem cut1 (xs : List V) : cutV xs (some 1) none = xs.drop 1 := by
  unfold cutV
  rw [HT.sIx_none, show (1 : Int) = ((1 : Nat) : Int) from rfl, HT.sIx_nat]
  cases xs with
  | nil => rfl
  | cons x r =>
    have e : min 1 (x :: r).length = 1 := by
      rw [List.length_cons]
      omega
    rw [e, List.take_of_length_le]
    rw [List.length_drop]
    exact Nat.le_refl _
theorem reps_all (n : Nat) : (List.replicate n true).all id = true := by
  rw [List.all_eq_true]
  intro x hx
  rw [List.eq_of_mem_replicate hx]
  rfl
theorem reps_succ (n : Nat) : (List.replicate n true).map V.bl ++ [V.bl true] = (List.replicate (n + 1) true).map V.bl := by
  rw [List.replicate_succ', List.map_append]
  rfl
section
variable {P : Program} {w : World} {K : PySem.W.Frag} {mg : Str → Option Value} {base : Heap}
theorem d_level (T : Txt mg) (A : At K mg "is_level" sIsLevel) (dw : Def P w K mg base "is_whole" 3 ["thing", "low", "high"] (spWhole K)) :
    Def P w K mg base "is_level" 4 ["thing"] (spRange K 0 63) := by
  refine mkDef A scIsLevel (fun _ _ _ _ _ _ us hl => match us, hl with | [_], _ => rfl) (fun vs H Q E ⟨x, t, e, _⟩ => by rw [e]; rfl)
    (fun f cdv A out s H vs Q E hr h => ?_)
  obtain ⟨x, t, rfl, ty, k⟩ := h
  exact ⟨_, pss_one (ps_ret (pe_d dw hr (by decide) (by rfl) (pa_cons (pv 0) (pa_cons pe_int (pa_cons (pe_gi T.cMOST_LEVEL) pa_nil))))),
    _, rfl, x, t, 0, 63, rfl, ty, k⟩

/-- a history, as a list or a tuple -/
def Hs (H : Hp) (a : Addr) (rs : List R3) : Prop := LT f3 H a rs ∨ ∃ vs, H a = some (.tup vs) ∧ Al f3 H vs rs
theorem Hs.same {H H' : Hp} {a : Addr} {rs : List R3} (h : Hs H a rs) (S : Same H H') : Hs H' a rs := h.imp (fun l => l.same S) fun ⟨vs, e, al⟩ => ⟨vs, S _ _ e, al.same S⟩
def spIn (lo hi : Int) : Sp := fun vs H Q _ => ∃ i, vs = [.int i] ∧ lo ≤ i ∧ i ≤ hi ∧ Q .non H
theorem d_ctime (A : At K mg "check_time" sCheckTime) (d : Def P w K mg base "is_time" 4 ["thing"] (spRange K 0 9999)) :
    Def P w K mg base "check_time" 5 ["thing"] (spIn 0 9999) := by
  refine mkDef A scCheckTime (fun _ _ _ _ _ _ us hl => match us, hl with | [_], _ => rfl) (fun vs H Q E ⟨_, e, _⟩ => by rw [e]; rfl)
    (fun f cdv A out s H vs Q E hr h => ?_)
  obtain ⟨i, rfl, h0, h1, k⟩ := h
  refine ⟨_, (pss_one (ps_if (pt_not (pt_val (pe_d d hr (by decide) (by rfl) (pa_cons (pv 0) pa_nil))))
      (pss_one ps_never)
      pss_nil)), ?_⟩
  exact ⟨_, rfl, .int i, _, rfl, .int i, true, congrArg V.bl (whole_in h0 h1), iteF k⟩
end
end W24

namespace W24
open PySem PySem.Spec PyProof.Rows L2 Pw
/-! ### rules -/
structure Rl where
  nm : Str
  pt : Str
  R : Wm.Rule
  rank : Int
def wd (R : Wm.Rule) : Str := if R.ab = true then "above" else "below"
def fR (r : Rl) : List V := [.str r.nm, .str r.pt, .str (wd r.R), .int r.R.lim, .int r.R.back, .int r.R.hold, .int r.rank]
structure OkName (s : Str) : Prop where
  b : nameB (.str s) = true
  sh : Short (.str s)
structure GoodRl (r : Rl) : Prop where
  nm : OkName r.nm
  pt : OkName r.pt
  lim : 0 ≤ r.R.lim ∧ r.R.lim ≤ 63
  back : 0 ≤ r.R.back ∧ r.R.back ≤ 63
  hold : 0 ≤ r.R.hold ∧ r.R.hold ≤ 99
  rank : 1 ≤ r.rank ∧ r.rank ≤ 3
theorem GoodRl.g {r : Rl} (h : GoodRl r) : Wm.Good r.R := ⟨h.back.1, h.hold.1⟩
theorem wd_one (R : Wm.Rule) : oneB (.str (wd R)) ["above", "below"] = true := by
  unfold wd
  split <;> decide +kernel
theorem wd_above (R : Wm.Rule) : decide (V.str (wd R) = V.str "above") = R.ab := by
  unfold wd
  cases R.ab with
  | true => exact decide_eq_true rfl
  | false => exact decide_eq_false (fun z => absurd (V.str.inj z) (by decide +kernel))
section
variable {P : Program} {w : World} {K : PySem.W.Frag} {mg : Str → Option Value} {base : Heap}
def spLock (K : PySem.W.Frag) : Sp := fun vs H Q _ => ∃ q pt lim R, vs = [.ref q] ∧ H q = some (.tup [.str pt, .str (wd R), .int lim]) ∧ OkName pt ∧ (0 ≤ lim ∧ lim ≤ 63) ∧
  ∀ H', Same H H' → Q (.bl true) H'
theorem d_lock (A : At K mg "is_lock_shape" sIsLockShape) (dt : Def P w K mg base "is_tuple" 1 ["thing", "many"] (spTupN K)) (dn : Def P w K mg base "is_name" 1 ["thing"] (spName K))
    (d1 : Def P w K mg base "is_one_of" 1 ["thing", "words"] (spOne K)) (dl : Def P w K mg base "is_level" 4 ["thing"] (spRange K 0 63)) :
    Def P w K mg base "is_lock_shape" 5 ["thing"] (spLock K) := by
  refine mkDef A scIsLockShape (fun _ _ _ _ _ _ us hl => match us, hl with | [_], _ => rfl) (fun vs H Q E ⟨_, _, _, _, e, _⟩ => by rw [e]; rfl)
    (fun f cdv A out s H vs Q E hr h => ?_)
  obtain ⟨q, pt, lim, R, rfl, e, hp, hl, k⟩ := h
  refine ⟨_, (pss_cons (ps_if (pt_not (pt_val (pe_d dt hr (by decide) (by rfl) (pa_cons (pv 0) (pa_cons pe_int pa_nil)))))
      (pss_one (ps_ret pe_bl))
      pss_nil)
    (pss_cons (ps_asg (pv 0) (pg_tup (by rfl) (pgs_cons (pg_name (i := 1) scIsLockShape.nd rfl (.inl rfl)) (pgs_cons (pg_name (i := 2) scIsLockShape.nd rfl (.inl rfl)) (pgs_cons (pg_name (i := 3) scIsLockShape.nd rfl (.inl rfl)) pgs_nil)))))
    (pss_one (ps_ret (pe_and (pe_d dn hr (by decide) (by rfl) (pa_cons (pv 1) pa_nil)) (pe_and (pe_d d1 hr (by decide) (by rfl) (pa_cons (pv 2) (pa_cons (pe_tup (pa_cons pe_str (pa_cons pe_str pa_nil))) pa_nil))) (pe_one (pe_d dl hr (by decide) (by rfl) (pa_cons (pv 3) pa_nil))))))))), ?_⟩
  have eT : tupNB H (.ref q) 3 = true := by simp only [tupNB, e]; rfl
  refine ⟨_, rfl, .ref q, _, 3, rfl, .tup e, true, congrArg V.bl eT, iteF ?_⟩
  refine ⟨_, rfl, q, _, rfl, SqT.of e, rfl, _, _, rfl, _, _, rfl, _, _, rfl, rfl, ?_⟩
  refine ⟨_, rfl, .str pt, _, rfl, .str _, hp.sh, fun H1 S1 => ⟨true, congrArg V.bl hp.b, iteT ?_⟩⟩
  refine ⟨_, rfl, by show 2 ≤ sizeLine; decide, fun p np => ?_⟩
  refine ⟨.str (wd R), _, p, ["above", "below"], rfl, .str _, upd_same, true, congrArg V.bl (wd_one R), iteT ?_⟩
  refine ⟨_, rfl, .int lim, _, rfl, .int _, ?_⟩
  rw [whole_in hl.1 hl.2]
  exact k _ (S1.trans (Same.laid np))

def spRule (K : PySem.W.Frag) : Sp := fun vs H Q _ => ∃ p r, vs = [.ref p] ∧ H p = some (.tup (fR r)) ∧ GoodRl r ∧ ∀ H', Same H H' → Q (.bl true) H'
theorem d_rule (T : Txt mg) (A : At K mg "is_rule_shape" sIsRuleShape) (dt : Def P w K mg base "is_tuple" 1 ["thing", "many"] (spTupN K)) (dn : Def P w K mg base "is_name" 1 ["thing"] (spName K))
    (dk : Def P w K mg base "is_lock_shape" 5 ["thing"] (spLock K)) (dl : Def P w K mg base "is_level" 4 ["thing"] (spRange K 0 63))
    (dw : Def P w K mg base "is_whole" 3 ["thing", "low", "high"] (spWhole K)) : Def P w K mg base "is_rule_shape" 6 ["thing"] (spRule K) := by
  refine mkDef A scIsRuleShape (fun _ _ _ _ _ _ us hl => match us, hl with | [_], _ => rfl) (fun vs H Q E ⟨_, _, e, _⟩ => by rw [e]; rfl)
    (fun f cdv A out s H vs Q E hr h => ?_)
  obtain ⟨p, r, rfl, e, g, k⟩ := h
  refine ⟨_, (pss_cons (ps_if (pt_not (pt_val (pe_d dt hr (by decide) (by rfl) (pa_cons (pv 0) (pa_cons pe_int pa_nil)))))
      (pss_one (ps_ret pe_bl))
      pss_nil)
    (pss_cons (ps_asg (pv 0) (pg_tup (by rfl) (pgs_cons (pg_name (i := 1) scIsRuleShape.nd rfl (.inl rfl)) (pgs_cons (pg_name (i := 2) scIsRuleShape.nd rfl (.inl rfl)) (pgs_cons (pg_name (i := 3) scIsRuleShape.nd rfl (.inl rfl)) (pgs_cons (pg_name (i := 4) scIsRuleShape.nd rfl (.inl rfl)) (pgs_cons (pg_name (i := 5) scIsRuleShape.nd rfl (.inl rfl)) (pgs_cons (pg_name (i := 6) scIsRuleShape.nd rfl (.inl rfl)) (pgs_cons (pg_name (i := 7) scIsRuleShape.nd rfl (.inl rfl)) pgs_nil)))))))))
    (pss_cons (ps_if (pt_not (PW.pt (pw_and (pt_val (pe_d dn hr (by decide) (by rfl) (pa_cons (pv 1) pa_nil))) (pw_and1 (pt_val (pe_d dk hr (by decide) (by rfl) (pa_cons (pe_tup (pa_cons (pv 2) (pa_cons (pv 3) (pa_cons (pv 4) pa_nil)))) pa_nil)))))))
      (pss_one (ps_ret pe_bl))
      pss_nil)
    (pss_one (ps_ret (pe_and (pe_d dl hr (by decide) (by rfl) (pa_cons (pv 5) pa_nil)) (pe_and (pe_d dw hr (by decide) (by rfl) (pa_cons (pv 6) (pa_cons pe_int (pa_cons (pe_gi T.c_MOST_HOLD) pa_nil)))) (pe_one (pe_d dw hr (by decide) (by rfl) (pa_cons (pv 7) (pa_cons pe_int (pa_cons (pe_gi T.c_MOST_RANK) pa_nil)))))))))))), ?_⟩
  have eT : tupNB H (.ref p) 7 = true := by simp only [tupNB, e]; rfl
  refine ⟨_, rfl, .ref p, _, 7, rfl, .tup e, true, congrArg V.bl eT, iteF ?_⟩
  refine ⟨_, rfl, p, _, rfl, SqT.of e, rfl, _, _, rfl, _, _, rfl, _, _, rfl, _, _, rfl, _, _, rfl, _, _, rfl, _, _, rfl, rfl, ?_⟩
  refine ⟨_, rfl, .str r.nm, _, rfl, .str _, g.nm.sh, fun H1 S1 => ⟨true, congrArg V.bl g.nm.b, iteT ?_⟩⟩
  refine ⟨_, rfl, _, rfl, _, rfl, by show 3 ≤ sizeLine; decide, fun q nq => ?_⟩
  refine ⟨q, r.pt, r.R.lim, r.R, rfl, upd_same, g.pt, g.lim, fun H2 S2 => ⟨true, rfl, iteF ?_⟩⟩
  refine ⟨_, rfl, .int r.R.back, _, rfl, .int _, true, congrArg V.bl (whole_in g.back.1 g.back.2), iteT ?_⟩
  refine ⟨_, rfl, .int r.R.hold, _, 0, 99, rfl, .int _, true, congrArg V.bl (whole_in g.hold.1 g.hold.2), iteT ?_⟩
  refine ⟨_, rfl, .int r.rank, _, 1, 3, rfl, .int _, ?_⟩
  rw [whole_in g.rank.1 g.rank.2]
  exact k _ (S1.trans ((Same.laid nq).trans S2))
def spRuleC (K : PySem.W.Frag) : Sp := fun vs H Q _ => ∃ p r, vs = [.ref p] ∧ H p = some (.tup (fR r)) ∧ GoodRl r ∧ ∀ H', Same H H' → Q .non H'
theorem d_crule (A : At K mg "_check_rule" sCheckRule) (d : Def P w K mg base "is_rule_shape" 6 ["thing"] (spRule K)) : Def P w K mg base "_check_rule" 7 ["thing"] (spRuleC K) := by
  refine mkDef A scCheckRule (fun _ _ _ _ _ _ us hl => match us, hl with | [_], _ => rfl) (fun vs H Q E ⟨_, _, e, _⟩ => by rw [e]; rfl)
    (fun f cdv A out s H vs Q E hr h => ?_)
  obtain ⟨p, r, rfl, e, g, k⟩ := h
  refine ⟨_, (pss_one (ps_if (pt_not (pt_val (pe_d d hr (by decide) (by rfl) (pa_cons (pv 0) pa_nil))))
      (pss_one ps_never)
      pss_nil)), ?_⟩
  exact ⟨_, rfl, p, r, rfl, e, g, fun H' S => ⟨true, rfl, iteF (k H' S)⟩⟩
def spBey : Sp := fun vs H Q _ => ∃ R lim y, vs = [.str (wd R), .int lim, .int y] ∧ lim = R.lim ∧ Q (.bl (Wm.bey R y)) H
theorem d_bey (A : At K mg "is_beyond" sIsBeyond) : Def P w K mg base "is_beyond" 1 ["word", "limit", "worth"] spBey := by
  refine mkDef A scIsBeyond (fun _ _ _ _ _ _ us hl => match us, hl with | [_, _, _], _ => rfl) (fun vs H Q E ⟨_, _, _, e, _⟩ => by rw [e]; rfl)
    (fun f cdv A out s H vs Q E hr h => ?_)
  obtain ⟨R, lim, y, rfl, rfl, k⟩ := h
  refine ⟨_, (pss_one (ps_ret (pe_ifExp (pt_cmpR op_eq (pv 0) pe_str (nomark _)) (pe_cmpR op_gt (pv 2) (pv 1) (nomark _)) (pe_cmpR op_lt (pv 2) (pv 1) (nomark _))))), ?_⟩
  refine ⟨_, rfl, rfl, _, rfl, ?_⟩
  rw [wd_above]
  unfold Wm.bey at k
  cases hab : R.ab with
  | true =>
    rw [hab, if_pos rfl] at k
    exact iteT ⟨_, rfl, _, rfl, y, R.lim, rfl, rfl, k⟩
  | false =>
    rw [hab, if_neg (by decide)] at k
    exact iteF ⟨_, rfl, _, rfl, y, R.lim, rfl, rfl, k⟩
def spRst (K : PySem.W.Frag) : Sp := fun vs H Q _ => ∃ p r y, vs = [.ref p, .int y] ∧ H p = some (.tup (fR r)) ∧ Q (.bl (Wm.rst r.R y)) H
theorem d_rst (A : At K mg "is_at_rest" sIsAtRest) : Def P w K mg base "is_at_rest" 1 ["rule", "worth"] (spRst K) := by
  refine mkDef A scIsAtRest (fun _ _ _ _ _ _ us hl => match us, hl with | [_, _], _ => rfl) (fun vs H Q E ⟨_, _, _, e, _⟩ => by rw [e]; rfl)
    (fun f cdv A out s H vs Q E hr h => ?_)
  obtain ⟨p, r, y, rfl, e, k⟩ := h
  refine ⟨_, (pss_cons (ps_asg (pv 0) (pg_tup (by rfl) (pgs_cons (pg_name (i := 2) scIsAtRest.nd rfl (.inl rfl)) (pgs_cons (pg_name (i := 2) scIsAtRest.nd rfl (.inl rfl)) (pgs_cons (pg_name (i := 3) scIsAtRest.nd rfl (.inl rfl)) (pgs_cons (pg_name (i := 4) scIsAtRest.nd rfl (.inl rfl)) (pgs_cons (pg_name (i := 5) scIsAtRest.nd rfl (.inl rfl)) (pgs_cons (pg_name (i := 2) scIsAtRest.nd rfl (.inl rfl)) (pgs_cons (pg_name (i := 2) scIsAtRest.nd rfl (.inl rfl)) pgs_nil)))))))))
    (pss_one (ps_ret (pe_ifExp (pt_cmpR op_eq (pv 3) pe_str (nomark _)) (pe_cmpR op_le (pv 1) (pe_op op_sub (pv 4) (pv 5)) (nomark _)) (pe_cmpR op_ge (pv 1) (pe_op op_add (pv 4) (pv 5)) (nomark _)))))), ?_⟩
  refine ⟨_, rfl, p, _, rfl, SqT.of e, rfl, _, _, rfl, _, _, rfl, _, _, rfl, _, _, rfl, _, _, rfl, _, _, rfl, _, _, rfl, rfl, ?_⟩
  refine ⟨_, rfl, rfl, _, rfl, ?_⟩
  rw [wd_above]
  unfold Wm.rst at k
  cases hab : r.R.ab with
  | true =>
    rw [hab, if_pos rfl] at k
    exact iteT ⟨_, rfl, _, rfl, _, rfl, _, _, rfl, rfl, y, r.R.lim - r.R.back, rfl, rfl, k⟩
  | false =>
    rw [hab, if_neg (by decide)] at k
    exact iteF ⟨_, rfl, _, rfl, _, rfl, _, _, rfl, rfl, y, r.R.lim + r.R.back, rfl, rfl, k⟩
end
end W24

namespace W24
open PySem PySem.Spec PyProof.Rows L2 Pw
/-! ### a watch -/
def oV : Option Int → V
  | none => .non
  | some i => .int i
def fE (e : Wm.Ev) : List V := [.int e.1, oV e.2]
def fT (e : Bool × Int) : List V := [.str (if e.1 = true then "raised" else "ended"), .int e.2]
def wf (r l si wo ti : V) : List (Str × V) := [("_rule", r), ("_events", l), ("_since", si), ("_worth", wo), ("_time", ti)]
section
variable {r l si wo ti v : V}
theorem wf_rule : (wf r l si wo ti).lookup ("_rule" : Str) = some r := lk_eq
theorem wf_events : (wf r l si wo ti).lookup ("_events" : Str) = some l := (lk_ne (by decide +kernel)).trans lk_eq
theorem wf_since : (wf r l si wo ti).lookup ("_since" : Str) = some si := (lk_ne (by decide +kernel)).trans ((lk_ne (by decide +kernel)).trans lk_eq)
theorem wf_worth : (wf r l si wo ti).lookup ("_worth" : Str) = some wo :=
  (lk_ne (by decide +kernel)).trans ((lk_ne (by decide +kernel)).trans ((lk_ne (by decide +kernel)).trans lk_eq))
theorem wf_time : (wf r l si wo ti).lookup ("_time" : Str) = some ti :=
  (lk_ne (by decide +kernel)).trans ((lk_ne (by decide +kernel)).trans ((lk_ne (by decide +kernel)).trans ((lk_ne (by decide +kernel)).trans lk_eq)))
theorem wf_no {m : Str} (h1 : (m == ("_rule" : Str)) = false) (h2 : (m == ("_events" : Str)) = false) (h3 : (m == ("_since" : Str)) = false) (h4 : (m == ("_worth" : Str)) = false)
    (h5 : (m == ("_time" : Str)) = false) : (wf r l si wo ti).lookup m = none :=
  (lk_ne h1).trans ((lk_ne h2).trans ((lk_ne h3).trans ((lk_ne h4).trans ((lk_ne h5).trans rfl))))
theorem put_since : putF "_since" v (wf r l si wo ti) = wf r l v wo ti := by
  unfold wf
  rw [put_ne (by decide +kernel), put_ne (by decide +kernel), put_eq]
theorem put_worth : putF "_worth" v (wf r l si wo ti) = wf r l si v ti := by
  unfold wf
  rw [put_ne (by decide +kernel), put_ne (by decide +kernel), put_ne (by decide +kernel), put_eq]
theorem put_time : putF "_time" v (wf r l si wo ti) = wf r l si wo v := by
  unfold wf
  rw [put_ne (by decide +kernel), put_ne (by decide +kernel), put_ne (by decide +kernel), put_ne (by decide +kernel), put_eq]
theorem wf_len : (wf r l si wo ti).length < 1000 := by show 5 < 1000; decide
end
/-- the class, as the head finds it -/
structure WC (K : PySem.W.Frag) (C : Addr) : Prop where
  cl : Cls K C
  nR : NoAttr K C "_rule"
  nE : NoAttr K C "_events"
  nS : NoAttr K C "_since"
  nW : NoAttr K C "_worth"
  nT : NoAttr K C "_time"
/-- at p a watch that has the state s, its events in the list at L -/
structure WAt (C : Addr) (H : Hp) (p L rl : Addr) (s : Wm.S) (wo ti : V) : Prop where
  ex : ∃ dx vs, H p = some (.ins C dx (wf (.ref rl) (.ref L) (oV s.si) wo ti)) ∧ H L = some (.lst vs) ∧ Al fE H vs s.ev
/-- all stays but at p and L -/
def Fr (p L : Addr) (H H' : Hp) : Prop := ∀ b o, b ≠ p → b ≠ L → H b = some o → H' b = some o
section
variable {p L : Addr} {H H' H2 : Hp}
theorem Fr.refl : Fr p L H H := fun _ _ _ _ e => e
theorem Fr.trans (a : Fr p L H H') (b : Fr p L H' H2) : Fr p L H H2 := fun c o n1 n2 e => b c o n1 n2 (a c o n1 n2 e)
theorem Fr.of (S : Same H H') : Fr p L H H' := fun b o _ _ e => S b o e
theorem Fr.setp {o : HO} : Fr p L H (upd H p o) := fun b u n1 _ e => (upd_ne n1).trans e
theorem Fr.setL {o : HO} : Fr p L H (upd H L o) := fun b u _ n2 e => (upd_ne n2).trans e
theorem WAt.same {C rl : Addr} {s : Wm.S} {wo ti : V} (h : WAt C H p L rl s wo ti) (S : Same H H') : WAt C H' p L rl s wo ti :=
  let ⟨dx, vs, e1, e2, a⟩ := h.ex
  ⟨dx, vs, S _ _ e1, S _ _ e2, a.same S⟩
theorem WAt.ne {C rl : Addr} {s : Wm.S} {wo ti : V} (h : WAt C H p L rl s wo ti) : L ≠ p := by
  obtain ⟨dx, vs, e1, e2, a⟩ := h.ex
  intro z
  rw [z, e1] at e2
  cases e2
theorem WAt.tup {C rl q : Addr} {s : Wm.S} {wo ti : V} {xs : List V} (h : WAt C H p L rl s wo ti) (F : Fr p L H H') (e : H q = some (.tup xs)) : H' q = some (.tup xs) := by
  obtain ⟨dx, vs, e1, e2, a⟩ := h.ex
  refine F q _ (fun z => ?_) (fun z => ?_) e
  · rw [z, e1] at e
    cases e
  · rw [z, e2] at e
    cases e
/-- a field more is stored -/
theorem WAt.put {C rl : Addr} {s s' : Wm.S} {wo ti wo' ti' : V} {dx : Addr} {vs : List V} (e1 : H p = some (.ins C dx (wf (.ref rl) (.ref L) (oV s.si) wo ti))) (e2 : H L = some (.lst vs))
    (a : Al fE H vs s.ev) (he : s'.ev = s.ev) : WAt C (upd H p (.ins C dx (wf (.ref rl) (.ref L) (oV s'.si) wo' ti'))) p L rl s' wo' ti' := by
  have n : L ≠ p := fun z => by rw [z, e1] at e2; cases e2
  refine ⟨dx, vs, upd_same, (upd_ne n).trans e2, ?_⟩
  rw [he]
  refine a.imp fun q xs eq => (upd_ne fun z => ?_).trans eq
  rw [z, e1] at eq
  cases eq
end
section
variable {P : Program} {w : World} {K : PySem.W.Frag} {mg : Str → Option Value} {base : Heap} {C : Addr}
def spStands (C : Addr) : Sp := fun vs H Q _ => ∃ p L rl s wo ti, vs = [.ref p] ∧ WAt C H p L rl s wo ti ∧ s.ev.length ≤ 100000 ∧ Q (.bl (Wm.stnd s.ev)) H
theorem last_of {α : Type} (l : List α) (h : l ≠ []) : ∃ l' a, l = l' ++ [a] := by
  rcases List.eq_nil_or_concat l with z | ⟨l', a, z⟩
  · exact absurd z h
  · exact ⟨l', a, by rw [z, List.concat_eq_append]⟩
theorem Al.last {α : Type} {f : α → List V} {H : Hp} {vs : List V} {rs : List α} {r : α} (h : Al f H vs (rs ++ [r])) : ∃ vs' q, vs = vs' ++ [.ref q] ∧ Al f H vs' rs ∧ H q = some (.tup (f r)) := by
  have hl := h.length
  rw [List.length_append, List.length_singleton] at hl
  obtain ⟨q, e1, e2⟩ := h.at (i := rs.length) (r := r) (by simp)
  have ht := h.take rs.length
  rw [List.take_left'] at ht
  refine ⟨vs.take rs.length, q, ?_, ht, e2⟩
  · have : vs = vs.take rs.length ++ vs.drop rs.length := (List.take_append_drop _ _).symm
    rw [this]
    congr 1
    · simp
    · have h1 : (vs.drop rs.length).length = 1 := by rw [List.length_drop]; omega
      obtain ⟨z, hz⟩ := List.length_eq_one_iff.mp h1
      rw [hz]
      have : (vs.drop rs.length)[0]? = some (.ref q) := by rw [List.getElem?_drop]; simpa using e1
      rw [hz] at this
      simpa using this
  · rfl
theorem d_stands (T : Txt mg) (W : WC K C) (A : AtMt K C "_stands" "Watch._stands" mWatch_Stands) : DefM P w K mg base C "_stands" 1 ["self"] (spStands C) := by
  refine mkDefM A scmWatch_Stands (fun _ _ _ _ _ _ us hl => match us, hl with | [_], _ => rfl) (fun vs H Q E ⟨_, _, _, _, _, _, e, _⟩ => by rw [e]; rfl)
    (fun f cdv A out s H vs Q E hr h => ?_)
  obtain ⟨p, L, rl, s, wo, ti, rfl, hw, hlen, k⟩ := h
  obtain ⟨dx, es, e1, e2, al⟩ := hw.ex
  refine ⟨_, (pss_one (ps_ret (pe_and (pe_cmpR op_gt (pe_callB call_len_seq (by rfl) T.len PySem.boot_len (pa_cons (pe_fld (pv 0) rfl) pa_nil)) pe_int (nomark _)) (pe_one (pe_cmpR op_isN (pe_ix ix_tup (pe_ix ix_list (pe_fld (pv 0) rfl) (pe_un un_neg pe_int) (fun _ _ => rfl)) pe_int (fun _ _ => rfl)) pe_non (nomark _)))))), ?_⟩
  refine ⟨_, rfl, p, C, dx, _, _, rfl, e1, W.cl, W.nE, wf_events, L, es, rfl, .inl (SqL.of e2), (es.length : Int), 0, rfl, rfl, ?_⟩
  have hl := al.length
  by_cases h0 : s.ev = []
  · have : es.length = 0 := by rw [hl, h0]; rfl
    refine ⟨false, congrArg V.bl (decide_eq_false (by omega)), iteF ?_⟩
    have e3 : Wm.stnd s.ev = false := by rw [h0]; rfl
    rw [e3] at k
    exact k
  · obtain ⟨ev', ⟨a, o⟩, e4⟩ := last_of s.ev h0
    rw [e4] at al hl
    obtain ⟨vs', q, rfl, al', eq⟩ := Al.last al
    refine ⟨true, congrArg V.bl (decide_eq_true (by rw [List.length_append, List.length_singleton]; omega)), iteT ?_⟩
    refine ⟨_, rfl, p, C, dx, _, _, rfl, e1, W.cl, W.nE, wf_events, 1, rfl, L, _, -1, .ref q, rfl, rfl, SqL.of e2, atI_last _ _, q, _, 1, oV o, rfl, rfl, SqT.of eq, rfl, rfl, ?_⟩
    have e5 : Wm.stnd s.ev = o.isNone := by rw [e4]; exact Wm.stnd_snoc _ _ _
    rw [e5] at k
    cases o with
    | none => exact k
    | some i => exact k

def spWait (C : Addr) : Sp := fun vs H Q _ => ∃ p L rl s wo ti r T, vs = [.ref p, .int T] ∧ WAt C H p L rl s wo ti ∧ H rl = some (.tup (fR r)) ∧ s.ev.length ≤ 100000 ∧
  ∀ b H', WAt C H' p L rl (Wm.waitS r.R s T) wo ti → Fr p L H H' → H b = none → LT fT H' b (Wm.waitT r.R s T) → Q (.ref b) H'
theorem d_wait (W : WC K C) (A : AtMt K C "_wait_until" "Watch._wait_until" mWatch_WaitUntil) : DefM P w K mg base C "_wait_until" 1 ["self", "time"] (spWait C) := by
  refine mkDefM A scmWatch_WaitUntil (fun _ _ _ _ _ _ us hl => match us, hl with | [_, _], _ => rfl) (fun vs H Q E ⟨_, _, _, _, _, _, _, _, e, _⟩ => by rw [e]; rfl)
    (fun f cdv A out s H vs Q E hr h => ?_)
  obtain ⟨p, L, rl, s, wo, ti, r, T, rfl, hw, er, hlen, k⟩ := h
  obtain ⟨dx, es, e1, e2, al⟩ := hw.ex
  have nL := hw.ne
  refine ⟨_, (pss_cons (ps_if (PW.pt (pw_or (pt_cmpR op_isN (pe_fld (pv 0) rfl) pe_non (nomark _)) (pw_or1 (pt_cmpR op_gt (pe_op op_add (pe_fld (pv 0) rfl) (pe_ix ix_tup (pe_fld (pv 0) rfl) pe_int (fun _ _ => rfl))) (pv 1) (nomark _)))))
      (pss_one (ps_ret (pe_lst pa_nil)))
      pss_nil)
    (pss_cons (ps_set (i := 2) scmWatch_WaitUntil.nd rfl (.inl rfl) (pe_op op_add (pe_fld (pv 0) rfl) (pe_ix ix_tup (pe_fld (pv 0) rfl) pe_int (fun _ _ => rfl))))
    (pss_cons (ps_expr (pe_bm PySem.F.plainAttrs_list PySem.F.slot_list_append PySem.F.type_list_append mt_append (pe_fld (pv 0) rfl) (pa_cons (pe_tup (pa_cons (pv 2) (pa_cons pe_non pa_nil))) pa_nil)))
    (pss_cons (ps_fld (pv 0) pe_non rfl)
    (pss_one (ps_ret (pe_lst (pa_cons (pe_tup (pa_cons pe_str (pa_cons (pv 2) pa_nil))) pa_nil)))))))), ?_⟩
  refine ⟨_, rfl, p, C, dx, _, _, rfl, e1, W.cl, W.nS, wf_since, rfl, ?_⟩
  -- nothing comes
  have quiet : Wm.waitS r.R s T = s → Wm.waitT r.R s T = [] → ∀ b, H b = none → Q (.ref b) (upd H b (.lst [])) := by
    intro q1 q2 b nb
    refine k b _ ?_ (Fr.of (Same.laid nb)) nb ?_
    · rw [q1]
      exact hw.same (Same.laid nb)
    · rw [q2]
      exact ⟨[], upd_same, .nil⟩
  cases hs : s.si with
  | none =>
    refine ⟨true, rfl, iteT ?_⟩
    refine ⟨by show 0 ≤ sizeLine; decide, fun b nb => quiet (by unfold Wm.waitS; rw [hs]) (by unfold Wm.waitT; rw [hs]) b nb⟩
  | some a =>
    refine ⟨false, rfl, iteF ?_⟩
    rw [hs] at e1
    refine ⟨_, rfl, p, C, dx, _, _, rfl, e1, W.cl, W.nS, wf_since, _, rfl, p, C, dx, _, _, rfl, e1, W.cl, W.nR, wf_rule, rl, _, 5, .int r.R.hold, rfl, rfl, SqT.of er, rfl, a, r.R.hold, rfl, rfl, _, rfl, a + r.R.hold, T, rfl, rfl, ?_⟩
    by_cases hgt : a + r.R.hold > T
    · refine ⟨true, congrArg V.bl (decide_eq_true hgt), iteT ?_⟩
      refine ⟨by show 0 ≤ sizeLine; decide, fun b nb => quiet (by unfold Wm.waitS; rw [hs]; simp only; rw [if_pos hgt]) (by unfold Wm.waitT; rw [hs]; simp only; rw [if_pos hgt]) b nb⟩
    · refine ⟨false, congrArg V.bl (decide_eq_false hgt), iteF ?_⟩
      have w1 : Wm.waitS r.R s T = ⟨s.ev ++ [(a + r.R.hold, none)], none⟩ := by unfold Wm.waitS; rw [hs]; simp only; rw [if_neg hgt]
      have w2 : Wm.waitT r.R s T = [(true, a + r.R.hold)] := by unfold Wm.waitT; rw [hs]; simp only; rw [if_neg hgt]
      rw [w1, w2] at k
      refine ⟨_, rfl, p, C, dx, _, _, rfl, e1, W.cl, W.nS, wf_since, _, rfl, p, C, dx, _, _, rfl, e1, W.cl, W.nR, wf_rule, rl, _, 5, .int r.R.hold, rfl, rfl, SqT.of er, rfl, a, r.R.hold, rfl, rfl, ?_⟩
      refine ⟨_, rfl, p, C, dx, _, _, rfl, e1, W.cl, W.nE, wf_events, .inl ⟨rfl, _, SqL.of e2⟩, _, rfl, by show 2 ≤ sizeLine; decide, fun q nq => ?_⟩
      have qp : q ≠ p := fun z => by rw [z, e1] at nq; cases nq
      have qL : q ≠ L := fun z => by rw [z, e2] at nq; cases nq
      refine ⟨L, es, .ref q, rfl, rfl, (upd_ne (Ne.symm qL)).trans e2, ?_, ?_⟩
      · rw [al.length]
        exact Nat.lt_of_le_of_lt hlen (by decide)
      · generalize q1 : upd (upd H q (.tup [.int (a + r.R.hold), .non])) L (.lst (es ++ [.ref q])) = H1
        have F1 : Fr p L H H1 := q1 ▸ (Fr.of (Same.laid nq)).trans Fr.setL
        have e3 : H1 p = some (.ins C dx (wf (.ref rl) (.ref L) (.int a) wo ti)) := by
          rw [← q1, upd_ne (Ne.symm nL), upd_ne (Ne.symm qp)]
          exact e1
        have e4 : H1 L = some (.lst (es ++ [.ref q])) := q1 ▸ upd_same
        have al1 : Al fE H1 (es ++ [.ref q]) (s.ev ++ [(a + r.R.hold, none)]) := by
          refine Al.snoc (al.imp fun b xs eb => hw.tup F1 eb) ?_
          rw [← q1, upd_ne qL, upd_same]
          rfl
        refine ⟨_, rfl, p, C, dx, _, rfl, e3, W.cl, W.nS, wf_len, ?_⟩
        rw [put_since]
        have hw2 : WAt C (upd H1 p (.ins C dx (wf (.ref rl) (.ref L) .non wo ti))) p L rl ⟨s.ev ++ [(a + r.R.hold, none)], none⟩ wo ti :=
          WAt.put (s := ⟨s.ev ++ [(a + r.R.hold, none)], some a⟩) (s' := ⟨s.ev ++ [(a + r.R.hold, none)], none⟩) e3 e4 al1 rfl
        generalize q2 : upd H1 p (.ins C dx (wf (.ref rl) (.ref L) .non wo ti)) = H2 at *
        have F2 : Fr p L H H2 := F1.trans (q2 ▸ Fr.setp)
        refine ⟨_, rfl, by show 2 ≤ sizeLine; decide, fun b1 nb1 => ?_⟩
        refine ⟨by show 1 ≤ sizeLine; decide, fun b nb => ?_⟩
        have S3 := (Same.laid (o := HO.tup [V.str "raised", .int (a + r.R.hold)]) nb1).trans (Same.laid (o := HO.lst [V.ref b1]) nb)
        refine k b _ (hw2.same S3) (F2.trans (Fr.of S3)) ?_ ?_
        · cases z : H b with
          | none => rfl
          | some o =>
            exfalso
            by_cases bp : b = p
            · have := S3 p
              obtain ⟨dx', vs', g1, _⟩ := hw2.ex
              rw [bp, Same.laid nb1 _ _ g1] at nb
              cases nb
            · by_cases bL : b = L
              · obtain ⟨dx', vs', _, g2, _⟩ := hw2.ex
                rw [bL, Same.laid nb1 _ _ g2] at nb
                cases nb
              · have := F2 b o bp bL z
                rw [Same.laid nb1 _ _ this] at nb
                cases nb
        · refine ⟨[.ref b1], upd_same, Al.one (r := (true, a + r.R.hold)) ?_⟩
          have b1b : b1 ≠ b := fun z => by rw [← z, upd_same] at nb; cases nb
          rw [upd_ne b1b, upd_same]
          rfl
end
end W24

namespace W24
open PySem PySem.Spec PyProof.Rows L2 Pw
theorem Fr.no {p L b : Addr} {H H' : Hp} {C rl : Addr} {s : Wm.S} {wo ti : V} (F : Fr p L H H') (h : WAt C H' p L rl s wo ti) (nb : H' b = none) : H b = none := by
  obtain ⟨dx, vs, e1, e2, _⟩ := h.ex
  cases z : H b with
  | none => rfl
  | some o =>
    by_cases bp : b = p
    · rw [bp, e1] at nb
      cases nb
    · by_cases bL : b = L
      · rw [bL, e2] at nb
        cases nb
      · rw [F b o bp bL z] at nb
        cases nb
theorem Fr.lt {α : Type} {f : α → List V} {p L b : Addr} {H H' : Hp} {C rl : Addr} {s : Wm.S} {wo ti : V} {rs : List α} (F : Fr p L H H') (h : WAt C H p L rl s wo ti)
    (hb : b ≠ L) (l : LT f H b rs) : LT f H' b rs := by
  obtain ⟨dx, vs, e1, e2, _⟩ := h.ex
  obtain ⟨ws, e3, a⟩ := l.ex
  refine ⟨ws, F b _ (fun z => ?_) hb e3, a.imp fun q xs eq => h.tup F eq⟩
  rw [z, e1] at e3
  cases e3
section
variable {P : Program} {w : World} {K : PySem.W.Frag} {mg : Str → Option Value} {base : Heap} {C : Addr}
def spRest (C : Addr) : Sp := fun vs H Q _ => ∃ p L rl s y t r, vs = [.ref p] ∧ WAt C H p L rl s (.int y) (.int t) ∧ H rl = some (.tup (fR r)) ∧ s.ev.length ≤ 100000 ∧ Wm.stnd s.ev = true ∧
  ∀ b H', WAt C H' p L rl (if Wm.rst r.R y = true then ⟨s.ev.dropLast ++ [(Wm.lastR s.ev, some t)], s.si⟩ else s) (.int y) (.int t) → Fr p L H H' → H b = none →
    LT fT H' b (if Wm.rst r.R y = true then [(false, t)] else []) → Q (.ref b) H'
theorem d_rest (W : WC K C) (A : AtMt K C "_rest" "Watch._rest" mWatch_Rest) (dr : Def P w K mg base "is_at_rest" 1 ["rule", "worth"] (spRst K)) : DefM P w K mg base C "_rest" 2 ["self"] (spRest C) := by
  refine mkDefM A scmWatch_Rest (fun _ _ _ _ _ _ us hl => match us, hl with | [_], _ => rfl) (fun vs H Q E ⟨_, _, _, _, _, _, _, e, _⟩ => by rw [e]; rfl)
    (fun f cdv A out s H vs Q E hr h => ?_)
  obtain ⟨p, L, rl, s, y, t, r, rfl, hw, er, hlen, hst, k⟩ := h
  obtain ⟨dx, es, e1, e2, al⟩ := hw.ex
  have nL := hw.ne
  refine ⟨_, (pss_cons (ps_if (pt_not (pt_val (pe_d dr hr (by decide) (by rfl) (pa_cons (pe_fld (pv 0) rfl) (pa_cons (pe_fld (pv 0) rfl) pa_nil)))))
      (pss_one (ps_ret (pe_lst pa_nil)))
      pss_nil)
    (pss_cons (ps_asg (pe_bm0 PySem.F.plainAttrs_list PySem.F.slot_list_pop PySem.F.type_list_pop mt_pop (pe_fld (pv 0) rfl)) (pg_tup (by rfl) (pgs_cons (pg_name (i := 1) scmWatch_Rest.nd rfl (.inl rfl)) (pgs_cons (pg_name (i := 2) scmWatch_Rest.nd rfl (.inl rfl)) pgs_nil))))
    (pss_cons (ps_expr (pe_bm PySem.F.plainAttrs_list PySem.F.slot_list_append PySem.F.type_list_append mt_append (pe_fld (pv 0) rfl) (pa_cons (pe_tup (pa_cons (pv 1) (pa_cons (pe_fld (pv 0) rfl) pa_nil))) pa_nil)))
    (pss_one (ps_ret (pe_lst (pa_cons (pe_tup (pa_cons pe_str (pa_cons (pe_fld (pv 0) rfl) pa_nil))) pa_nil))))))), ?_⟩
  refine ⟨_, rfl, p, C, dx, _, _, rfl, e1, W.cl, W.nR, wf_rule, _, rfl, p, C, dx, _, _, rfl, e1, W.cl, W.nW, wf_worth, rl, r, y, rfl, er, _, rfl, ?_⟩
  cases hrs : Wm.rst r.R y with
  | false =>
    rw [hrs] at k
    refine iteT ?_
    refine ⟨by show 0 ≤ sizeLine; decide, fun b nb => k b _ (hw.same (Same.laid nb)) (Fr.of (Same.laid nb)) nb ⟨[], upd_same, .nil⟩⟩
  | true =>
    rw [hrs] at k
    simp only [if_true] at k
    refine iteF ?_
    have h0 : s.ev ≠ [] := fun z => by rw [z] at hst; cases hst
    obtain ⟨ev', ⟨a, o⟩, e4⟩ := last_of s.ev h0
    have eo : Wm.lastR s.ev = a := by
      rw [e4]
      unfold Wm.lastR
      rw [List.getLast?_concat]
    have ed : s.ev.dropLast = ev' := by rw [e4, List.dropLast_concat]
    rw [eo, ed] at k
    have hl4 : ev'.length ≤ 100000 := by
      have := congrArg List.length e4
      rw [List.length_append, List.length_singleton] at this
      omega
    rw [e4] at al
    obtain ⟨es', q, rfl, al', eq⟩ := Al.last al
    refine ⟨_, rfl, p, C, dx, _, _, rfl, e1, W.cl, W.nE, wf_events, .inl ⟨rfl, _, SqL.of e2⟩, L, _, .ref q, rfl, rfl, e2, by simp, ?_⟩
    rw [List.dropLast_concat]
    generalize q1 : upd H L (.lst es') = H1
    have F1 : Fr p L H H1 := q1 ▸ Fr.setL
    have e5 : H1 p = some (.ins C dx (wf (.ref rl) (.ref L) (oV s.si) (.int y) (.int t))) := by rw [← q1, upd_ne (Ne.symm nL)]; exact e1
    have e6 : H1 L = some (.lst es') := q1 ▸ upd_same
    have eq1 := hw.tup F1 eq
    refine ⟨q, _, rfl, SqT.of eq1, rfl, _, _, rfl, _, _, rfl, rfl, ?_⟩
    refine ⟨_, rfl, p, C, dx, _, _, rfl, e5, W.cl, W.nE, wf_events, .inl ⟨rfl, _, SqL.of e6⟩, _, rfl, _, rfl, p, C, dx, _, _, rfl, e5, W.cl, W.nT, wf_time, by show 2 ≤ sizeLine; decide, fun q2 nq => ?_⟩
    have qp : q2 ≠ p := fun z => by rw [z, e5] at nq; cases nq
    have qL : q2 ≠ L := fun z => by rw [z, e6] at nq; cases nq
    refine ⟨L, es', .ref q2, rfl, rfl, (upd_ne (Ne.symm qL)).trans e6, ?_, ?_⟩
    · rw [al'.length]
      exact Nat.lt_of_le_of_lt hl4 (by decide)
    generalize q3 : upd (upd H1 q2 (.tup [.int a, .int t])) L (.lst (es' ++ [.ref q2])) = H2
    have F2 : Fr p L H H2 := F1.trans (q3 ▸ (Fr.of (Same.laid nq)).trans Fr.setL)
    have e7 : H2 p = some (.ins C dx (wf (.ref rl) (.ref L) (oV s.si) (.int y) (.int t))) := by
      rw [← q3, upd_ne (Ne.symm nL), upd_ne (Ne.symm qp)]
      exact e5
    have hw2 : WAt C H2 p L rl ⟨ev' ++ [(a, some t)], s.si⟩ (.int y) (.int t) := by
      refine ⟨dx, _, e7, q3 ▸ upd_same, Al.snoc (al'.imp fun b xs eb => hw.tup F2 eb) ?_⟩
      rw [← q3, upd_ne qL, upd_same]
      rfl
    refine ⟨_, rfl, p, C, dx, _, _, rfl, e7, W.cl, W.nT, wf_time, by show 2 ≤ sizeLine; decide, fun b1 nb1 => ?_⟩
    refine ⟨by show 1 ≤ sizeLine; decide, fun b nb => ?_⟩
    have S3 := (Same.laid (o := HO.tup [V.str "ended", .int t]) nb1).trans (Same.laid (o := HO.lst [V.ref b1]) nb)
    refine k b _ (hw2.same S3) (F2.trans (Fr.of S3)) (Fr.no F2 hw2 (Same.no (Same.laid nb1) nb)) ?_
    refine ⟨[.ref b1], upd_same, Al.one (r := (false, t)) ?_⟩
    have b1b : b1 ≠ b := fun z => by rw [← z, upd_same] at nb; cases nb
    rw [upd_ne b1b, upd_same]
    rfl

def spTakeW (C : Addr) : Sp := fun vs H Q _ => ∃ p L rl s y t r, vs = [.ref p] ∧ WAt C H p L rl s (.int y) (.int t) ∧ H rl = some (.tup (fR r)) ∧ s.ev.length ≤ 100000 ∧
  ∀ b H', WAt C H' p L rl (Wm.takeS r.R s t y) (.int y) (.int t) → Fr p L H H' → H b = none → LT fT H' b (Wm.takeT r.R s t y) → Q (.ref b) H'
theorem d_takeW (W : WC K C) (A : AtMt K C "_take" "Watch._take" mWatch_Take) (ds : DefM P w K mg base C "_stands" 1 ["self"] (spStands C)) (dr : DefM P w K mg base C "_rest" 2 ["self"] (spRest C))
    (db : Def P w K mg base "is_beyond" 1 ["word", "limit", "worth"] spBey) (dw : DefM P w K mg base C "_wait_until" 1 ["self", "time"] (spWait C)) :
    DefM P w K mg base C "_take" 3 ["self"] (spTakeW C) := by
  refine mkDefM A scmWatch_Take (fun _ _ _ _ _ _ us hl => match us, hl with | [_], _ => rfl) (fun vs H Q E ⟨_, _, _, _, _, _, _, e, _⟩ => by rw [e]; rfl)
    (fun f cdv A out s H vs Q E hr h => ?_)
  obtain ⟨p, L, rl, s, y, t, r, rfl, hw, er, hlen, k⟩ := h
  obtain ⟨dx, es, e1, e2, al⟩ := hw.ex
  refine ⟨_, (pss_cons (ps_asg (pe_fld (pv 0) rfl) (pg_tup (by rfl) (pgs_cons (pg_name (i := 1) scmWatch_Take.nd rfl (.inl rfl)) (pgs_cons (pg_name (i := 1) scmWatch_Take.nd rfl (.inl rfl)) (pgs_cons (pg_name (i := 2) scmWatch_Take.nd rfl (.inl rfl)) (pgs_cons (pg_name (i := 3) scmWatch_Take.nd rfl (.inl rfl)) (pgs_cons (pg_name (i := 1) scmWatch_Take.nd rfl (.inl rfl)) (pgs_cons (pg_name (i := 1) scmWatch_Take.nd rfl (.inl rfl)) (pgs_cons (pg_name (i := 1) scmWatch_Take.nd rfl (.inl rfl)) pgs_nil)))))))))
    (pss_cons (ps_if (pt_val (pe_mm0 (pv 0) W.cl ds hr (by decide)))
      (pss_one (ps_ret (pe_mm0 (pv 0) W.cl dr hr (by decide))))
      pss_nil)
    (pss_cons (ps_if (pt_not (pt_val (pe_d db hr (by decide) (by rfl) (pa_cons (pv 2) (pa_cons (pv 3) (pa_cons (pe_fld (pv 0) rfl) pa_nil))))))
      (pss_cons (ps_fld (pv 0) pe_non rfl)
      (pss_one (ps_ret (pe_lst pa_nil))))
      pss_nil)
    (pss_cons (ps_if (pt_cmpR op_isN (pe_fld (pv 0) rfl) pe_non (nomark _))
      (pss_one (ps_fld (pv 0) (pe_fld (pv 0) rfl) rfl))
      pss_nil)
    (pss_one (ps_ret (pe_mm (pv 0) W.cl dw hr (by decide) (pa_cons (pe_fld (pv 0) rfl) pa_nil)))))))), ?_⟩
  refine ⟨_, rfl, p, C, dx, _, _, rfl, e1, W.cl, W.nR, wf_rule, rl, _, rfl, SqT.of er, rfl, _, _, rfl, _, _, rfl, _, _, rfl, _, _, rfl, _, _, rfl, _, _, rfl, _, _, rfl, rfl, ?_⟩
  have no : ∀ {si : V} {m : Str}, (m == ("_rule" : Str)) = false → (m == ("_events" : Str)) = false → (m == ("_since" : Str)) = false → (m == ("_worth" : Str)) = false →
    (m == ("_time" : Str)) = false → (wf (.ref rl) (.ref L) si (.int y) (.int t)).lookup m = none := fun h1 h2 h3 h4 h5 => wf_no h1 h2 h3 h4 h5
  refine ⟨_, rfl, p, dx, _, rfl, e1, no (by decide +kernel) (by decide +kernel) (by decide +kernel) (by decide +kernel) (by decide +kernel), p, L, rl, s, _, _, rfl, hw, hlen, _, rfl, ?_⟩
  unfold Wm.takeS Wm.takeT at k
  cases hs : Wm.stnd s.ev with
  | true =>
    rw [hs] at k
    simp only [if_true] at k
    refine iteT ?_
    exact ⟨_, rfl, p, dx, _, rfl, e1, no (by decide +kernel) (by decide +kernel) (by decide +kernel) (by decide +kernel) (by decide +kernel), p, L, rl, s, y, t, r, rfl, hw, er, hlen, hs, k⟩
  | false =>
    rw [hs] at k
    simp only [Bool.false_eq_true, if_false] at k
    refine iteF ?_
    refine ⟨_, rfl, _, rfl, _, rfl, p, C, dx, _, _, rfl, e1, W.cl, W.nW, wf_worth, r.R, r.R.lim, y, rfl, rfl, _, rfl, ?_⟩
    cases hb : Wm.bey r.R y with
    | false =>
      rw [hb] at k
      simp only [if_true] at k
      refine iteT ?_
      refine ⟨_, rfl, p, C, dx, _, rfl, e1, W.cl, W.nS, wf_len, ?_⟩
      rw [put_since]
      have hw2 : WAt C (upd H p (.ins C dx (wf (.ref rl) (.ref L) .non (.int y) (.int t)))) p L rl ⟨s.ev, none⟩ (.int y) (.int t) := WAt.put (s := s) (s' := ⟨s.ev, none⟩) e1 e2 al rfl
      generalize q2 : upd H p (.ins C dx (wf (.ref rl) (.ref L) .non (.int y) (.int t))) = H2 at *
      have F2 : Fr p L H H2 := q2 ▸ Fr.setp
      refine ⟨by show 0 ≤ sizeLine; decide, fun b nb => ?_⟩
      exact k b _ (hw2.same (Same.laid nb)) (F2.trans (Fr.of (Same.laid nb))) (Fr.no F2 hw2 nb) ⟨[], upd_same, .nil⟩
    | true =>
      rw [hb] at k
      simp only [Bool.true_eq_false, if_false] at k
      refine iteF ?_
      refine ⟨_, rfl, p, C, dx, _, _, rfl, e1, W.cl, W.nS, wf_since, rfl, ?_⟩
      cases hsi : s.si with
      | none =>
        rw [hsi] at k
        refine ⟨true, rfl, iteT ?_⟩
        refine ⟨_, rfl, p, C, dx, _, _, rfl, e1, W.cl, W.nT, wf_time, _, rfl, p, C, dx, _, rfl, e1, W.cl, W.nS, wf_len, ?_⟩
        rw [put_since]
        have hw2 : WAt C (upd H p (.ins C dx (wf (.ref rl) (.ref L) (.int t) (.int y) (.int t)))) p L rl ⟨s.ev, some t⟩ (.int y) (.int t) := WAt.put (s := s) (s' := ⟨s.ev, some t⟩) e1 e2 al rfl
        generalize q2 : upd H p (.ins C dx (wf (.ref rl) (.ref L) (.int t) (.int y) (.int t))) = H2 at *
        have F2 : Fr p L H H2 := q2 ▸ Fr.setp
        have e1' : H2 p = some (.ins C dx (wf (.ref rl) (.ref L) (.int t) (.int y) (.int t))) := q2 ▸ upd_same
        refine ⟨_, rfl, p, dx, _, rfl, e1', no (by decide +kernel) (by decide +kernel) (by decide +kernel) (by decide +kernel) (by decide +kernel), _, rfl, p, C, dx, _, _, rfl, e1', W.cl, W.nT, wf_time, p, L, rl, ⟨s.ev, some t⟩, _, _, r, t, rfl, hw2, hw.tup F2 er, hlen, fun b H3 h3 F3 nb lt => ?_⟩
        exact k b H3 h3 (F2.trans F3) (Fr.no F2 hw2 nb) lt
      | some a =>
        rw [hsi] at k
        refine ⟨false, rfl, iteF ?_⟩
        have hw3 : WAt C H p L rl ⟨s.ev, some a⟩ (.int y) (.int t) := ⟨dx, es, by rw [e1, hsi], e2, al⟩
        exact ⟨_, rfl, p, dx, _, rfl, e1, no (by decide +kernel) (by decide +kernel) (by decide +kernel) (by decide +kernel) (by decide +kernel), _, rfl, p, C, dx, _, _, rfl, e1, W.cl, W.nT, wf_time, p, L, rl, ⟨s.ev, some a⟩, _, _, r, t, rfl, hw3, er, hlen, k⟩
end
end W24

namespace W24
open PySem PySem.Spec PyProof.Rows L2 Pw
def pr (rs : List R3) : List (Int × Int) := rs.map fun r => (r.1, r.2.1)
def goods (rs : List R3) : List R3 := rs.filter fun r => decide (r.2.2 = "good")
/-- the good signs up to T -/
def sg (rs : List R3) (T : Int) : List (Int × Int) := (pr (goods rs)).filter fun r => decide (r.1 ≤ T)
def wo (i : Nat) : Str := match i with
  | 0 => "stands"
  | 1 => "waits"
  | _ => "quiet"
def fS (x : Nat × Option Int) : List V := [.str (wo x.1), oV x.2]
section
variable {P : Program} {w : World} {K : PySem.W.Frag} {mg : Str → Option Value} {base : Heap} {C : Addr}
/-- the last time that was told: none, or one that lets t through -/
def Lt (ti : V) (ok : Int → Prop) : Prop := ti = .non ∨ ∃ t0, ti = .int t0 ∧ ok t0
def spHear (C : Addr) : Sp := fun vs H Q _ => ∃ p L rl s wo ti r t y, vs = [.ref p, .int t, .int y] ∧ WAt C H p L rl s wo ti ∧ H rl = some (.tup (fR r)) ∧ s.ev.length ≤ 50000 ∧
  (0 ≤ t ∧ t ≤ 9999) ∧ (0 ≤ y ∧ y ≤ 63) ∧ Lt ti (fun t0 => t0 < t) ∧
  ∀ b H', WAt C H' p L rl (Wm.hearS r.R s t y) (.int y) (.int t) → Fr p L H H' → H b = none → LT fT H' b (Wm.hearT r.R s t y) → Q (.ref b) H'
theorem d_hear (W : WC K C) (A : AtMt K C "hear" "Watch.hear" mWatch_Hear) (dc : Def P w K mg base "check_time" 5 ["thing"] (spIn 0 9999)) (dl : Def P w K mg base "is_level" 4 ["thing"] (spRange K 0 63))
    (dw : DefM P w K mg base C "_wait_until" 1 ["self", "time"] (spWait C)) (dt : DefM P w K mg base C "_take" 3 ["self"] (spTakeW C)) :
    DefM P w K mg base C "hear" 6 ["self", "time", "worth"] (spHear C) := by
  refine mkDefM A scmWatch_Hear (fun _ _ _ _ _ _ us hl => match us, hl with | [_, _, _], _ => rfl) (fun vs H Q E ⟨_, _, _, _, _, _, _, _, _, e, _⟩ => by rw [e]; rfl)
    (fun f cdv A out s H vs Q E hr h => ?_)
  obtain ⟨p, L, rl, s, wo, ti, r, t, y, rfl, hw, er, hlen, ht, hy, hlt, k⟩ := h
  obtain ⟨dx, es, e1, e2, al⟩ := hw.ex
  refine ⟨_, (pss_cons (ps_expr (pe_d dc hr (by decide) (by rfl) (pa_cons (pv 1) pa_nil)))
    (pss_cons (ps_if (pt_not (pt_val (pe_d dl hr (by decide) (by rfl) (pa_cons (pv 2) pa_nil))))
      (pss_one ps_never)
      pss_nil)
    (pss_cons (ps_if (PW.pt (pw_and (pt_cmpR op_notN (pe_fld (pv 0) rfl) pe_non (nomark _)) (pw_and1 (pt_cmpR op_le (pv 1) (pe_fld (pv 0) rfl) (nomark _)))))
      (pss_one ps_never)
      pss_nil)
    (pss_cons (ps_set (i := 3) scmWatch_Hear.nd rfl (.inl rfl) (pe_mm (pv 0) W.cl dw hr (by decide) (pa_cons (pe_op op_sub (pv 1) pe_int) pa_nil)))
    (pss_cons (ps_fld (pv 0) (pv 1) rfl)
    (pss_cons (ps_fld (pv 0) (pv 2) rfl)
    (pss_cons (ps_expr (pe_bm PySem.F.plainAttrs_list PySem.F.slot_list_extend PySem.F.type_list_extend mt_extend (pv 3) (pa_cons (pe_mm0 (pv 0) W.cl dt hr (by decide)) pa_nil)))
    (pss_one (ps_ret (pv 3)))))))))), ?_⟩
  have no : ∀ {si wo ti : V} {m : Str}, (m == ("_rule" : Str)) = false → (m == ("_events" : Str)) = false → (m == ("_since" : Str)) = false → (m == ("_worth" : Str)) = false →
    (m == ("_time" : Str)) = false → (wf (.ref rl) (.ref L) si wo ti).lookup m = none := fun h1 h2 h3 h4 h5 => wf_no h1 h2 h3 h4 h5
  refine ⟨_, rfl, t, rfl, ht.1, ht.2, ?_⟩
  refine ⟨_, rfl, .int y, _, rfl, .int _, true, congrArg V.bl (whole_in hy.1 hy.2), iteF ?_⟩
  refine ⟨_, rfl, p, C, dx, _, _, rfl, e1, W.cl, W.nT, wf_time, rfl, ?_⟩
  have test : ∀ (F : Bool → Hp → Prop), F false H → ∃ k, V.bl (!decide (ti = V.non)) = V.bl k ∧
      (if k = true then tOp (rI0 fun i j => V.bl (decide (i ≤ j))) (tVar 1) (tFld K (tVar 0) "_time") [some (.ref p), some (.int t), some (.int y), none] H (fun v H1 => ∃ k, v = .bl k ∧ F k H1) else F false H) := by
    intro F hF
    rcases hlt with rfl | ⟨t0, rfl, h0⟩
    · exact ⟨false, rfl, iteF hF⟩
    · refine ⟨true, rfl, iteT ?_⟩
      exact ⟨_, rfl, _, rfl, p, C, dx, _, _, rfl, e1, W.cl, W.nT, wf_time, t, t0, rfl, rfl, false, congrArg V.bl (decide_eq_false (by omega)), hF⟩
  refine test _ ?_
  refine iteF ?_
  clear test
  refine ⟨_, rfl, p, dx, _, rfl, e1, no (by decide +kernel) (by decide +kernel) (by decide +kernel) (by decide +kernel) (by decide +kernel), _, rfl, _, _, rfl, rfl, p, L, rl, s, wo, ti, r, t - 1, rfl, hw, er, by omega, fun b1 H1 hw1 F1 nb1 lt1 => ?_⟩
  obtain ⟨dx1, es1, e3, e4, al1⟩ := hw1.ex
  have b1L : b1 ≠ L := fun z => by rw [z, e2] at nb1; cases nb1
  have b1p : b1 ≠ p := fun z => by rw [z, e1] at nb1; cases nb1
  refine ⟨_, rfl, _, rfl, p, C, dx1, _, rfl, e3, W.cl, W.nT, wf_len, ?_⟩
  rw [put_time]
  refine ⟨_, rfl, _, rfl, p, C, dx1, _, rfl, upd_same, W.cl, W.nW, wf_len, ?_⟩
  rw [put_worth, upd_upd]
  have hw2 : WAt C (upd H1 p (.ins C dx1 (wf (.ref rl) (.ref L) (oV (Wm.waitS r.R s (t - 1)).si) (.int y) (.int t)))) p L rl (Wm.waitS r.R s (t - 1)) (.int y) (.int t) :=
    WAt.put (s := Wm.waitS r.R s (t - 1)) e3 e4 al1 rfl
  generalize q2 : upd H1 p (.ins C dx1 (wf (.ref rl) (.ref L) (oV (Wm.waitS r.R s (t - 1)).si) (.int y) (.int t))) = H2 at *
  have F12 : Fr p L H1 H2 := q2 ▸ Fr.setp
  have F2 : Fr p L H H2 := F1.trans F12
  have lt2 := F12.lt hw1 b1L lt1
  obtain ⟨ws, e5, alT⟩ := lt2.ex
  obtain ⟨dx2, es2, e6, e7, al2⟩ := hw2.ex
  have hl2 := Wm.waitS_len r.R s (t - 1)
  refine ⟨_, rfl, .inl ⟨rfl, _, SqL.of e5⟩, _, rfl, p, dx2, _, rfl, e6, no (by decide +kernel) (by decide +kernel) (by decide +kernel) (by decide +kernel) (by decide +kernel), p, L, rl, _, y, t, r, rfl, hw2, hw.tup F2 er, by omega, fun b2 H3 hw3 F3 nb2 lt3 => ?_⟩
  have lt4 := F3.lt hw2 b1L lt2
  obtain ⟨ws1, e8, alT1⟩ := lt4.ex
  obtain ⟨ws2, e9, alT2⟩ := lt3.ex
  have l1 : ws1.length ≤ 1 := by
    rw [alT1.length]
    unfold Wm.waitT
    cases s.si with
    | none => simp
    | some a => simp only; split <;> simp
  have l2 : ws2.length ≤ 1 := by
    rw [alT2.length]
    unfold Wm.takeT
    split
    · split <;> simp
    · split
      · simp
      · unfold Wm.waitT; simp only; split <;> simp
  refine ⟨b1, b2, ws1, ws2, rfl, rfl, e8, e9, Nat.le_trans (show ws1.length + ws2.length ≤ 2 by omega) (by decide), ?_⟩
  refine ⟨_, rfl, k b1 _ ?_ ?_ nb1 ?_⟩
  · obtain ⟨dx4, es4, g1, g2, g3⟩ := hw3.ex
    refine ⟨dx4, es4, (upd_ne (Ne.symm b1p)).trans g1, (upd_ne (Ne.symm b1L)).trans g2, g3.imp fun q xs eq => (upd_ne fun z => ?_).trans eq⟩
    rw [z, e8] at eq
    cases eq
  · intro b o n1 n2 e
    exact (upd_ne (ne_of_none e nb1)).trans (F3 b o n1 n2 (F2 b o n1 n2 e))
  · refine ⟨_, upd_same, (alT1.append alT2).imp fun q xs eq => (upd_ne fun z => ?_).trans eq⟩
    rw [z, e8] at eq
    cases eq
def spGo (C : Addr) : Sp := fun vs H Q _ => ∃ p L rl s wo ti r t, vs = [.ref p, .int t] ∧ WAt C H p L rl s wo ti ∧ H rl = some (.tup (fR r)) ∧ s.ev.length ≤ 50000 ∧
  (0 ≤ t ∧ t ≤ 9999) ∧ Lt ti (fun t0 => t0 ≤ t) ∧
  ∀ b H', WAt C H' p L rl (Wm.waitS r.R s t) wo (.int t) → Fr p L H H' → H b = none → LT fT H' b (Wm.waitT r.R s t) → Q (.ref b) H'
theorem d_go (W : WC K C) (A : AtMt K C "go_on" "Watch.go_on" mWatch_GoOn) (dc : Def P w K mg base "check_time" 5 ["thing"] (spIn 0 9999))
    (dw : DefM P w K mg base C "_wait_until" 1 ["self", "time"] (spWait C)) : DefM P w K mg base C "go_on" 6 ["self", "time"] (spGo C) := by
  refine mkDefM A scmWatch_GoOn (fun _ _ _ _ _ _ us hl => match us, hl with | [_, _], _ => rfl) (fun vs H Q E ⟨_, _, _, _, _, _, _, _, e, _⟩ => by rw [e]; rfl)
    (fun f cdv A out s H vs Q E hr h => ?_)
  obtain ⟨p, L, rl, s, wo, ti, r, t, rfl, hw, er, hlen, ht, hlt, k⟩ := h
  obtain ⟨dx, es, e1, e2, al⟩ := hw.ex
  refine ⟨_, (pss_cons (ps_expr (pe_d dc hr (by decide) (by rfl) (pa_cons (pv 1) pa_nil)))
    (pss_cons (ps_if (PW.pt (pw_and (pt_cmpR op_notN (pe_fld (pv 0) rfl) pe_non (nomark _)) (pw_and1 (pt_cmpR op_lt (pv 1) (pe_fld (pv 0) rfl) (nomark _)))))
      (pss_one ps_never)
      pss_nil)
    (pss_cons (ps_fld (pv 0) (pv 1) rfl)
    (pss_one (ps_ret (pe_mm (pv 0) W.cl dw hr (by decide) (pa_cons (pv 1) pa_nil))))))), ?_⟩
  have no : ∀ {si wo ti : V} {m : Str}, (m == ("_rule" : Str)) = false → (m == ("_events" : Str)) = false → (m == ("_since" : Str)) = false → (m == ("_worth" : Str)) = false →
    (m == ("_time" : Str)) = false → (wf (.ref rl) (.ref L) si wo ti).lookup m = none := fun h1 h2 h3 h4 h5 => wf_no h1 h2 h3 h4 h5
  refine ⟨_, rfl, t, rfl, ht.1, ht.2, ?_⟩
  refine ⟨_, rfl, p, C, dx, _, _, rfl, e1, W.cl, W.nT, wf_time, rfl, ?_⟩
  have test : ∀ (F : Bool → Hp → Prop), F false H → ∃ k, V.bl (!decide (ti = V.non)) = V.bl k ∧
      (if k = true then tOp (rI0 fun i j => V.bl (decide (i < j))) (tVar 1) (tFld K (tVar 0) "_time") [some (.ref p), some (.int t)] H (fun v H1 => ∃ k, v = .bl k ∧ F k H1) else F false H) := by
    intro F hF
    rcases hlt with rfl | ⟨t0, rfl, h0⟩
    · exact ⟨false, rfl, iteF hF⟩
    · refine ⟨true, rfl, iteT ?_⟩
      exact ⟨_, rfl, _, rfl, p, C, dx, _, _, rfl, e1, W.cl, W.nT, wf_time, t, t0, rfl, rfl, false, congrArg V.bl (decide_eq_false (by omega)), hF⟩
  refine test _ ?_
  refine iteF ?_
  clear test
  refine ⟨_, rfl, _, rfl, p, C, dx, _, rfl, e1, W.cl, W.nT, wf_len, ?_⟩
  rw [put_time]
  have hw2 : WAt C (upd H p (.ins C dx (wf (.ref rl) (.ref L) (oV s.si) wo (.int t)))) p L rl s wo (.int t) := WAt.put (s := s) e1 e2 al rfl
  generalize q2 : upd H p (.ins C dx (wf (.ref rl) (.ref L) (oV s.si) wo (.int t))) = H2 at *
  have F2 : Fr p L H H2 := q2 ▸ Fr.setp
  obtain ⟨dx2, es2, e6, e7, al2⟩ := hw2.ex
  refine ⟨_, rfl, p, dx2, _, rfl, e6, no (by decide +kernel) (by decide +kernel) (by decide +kernel) (by decide +kernel) (by decide +kernel), _, rfl, p, L, rl, s, wo, _, r, t, rfl, hw2, hw.tup F2 er, by omega, fun b H3 hw3 F3 nb lt => ?_⟩
  exact k b H3 hw3 (F2.trans F3) (Fr.no F2 hw2 nb) lt
def spEvs (C : Addr) : Sp := fun vs H Q _ => ∃ p L rl s wo ti, vs = [.ref p] ∧ WAt C H p L rl s wo ti ∧
  ∀ b H', Same H H' → H b = none → LT fE H' b s.ev → Q (.ref b) H'
theorem d_evs (T : Txt mg) (W : WC K C) (A : AtMt K C "events" "Watch.events" mWatch_Events) : DefM P w K mg base C "events" 1 ["self"] (spEvs C) := by
  refine mkDefM A scmWatch_Events (fun _ _ _ _ _ _ us hl => match us, hl with | [_], _ => rfl) (fun vs H Q E ⟨_, _, _, _, _, _, e, _⟩ => by rw [e]; rfl)
    (fun f cdv A out s H vs Q E hr h => ?_)
  obtain ⟨p, L, rl, s, wo, ti, rfl, hw, k⟩ := h
  obtain ⟨dx, es, e1, e2, al⟩ := hw.ex
  refine ⟨_, (pss_one (ps_ret (pe_callTy call_list_of (by rfl) T.list (by decide +kernel) (pa_cons (pe_fld (pv 0) rfl) pa_nil)))), ?_⟩
  refine ⟨_, rfl, p, C, dx, _, _, rfl, e1, W.cl, W.nE, wf_events, L, es, rfl, .inl (SqL.of e2), fun b nb => ?_⟩
  exact k b _ (Same.laid nb) nb ⟨es, upd_same, al.same (Same.laid nb)⟩
def spState (C : Addr) : Sp := fun vs H Q _ => ∃ p L rl s wo ti, vs = [.ref p] ∧ WAt C H p L rl s wo ti ∧ s.ev.length ≤ 100000 ∧
  ∀ b H', Same H H' → H b = none → H' b = some (.tup (fS (Wm.told s))) → Q (.ref b) H'
theorem d_state (T : Txt mg) (W : WC K C) (A : AtMt K C "state" "Watch.state" mWatch_State) (ds : DefM P w K mg base C "_stands" 1 ["self"] (spStands C)) :
    DefM P w K mg base C "state" 2 ["self"] (spState C) := by
  refine mkDefM A scmWatch_State (fun _ _ _ _ _ _ us hl => match us, hl with | [_], _ => rfl) (fun vs H Q E ⟨_, _, _, _, _, _, e, _⟩ => by rw [e]; rfl)
    (fun f cdv A out s H vs Q E hr h => ?_)
  obtain ⟨p, L, rl, s, wo, ti, rfl, hw, hlen, k⟩ := h
  obtain ⟨dx, es, e1, e2, al⟩ := hw.ex
  refine ⟨_, (pss_cons (ps_if (pt_val (pe_mm0 (pv 0) W.cl ds hr (by decide)))
      (pss_one (ps_ret (pe_tup (pa_cons pe_str (pa_cons (pe_ix ix_tup (pe_ix ix_list (pe_fld (pv 0) rfl) (pe_un un_neg pe_int) (fun _ _ => rfl)) pe_int (fun _ _ => rfl)) pa_nil)))))
      pss_nil)
    (pss_cons (ps_if (pt_cmpR op_notN (pe_fld (pv 0) rfl) pe_non (nomark _))
      (pss_one (ps_ret (pe_tup (pa_cons pe_str (pa_cons (pe_fld (pv 0) rfl) pa_nil)))))
      pss_nil)
    (pss_one (ps_ret (pe_tup (pa_cons pe_str (pa_cons pe_non pa_nil))))))), ?_⟩
  refine ⟨_, rfl, p, dx, _, rfl, e1, wf_no (by decide +kernel) (by decide +kernel) (by decide +kernel) (by decide +kernel) (by decide +kernel), p, L, rl, s, _, _, rfl, hw, hlen, _, rfl, ?_⟩
  unfold Wm.told at k
  cases hs : Wm.stnd s.ev with
  | true =>
    rw [hs] at k
    simp only [if_true] at k
    refine iteT ?_
    have h0 : s.ev ≠ [] := fun z => by rw [z] at hs; cases hs
    obtain ⟨ev', ⟨a, o⟩, e4⟩ := last_of s.ev h0
    have eo : Wm.lastR s.ev = a := by
      rw [e4]
      unfold Wm.lastR
      rw [List.getLast?_concat]
    rw [e4] at al
    obtain ⟨es', q, rfl, al', eq⟩ := Al.last al
    refine ⟨_, rfl, p, C, dx, _, _, rfl, e1, W.cl, W.nE, wf_events, 1, rfl, L, _, -1, .ref q, rfl, rfl, SqL.of e2, atI_last _ _, q, _, 0, .int a, rfl, rfl, SqT.of eq, rfl, by show 2 ≤ sizeLine; decide, fun b nb => ?_⟩
    refine k b _ (Same.laid nb) nb ?_
    rw [upd_same, eo]
    rfl
  | false =>
    rw [hs] at k
    simp only [Bool.false_eq_true, if_false] at k
    refine iteF ?_
    refine ⟨_, rfl, p, C, dx, _, _, rfl, e1, W.cl, W.nS, wf_since, rfl, ?_⟩
    cases hsi : s.si with
    | none =>
      rw [hsi] at k
      refine ⟨false, rfl, iteF ?_⟩
      exact ⟨by show 2 ≤ sizeLine; decide, fun b nb => k b _ (Same.laid nb) nb upd_same⟩
    | some a =>
      rw [hsi] at k e1
      refine ⟨true, rfl, iteT ?_⟩
      exact ⟨_, rfl, p, C, dx, _, _, rfl, e1, W.cl, W.nS, wf_since, by show 2 ≤ sizeLine; decide, fun b nb => k b _ (Same.laid nb) nb upd_same⟩
end
end W24

namespace W24
open PySem PySem.Spec PyProof.Rows L2 Pw
theorem put_end {f g : Str} {v x : V} (h : (g == f) = false) : putF f v [(g, x)] = [(g, x), (f, v)] := by
  rw [put_ne h]
  rfl
theorem pr_take (gs : List R3) (i : Nat) : (pr gs).take i = pr (gs.take i) := by
  unfold pr
  rw [List.map_take]
section
variable {P : Program} {w : World} {K : PySem.W.Frag} {mg : Str → Option Value} {base : Heap} {C : Addr}
def spInit (C : Addr) : Sp := fun vs H Q _ => ∃ p dx rl r, vs = [.ref p, .ref rl] ∧ H p = some (.ins C dx []) ∧ H rl = some (.tup (fR r)) ∧ GoodRl r ∧
  ∀ L H', WAt C H' p L rl Wm.init .non .non → (∀ b o, b ≠ p → H b = some o → H' b = some o) → H L = none → Q .non H'
theorem d_init (W : WC K C) {f : Addr} {fd : FuncData} (hm : mg "Watch" = some (.ref C)) (M : Mk K C f) (F : Fun K "__init__" "Watch.__init__" mWatch_Init f fd)
    (dc : Def P w K mg base "_check_rule" 7 ["thing"] (spRuleC K)) : DefI P w K mg base "Watch" C 8 ["self", "rule"] (spInit C) := by
  refine mkDefI hm M F scmWatch_Init (fun _ _ _ _ _ _ us hl => match us, hl with | [_, _], _ => rfl) (fun vs H Q E ⟨_, _, _, _, e, _⟩ => by rw [e]; rfl)
    (fun f cdv A out s H vs Q E hr h => ?_)
  obtain ⟨p, dx, rl, r, rfl, ep, er, g, k⟩ := h
  refine ⟨_, (pss_cons (ps_expr (pe_d dc hr (by decide) (by rfl) (pa_cons (pv 1) pa_nil)))
    (pss_cons (ps_fld (pv 0) (pv 1) rfl)
    (pss_cons (ps_fld (pv 0) (pe_lst pa_nil) rfl)
    (pss_cons (ps_fld (pv 0) pe_non rfl)
    (pss_cons (ps_fld (pv 0) pe_non rfl)
    (pss_one (ps_fld (pv 0) pe_non rfl))))))), ?_⟩
  refine ⟨_, rfl, rl, r, rfl, er, g, fun H1 S1 => ?_⟩
  have e1 := S1 _ _ ep
  refine ⟨_, rfl, _, rfl, p, C, dx, _, rfl, e1, W.cl, W.nR, by show 0 < 1000; decide, ?_⟩
  generalize q2 : upd H1 p (.ins C dx (putF "_rule" (.ref rl) [])) = H2
  have e2 : H2 p = some (.ins C dx [("_rule", .ref rl)]) := q2 ▸ upd_same
  have T2 : ∀ b o, b ≠ p → H1 b = some o → H2 b = some o := fun b o n e => by rw [← q2, upd_ne n]; exact e
  refine ⟨by show 0 ≤ sizeLine; decide, fun L nL => ?_⟩
  have Lp : L ≠ p := fun z => by rw [z, e2] at nL; cases nL
  refine ⟨_, rfl, p, C, dx, _, rfl, (upd_ne (Ne.symm Lp)).trans e2, W.cl, W.nE, by show 1 < 1000; decide, ?_⟩
  rw [put_end (by decide +kernel)]
  refine ⟨_, rfl, p, C, dx, _, rfl, upd_same, W.cl, W.nS, by show 2 < 1000; decide, ?_⟩
  rw [put_ne (by decide +kernel), put_end (by decide +kernel), upd_upd]
  refine ⟨_, rfl, p, C, dx, _, rfl, upd_same, W.cl, W.nW, by show 3 < 1000; decide, ?_⟩
  rw [put_ne (by decide +kernel), put_ne (by decide +kernel), put_end (by decide +kernel), upd_upd]
  refine ⟨_, rfl, p, C, dx, _, rfl, upd_same, W.cl, W.nT, by show 4 < 1000; decide, ?_⟩
  rw [put_ne (by decide +kernel), put_ne (by decide +kernel), put_ne (by decide +kernel), put_end (by decide +kernel), upd_upd]
  refine k L _ ⟨dx, [], upd_same, (upd_ne Lp).trans upd_same, .nil⟩ (fun b o n e => ?_) ?_
  · have e3 := T2 b o n (S1 b o e)
    exact (upd_ne n).trans ((upd_ne (ne_of_none e3 nL)).trans e3)
  · cases z : H L with
    | none => rfl
    | some o =>
      have e3 := T2 L o Lp (S1 L o z)
      rw [e3] at nL
      cases nL
/-- what is told of a rule, signs and a time -/
def evM (r : Rl) (rs : List R3) (T : Int) : Wm.S := Wm.waitS r.R (Wm.runS r.R (sg rs T)) T
theorem evM_len {r : Rl} {rs : List R3} (hg : GoodH rs) (T : Int) : (evM r rs T).ev.length ≤ 50000 := by
  have h0 := Wm.waitS_len r.R (Wm.runS r.R (sg rs T)) T
  have h3 := Wm.runS_len r.R _ (sg rs T) rfl
  have h1 := List.length_filter_le (fun x : Int × Int => decide (x.1 ≤ T)) (pr (goods rs))
  have h2 : (pr (goods rs)).length ≤ 1000 := by
    unfold pr
    rw [List.length_map]
    exact Nat.le_trans (List.length_filter_le _ _) hg.len
  unfold evM
  unfold sg at h3
  unfold sg at h0
  unfold sg
  omega
end
end W24

namespace W24
open PySem PySem.Spec PyProof.Rows L2 Pw
/-! ### the law's own helpers -/
inductive Flat : V → Prop where
  | non : Flat .non
  | bl (b : Bool) : Flat (.bl b)
  | int (i : Int) : Flat (.int i)
  | str (s : Str) : Flat (.str s)
/-- both are the same, within so many lists and tuples -/
def Sim (H : Hp) : Nat → V → V → Prop
  | 0, x, y => x = y ∧ Flat x
  | d + 1, x, y => (x = y ∧ Flat x) ∨ ∃ (a b : Addr) (xs ys : List V), x = .ref a ∧ y = .ref b ∧ ((H a = some (.lst xs) ∧ H b = some (.lst ys)) ∨ (H a = some (.tup xs) ∧ H b = some (.tup ys))) ∧
      xs.length = ys.length ∧ xs.length ≤ 100000 ∧ ∀ (i : Nat) (u v : V), xs[i]? = some u → ys[i]? = some v → Sim H d u v
theorem Sim.same {H H' : Hp} (S : Same H H') : ∀ {d : Nat} {x y : V}, Sim H d x y → Sim H' d x y
  | 0, _, _, h => h
  | d + 1, _, _, Or.inl h => Or.inl h
  | d + 1, _, _, Or.inr ⟨a, b, xs, ys, e1, e2, h, l1, l2, k⟩ => Or.inr ⟨a, b, xs, ys, e1, e2, h.imp (fun z => ⟨S _ _ z.1, S _ _ z.2⟩) (fun z => ⟨S _ _ z.1, S _ _ z.2⟩), l1, l2,
      fun i u v h1 h2 => Sim.same S (k i u v h1 h2)⟩
theorem Sim.flat {H : Hp} {d : Nat} {x : V} (h : Flat x) : Sim H d x x := by
  cases d with
  | zero => exact ⟨rfl, h⟩
  | succ d => exact Or.inl ⟨rfl, h⟩
theorem Sim.tup {H : Hp} {d : Nat} {a b : Addr} {xs : List V} (h1 : H a = some (.tup xs)) (h2 : H b = some (.tup xs)) (hl : xs.length ≤ 100000) (hf : ∀ x ∈ xs, Flat x) : Sim H (d + 1) (.ref a) (.ref b) :=
  Or.inr ⟨a, b, xs, xs, rfl, rfl, .inr ⟨h1, h2⟩, rfl, hl, fun i u v e1 e2 => by
    rw [e1] at e2
    cases e2
    exact Sim.flat (hf u (List.mem_of_getElem? e1))⟩
theorem Sim.lt {α : Type} {f : α → List V} {H : Hp} {d : Nat} {a b : Addr} {rs : List α} (h1 : LT f H a rs) (h2 : LT f H b rs) (hl : rs.length ≤ 100000) (hf : ∀ r, ∀ x ∈ f r, Flat x)
    (hn : ∀ r, (f r).length ≤ 100) : Sim H (d + 2) (.ref a) (.ref b) := by
  obtain ⟨v1, e1, a1⟩ := h1.ex
  obtain ⟨v2, e2, a2⟩ := h2.ex
  refine Or.inr ⟨a, b, v1, v2, rfl, rfl, .inl ⟨e1, e2⟩, a1.length.trans a2.length.symm, by rw [a1.length]; exact hl, fun i u v h h' => ?_⟩
  obtain ⟨p, r, rfl, hr, ep⟩ := a1.get h
  obtain ⟨q, r', rfl, hr', eq⟩ := a2.get h'
  rw [hr] at hr'
  cases hr'
  exact Sim.tup ep eq (Nat.le_trans (hn r) (by decide)) (hf r)
theorem fE_flat (r : Wm.Ev) : ∀ x ∈ fE r, Flat x := by
  intro x hx
  unfold fE at hx
  simp only [List.mem_cons, List.not_mem_nil, or_false] at hx
  rcases hx with rfl | rfl
  · exact .int _
  · cases r.2 with
    | none => exact .non
    | some i => exact .int i
theorem fS_flat (r : Nat × Option Int) : ∀ x ∈ fS r, Flat x := by
  intro x hx
  unfold fS at hx
  simp only [List.mem_cons, List.not_mem_nil, or_false] at hx
  rcases hx with rfl | rfl
  · exact .str _
  · cases r.2 with
    | none => exact .non
    | some i => exact .int i
section
variable {P : Program} {w : World} {K : PySem.W.Frag} {mg : Str → Option Value} {base : Heap}
def spCellAt (K : PySem.W.Frag) : Sp := fun vs H Q _ => ∃ (a : Addr) (ns : List Int) (k : Int), vs = [.ref a, .int k] ∧ SqL K H a (ns.map V.int) ∧ ns.length ≤ 63 ∧
  0 ≤ k ∧ k ≤ 100 ∧ ∀ c, Q (.int c) H
theorem d_cellAt (T : Txt mg) (A : At K mg "_law_cell_at" sLawCellAt) : Def P w K mg base "_law_cell_at" 1 ["_law_script", "_law_k"] (spCellAt K) := by
  refine mkDef A scLawCellAt (fun _ _ _ _ _ _ us hl => match us, hl with | [_, _], _ => rfl) (fun vs H Q E ⟨a, ns, k, e, _⟩ => by rw [e]; rfl)
    (fun f cdv A out s H vs Q E hr h => ?_)
  obtain ⟨a, ns, i, rfl, hS, hl, h0, h1, k⟩ := h
  refine ⟨_, (pss_cons (ps_if (pt_cmpR op_lt (pv 1) (pe_callB call_len_seq (by rfl) T.len PySem.boot_len (pa_cons (pv 0) pa_nil)) (nomark _))
      (pss_one (ps_ret (pe_ix ix_list (pv 0) (pv 1) (fun _ _ => rfl))))
      pss_nil)
    (pss_one (ps_ret pe_int))), ?_⟩
  refine ⟨_, rfl, _, rfl, a, ns.map V.int, rfl, .inl hS, i, _, rfl, rfl, _, rfl, ?_⟩
  refine ite2 (fun hlt => ?_) (fun _ => k 0)
  have hlt' : i < ((ns.map V.int).length : Int) := of_decide_eq_true hlt
  rw [List.length_map] at hlt'
  obtain ⟨j, rfl⟩ := Int.eq_ofNat_of_zero_le h0
  have hj : j < ns.length := by omega
  refine ⟨_, rfl, _, rfl, a, ns.map V.int, (j : Int), .int ns[j], rfl, rfl, hS, ?_, k _⟩
  exact atI_nat (by simp [hj])

/-- a list of drawn numbers -/
structure Row (H : Hp) (b : Addr) (n : Nat) : Prop where
  ex : ∃ ns : List Int, H b = some (.lst (ns.map V.int)) ∧ ns.length = n ∧ ∀ x ∈ ns, 0 ≤ x
theorem Row.same {H H' : Hp} {b : Addr} {n : Nat} (h : Row H b n) (S : Same H H') : Row H' b n :=
  let ⟨ns, e, l, p⟩ := h.ex
  ⟨ns, S _ _ e, l, p⟩
theorem Row.at {H : Hp} {b : Addr} {n : Nat} (h : Row H b n) (i : Nat) (hi : i < n) : ∃ xs x, H b = some (.lst xs) ∧ atI xs (i : Int) = some (.int x) ∧ 0 ≤ x := by
  obtain ⟨ns, e, l, p⟩ := h.ex
  subst l
  exact ⟨_, ns[i], e, atI_nat (by simp [hi]), p _ (List.getElem_mem hi)⟩
def spRowL (K : PySem.W.Frag) : Sp := fun vs H Q _ => ∃ c m z : Int, vs = [.int c, .int m, .int z] ∧ (0 ≤ m ∧ m ≤ 60) ∧ (0 ≤ z ∧ z ≤ 100) ∧
  ∀ b H', Same H H' → H b = none → Row H' b m.toNat → Q (.ref b) H'
theorem d_rowL (T : Txt mg) (A : At K mg "_law_row" sLawRow) : Def P w K mg base "_law_row" 1 ["_law_cell", "_law_many", "_law_salt"] (spRowL K) := by
  refine mkDef A scLawRow (fun _ _ _ _ _ _ us hl => match us, hl with | [_, _, _], _ => rfl) (fun vs H Q E ⟨_, _, _, e, _⟩ => by rw [e]; rfl)
    (fun f cdv A out s H vs Q E hr h => ?_)
  obtain ⟨c, m, z, rfl, hm, hz, k⟩ := h
  refine ⟨_, (pss_cons (ps_set (i := 3) scLawRow.nd rfl (.inl rfl) (pe_lst pa_nil))
    (pss_cons (ps_set (i := 4) scLawRow.nd rfl (.inl rfl) pe_int)
    (pss_cons (ps_if (pt_cmpR op_ge (pe_callB call_abs (by rfl) T.abs (by decide +kernel) (pa_cons (pv 0) pa_nil)) (pe_op op_pow pe_int pe_int) (nomark _))
      (pss_one (ps_set (i := 4) scLawRow.nd rfl (.inl rfl) (pe_callB call_abs (by rfl) T.abs (by decide +kernel) (pa_cons (pv 0) pa_nil))))
      pss_nil)
    (pss_cons (ps_for PassesOwn.never rfl (pi_range1 (by rfl) T.range (pa_cons (pv 1) pa_nil)) (pg_name (i := 5) scLawRow.nd rfl (.inl rfl))
      (pss_one (ps_if (pt_cmpR op_gt (pv 4) pe_int (nomark _))
        (pss_cons (ps_expr (pe_bm PySem.F.plainAttrs_list PySem.F.slot_list_append PySem.F.type_list_append mt_append (pv 3) (pa_cons (pe_op op_mod (pv 4) pe_int) pa_nil)))
        (pss_one (ps_set (i := 4) scLawRow.nd rfl (.inl rfl) (pe_op op_fdiv (pv 4) pe_int))))
        (pss_cons (ps_set (i := 6) scLawRow.nd rfl (.inl rfl) (pe_op op_add (pe_op op_add (pe_op op_mul (pe_op op_add (pe_op op_mod (pv 0) pe_int) pe_int) (pe_op op_add (pv 2) (pe_op op_mul pe_int (pv 5)))) (pe_op op_mul pe_int (pv 5))) (pv 2)))
        (pss_cons (ps_set (i := 6) scLawRow.nd rfl (.inl rfl) (pe_op op_mod (pe_op op_pow (pe_op op_mod (pv 6) pe_int) pe_int) pe_int))
        (pss_one (ps_expr (pe_bm PySem.F.plainAttrs_list PySem.F.slot_list_append PySem.F.type_list_append mt_append (pv 3) (pa_cons (pe_op op_fdiv (pe_op op_mod (pe_op op_pow (pe_op op_add (pv 6) (pv 5)) pe_int) pe_int) pe_int) pa_nil)))))))))
    (pss_one (ps_ret (pv 3))))))), ?_⟩
  refine ⟨by show 0 ≤ sizeLine; decide, fun R nR => ?_⟩
  refine ⟨_, rfl, c, rfl, 10, 18, rfl, rfl, ⟨by decide, by decide, by decide⟩, _, _, rfl, rfl, _, rfl, ?_⟩
  refine ite2 (fun _ => ⟨_, rfl, c, rfl, ?_⟩) (fun _ => ?_)
  all_goals
    refine ⟨_, rfl, m, rfl, by omega, by omega, for_range (n := m.toNat) (fun i σ G => ∃ (rest : Int) (v5 v6 : Option V) (ns : List Int),
      σ = [some (.int c), some (.int m), some (.int z), some (.ref R), some (.int rest), v5, v6] ∧ 0 ≤ rest ∧ Same H G ∧ G R = some (.lst (ns.map V.int)) ∧ ns.length = i ∧ ∀ x ∈ ns, 0 ≤ x) ?_ ?_ ?_⟩
    · exact ⟨_, none, none, [], rfl, (by first | omega | (split <;> omega)), Same.laid nR, upd_same, rfl, fun _ h => by cases h⟩
    · rintro i σ G hi ⟨rest, v5, v6, ns, rfl, hrest, S, eR, hl, hp⟩
      have hsz : (ns.map V.int).length < sizeLine := by
        rw [List.length_map]
        exact Nat.lt_of_le_of_lt (show ns.length ≤ 100 by omega) (by decide)
      have fin : ∀ (x : Int), 0 ≤ x → ∀ (rest' : Int) (v6' : Option V), 0 ≤ rest' → ∃ (rest : Int) (v5 v6 : Option V) (ns' : List Int),
          [some (V.int c), some (.int m), some (.int z), some (.ref R), some (.int rest'), some (.int (0 + (i : Int))), v6'] = [some (.int c), some (.int m), some (.int z), some (.ref R), some (.int rest), v5, v6] ∧
          0 ≤ rest ∧ Same H (upd G R (.lst (ns.map V.int ++ [.int x]))) ∧ upd G R (.lst (ns.map V.int ++ [.int x])) R = some (.lst (ns'.map V.int)) ∧ ns'.length = i + 1 ∧ ∀ x ∈ ns', 0 ≤ x := by
        intro x hx rest' v6' hr'
        refine ⟨rest', _, _, ns ++ [x], rfl, hr', Same.wo_upd S nR, ?_, ?_, ?_⟩
        · rw [upd_same, List.map_append]
          rfl
        · rw [List.length_append, List.length_singleton, hl]
        · intro y hy
          rcases List.mem_append.mp hy with h | h
          · exact hp y h
          · simp only [List.mem_singleton] at h
            rw [h]
            exact hx
      refine ⟨_, rfl, rest, 0, rfl, rfl, _, rfl, ?_⟩
      refine ite2 (fun _ => ?_) (fun _ => ?_)
      · refine ⟨_, rfl, .inl ⟨rfl, _, SqL.of eR⟩, _, rfl, rest, 1000003, rfl, rfl, (by decide : (0 : Int) < 1000003), R, _, _, rfl, rfl, eR, hsz, ?_⟩
        refine ⟨_, rfl, _, _, rfl, rfl, ⟨by decide, by decide⟩, ?_⟩
        exact fin _ (Int.emod_nonneg _ (by decide)) _ _ (Int.ediv_nonneg hrest (by decide))
      · have h1 := Int.emod_nonneg c (by decide : (2147483629 : Int) ≠ 0)
        have h2 := Int.emod_lt_of_pos c (by decide : (0 : Int) < 2147483629)
        refine ⟨_, rfl, c, 2147483629, rfl, rfl, (by decide : (0 : Int) < 2147483629), _, _, rfl, rfl, _, rfl, _, rfl, _, _, rfl, rfl, .inl ⟨by decide, by decide⟩, _, _, rfl, rfl, _, _, rfl, rfl, .inl ⟨by omega, by omega⟩,
          _, rfl, _, _, rfl, rfl, .inl ⟨by decide, by decide⟩, _, _, rfl, rfl, _, rfl, _, _, rfl, rfl, ?_⟩
        generalize hu : ((c % 2147483629 + 1) * (z + 48271 * (0 + (i : Int))) + 69621 * (0 + (i : Int)) + z) = u
        have h3 := Int.emod_nonneg u (by decide : (2147483647 : Int) ≠ 0)
        have h4 := Int.emod_lt_of_pos u (by decide : (0 : Int) < 2147483647)
        refine ⟨_, rfl, u, 2147483647, congrArg V.int hu, rfl, (by decide : (0 : Int) < 2147483647), _, _, rfl, rfl, ⟨by decide, by decide, by omega⟩, _, _, rfl, rfl, (by decide : (0 : Int) < 2147483647), ?_⟩
        have h5 := Int.emod_nonneg ((u % 2147483647) ^ (5 : Int).toNat) (by decide : (2147483647 : Int) ≠ 0)
        have h6 := Int.emod_lt_of_pos ((u % 2147483647) ^ (5 : Int).toNat) (by decide : (0 : Int) < 2147483647)
        generalize (u % 2147483647) ^ (5 : Int).toNat % 2147483647 = y at *
        refine ⟨_, rfl, .inl ⟨rfl, _, SqL.of eR⟩, _, rfl, _, rfl, _, _, rfl, rfl, _, _, rfl, rfl, ⟨by decide, by decide, by omega⟩, _, _, rfl, rfl, (by decide : (0 : Int) < 2147483629), _, _, rfl, rfl, ⟨by decide, by decide⟩, R, _, _, rfl, rfl, eR, hsz, ?_⟩
        exact fin _ (Int.ediv_nonneg (Int.emod_nonneg _ (by decide)) (by decide)) _ _ hrest
    · rintro σ G ⟨rest, v5, v6, ns, rfl, hrest, S, eR, hl, hp⟩
      exact ⟨_, rfl, k R G S nR ⟨ns, eR, hl, hp⟩⟩
end
end W24

namespace W24
open PySem PySem.Spec PyProof.Rows L2 Pw
section
variable {P : Program} {w : World} {K : PySem.W.Frag} {mg : Str → Option Value} {base : Heap}
def spAlike (d : Nat) : Sp := fun vs H Q _ => match d with
  | 0 => False
  | d + 1 => ∃ x y, vs = [x, y] ∧ Sim H d x y ∧ ∀ H', Same H H' → Q (.bl true) H'
theorem kit_no {t : Value} {a : String} (b : String) (h : t = .type a) (e : PySem.W.kitOne K (.type a) (.type b) = some false) : PySem.W.kitOne K t (.type b) = some false := by
  rw [h]
  exact e
theorem d_alike (T : Txt mg) (A : At K mg "_law_alike" sLawAlike) : ∀ d : Nat, Def P w K mg base "_law_alike" (1 + d) ["_law_found", "_law_due"] (spAlike d)
  | 0 => At.any A (fun _ _ _ _ _ _ us hl => match us, hl with | [_, _], _ => rfl) 1 (spAlike 0) fun _ _ _ _ h => h
  | d + 1 => by
    have dA := d_alike T A d
    refine mkDef A scLawAlike (fun _ _ _ _ _ _ us hl => match us, hl with | [_, _], _ => rfl) (fun vs H Q E h => by obtain ⟨_, _, e, _⟩ := h; rw [e]; rfl)
      (fun f cdv A out s H vs Q E hr h => ?_)
    obtain ⟨x, y, rfl, hs, k⟩ := h
    -- a flat thing
    have flat : x = y ∧ Flat x → ∃ t, PSs (cxOf CX0 P w K mg base ["_law_found", "_law_due", "_law_name", "_law_k"] "_law_alike" (defScope sLawAlike) f cdv A out s H E).nox (defBody sLawAlike) t ∧
        t { nx := fun _ H' => Q .non H', rt := Q } (start ["_law_found", "_law_due", "_law_name", "_law_k"] [x, y]) H := by
      rintro ⟨rfl, hf⟩
      refine ⟨_, (pss_cons (ps_if (pt_cmpR op_isN (pv 1) pe_non (nomark _))
          (pss_one (ps_ret (pe_cmpR op_isN (pv 0) pe_non (nomark _))))
          pss_nil)
        (pss_cons (ps_if (pt_val (pe_is T.isinstance (by rfl) (pv 1) T.bool (by rfl) (Tn := "bool") (by decide +kernel)))
          (pss_one (ps_ret (pe_and (pe_is T.isinstance (by rfl) (pv 0) T.bool (by rfl) (Tn := "bool") (by decide +kernel)) (pe_one (pe_cmpR op_eq (pv 0) (pv 1) (nomark _))))))
          pss_nil)
        (pss_cons (ps_if (pt_val (pe_is T.isinstance (by rfl) (pv 1) T.int (by rfl) (Tn := "int") (by decide +kernel)))
          (pss_one (ps_ret (pe_and (pe_is T.isinstance (by rfl) (pv 0) T.int (by rfl) (Tn := "int") (by decide +kernel)) (pe_and (pe_not (pe_is T.isinstance (by rfl) (pv 0) T.bool (by rfl) (Tn := "bool") (by decide +kernel))) (pe_one (pe_cmpR op_eq (pv 0) (pv 1) (nomark _)))))))
          pss_nil)
        (pss_cons (ps_if (pt_val (pe_is T.isinstance (by rfl) (pv 1) T.str (by rfl) (Tn := "str") (by decide +kernel)))
          (pss_one (ps_ret (pe_and (pe_is T.isinstance (by rfl) (pv 0) T.str (by rfl) (Tn := "str") (by decide +kernel)) (pe_one (pe_cmpR op_eq (pv 0) (pv 1) (nomark _))))))
          pss_nil)
        (pss_cons ps_never (pss_cons ps_never (pss_cons ps_never (pss_one ps_never)))))))), ?_⟩
      have q := k H (Same.refl _)
      refine ⟨_, rfl, rfl, _, rfl, ?_⟩
      cases hf with
      | non => exact iteT ⟨_, rfl, rfl, q⟩
      | bl b =>
        refine iteF ⟨_, rfl, .bl b, .ty "bool", _, .type "bool", true, rfl, .ty "bool", (Ty.bl b).q (K := K), (Ty.bl (K := K) (H := H) b).isBool, true, rfl, iteT ?_⟩
        refine ⟨_, rfl, .bl b, .ty "bool", _, .type "bool", true, rfl, .ty "bool", (Ty.bl b).q (K := K), (Ty.bl (K := K) (H := H) b).isBool, true, rfl, iteT ?_⟩
        refine ⟨_, rfl, _, rfl, rfl, ?_⟩
        show Q (.bl (decide (V.bl b = V.bl b))) H
        rw [decide_eq_true rfl]
        exact q
      | int i =>
        refine iteF ⟨_, rfl, .int i, .ty "bool", _, .type "bool", false, rfl, .ty "bool", (Ty.int i).q (K := K), (Ty.int (K := K) (H := H) i).isBool, false, rfl, iteF ?_⟩
        refine ⟨_, rfl, .int i, .ty "int", _, .type "int", true, rfl, .ty "int", (Ty.int i).q (K := K), (Ty.int (K := K) (H := H) i).isInt, true, rfl, iteT ?_⟩
        refine ⟨_, rfl, .int i, .ty "int", _, .type "int", true, rfl, .ty "int", (Ty.int i).q (K := K), (Ty.int (K := K) (H := H) i).isInt, true, rfl, iteT ?_⟩
        refine ⟨_, rfl, .int i, .ty "bool", _, .type "bool", false, rfl, .ty "bool", (Ty.int i).q (K := K), (Ty.int (K := K) (H := H) i).isBool, false, rfl, true, rfl, iteT ?_⟩
        refine ⟨_, rfl, _, rfl, rfl, ?_⟩
        show Q (.bl (decide (V.int i = V.int i))) H
        rw [decide_eq_true rfl]
        exact q
      | str z =>
        refine iteF ⟨_, rfl, .str z, .ty "bool", _, .type "bool", false, rfl, .ty "bool", (Ty.str z).q (K := K), (Ty.str (K := K) (H := H) z).isBool, false, rfl, iteF ?_⟩
        refine ⟨_, rfl, .str z, .ty "int", _, .type "int", false, rfl, .ty "int", (Ty.str z).q (K := K), (Ty.str (K := K) (H := H) z).isInt, false, rfl, iteF ?_⟩
        refine ⟨_, rfl, .str z, .ty "str", _, .type "str", true, rfl, .ty "str", (Ty.str z).q (K := K), (Ty.str (K := K) (H := H) z).isStr, true, rfl, iteT ?_⟩
        refine ⟨_, rfl, .str z, .ty "str", _, .type "str", true, rfl, .ty "str", (Ty.str z).q (K := K), (Ty.str (K := K) (H := H) z).isStr, true, rfl, iteT ?_⟩
        refine ⟨_, rfl, _, rfl, rfl, ?_⟩
        show Q (.bl (decide (V.str z = V.str z))) H
        rw [decide_eq_true rfl]
        exact q
    cases d with
    | zero => exact flat hs
    | succ d =>
      rcases hs with hs | ⟨a, b, xs, ys, rfl, rfl, hab, hl1, hl2, hk⟩
      · exact flat hs
      clear flat
      have hn : ys.length ≤ 1000000 := by omega
      rcases hab with ⟨ea, eb⟩ | ⟨ea, eb⟩
      · -- lists
        refine ⟨_, (pss_cons (ps_if (pt_cmpR op_isN (pv 1) pe_non (nomark _))
            (pss_one ps_never)
            pss_nil)
          (pss_cons (ps_if (pt_val (pe_is T.isinstance (by rfl) (pv 1) T.bool (by rfl) (Tn := "bool") (by decide +kernel)))
            (pss_one ps_never)
            pss_nil)
          (pss_cons (ps_if (pt_val (pe_is T.isinstance (by rfl) (pv 1) T.int (by rfl) (Tn := "int") (by decide +kernel)))
            (pss_one ps_never)
            pss_nil)
          (pss_cons (ps_if (pt_val (pe_is T.isinstance (by rfl) (pv 1) T.str (by rfl) (Tn := "str") (by decide +kernel)))
            (pss_one ps_never)
            pss_nil)
          (pss_cons (ps_if (pt_val (pe_is T.isinstance (by rfl) (pv 1) T.dict (by rfl) (Tn := "dict") (by decide +kernel)))
            (pss_cons ps_never (pss_one ps_never))
            pss_nil)
          (pss_cons (ps_if (pt_val (pe_is T.isinstance (by rfl) (pv 1) T.tuple (by rfl) (Tn := "tuple") (by decide +kernel)))
            (pss_one ps_never)
            (pss_one (ps_if (pt_not (pt_val (pe_is T.isinstance (by rfl) (pv 0) T.list (by rfl) (Tn := "list") (by decide +kernel))))
              (pss_one ps_never)
              pss_nil)))
          (pss_cons (ps_if (pt_cmpR op_ne (pe_callB call_len_seq (by rfl) T.len PySem.boot_len (pa_cons (pv 0) pa_nil)) (pe_callB call_len_seq (by rfl) T.len PySem.boot_len (pa_cons (pv 1) pa_nil)) (nomark _))
            (pss_one ps_never)
            pss_nil)
          (pss_one (ps_ret (pe_callB (cr_all rfl) (by rfl) T.all PyProof.Rows.boot_all (pa_cons (pe_lc (own := [("_law_k", 3)]) (g := gName 3) (tt := tYes) rfl scLawAlike.nd (pi_range1 (by rfl) T.range (pa_cons (pe_callB call_len_seq (by rfl) T.len PySem.boot_len (pa_cons (pv 1) pa_nil)) pa_nil))
            (blkOk_by (own := [("_law_k", 3)]) (N := ["_law_found", "_law_due", "_law_name", "_law_k"]) (sc := defScope sLawAlike) (by decide +kernel))
            (fun _ _ _ _ _ => (pg_name (i := 3) scLawAlike.nd rfl (.inl rfl))) (fun _ _ _ _ _ => pts_nil)
            (fun _ _ _ _ _ => (pe_d dA hr (Nat.le_refl _) (by rfl) (pa_cons (pe_ix (r := rIxL K) ix_list (pv 0) (pv 3) (fun _ _ => rfl)) (pa_cons (pe_ix (r := rIxL K) ix_list (pv 1) (pv 3) (fun _ _ => rfl)) pa_nil))))) pa_nil))))))))))), ?_⟩
        have ty : Pw.Ty K H (.ref b) (.type "list") := .lst eb
        have tyA : Pw.Ty K H (.ref a) (.type "list") := .lst ea
        have eT : tupB H (.ref b) = false := by simp only [tupB, eb]
        refine ⟨_, rfl, rfl, false, rfl, iteF ?_⟩
        refine ⟨_, rfl, .ref b, .ty "bool", _, .type "bool", false, rfl, .ty "bool", ty.q, ty.isBool, false, rfl, iteF ?_⟩
        refine ⟨_, rfl, .ref b, .ty "int", _, .type "int", false, rfl, .ty "int", ty.q, ty.isInt, false, rfl, iteF ?_⟩
        refine ⟨_, rfl, .ref b, .ty "str", _, .type "str", false, rfl, .ty "str", ty.q, ty.isStr, false, rfl, iteF ?_⟩
        refine ⟨_, rfl, .ref b, .ty "dict", _, .type "dict", false, rfl, .ty "dict", ty.q, kit_ty (a := "list") (b := "dict") (r := false) (by decide +kernel), false, rfl, iteF ?_⟩
        refine ⟨_, rfl, .ref b, .ty "tuple", _, .type "tuple", false, rfl, .ty "tuple", ty.q, (eT ▸ ty.isTuple : _ = some false), false, rfl, iteF ?_⟩
        refine ⟨_, rfl, .ref a, .ty "list", _, .type "list", true, rfl, .ty "list", tyA.q, kit_ty (a := "list") (b := "list") (r := true) (by decide +kernel), true, rfl, iteF ?_⟩
        refine ⟨_, rfl, a, xs, rfl, .inl (SqL.of ea), _, rfl, b, ys, rfl, .inl (SqL.of eb), rfl, false, ?_, iteF ?_⟩
        · exact congrArg V.bl (by rw [hl1]; simp)
        refine ⟨_, rfl, b, ys, rfl, .inl (SqL.of eb), (ys.length : Int), rfl, by omega, by omega, fun D hD => ?_⟩
        refine lc_acc (walk_range (lo := 0) (n := ((ys.length : Int)).toNat)) hD (by omega) (fun i acc H => acc = (List.replicate i true).map V.bl) rfl (fun _ _ => trivial) ?_ ?_
        · rintro i v H2 H3 acc hi S2 eD hl2 rfl ⟨rfl, rfl⟩ Fy Fn hy1 _
          have hi' : i < ys.length := by omega
          have ex : xs[i]? = some (xs[i]'(by omega)) := List.getElem?_eq_getElem (by omega)
          have ey : ys[i]? = some ys[i] := List.getElem?_eq_getElem hi'
          refine ⟨rfl, ?_⟩
          unfold tYes
          refine iteT ?_
          have at0 : atI xs (0 + (i : Int)) = some (xs[i]'(by omega)) := by rw [Int.zero_add]; exact atI_nat ex
          have at1 : atI ys (0 + (i : Int)) = some ys[i] := by rw [Int.zero_add]; exact atI_nat ey
          refine ⟨_, rfl, _, rfl, a, xs, _, _, rfl, rfl, SqL.of (S2 _ _ ea), at0, _, rfl, _, rfl, b, ys, _, _, rfl, rfl, SqL.of (S2 _ _ eb), at1, ?_⟩
          exact ⟨_, _, rfl, (hk i _ _ ex ey).same S2, fun H4 S4 => hy1 _ _ S4 (reps_succ i)⟩
        · rintro H2 acc S2 eD rfl
          refine ⟨D, List.replicate _ true, rfl, SqL.of eD, ?_⟩
          rw [reps_all]
          exact k _ S2
      · -- tuples
        refine ⟨_, (pss_cons (ps_if (pt_cmpR op_isN (pv 1) pe_non (nomark _))
            (pss_one ps_never)
            pss_nil)
          (pss_cons (ps_if (pt_val (pe_is T.isinstance (by rfl) (pv 1) T.bool (by rfl) (Tn := "bool") (by decide +kernel)))
            (pss_one ps_never)
            pss_nil)
          (pss_cons (ps_if (pt_val (pe_is T.isinstance (by rfl) (pv 1) T.int (by rfl) (Tn := "int") (by decide +kernel)))
            (pss_one ps_never)
            pss_nil)
          (pss_cons (ps_if (pt_val (pe_is T.isinstance (by rfl) (pv 1) T.str (by rfl) (Tn := "str") (by decide +kernel)))
            (pss_one ps_never)
            pss_nil)
          (pss_cons (ps_if (pt_val (pe_is T.isinstance (by rfl) (pv 1) T.dict (by rfl) (Tn := "dict") (by decide +kernel)))
            (pss_cons ps_never (pss_one ps_never))
            pss_nil)
          (pss_cons (ps_if (pt_val (pe_is T.isinstance (by rfl) (pv 1) T.tuple (by rfl) (Tn := "tuple") (by decide +kernel)))
            (pss_one (ps_if (pt_not (pt_val (pe_is T.isinstance (by rfl) (pv 0) T.tuple (by rfl) (Tn := "tuple") (by decide +kernel))))
              (pss_one ps_never)
              pss_nil))
            (pss_one ps_never))
          (pss_cons (ps_if (pt_cmpR op_ne (pe_callB call_len_seq (by rfl) T.len PySem.boot_len (pa_cons (pv 0) pa_nil)) (pe_callB call_len_seq (by rfl) T.len PySem.boot_len (pa_cons (pv 1) pa_nil)) (nomark _))
            (pss_one ps_never)
            pss_nil)
          (pss_one (ps_ret (pe_callB (cr_all rfl) (by rfl) T.all PyProof.Rows.boot_all (pa_cons (pe_lc (own := [("_law_k", 3)]) (g := gName 3) (tt := tYes) rfl scLawAlike.nd (pi_range1 (by rfl) T.range (pa_cons (pe_callB call_len_seq (by rfl) T.len PySem.boot_len (pa_cons (pv 1) pa_nil)) pa_nil))
            (blkOk_by (own := [("_law_k", 3)]) (N := ["_law_found", "_law_due", "_law_name", "_law_k"]) (sc := defScope sLawAlike) (by decide +kernel))
            (fun _ _ _ _ _ => (pg_name (i := 3) scLawAlike.nd rfl (.inl rfl))) (fun _ _ _ _ _ => pts_nil)
            (fun _ _ _ _ _ => (pe_d dA hr (Nat.le_refl _) (by rfl) (pa_cons (pe_ix (r := rIxT K) ix_tup (pv 0) (pv 3) (fun _ _ => rfl)) (pa_cons (pe_ix (r := rIxT K) ix_tup (pv 1) (pv 3) (fun _ _ => rfl)) pa_nil))))) pa_nil))))))))))), ?_⟩
        have ty : Pw.Ty K H (.ref b) (.type "tuple") := .tup eb
        have tyA : Pw.Ty K H (.ref a) (.type "tuple") := .tup ea
        have eT : tupB H (.ref b) = true := by simp only [tupB, eb]
        have eTA : tupB H (.ref a) = true := by simp only [tupB, ea]
        refine ⟨_, rfl, rfl, false, rfl, iteF ?_⟩
        refine ⟨_, rfl, .ref b, .ty "bool", _, .type "bool", false, rfl, .ty "bool", ty.q, ty.isBool, false, rfl, iteF ?_⟩
        refine ⟨_, rfl, .ref b, .ty "int", _, .type "int", false, rfl, .ty "int", ty.q, ty.isInt, false, rfl, iteF ?_⟩
        refine ⟨_, rfl, .ref b, .ty "str", _, .type "str", false, rfl, .ty "str", ty.q, ty.isStr, false, rfl, iteF ?_⟩
        refine ⟨_, rfl, .ref b, .ty "dict", _, .type "dict", false, rfl, .ty "dict", ty.q, kit_ty (a := "tuple") (b := "dict") (r := false) (by decide +kernel), false, rfl, iteF ?_⟩
        refine ⟨_, rfl, .ref b, .ty "tuple", _, .type "tuple", true, rfl, .ty "tuple", ty.q, (eT ▸ ty.isTuple : _ = some true), true, rfl, iteT ?_⟩
        refine ⟨_, rfl, .ref a, .ty "tuple", _, .type "tuple", true, rfl, .ty "tuple", tyA.q, (eTA ▸ tyA.isTuple : _ = some true), true, rfl, iteF ?_⟩
        refine ⟨_, rfl, a, xs, rfl, .inr (SqT.of ea), _, rfl, b, ys, rfl, .inr (SqT.of eb), rfl, false, ?_, iteF ?_⟩
        · exact congrArg V.bl (by rw [hl1]; simp)
        refine ⟨_, rfl, b, ys, rfl, .inr (SqT.of eb), (ys.length : Int), rfl, by omega, by omega, fun D hD => ?_⟩
        refine lc_acc (walk_range (lo := 0) (n := ((ys.length : Int)).toNat)) hD (by omega) (fun i acc H => acc = (List.replicate i true).map V.bl) rfl (fun _ _ => trivial) ?_ ?_
        · rintro i v H2 H3 acc hi S2 eD hl2 rfl ⟨rfl, rfl⟩ Fy Fn hy1 _
          have hi' : i < ys.length := by omega
          have ex : xs[i]? = some (xs[i]'(by omega)) := List.getElem?_eq_getElem (by omega)
          have ey : ys[i]? = some ys[i] := List.getElem?_eq_getElem hi'
          refine ⟨rfl, ?_⟩
          unfold tYes
          refine iteT ?_
          have at0 : atI xs (0 + (i : Int)) = some (xs[i]'(by omega)) := by rw [Int.zero_add]; exact atI_nat ex
          have at1 : atI ys (0 + (i : Int)) = some ys[i] := by rw [Int.zero_add]; exact atI_nat ey
          refine ⟨_, rfl, _, rfl, a, xs, _, _, rfl, rfl, SqT.of (S2 _ _ ea), at0, _, rfl, _, rfl, b, ys, _, _, rfl, rfl, SqT.of (S2 _ _ eb), at1, ?_⟩
          exact ⟨_, _, rfl, (hk i _ _ ex ey).same S2, fun H4 S4 => hy1 _ _ S4 (reps_succ i)⟩
        · rintro H2 acc S2 eD rfl
          refine ⟨D, List.replicate _ true, rfl, SqL.of eD, ?_⟩
          rw [reps_all]
          exact k _ S2
end
end W24

namespace W24
open PySem PySem.Spec PyProof.Rows L2 Pw
section
variable {P : Program} {w : World} {K : PySem.W.Frag} {mg : Str → Option Value} {base : Heap}
def spBeyL (K : PySem.W.Frag) : Sp := fun vs H Q _ => ∃ p r y, vs = [.ref p, .int y] ∧ H p = some (.tup (fR r)) ∧ ∀ H', Same H H' → Q (.bl (Wm.bey r.R y)) H'
theorem d_beyL (T : Txt mg) (A : At K mg "_law_beyond" sLawBeyond) : Def P w K mg base "_law_beyond" 1 ["_law_rule_here", "_law_worth"] (spBeyL K) := by
  refine mkDef A scLawBeyond (fun _ _ _ _ _ _ us hl => match us, hl with | [_, _], _ => rfl) (fun vs H Q E ⟨_, _, _, e, _⟩ => by rw [e]; rfl)
    (fun f cdv A out s H vs Q E hr h => ?_)
  obtain ⟨p, r, y, rfl, e, k⟩ := h
  refine ⟨_, (pss_one (ps_ret (pe_ix ix_list (pe_lst (pa_cons (pe_cmpR op_lt (pv 1) (pe_ix ix_tup (pv 0) pe_int (fun _ _ => rfl)) (nomark _)) (pa_cons (pe_cmpR op_gt (pv 1) (pe_ix ix_tup (pv 0) pe_int (fun _ _ => rfl)) (nomark _)) pa_nil))) (pe_callTy call_int1 (by rfl) T.int (by decide +kernel) (pa_cons (pe_cmpR op_eq (pe_ix ix_tup (pv 0) pe_int (fun _ _ => rfl)) pe_str (nomark _)) pa_nil)) (fun _ _ => rfl)))), ?_⟩
  refine ⟨_, rfl, _, rfl, p, _, 3, .int r.R.lim, rfl, rfl, SqT.of e, rfl, y, r.R.lim, rfl, rfl, _, rfl, _, rfl, p, _, 3, .int r.R.lim, rfl, rfl, SqT.of e, rfl, y, r.R.lim, rfl, rfl, by show 2 ≤ sizeLine; decide, fun L nL => ?_⟩
  have S := Same.laid (o := HO.lst [V.bl (decide (y < r.R.lim)), .bl (decide (y > r.R.lim))]) nL
  refine ⟨_, rfl, p, _, 2, .str (wd r.R), rfl, rfl, SqT.of (S _ _ e), rfl, rfl, .inr ⟨_, rfl, ?_⟩⟩
  rw [wd_above]
  have at0 : atI [V.bl (decide (y < r.R.lim)), .bl (decide (y > r.R.lim))] (if r.R.ab = true then 1 else 0) = some (.bl (Wm.bey r.R y)) := by
    unfold Wm.bey
    cases r.R.ab <;> rfl
  exact ⟨L, _, _, _, rfl, rfl, SqL.of upd_same, at0, k _ S⟩
def spRstL (K : PySem.W.Frag) : Sp := fun vs H Q _ => ∃ p r y, vs = [.ref p, .int y] ∧ H p = some (.tup (fR r)) ∧ ∀ H', Same H H' → Q (.bl (Wm.rst r.R y)) H'
theorem d_rstL (T : Txt mg) (A : At K mg "_law_rests" sLawRests) : Def P w K mg base "_law_rests" 1 ["_law_rule_here", "_law_worth"] (spRstL K) := by
  refine mkDef A scLawRests (fun _ _ _ _ _ _ us hl => match us, hl with | [_, _], _ => rfl) (fun vs H Q E ⟨_, _, _, e, _⟩ => by rw [e]; rfl)
    (fun f cdv A out s H vs Q E hr h => ?_)
  obtain ⟨p, r, y, rfl, e, k⟩ := h
  refine ⟨_, (pss_one (ps_ret (pe_ix ix_list (pe_lst (pa_cons (pe_cmpR op_ge (pv 1) (pe_op op_add (pe_ix ix_tup (pv 0) pe_int (fun _ _ => rfl)) (pe_ix ix_tup (pv 0) pe_int (fun _ _ => rfl))) (nomark _)) (pa_cons (pe_cmpR op_le (pv 1) (pe_op op_sub (pe_ix ix_tup (pv 0) pe_int (fun _ _ => rfl)) (pe_ix ix_tup (pv 0) pe_int (fun _ _ => rfl))) (nomark _)) pa_nil))) (pe_callTy call_int1 (by rfl) T.int (by decide +kernel) (pa_cons (pe_cmpR op_eq (pe_ix ix_tup (pv 0) pe_int (fun _ _ => rfl)) pe_str (nomark _)) pa_nil)) (fun _ _ => rfl)))), ?_⟩
  refine ⟨_, rfl, _, rfl, p, _, 3, .int r.R.lim, rfl, rfl, SqT.of e, rfl, _, rfl, p, _, 4, .int r.R.back, rfl, rfl, SqT.of e, rfl, r.R.lim, r.R.back, rfl, rfl, y, r.R.lim + r.R.back, rfl, rfl,
    _, rfl, _, rfl, p, _, 3, .int r.R.lim, rfl, rfl, SqT.of e, rfl, _, rfl, p, _, 4, .int r.R.back, rfl, rfl, SqT.of e, rfl, r.R.lim, r.R.back, rfl, rfl, y, r.R.lim - r.R.back, rfl, rfl, by show 2 ≤ sizeLine; decide, fun L nL => ?_⟩
  have S := Same.laid (o := HO.lst [V.bl (decide (y ≥ r.R.lim + r.R.back)), .bl (decide (y ≤ r.R.lim - r.R.back))]) nL
  refine ⟨_, rfl, p, _, 2, .str (wd r.R), rfl, rfl, SqT.of (S _ _ e), rfl, rfl, .inr ⟨_, rfl, ?_⟩⟩
  rw [wd_above]
  have at0 : atI [V.bl (decide (y ≥ r.R.lim + r.R.back)), .bl (decide (y ≤ r.R.lim - r.R.back))] (if r.R.ab = true then 1 else 0) = some (.bl (Wm.rst r.R y)) := by
    unfold Wm.rst
    cases r.R.ab <;> rfl
  exact ⟨L, _, _, _, rfl, rfl, SqL.of upd_same, at0, k _ S⟩
/-! ### the dict of the worths -/
def dk (l : List (Int × Int)) : List (Key × V) := l.map fun x => (Sum.inl x.1, V.int x.2)
theorem dk_none {l : List (Int × Int)} {t : Int} (h : ∀ r ∈ l, r.1 ≠ t) : valV (dk l) (Sum.inl t) = none := valV_none_of fun kv hkv => by
  unfold dk at hkv
  simp only [List.mem_map] at hkv
  obtain ⟨x, hx, rfl⟩ := hkv
  exact fun z => h x hx (Sum.inl.inj z)
theorem lw_before {l : List (Int × Int)} {t : Int} (h : ∀ r ∈ l, t < r.1) : Wm.lw l t = none := by
  unfold Wm.lw
  rw [List.filter_eq_nil_iff.mpr fun x hx => by
    have := h x hx
    simp only [decide_eq_true_eq]
    omega]
  rfl
theorem dk_lw : ∀ (n : Nat) (l : List (Int × Int)), l.length = n → l.Pairwise (fun a b => a.1 < b.1) → ∀ t : Int, (valV (dk l) (Sum.inl t)).getD (oV (Wm.lw l (t - 1))) = oV (Wm.lw l t) := by
  intro n
  induction n with
  | zero =>
    intro l h _ t
    rw [List.length_eq_zero_iff.mp h]
    rfl
  | succ n ih =>
    intro l h hp t
    rcases List.eq_nil_or_concat l with z | ⟨l', r, z⟩
    · rw [z] at h; cases h
    · rw [List.concat_eq_append] at z
      subst z
      have hp' := List.pairwise_append.mp hp
      have e1 : dk (l' ++ [r]) = dk l' ++ [(Sum.inl r.1, V.int r.2)] := by unfold dk; rw [List.map_append]; rfl
      have hno : valV (dk l') (Sum.inl r.1) = none := dk_none fun q hq => by
        have := hp'.2.2 q hq r (by simp)
        omega
      rw [e1, valV_snoc _ _ _ _ hno, Wm.lw_snoc, Wm.lw_snoc]
      have := ih l' (by simpa using h) hp'.1 t
      by_cases c : t = r.1
      · subst c
        rw [if_pos rfl, if_pos (Int.le_refl _)]
        rfl
      · rw [if_neg (fun z => c (Sum.inl.inj z))]
        by_cases c2 : r.1 ≤ t
        · rw [if_pos c2, if_pos (show r.1 ≤ t - 1 by omega)]
          rw [dk_none fun q hq => by have := hp'.2.2 q hq r (by simp); omega]
          rfl
        · rw [if_neg c2, if_neg (show ¬ r.1 ≤ t - 1 by omega)]
          exact this
end
end W24

set_option maxHeartbeats 8000000
namespace W24
open PySem PySem.Spec PyProof.Rows L2 Pw
section
variable {P : Program} {w : World} {K : PySem.W.Frag} {mg : Str → Option Value} {base : Heap}
def spModel (K : PySem.W.Frag) : Sp := fun vs H Q _ => ∃ p r a rs T, vs = [.ref p, .ref a, .int T] ∧ H p = some (.tup (fR r)) ∧ GoodRl r ∧ LT f3 H a rs ∧ GoodH rs ∧ (0 ≤ T ∧ T ≤ 12000) ∧
  ∀ b b1 b2 H', Same H H' → H' b = some (.tup [.ref b1, .ref b2]) → LT fE H' b1 (evM r rs T).ev → H b1 = none → H' b2 = some (.tup (fS (Wm.told (evM r rs T)))) → Q (.ref b) H'
theorem d_model (T : Txt mg) (A : At K mg "_law_model" sLawModel) (dR : Def P w K mg base "_law_rests" 1 ["_law_rule_here", "_law_worth"] (spRstL K)) (dB : Def P w K mg base "_law_beyond" 1 ["_law_rule_here", "_law_worth"] (spBeyL K)) :
    Def P w K mg base "_law_model" 2 ["_law_rule_here", "_law_signs", "_law_till"] (spModel K) := by
  refine mkDef A scLawModel (fun _ _ _ _ _ _ us hl => match us, hl with | [_, _, _], _ => rfl) (fun vs H Q E ⟨_, _, _, _, _, e, _⟩ => by rw [e]; rfl)
    (fun f cdv A out s H vs Q E hr h => ?_)
  obtain ⟨p, r, a, rs, U, rfl, ep, g, hL, hg, hU, k⟩ := h
  have hu := hu_of hr
  refine ⟨_, (pss_cons (ps_set (i := 3) scLawModel.nd rfl (.inl rfl) pe_dnewK)
    (pss_cons (ps_for PassesOwn.never rfl (pi_list (pv 1)) (pg_tup (by rfl) (pgs_cons (pg_name (i := 4) scLawModel.nd rfl (.inl rfl)) (pgs_cons (pg_name (i := 5) scLawModel.nd rfl (.inl rfl)) (pgs_cons (pg_name (i := 6) scLawModel.nd rfl (.inl rfl)) pgs_nil))))
      (pss_one (ps_if (pt_cmpR op_eq (pv 6) pe_str (nomark _))
        (pss_one (ps_asg (pv 5) (pg_sub (pv 3) (pv 4) (set_dict hu))))
        pss_nil)))
    (pss_cons (ps_set (i := 7) scLawModel.nd rfl (.inl rfl) (pe_lst pa_nil))
    (pss_cons (ps_set (i := 8) scLawModel.nd rfl (.inl rfl) pe_non)
    (pss_cons (ps_set (i := 9) scLawModel.nd rfl (.inl rfl) pe_bl)
    (pss_cons (ps_set (i := 5) scLawModel.nd rfl (.inl rfl) pe_non)
    (pss_cons (ps_for PassesOwn.never rfl (pi_range2 (by rfl) T.range (pa_cons (pe_callB (cr_min rfl) (by rfl) T.min PyProof.Rows.boot_min (pa_cons (pe_op op_cat (pe_callTy (call_list_dK rfl) (by rfl) T.list (by decide +kernel) (pa_cons (pv 3) pa_nil)) (pe_lst (pa_cons (pv 2) pa_nil))) pa_nil)) (pa_cons (pe_op op_add (pv 2) pe_int) pa_nil))) (pg_name (i := 4) scLawModel.nd rfl (.inl rfl))
      (pss_cons (ps_set (i := 5) scLawModel.nd rfl (.inl rfl) (pe_dget2 hu (pv 3) (pv 4) (pv 5) ⟨rfl, rfl, rfl, rfl⟩))
      (pss_cons (ps_if (pt_cmpR op_isN (pv 5) pe_non (nomark _))
        (pss_one ps_continue)
        pss_nil)
      (pss_cons (ps_if (PW.pt (pw_and (pt_val (pv 9)) (pw_and1 (pt_val (pe_d dR hr (by decide) (by rfl) (pa_cons (pv 0) (pa_cons (pv 5) pa_nil)))))))
        (pss_cons (ps_asg (pe_tup (pa_cons (pe_ix ix_tup (pe_ix ix_list (pv 7) (pe_un un_neg pe_int) (fun _ _ => rfl)) pe_int (fun _ _ => rfl)) (pa_cons (pv 4) pa_nil))) (pg_sub (pv 7) (pe_un un_neg pe_int) set_list))
        (pss_cons (ps_set (i := 9) scLawModel.nd rfl (.inl rfl) pe_bl)
        (pss_one (ps_set (i := 8) scLawModel.nd rfl (.inl rfl) pe_non))))
        (pss_one (ps_if (PW.pt (pw_and (pt_not (pt_val (pv 9))) (pw_and1 (pt_not (pt_val (pe_d dB hr (by decide) (by rfl) (pa_cons (pv 0) (pa_cons (pv 5) pa_nil))))))))
          (pss_one (ps_set (i := 8) scLawModel.nd rfl (.inl rfl) pe_non))
          (pss_one (ps_if (PW.pt (pw_and (pt_not (pt_val (pv 9))) (pw_and1 (pt_cmpR op_isN (pv 8) pe_non (nomark _)))))
            (pss_one (ps_set (i := 8) scLawModel.nd rfl (.inl rfl) (pv 4)))
            pss_nil)))))
      (pss_one (ps_if (PW.pt (pw_and (pt_not (pt_val (pv 9))) (pw_and (pt_cmpR op_notN (pv 8) pe_non (nomark _)) (pw_and1 (pt_cmpR op_ge (pe_op op_sub (pv 4) (pv 8)) (pe_ix ix_tup (pv 0) pe_int (fun _ _ => rfl)) (nomark _))))))
        (pss_cons (ps_expr (pe_bm PySem.F.plainAttrs_list PySem.F.slot_list_append PySem.F.type_list_append mt_append (pv 7) (pa_cons (pe_tup (pa_cons (pv 4) (pa_cons pe_non pa_nil))) pa_nil)))
        (pss_one (ps_set (i := 9) scLawModel.nd rfl (.inl rfl) pe_bl)))
        pss_nil))))))
    (pss_cons (ps_if (pt_val (pv 9))
      (pss_one (ps_ret (pe_tup (pa_cons (pv 7) (pa_cons (pe_tup (pa_cons pe_str (pa_cons (pe_ix ix_tup (pe_ix ix_list (pv 7) (pe_un un_neg pe_int) (fun _ _ => rfl)) pe_int (fun _ _ => rfl)) pa_nil))) pa_nil)))))
      pss_nil)
    (pss_cons (ps_if (pt_cmpR op_notN (pv 8) pe_non (nomark _))
      (pss_one (ps_ret (pe_tup (pa_cons (pv 7) (pa_cons (pe_tup (pa_cons pe_str (pa_cons (pv 8) pa_nil))) pa_nil)))))
      pss_nil)
    (pss_one (ps_ret (pe_tup (pa_cons (pv 7) (pa_cons (pe_tup (pa_cons pe_str (pa_cons pe_non pa_nil))) pa_nil)))))))))))))), ?_⟩
  obtain ⟨vs, eL, al⟩ := hL.ex
  refine fun d nd => ?_
  have da : a ≠ d := ne_of_none eL nd
  refine ⟨_, rfl, a, rfl, ⟨_, SqL.of ((upd_ne da).trans eL)⟩, ?_⟩
  refine for_it (walk_list (K := K) (a := a) (xs := vs)) (fun i σ G => ∃ v4 v5 v6 : Option V,
    σ = [some (.ref p), some (.ref a), some (.int U), some (.ref d), v4, v5, v6, none, none, none] ∧ Same H G ∧ G d = some (.dK (dk (pr (goods (rs.take i)))))) ?_
    (fun i σ G _ ⟨_, _, _, _, S, _⟩ => SqL.of (S _ _ eL)) ?_ ?_
  · exact ⟨none, none, none, rfl, Same.laid nd, upd_same⟩
  · rintro i v σ G0 G hi ⟨v4, v5, v6, rfl, S, ed⟩ ⟨rfl, hx⟩
    obtain ⟨q, x, rfl, hx', eq⟩ := (al.same S).get hx
    have hi2 : i < rs.length := by rw [← al.length]; exact hi
    have et : rs.take (i + 1) = rs.take i ++ [x] := by rw [List.take_add_one, hx']; rfl
    refine ⟨q, f3 x, rfl, SqT.of eq, rfl, _, _, rfl, _, _, rfl, _, _, rfl, rfl, ?_⟩
    refine ⟨_, rfl, rfl, _, rfl, ?_⟩
    show if decide (V.str x.2.2 = V.str "good") = true then _ else _
    by_cases hm : x.2.2 = "good"
    · rw [decide_eq_true (congrArg V.str hm)]
      have eg : pr (goods (rs.take (i + 1))) = pr (goods (rs.take i)) ++ [(x.1, x.2.1)] := by
        unfold pr goods
        rw [et, List.filter_append, List.filter_cons, decide_eq_true hm, List.map_append]
        rfl
      have hlt : ∀ y ∈ pr (goods (rs.take i)), y.1 < x.1 := by
        intro y hy
        unfold pr at hy
        simp only [List.mem_map] at hy
        obtain ⟨z, hz, rfl⟩ := hy
        have h1 : (rs.take i ++ [x]).Pairwise (fun a b => a.1 < b.1) := by
          rw [← et]
          exact hg.rise.sublist (List.take_sublist _ _)
        exact (List.pairwise_append.mp h1).2.2 z (List.mem_filter.mp hz).1 x (by simp)
      have hno : valV (dk (pr (goods (rs.take i)))) (Sum.inl x.1) = none := dk_none fun y hy => by have := hlt y hy; omega
      have hkl : (dk (pr (goods (rs.take i)))).length < sizeLine := by
        unfold dk pr
        rw [List.length_map, List.length_map]
        have h1 := List.length_filter_le (fun x : R3 => decide (x.2.2 = "good")) (rs.take i)
        have h2 : (rs.take i).length ≤ 1000 := by rw [List.length_take]; have := hg.len; omega
        exact Nat.lt_of_le_of_lt (Nat.le_trans h1 h2) (by decide)
      refine iteT ⟨_, rfl, _, rfl, _, rfl, d, _, rfl, DPut.k (k := Sum.inl x.1) ed hkl, _, _, _, rfl, Same.wo_upd S nd, ?_⟩
      rw [upd_same, putK_new _ hno, eg]
      unfold dk
      rw [List.map_append]
      rfl
    · rw [decide_eq_false (fun z => hm (V.str.inj z))]
      have eg : goods (rs.take (i + 1)) = goods (rs.take i) := by
        unfold goods
        rw [et, List.filter_append, List.filter_cons, decide_eq_false hm]
        simp
      refine iteF ⟨_, _, _, rfl, S, ?_⟩
      rw [eg]
      exact ed
  rintro σ G ⟨v4, v5, v6, rfl, S, ed⟩
  rw [al.length, List.take_length] at ed
  obtain ⟨l, hl⟩ : ∃ l, l = pr (goods rs) := ⟨_, rfl⟩
  rw [← hl] at ed
  have lr : l.Pairwise fun a b => a.1 < b.1 := by rw [hl]; exact List.pairwise_map.mpr (hg.rise.sublist List.filter_sublist)
  have l0 : ∀ x ∈ l, 0 ≤ x.1 := fun x hx => by
    rw [hl] at hx
    unfold pr at hx
    simp only [List.mem_map] at hx
    obtain ⟨y, hy, rfl⟩ := hx
    exact (hg.all y (List.mem_filter.mp hy).1).t0
  refine ⟨by show 0 ≤ sizeLine; decide, fun F nF => ?_⟩
  have S1 := Same.laid (o := HO.lst []) nF
  have eF : upd G F (.lst []) F = some (.lst []) := upd_same
  have dF : d ≠ F := ne_of_none ed nF
  have nFG := nF
  have SHG := S
  generalize q1 : upd G F (.lst []) = H1 at *
  have nFH : H F = none := Same.no S nFG
  have ed1 := S1 _ _ ed
  -- the ticks
  refine ⟨_, rfl, d, _, rfl, ed1, fun L0 n0 => ?_⟩
  have S2 := Same.laid (o := HO.lst ((dk l).map fun kv => kV kv.1)) n0
  have e0 : upd H1 L0 (.lst ((dk l).map fun kv => kV kv.1)) L0 = some (.lst ((dk l).map fun kv => kV kv.1)) := upd_same
  generalize upd H1 L0 (.lst ((dk l).map fun kv => kV kv.1)) = H2 at *
  refine ⟨_, rfl, by show 1 ≤ sizeLine; decide, fun L1 n1 => ?_⟩
  have S3 := Same.laid (o := HO.lst [V.int U]) n1
  have e1 : upd H2 L1 (.lst [V.int U]) L1 = some (.lst [V.int U]) := upd_same
  generalize upd H2 L1 (.lst [V.int U]) = H2' at *
  have hll : l.length ≤ 1000 := by
    rw [hl]
    unfold pr
    rw [List.length_map]
    exact Nat.le_trans (List.length_filter_le _ _) hg.len
  refine ⟨L0, L1, _, _, rfl, rfl, S3 _ _ e0, e1, ?_, fun L2 n2 => ?_⟩
  · rw [List.length_map]
    unfold dk
    rw [List.length_map]
    exact Nat.le_trans (Nat.add_le_add_right hll 1) (by decide)
  have S4 := Same.laid (o := HO.lst (((dk l).map fun kv => kV kv.1) ++ [V.int U])) n2
  have e2 : upd H2' L2 (.lst (((dk l).map fun kv => kV kv.1) ++ [V.int U])) L2 = some (.lst ((l.map (fun x : Int × Int => x.1) ++ [U]).map V.int)) := by
    rw [upd_same]
    unfold dk
    rw [List.map_map, List.map_append, List.map_map]
    rfl
  generalize upd H2' L2 (.lst (((dk l).map fun kv => kV kv.1) ++ [V.int U])) = H3 at *
  refine ⟨L2, _, rfl, SqL.of e2, by simp, fun lo hlo hmin => ?_⟩
  have loU : lo ≤ U := hmin U (by simp)
  have lol : ∀ x ∈ l, lo ≤ x.1 := fun x hx => hmin x.1 (List.mem_append_left _ (List.mem_map.mpr ⟨x, hx, rfl⟩))
  have lo0 : 0 ≤ lo := by
    simp only [List.mem_append, List.mem_map, List.mem_singleton] at hlo
    rcases hlo with ⟨x, hx, rfl⟩ | rfl
    · exact l0 x hx
    · exact hU.1
  have S13 : Same H1 H3 := S2.trans (S3.trans S4)
  refine ⟨_, rfl, U, 1, rfl, rfl, lo, U + 1, rfl, ⟨by omega, by omega, by omega, by omega⟩, ?_⟩
  have SH3 : Same H H3 := S.trans (S1.trans S13)
  refine for_range (lo := lo) (n := (U + 1 - lo).toNat) (fun i σ G' => ∃ (v4 v6 : Option V) (wv : V) (m : Wm.M) (vs : List V),
    σ = [some (.ref p), some (.ref a), some (.int U), some (.ref d), v4, some wv, v6, some (.ref F), some (oV m.si), some (.bl m.st)] ∧ wv = oV (Wm.lw l (lo + (i : Int) - 1)) ∧ Same H G' ∧
    G' d = some (.dK (dk l)) ∧ G' F = some (.lst vs) ∧ Al fE G' vs m.ev ∧ Wm.Is m (Wm.tickS r.R (Wm.lw l) lo i)) ?_ ?_ ?_
  · refine ⟨_, _, .non, ⟨[], none, false⟩, [], rfl, ?_, SH3, S13 _ _ ed1, S13 _ _ eF, .nil, ⟨rfl, rfl, fun _ => rfl⟩⟩
    rw [lw_before fun x hx => by have := lol x hx; show lo + ((0 : Nat) : Int) - 1 < x.1; omega]
    rfl
  · rintro i σ G2 hi ⟨v4, v6, wv, m, vs, rfl, rfl, S2', ed2, eF2, al2, his⟩
    have S2 := S2'
    obtain ⟨t, ht⟩ : ∃ t, t = lo + (i : Int) := ⟨_, rfl⟩
    have e10 : lo + ((i + 1 : Nat) : Int) - 1 = lo + (i : Int) := by omega
    have hlw := dk_lw _ l rfl lr (lo + (i : Int))
    have ep2 := S2 _ _ ep
    -- how long
    have hlen : m.ev.length ≤ 50000 := by
      rw [his.ev]
      have tl : ∀ n : Nat, (Wm.tickS r.R (Wm.lw l) lo n).ev.length ≤ n := by
        intro n
        induction n with
        | zero => exact Nat.le_refl _
        | succ n ih =>
          unfold Wm.tickS
          split
          · omega
          · have := Wm.takeS_len r.R (Wm.tickS r.R (Wm.lw l) lo n) (lo + n) ‹_›
            omega
      have := tl i
      omega
    have hsz : vs.length < sizeLine := by rw [al2.length]; exact Nat.lt_of_le_of_lt hlen (by decide)
    refine ⟨_, rfl, d, rfl, .inl ⟨_, .inl ed2⟩, _, rfl, _, rfl, _, DGet.k (k := Sum.inl (lo + (i : Int))) ed2, ?_⟩
    rw [hlw]
    refine ⟨_, rfl, rfl, ?_⟩
    cases hw : Wm.lw l (lo + (i : Int)) with
    | none =>
      refine ⟨true, rfl, iteT ?_⟩
      refine ⟨_, _, .non, m, vs, rfl, ?_, S2, ed2, eF2, al2, ?_⟩
      · rw [e10, hw]
        rfl
      · rw [Wm.tick_skip l lo i hw]
        exact his
    | some w =>
      refine ⟨false, rfl, iteF ?_⟩
      have hstep := Wm.tick_is g.g l lo i his hw
      have nxt : ∀ (G' : Hp) (m' : Wm.M) (vs' : List V), Same H G' → G' d = some (.dK (dk l)) → G' F = some (.lst vs') → Al fE G' vs' m'.ev → m' = Wm.stepM r.R m t w →
          ∃ (v4 v6' : Option V) (wv : V) (m : Wm.M) (vs : List V),
            [some (V.ref p), some (.ref a), some (.int U), some (.ref d), some (.int t), some (.int w), v6, some (.ref F), some (oV m'.si), some (.bl m'.st)] =
              [some (.ref p), some (.ref a), some (.int U), some (.ref d), v4, some wv, v6', some (.ref F), some (oV m.si), some (.bl m.st)] ∧ wv = oV (Wm.lw l (lo + ((i + 1 : Nat) : Int) - 1)) ∧ Same H G' ∧
            G' d = some (.dK (dk l)) ∧ G' F = some (.lst vs) ∧ Al fE G' vs m.ev ∧ Wm.Is m (Wm.tickS r.R (Wm.lw l) lo (i + 1)) := by
        intro G' m' vs' h1 h2 h3 h4 h5
        refine ⟨_, _, .int w, m', vs', rfl, ?_, h1, h2, h3, h4, ?_⟩
        · rw [e10, hw]
          rfl
        · rw [h5, ht]
          exact hstep
      rw [← ht]
      obtain ⟨mev, msi, mst⟩ := m
      cases mst with
      | true =>
        refine ⟨_, rfl, true, rfl, iteT ?_⟩
        refine ⟨_, rfl, _, rfl, p, r, w, rfl, ep2, fun G3 T3 => ?_⟩
        have S3' := S2.trans T3
        have ed3 := T3 _ _ ed2
        have eF3 := T3 _ _ eF2
        have al3 := al2.same T3
        cases hrst : Wm.rst r.R w with
        | true =>
          refine ⟨true, rfl, iteT ?_⟩
          have hne : mev ≠ [] := fun z => by
            have := his.st
            rw [show (Wm.tickS r.R (Wm.lw l) lo i).ev = mev from his.ev.symm, z] at this
            cases this
          obtain ⟨ev', ⟨x0, o⟩, rfl⟩ := last_of mev hne
          obtain ⟨vs', q0, rfl, al4, eq0⟩ := Al.last al3
          refine ⟨_, rfl, 1, rfl, F, _, -1, .ref q0, rfl, rfl, SqL.of eF3, atI_last _ _, q0, _, 0, .int x0, rfl, rfl, SqT.of eq0, rfl, _, rfl, by show 2 ≤ sizeLine; decide, fun q1 n1 => ?_⟩
          have qF : q1 ≠ F := fun z => by rw [z, eF3] at n1; cases n1
          have qd : d ≠ q1 := fun z => by rw [← z, ed3] at n1; cases n1
          have hix : ixN (vs' ++ [V.ref q0]).length (-1) = some vs'.length := by
            unfold ixN
            rw [List.length_append, List.length_singleton, if_neg (by decide), if_pos (by omega)]
            congr 1
            omega
          refine ⟨_, rfl, 1, rfl, F, _, -1, vs'.length, rfl, rfl, (upd_ne (Ne.symm qF)).trans eF3, hix, ?_⟩
          have hset : (vs' ++ [V.ref q0]).set vs'.length (.ref q1) = vs' ++ [.ref q1] := by
            rw [List.set_append_right _ _ (Nat.le_refl _), Nat.sub_self]
            rfl
          rw [hset]
          refine ⟨_, rfl, false, rfl, iteT ⟨_, rfl, rfl, false, rfl, iteF ?_⟩⟩
          refine nxt _ ⟨ev' ++ [(x0, some t)], none, false⟩ (vs' ++ [.ref q1]) (Same.wo_upd (S3'.trans (Same.laid n1)) nFH) ((upd_ne dF).trans ((upd_ne qd).trans ed3)) upd_same ?_ ?_
          · refine Al.snoc (r := (x0, some t)) (al4.imp fun c xs ec => ?_) ?_
            · have cq : c ≠ q1 := fun z => by rw [z, n1] at ec; cases ec
              have cF : c ≠ F := fun z => by rw [z, eF3] at ec; cases ec
              rw [upd_ne cF, upd_ne cq]
              exact ec
            · rw [upd_ne qF, upd_same]
              rfl
          · simp [Wm.stepM, hrst, Wm.lastR]
        | false =>
          refine ⟨false, rfl, iteF ?_⟩
          refine ⟨_, rfl, true, rfl, iteF ?_⟩
          refine ⟨_, rfl, true, rfl, iteF ?_⟩
          refine ⟨_, rfl, true, rfl, iteF ?_⟩
          exact nxt _ ⟨mev, msi, true⟩ vs S3' ed3 eF3 al3 (by simp [Wm.stepM, hrst])
      | false =>
        refine ⟨_, rfl, false, rfl, iteF ?_⟩
        refine ⟨_, rfl, false, rfl, iteT ?_⟩
        refine ⟨_, rfl, _, rfl, p, r, w, rfl, ep2, fun G3 T3 => ?_⟩
        have S3' := S2.trans T3
        have ed3 := T3 _ _ ed2
        have eF3 := T3 _ _ eF2
        have al3 := al2.same T3
        have ep3 := T3 _ _ ep2
        clear S2 ed2 eF2 al2
        have S2 := S3'
        have ed2 := ed3
        have eF2 := eF3
        have al2 := al3
        cases hbey : Wm.bey r.R w with
        | false =>
          refine ⟨false, rfl, iteT ?_⟩
          refine ⟨_, rfl, false, rfl, iteT ⟨_, rfl, rfl, false, rfl, iteF ?_⟩⟩
          exact nxt _ ⟨mev, none, false⟩ vs S2 ed2 eF2 al2 (by simp [Wm.stepM, hbey])
        | true =>
          refine ⟨true, rfl, iteF ?_⟩
          refine ⟨_, rfl, false, rfl, iteT ⟨_, rfl, rfl, ?_⟩⟩
          cases msi with
          | none =>
            refine ⟨true, rfl, iteT ⟨_, rfl, ?_⟩⟩
            refine ⟨_, rfl, false, rfl, iteT ⟨_, rfl, rfl, true, rfl, iteT ⟨_, rfl, _, rfl, t, t, rfl, rfl, _, rfl, p, _, 5, .int r.R.hold, rfl, rfl, SqT.of ep3, rfl, t - t, r.R.hold, rfl, rfl, _, rfl, ?_⟩⟩⟩
            refine ite2 (fun hh => ?_) (fun hh => ?_)
            · have hh' : t - t ≥ r.R.hold := of_decide_eq_true hh
              refine ⟨_, rfl, .inl ⟨rfl, _, SqL.of eF2⟩, _, rfl, by show 2 ≤ sizeLine; decide, fun q nq => ?_⟩
              have qF : q ≠ F := fun z => by rw [z, eF2] at nq; cases nq
              have qd : d ≠ q := fun z => by rw [← z, ed2] at nq; cases nq
              refine ⟨F, vs, .ref q, rfl, rfl, (upd_ne (Ne.symm qF)).trans eF2, hsz, ?_⟩
              refine nxt _ ⟨mev ++ [(t, none)], some t, true⟩ (vs ++ [.ref q]) (Same.wo_upd (S2.trans (Same.laid nq)) nFH) ((upd_ne dF).trans ((upd_ne qd).trans ed2)) upd_same ?_ (by first | (simp [Wm.stepM, hbey, hh']; done) | (simp [Wm.stepM, hbey]; omega))
              refine Al.snoc (r := (t, none)) (al2.imp fun c xs ec => ?_) ?_
              · have cq : c ≠ q := fun z => by rw [z, nq] at ec; cases ec
                have cF : c ≠ F := fun z => by rw [z, eF2] at ec; cases ec
                rw [upd_ne cF, upd_ne cq]
                exact ec
              · rw [upd_ne qF, upd_same]
                rfl
            · have hh' : ¬ t - t ≥ r.R.hold := fun z => hh (decide_eq_true z)
              exact nxt _ ⟨mev, some t, false⟩ vs S2 ed2 eF2 al2 (by first | (simp [Wm.stepM, hbey, hh']; done) | (simp [Wm.stepM, hbey]; omega))
          | some b0 =>
            refine ⟨false, rfl, iteF ?_⟩
            refine ⟨_, rfl, false, rfl, iteT ⟨_, rfl, rfl, true, rfl, iteT ⟨_, rfl, _, rfl, t, b0, rfl, rfl, _, rfl, p, _, 5, .int r.R.hold, rfl, rfl, SqT.of ep3, rfl, t - b0, r.R.hold, rfl, rfl, _, rfl, ?_⟩⟩⟩
            refine ite2 (fun hh => ?_) (fun hh => ?_)
            · have hh' : t - b0 ≥ r.R.hold := of_decide_eq_true hh
              refine ⟨_, rfl, .inl ⟨rfl, _, SqL.of eF2⟩, _, rfl, by show 2 ≤ sizeLine; decide, fun q nq => ?_⟩
              have qF : q ≠ F := fun z => by rw [z, eF2] at nq; cases nq
              have qd : d ≠ q := fun z => by rw [← z, ed2] at nq; cases nq
              refine ⟨F, vs, .ref q, rfl, rfl, (upd_ne (Ne.symm qF)).trans eF2, hsz, ?_⟩
              refine nxt _ ⟨mev ++ [(t, none)], some b0, true⟩ (vs ++ [.ref q]) (Same.wo_upd (S2.trans (Same.laid nq)) nFH) ((upd_ne dF).trans ((upd_ne qd).trans ed2)) upd_same ?_ (by first | (simp [Wm.stepM, hbey, hh']; done) | (simp [Wm.stepM, hbey]; omega))
              refine Al.snoc (r := (t, none)) (al2.imp fun c xs ec => ?_) ?_
              · have cq : c ≠ q := fun z => by rw [z, nq] at ec; cases ec
                have cF : c ≠ F := fun z => by rw [z, eF2] at ec; cases ec
                rw [upd_ne cF, upd_ne cq]
                exact ec
              · rw [upd_ne qF, upd_same]
                rfl
            · have hh' : ¬ t - b0 ≥ r.R.hold := fun z => hh (decide_eq_true z)
              exact nxt _ ⟨mev, some b0, false⟩ vs S2 ed2 eF2 al2 (by first | (simp [Wm.stepM, hbey, hh']; done) | (simp [Wm.stepM, hbey]; omega))
  · rintro σ G2 ⟨v4, v6, wv, m, vs, rfl, rfl, S2, ed2, eF2, al2, his⟩
    have hend := Wm.ticks_to g.g loU lr lol
    have hev : evM r rs U = Wm.tickS r.R (Wm.lw l) lo (U + 1 - lo).toNat := by
      unfold evM sg
      rw [← hl]
      exact hend
    rw [← hev] at his
    obtain ⟨i1, i2, i3⟩ := his
    rw [i1] at al2
    have hF : LT fE G2 F (evM r rs U).ev := ⟨vs, eF2, al2⟩
    have ret : ∀ (n : Nat) (o : Option Int), Wm.told (evM r rs U) = (n, o) → ∀ q1, G2 q1 = none → 2 ≤ sizeLine ∧ ∀ q2, upd G2 q1 (.tup [.str (wo n), oV o]) q2 = none →
        Q (.ref q2) (upd (upd G2 q1 (.tup [.str (wo n), oV o])) q2 (.tup [.ref F, .ref q1])) := by
      intro n o hto q1 n1
      refine ⟨by decide, fun q2 n2 => ?_⟩
      have T3 := (Same.laid (o := HO.tup [V.str (wo n), oV o]) n1).trans (Same.laid (o := HO.tup [V.ref F, .ref q1]) n2)
      refine k q2 F q1 _ (S2.trans T3) upd_same (hF.same T3) (Same.no SHG nFG) ?_
      have q12 : q1 ≠ q2 := fun z => by rw [← z, upd_same] at n2; cases n2
      rw [upd_ne q12, upd_same, hto]
      rfl
    refine ⟨_, rfl, m.st, rfl, ?_⟩
    cases hst : m.st with
    | true =>
      rw [hst] at i2
      refine iteT ?_
      have hne : (evM r rs U).ev ≠ [] := fun z => by rw [z] at i2; cases i2
      obtain ⟨ev', ⟨x0, o⟩, e4⟩ := last_of _ hne
      rw [e4] at al2
      obtain ⟨vs', q0, rfl, al4, eq0⟩ := Al.last al2
      refine ⟨_, rfl, _, rfl, 1, rfl, F, _, -1, .ref q0, rfl, rfl, SqL.of eF2, atI_last _ _, q0, _, 0, .int x0, rfl, rfl, SqT.of eq0, rfl, by show 2 ≤ sizeLine; decide, fun q1 n1 => ?_⟩
      refine ret 0 (some x0) ?_ q1 n1
      unfold Wm.told
      rw [← i2, if_pos rfl, e4]
      unfold Wm.lastR
      rw [List.getLast?_concat]
    | false =>
      rw [hst] at i2
      refine iteF ?_
      have i4 := i3 hst
      refine ⟨_, rfl, rfl, ?_⟩
      have hto : Wm.told (evM r rs U) = match m.si with | some a => (1, some a) | none => (2, none) := by
        unfold Wm.told
        rw [← i2, if_neg (by decide), i4]
        all_goals (cases (evM r rs U).si <;> rfl)
      cases hsi : m.si with
      | none =>
        rw [hsi] at hto
        exact ⟨false, rfl, iteF ⟨_, rfl, by show 2 ≤ sizeLine; decide, fun q1 n1 => ret 2 none hto q1 n1⟩⟩
      | some u =>
        rw [hsi] at hto
        exact ⟨true, rfl, iteT ⟨_, rfl, _, rfl, by show 2 ≤ sizeLine; decide, fun q1 n1 => ret 1 (some u) hto q1 n1⟩⟩
end
end W24

namespace W24
open PySem PySem.Spec PyProof.Rows L2 Pw
theorem menu {xs : List V} {i : Int} (h0 : 0 ≤ i) (h1 : i < (xs.length : Int)) : ∃ v, v ∈ xs ∧ atI xs i = some v := by
  obtain ⟨j, rfl⟩ := Int.eq_ofNat_of_zero_le h0
  have hj : j < xs.length := by omega
  exact ⟨xs[j], List.getElem_mem hj, atI_nat (by simp [hj])⟩
/-- such a menu, all of it numbers that are ok -/
theorem menuI {xs : List Int} {i : Int} {ok : Int → Prop} (h0 : 0 ≤ i) (h1 : i < (xs.length : Int)) (h : ∀ x ∈ xs, ok x) : ∃ v, ok v ∧ atI (xs.map V.int) i = some (.int v) := by
  obtain ⟨j, rfl⟩ := Int.eq_ofNat_of_zero_le h0
  have hj : j < xs.length := by omega
  exact ⟨xs[j], h _ (List.getElem_mem hj), atI_nat (by simp [hj])⟩
theorem b01 (k : Bool) : (0 : Int) ≤ (if k = true then 1 else 0) ∧ (if k = true then (1 : Int) else 0) < 2 := by cases k <;> decide
section
variable {P : Program} {w : World} {K : PySem.W.Frag} {mg : Str → Option Value} {base : Heap}
def spRuleL (K : PySem.W.Frag) : Sp := fun vs H Q _ => ∃ nm pt b n, vs = [.str nm, .str pt, .ref b] ∧ Row H b n ∧ 7 ≤ n ∧ OkName nm ∧ OkName pt ∧
  ∀ q H' r, Same H H' → H q = none → H' q = some (.tup (fR r)) → GoodRl r → Q (.ref q) H'
theorem d_ruleL (A : At K mg "_law_rule" sLawRule) : Def P w K mg base "_law_rule" 1 ["_law_name", "_law_point", "_law_row_here"] (spRuleL K) := by
  refine mkDef A scLawRule (fun _ _ _ _ _ _ us hl => match us, hl with | [_, _, _], _ => rfl) (fun vs H Q E ⟨_, _, _, _, e, _⟩ => by rw [e]; rfl)
    (fun f cdv A out s H vs Q E hr h => ?_)
  obtain ⟨nm, pt, b, n, rfl, hR, hn, h1, h2, k⟩ := h
  refine ⟨_, (pss_cons (ps_set (i := 3) scLawRule.nd rfl (.inl rfl) (pe_ix ix_list (pe_lst (pa_cons pe_str (pa_cons pe_str pa_nil))) (pe_op op_mod (pe_ix ix_list (pv 2) pe_int (fun _ _ => rfl)) pe_int) (fun _ _ => rfl)))
    (pss_cons (ps_set (i := 4) scLawRule.nd rfl (.inl rfl) (pe_ix ix_list (pe_lst (pa_cons pe_int (pa_cons pe_int (pa_cons (pe_op op_mod (pe_ix ix_list (pv 2) pe_int (fun _ _ => rfl)) pe_int) (pa_cons (pe_op op_mod (pe_ix ix_list (pv 2) pe_int (fun _ _ => rfl)) pe_int) pa_nil))))) (pe_op op_mod (pe_ix ix_list (pv 2) pe_int (fun _ _ => rfl)) pe_int) (fun _ _ => rfl)))
    (pss_cons (ps_set (i := 5) scLawRule.nd rfl (.inl rfl) (pe_ix ix_list (pe_lst (pa_cons pe_int (pa_cons pe_int (pa_cons (pe_op op_mod (pe_ix ix_list (pv 2) pe_int (fun _ _ => rfl)) pe_int) (pa_cons (pe_op op_mod (pe_ix ix_list (pv 2) pe_int (fun _ _ => rfl)) pe_int) (pa_cons pe_int pa_nil)))))) (pe_op op_mod (pe_ix ix_list (pv 2) pe_int (fun _ _ => rfl)) pe_int) (fun _ _ => rfl)))
    (pss_one (ps_ret (pe_tup (pa_cons (pv 0) (pa_cons (pv 1) (pa_cons (pv 3) (pa_cons (pe_op op_mod (pe_ix ix_list (pv 2) pe_int (fun _ _ => rfl)) pe_int) (pa_cons (pv 4) (pa_cons (pv 5) (pa_cons (pe_op op_add pe_int (pe_op op_mod (pe_ix ix_list (pv 2) pe_int (fun _ _ => rfl)) pe_int)) pa_nil))))))))))))), ?_⟩
  obtain ⟨xs, x0, eb, a0, _⟩ := hR.at 0 (by omega)
  obtain ⟨xs', x1, eb1, a1, _⟩ := hR.at 1 (by omega)
  obtain rfl : xs = xs' := by rw [eb] at eb1; cases eb1; rfl
  obtain ⟨xs', x2, eb2, a2, _⟩ := hR.at 2 (by omega)
  obtain rfl : xs = xs' := by rw [eb] at eb2; cases eb2; rfl
  obtain ⟨xs', x3, eb3, a3, _⟩ := hR.at 3 (by omega)
  obtain rfl : xs = xs' := by rw [eb] at eb3; cases eb3; rfl
  obtain ⟨xs', x4, eb4, a4, _⟩ := hR.at 4 (by omega)
  obtain rfl : xs = xs' := by rw [eb] at eb4; cases eb4; rfl
  obtain ⟨xs', x5, eb5, a5, _⟩ := hR.at 5 (by omega)
  obtain rfl : xs = xs' := by rw [eb] at eb5; cases eb5; rfl
  obtain ⟨xs', x6, eb6, a6, _⟩ := hR.at 6 (by omega)
  obtain rfl : xs = xs' := by rw [eb] at eb6; cases eb6; rfl
  have md : ∀ (x m : Int), 0 < m → 0 ≤ x % m ∧ x % m < m := fun x m hm => ⟨Int.emod_nonneg _ (by omega), Int.emod_lt_of_pos _ hm⟩
  -- the word
  refine ⟨by show 2 ≤ sizeLine; decide, fun L1 n1 => ?_⟩
  have S1 : Same H (upd H L1 (.lst [.str "above", .str "below"])) := Same.laid n1
  have e1 : upd H L1 (.lst [.str "above", .str "below"]) L1 = some (.lst [.str "above", .str "below"]) := upd_same
  generalize upd H L1 (.lst [.str "above", .str "below"]) = H1 at *
  obtain ⟨v, hv, atv⟩ := menu (xs := [V.str "above", .str "below"]) (md x0 2 (by decide)).1 (md x0 2 (by decide)).2
  refine ⟨_, rfl, b, xs, 0, .int x0, rfl, rfl, SqL.of (S1 _ _ eb), a0, x0, 2, rfl, rfl, (by decide : (0 : Int) < 2), L1, _, _, v, rfl, rfl, SqL.of e1, atv, ?_⟩
  have hab : ∃ ab : Bool, v = .str (if ab = true then "above" else "below") := by
    simp only [List.mem_cons, List.not_mem_nil, or_false] at hv
    rcases hv with rfl | rfl
    · exact ⟨true, rfl⟩
    · exact ⟨false, rfl⟩
  obtain ⟨ab, rfl⟩ := hab
  -- back
  refine ⟨_, rfl, b, xs, 2, .int x2, rfl, rfl, SqL.of (S1 _ _ eb), a2, x2, 5, rfl, rfl, (by decide : (0 : Int) < 5), _, rfl, b, xs, 2, .int x2, rfl, rfl, SqL.of (S1 _ _ eb), a2, x2, 64, rfl, rfl, (by decide : (0 : Int) < 64), by show 4 ≤ sizeLine; decide, fun L2 n2 => ?_⟩
  have S2 : Same H1 (upd H1 L2 (.lst [.int 0, .int 1, .int (x2 % 5), .int (x2 % 64)])) := Same.laid n2
  have e2 : upd H1 L2 (.lst [.int 0, .int 1, .int (x2 % 5), .int (x2 % 64)]) L2 = some (.lst (([0, 1, x2 % 5, x2 % 64] : List Int).map V.int)) := upd_same
  obtain ⟨bk, hbk, atb⟩ := menuI (xs := [0, 1, x2 % 5, x2 % 64]) (ok := fun z => 0 ≤ z ∧ z ≤ 63) (md x3 4 (by decide)).1 (md x3 4 (by decide)).2 (by
    have := md x2 5 (by decide); have := md x2 64 (by decide)
    simp only [List.forall_mem_cons]
    exact ⟨by omega, by omega, by omega, by omega, fun _ h => by cases h⟩)
  have S02 := S1.trans S2
  refine ⟨_, rfl, b, xs, 3, .int x3, rfl, rfl, SqL.of (S02 _ _ eb), a3, x3, 4, rfl, rfl, (by decide : (0 : Int) < 4), L2, _, _, .int bk, rfl, rfl, SqL.of e2, atb, ?_⟩
  -- hold
  refine ⟨_, rfl, b, xs, 4, .int x4, rfl, rfl, SqL.of (S02 _ _ eb), a4, x4, 6, rfl, rfl, (by decide : (0 : Int) < 6), _, rfl, b, xs, 4, .int x4, rfl, rfl, SqL.of (S02 _ _ eb), a4, x4, 30, rfl, rfl, (by decide : (0 : Int) < 30), by show 5 ≤ sizeLine; decide, fun L3 n3 => ?_⟩
  have S3 := (Same.laid (o := HO.lst [.int 0, .int 1, .int (x4 % 6), .int (x4 % 30), .int 99]) n3)
  obtain ⟨hd, hhd, ath⟩ := menuI (xs := [0, 1, x4 % 6, x4 % 30, 99]) (ok := fun z => 0 ≤ z ∧ z ≤ 99) (md x5 5 (by decide)).1 (md x5 5 (by decide)).2 (by
    have := md x4 6 (by decide); have := md x4 30 (by decide)
    simp only [List.forall_mem_cons]
    exact ⟨by omega, by omega, by omega, by omega, by omega, fun _ h => by cases h⟩)
  have S03 := S02.trans S3
  refine ⟨_, rfl, b, xs, 5, .int x5, rfl, rfl, SqL.of (S03 _ _ eb), a5, x5, 5, rfl, rfl, (by decide : (0 : Int) < 5), L3, _, _, .int hd, rfl, rfl, SqL.of upd_same, ath, ?_⟩
  have h64 := md x1 64 (by decide)
  have h3 := md x6 3 (by decide)
  refine ⟨_, rfl, _, rfl, _, rfl, _, rfl, b, xs, 1, .int x1, rfl, rfl, SqL.of (S03 _ _ eb), a1, x1, 64, rfl, rfl, (by decide : (0 : Int) < 64), _, rfl, _, rfl, _, rfl, b, xs, 6, .int x6, rfl, rfl, SqL.of (S03 _ _ eb), a6, x6, 3, rfl, rfl, (by decide : (0 : Int) < 3), _, _, rfl, rfl, by show 7 ≤ sizeLine; decide, fun q nq => ?_⟩
  exact k q _ ⟨nm, pt, ⟨ab, x1 % 64, bk, hd⟩, 1 + x6 % 3⟩ (S03.trans (Same.laid nq)) (Same.no S03 nq) upd_same ⟨h1, h2, ⟨h64.1, by have := h64.2; show x1 % 64 ≤ 63; omega⟩, hbk, hhd, ⟨by show 1 ≤ 1 + x6 % 3; omega, by show 1 + x6 % 3 ≤ 3; omega⟩⟩

end
end W24

/-! Exceptions over ValueError, LookupError and KeyError: as values, and raised. -/
namespace Pw
open PySem
/-- what __init__ of a built-in error must be -/
structure IniF (B initId : String) : Prop where
  split : splitId initId = some (B, "__init__")
  kind : builtinKind initId = some .slot
  row : Manifest.signature? initId =
    some ⟨.positional, "*", B, .self, [⟨"args", .varPos, false⟩]⟩
  plain : plainId initId = true
  star : (B != "*") = true
  entry : entryFor table initId = some Builtin.«BaseException.__init__»
theorem iniV : IniF "ValueError" "ValueError.__init__" :=
  ⟨F.excBase_ValueError.initSplit, F.excBase_ValueError.initKind, F.excBase_ValueError.initRow, F.excBase_ValueError.init.plain, by decide, F.excBase_ValueError.initEntry⟩
theorem iniL : IniF "LookupError" "LookupError.__init__" :=
  ⟨F.excBase_LookupError.initSplit, F.excBase_LookupError.initKind, F.excBase_LookupError.initRow, F.excBase_LookupError.init.plain, by decide, F.excBase_LookupError.initEntry⟩
theorem iniK : IniF "KeyError" "KeyError.__init__" where
  split := by kernel_rfl
  kind := by kernel_rfl
  row := by kernel_rfl
  plain := by decide +kernel
  star := by decide
  entry := entryFor_alias (id' := "BaseException.__init__") (by rw [fastTable_eq_tree]; kernel_rfl)
    (by first | rfl | decide +kernel) (by decide +kernel)
    (by rw [fastTable_eq_tree]; kernel_rfl)
abbrev veT : List Value := [.type "ValueError", .type "Exception", .type "BaseException", .type "object"]
abbrev leT : List Value := [.type "LookupError", .type "Exception", .type "BaseException", .type "object"]
abbrev keT : List Value := [.type "KeyError", .type "LookupError", .type "Exception", .type "BaseException", .type "object"]
/-- the classes behind an own one, and the maker of its instances -/
structure Fit (newId : String) (bm : List Value) : Prop where
  maker : ∃ B i bmB, ExcBaseFacts B newId i bmB ∧ bm.contains (.type B) = true
  noA : bm.contains (.type "AttributeError") = false
  noN : bm.contains (.type "NameError") = false
  obj : bm.contains (.type "object") = true
  pass : ∀ self, refuseLoop self "__setattr__" bm = pure ()
theorem fitV : Fit "ValueError.__new__" veT :=
  ⟨⟨_, _, _, F.excBase_ValueError, by decide +kernel⟩, by decide +kernel, by decide +kernel, by decide +kernel, F.store_ValueError.passes⟩
theorem fitL : Fit "LookupError.__new__" leT :=
  ⟨⟨_, _, _, F.excBase_LookupError, by decide +kernel⟩, by decide +kernel, by decide +kernel, by decide +kernel, F.store_LookupError.passes⟩
theorem fitK : Fit "LookupError.__new__" keT :=
  ⟨⟨_, _, _, F.excBase_LookupError, by decide +kernel⟩, by decide +kernel, by decide +kernel, by decide +kernel, fun self => by kernel_rfl⟩
theorem Fit.up {newId : String} {bm : List Value} (c : Addr) (h : Fit newId bm) : Fit newId (.ref c :: bm) := by
  obtain ⟨B, i, bmB, F, hB⟩ := h.maker
  have e : ∀ X : String, (Value.ref c :: bm).contains (.type X) = bm.contains (.type X) := fun X => by
    rw [List.contains_cons]; rfl
  exact ⟨⟨B, i, bmB, F, (e B).trans hB⟩, (e _).trans h.noA, (e _).trans h.noN, (e _).trans h.obj, fun self => by
    rw [refuseLoop_ref]
    exact h.pass self⟩
end Pw

namespace Pw
open PySem PySem.Spec PyProof.Rows L2

/-! ### such a class is called -/
section
variable {prog : Program} {w : World} {A : Around} {R : Result → Shared → Prop} {h : Heap} {g : Array GenState}
  {d : Drawn} {t : Nat} {os : OsState} {nm q : Str} {C N : Addr} {bs bm bmB : List Value} {hdct : Bool} {sn : List Str}
  {sub : List Value} {ab : Bool} {col : Option Bool} {dd : Option Addr} {k0 k1 k2 k3 k5 : Option Value} {B newId initId : String} {kw : List (Str × Value)}

theorem new_checkF {M : Model} {E : Value → Shared → Prop} (F : ExcBaseFacts B newId initId bmB)
    (hB : (Value.ref C :: bm).contains (.type B) = true) {rest : List Value} {Q : Unit → Shared → Prop}
    (hC : h.get? C = some (excClassObj nm q C N bs bm hdct sn sub ab col dd k0 k1 k2 k3 k5 newId)) (hq : Q () ⟨h, g, d, t, os⟩) :
    wpAny M A (checkBuiltinCall newId ⟨.ref C :: rest, kw⟩) Q E ⟨h, g, d, t, os⟩ := by
  have star := F.noStar
  simp only [checkBuiltinCall, F.newKind, F.newSplit, F.newRow]
  repeat (first
    | refine wpAny_loadPart_at hC ?_
    | (refine wpAny_isSubtype_exc hC ?_; rw [hB])
    | refine wpAny_staticBase_exc hC ?_
    | refine wpAny_madeBy_exc hC ?_
    | simp only [bne_self_eq_false, Bool.false_eq_true, if_false]
    | wp_step)
  exact hq

theorem newF (F : ExcBaseFacts B newId initId bmB) (hB : (Value.ref C :: bm).contains (.type B) = true)
    (hA : (Value.ref C :: bm).contains (.type "AttributeError") = false)
    (hN : (Value.ref C :: bm).contains (.type "NameError") = false) {rest : List Value}
    (hC : h.get? C = some (excClassObj nm q C N bs bm hdct sn sub ab col dd k0 k1 k2 k3 k5 newId))
    (hq : R (.ok (.ret (.ref (h.objs.size + 1)))) ⟨(h.push (PySem.W.kdv_tup rest)).push (exOb C none h.objs.size), g, d, t, os⟩)
    (hrest : rest.length ≤ sizeLine) :
    codeAny (model prog w) A (.builtin newId ⟨.ref C :: rest, kw⟩) R ⟨h, g, d, t, os⟩ := by
  have ends := F.ends
  refine codeAny_builtinAt F.entry ?_
  unfold Builtin.«BaseException.__new__»
  refine PySem.wpAt_bind ?_
  show PySem.wpAt _ _ _ (stack >>= _) _ _ _
  refine PySem.wpAt_bind (PySem.wpAt_stack fun p below => PySem.wpAt_of_wpAny ?_)
  wp_walk
  refine PySem.wpAt_of_wpAny ?_
  rw [F.owner]
  repeat (first
    | with_reducible refine wpAny_madeHere_exc F.canon hC ?_
    | with_reducible refine wpAny_loadPart_at hC ?_
    | (with_reducible refine wpAny_isSubtype_exc hC ?_; first | rw [hB] | rw [hA] | rw [hN])
    | wp_step)
  show R _ _
  rw [Heap.size_push]
  exact hq

theorem type_callF {E : Value → Shared → Prop} (F : ExcBaseFacts B newId initId bmB) (hB : (Value.ref C :: bm).contains (.type B) = true)
    (hA : (Value.ref C :: bm).contains (.type "AttributeError") = false)
    (hN : (Value.ref C :: bm).contains (.type "NameError") = false) {rest : List Value} {fI : Addr} {Q : Fin → Shared → Prop}
    (hC : h.get? C = some (excClassObj nm q C N bs bm hdct sn sub ab col dd k0 k1 k2 k3 k5 newId))
    (hi : PySem.W.Looks (model prog w) h (typeLookup (.ref C) "__init__") (some (.ref fI)))
    (hb : ∀ self, PySem.W.Looks (model prog w) h (bindSpecial (.ref fI) self) (.ref fI, [self])) (hrest : rest.length ≤ sizeLine)
    (hq : codeAny (model prog w) A (.call (.ref fI) ⟨.ref (h.objs.size + 1) :: rest, kw⟩)
      (fun r s' => match r with
        | .ok (.ret v) => v = .none ∧ Q (.done (.ret (.ref (h.objs.size + 1)))) s'
        | .ok _ => False
        | .error e => E e s')
      ⟨(h.push (PySem.W.kdv_tup rest)).push (exOb C none h.objs.size), g, d, t, os⟩) :
    wpAny (model prog w) A (Builtin.«type.__call__» ⟨.ref C :: rest, kw⟩) Q E ⟨h, g, d, t, os⟩ := by
  repeat (first
    | with_reducible refine wpAny_loadPart_at hC ?_
    | with_reducible refine wpAny_madeBy_exc hC ?_
    | wp_step)
  refine codeAny_call_builtin_code (Code.quiet_builtin _ F.quiet) (new_checkF F hB hC ?_)
  refine newF F hB hA hN hC ?_ hrest
  show wpAny _ _ _ _ _ _
  have k : ∀ b o, h.get? b = some o → ((h.push (PySem.W.kdv_tup rest)).push (exOb C none h.objs.size)).get? b = some o :=
    fun b o e => Heap.get?_push_of_some _ (Heap.get?_push_of_some _ e)
  have hC1 := k _ _ hC
  have hget : ((h.push (PySem.W.kdv_tup rest)).push (exOb C none h.objs.size)).get? (h.objs.size + 1) =
    some (exOb C none h.objs.size) := by heap_get
  have hcC : (Value.ref C :: bm).contains (.ref C) = true := by simp
  have i1 := hi.keeps k
  have b1 := (hb (.ref (h.objs.size + 1))).keeps k
  unfold isInstance
  repeat (first
    | with_reducible refine wpAny_loadPart_at hget ?_
    | (with_reducible refine wpAny_isSubtype_exc hC1 ?_; rw [hcC])
    | wp_step)
  show wpAny _ _ (typeLookup (.ref C) _) _ _ _
  refine i1.at (wpAny_holding (wpAny_bind (b1.at ?_)))
  refine wpAny_bind (wpAny_call (codeAny_mono hq fun r s' z => ?_))
  match r, z with
  | .error e, z => exact z
  | .ok (.ret v), ⟨hv, z⟩ =>
    subst hv
    first
      | exact wpAny_pure (wpAny_pure z)
      | (wp_walk; exact z)
  | .ok .next, z => exact z.elim
  | .ok .brk, z => exact z.elim
  | .ok .cont, z => exact z.elim

theorem call_ownF (F : ExcBaseFacts B newId initId bmB) (hB : (Value.ref C :: bm).contains (.type B) = true)
    (hA : (Value.ref C :: bm).contains (.type "AttributeError") = false)
    (hN : (Value.ref C :: bm).contains (.type "NameError") = false) {rest : List Value} {fI : Addr}
    (hC : h.get? C = some (excClassObj nm q C N bs bm hdct sn sub ab col dd k0 k1 k2 k3 k5 newId))
    (hi : PySem.W.Looks (model prog w) h (typeLookup (.ref C) "__init__") (some (.ref fI)))
    (hb : ∀ self, PySem.W.Looks (model prog w) h (bindSpecial (.ref fI) self) (.ref fI, [self])) (hrest : rest.length ≤ sizeLine)
    (hq : codeAny (model prog w) (A.under (.builtin "type.__call__" ⟨.ref C :: rest, kw⟩))
      (.call (.ref fI) ⟨.ref (h.objs.size + 1) :: rest, kw⟩) (PySem.W.InitBack (h.objs.size + 1) R)
      ⟨(h.push (PySem.W.kdv_tup rest)).push (exOb C none h.objs.size), g, d, t, os⟩) :
    codeAny (model prog w) A (.call (.ref C) ⟨rest, kw⟩) R ⟨h, g, d, t, os⟩ := by
  have f1 := tc_lookup
  have f2 := tc_bind (.ref C)
  have hTy : (⟨h, g, d, t, os⟩ : Shared).TypeIs (.ref C) "type" := ⟨_, hC, rfl⟩
  refine codeAny_of_tree ?_
  show wpAny _ _ (callAny (.ref C) _) _ _ _
  repeat (any_goals (first
    | assumption
    | with_reducible refine wpAny_loadPart_at hC ?_
    | wp_step))
  refine ⟨rfl, ?_⟩
  refine codeAny_call_builtin_at (Code.quiet_builtin _ (by decide +kernel)) entry_typeCall
    (wpAny_check_type_call_sub hC (type_callF F hB hA hN hC hi hb hrest ?_))
  refine codeAny_mono hq fun r s' z => ?_
  match r, z with
  | .error e, z => exact z
  | .ok (.ret v), z => exact z
  | .ok .next, z => exact z
  | .ok .brk, z => exact z
  | .ok .cont, z => exact z

/-- B.__init__(e, ..): the args are laid anew -/
theorem init_argsF (I : IniF B initId) (hB : (Value.ref C :: bm).contains (.type B) = true) {e t0 : Addr} {rest : List Value}
    (hC : h.get? C = some (excClassObj nm q C N bs bm hdct sn sub ab col dd k0 k1 k2 k3 k5 newId))
    (he : h.get? e = some (exOb C none t0)) (hrest : rest.length ≤ sizeLine)
    (hq : ∀ h' t1, h.objs.size ≤ t1 → (∀ b o, b ≠ e → h.get? b = some o → h'.get? b = some o) →
      h'.get? e = some (exOb C none t1) → h'.get? t1 = some (PySem.W.kdv_tup rest) →
      R (.ok (.ret .none)) ⟨h', g, d, t, os⟩) :
    codeAny (model prog w) A (.call (.builtin initId) ⟨.ref e :: rest, []⟩) R ⟨h, g, d, t, os⟩ := by
  refine codeAny_call_builtin I.plain I.entry ?_
  simp only [checkBuiltinCall, I.kind, I.split, I.row]
  have star := I.star
  repeat (first
    | with_reducible refine wpAny_loadPart_at he ?_
    | with_reducible refine wpAny_loadPart_at hC ?_
    | (with_reducible refine wpAny_isSubtype_exc hC ?_; rw [hB])
    | wp_step)
  refine wpAny_onRaise ?_
  have chk : ∀ (a b : String) (n : Nat), Bind.check ⟨.positional, "*", B, .self, [⟨"args", .varPos, false⟩]⟩ a b n
      (List.map (fun x => x.fst) ({ pos := Value.ref e :: rest } : Args).kw) = pure () :=
    fun a b n => check_star_args _ _ _ _ _ _
  rw [chk]
  refine wpAny_pure ?_
  have hes : e ≠ h.objs.size := Nat.ne_of_lt (Heap.lt_size he)
  wp_walk
  refine hq _ h.objs.size (Nat.le_refl _) (fun b o hb ho => ?_) ?_ ?_
  · exact (Heap.get?_update_other _ _ (Ne.symm hb)).trans (Heap.get?_push_of_some _ ho)
  · exact (Heap.get?_update_self _ (Heap.get?_push_of_some _ he) rfl).trans rfl
  · exact (Heap.get?_update_other _ _ hes).trans (Heap.get?_push_size _ rfl)
end
end Pw

/-! Exceptions of one's own over any of the three bases: stored in, made, read. -/
namespace Pw
open PySem PySem.Spec PyProof.Rows L2

/-- what the written part says of the class at C -/
structure OexF (K : PySem.W.Frag) (C : Addr) : Prop where
  cls : ∃ newId nm q N bs bm sn sub ab col dd k0 k1 k2 k3 k5,
    K.lookup C = some (excClassObj nm q C N bs bm true sn sub ab col dd k0 k1 k2 k3 k5 newId) ∧ Fit newId (.ref C :: bm)
  sa : PySem.W.findIn K (.ref C) "__setattr__" = some (some (.builtin "object.__setattr__"))
  exC : PySem.W.subIn K (.ref C) (.type "BaseException") = some true
  tyC : PySem.W.typeIn K (.ref C) = some (.type "type")
  kC : PySem.W.keepIn K (.ref C) = true

section
variable {prog : Program} {w : World} {A : Around} {R : Result → Shared → Prop} {hp : Heap} {g : Array GenState}
  {d : Drawn} {t : Nat} {os : OsState}
open PySem.Builtin PySem.Builtin.ObjectAttr in
/-- object.__setattr__ on an exception that has no dict yet -/
theorem osaF {K : PySem.W.Frag} {name : Str} {tk : Tok} {v : Value} {x C : Addr} {fv : Array Value} {cd : ClassData}
    (X : K.In hp) (hx : hp.get? x = some { cls := .ref C, data := .fields fv })
    (hcd : PySem.W.clsIn K C = some cd) (hne : cd.mro.isEmpty = false) (hob : cd.mro.contains (.type "object") = true)
    (hps : ∀ self, refuseLoop self "__setattr__" cd.mro = pure ()) (hh : cd.hasDict = true)
    (ha : PySem.W.findIn K (.ref C) name = some none)
    (hq : ∀ h' tk' dx, (∀ b o, b ≠ x → hp.get? b = some o → h'.get? b = some o) → hp.objs.size ≤ dx → dx ≠ x →
      h'.get? x = some { cls := .ref C, dict := some dx, data := .fields fv } →
      h'.Ns1 dx (fun y => if y = name then some v else none) → R (.ok (.ret .none)) ⟨h', g, d, tk', os⟩) :
    codeAny (model prog w) A (.call (.builtin "object.__setattr__") ⟨[.ref x, .str name tk, v], []⟩) R ⟨hp, g, d, t, os⟩ := by
  have I : PySem.W.InstAt hp x { cls := .ref C, data := .fields fv } C none := ⟨hx, rfl, rfl, trivial⟩
  have SF := F.store_object
  have hxs : x ≠ hp.objs.size := Nat.ne_of_lt (Heap.lt_size hx)
  have mo : PySem.W.mroIn K C (.type "object") = some true := by
    unfold PySem.W.mroIn
    rw [hcd, Option.bind_some, if_neg (by rw [hne]; decide), hob]
  have sub : PySem.W.Looks (model prog w) hp (isInstance (.ref x) (.type "object")) true :=
    I.type.andThen (PySem.W.looks_mroIn X mo)
  refine codeAny_call_builtin SF.slot.plain SF.entry ?_
  refine @PySem.W.check_slot (model prog w) _ _ ⟨hp, g, d, t, os⟩ "object.__setattr__" "object" "__setattr__" (.ref x)
    [.str name tk, v] [] _ SF.kind SF.split sub (SF.args (.ref x) (.str name tk) v) ?_
  have hmr : PySem.W.Looks (model prog w) hp (mroOf (.ref C)) cd.mro := (PySem.W.looks_clsIn X hcd).andThen .now
  have nt : PySem.W.Looks (model prog w) hp (storeTaker? none) none := .now
  have lc : PySem.W.Looks (model prog w) hp (classData C) cd := PySem.W.looks_clsIn X hcd
  rw [PySem.W.osa_eq, refuse_eq]
  refine wpAny_bind (wpAny_bind (I.type.at (wpAny_bind (hmr.at ?_))))
  rw [hps]
  refine wpAny_pure (wpAny_bind (I.type.at (wpAny_bind ((PySem.W.looks_findIn X ha).at (wpAny_bind (nt.at ?_))))))
  show wpAny _ _ (storeInOwnDict (.ref x) (.ref C) (.str name tk) name v false) _ _ _
  obtain ⟨nm, bs, mro, ns, qn, hd, sn, sb, ab, col, del⟩ := cd
  dsimp only at hh
  subst hh
  unfold storeInOwnDict ownDictForStores
  repeat (first
    | with_reducible refine PySem.HandSPX.store_in_new ?_ ?_
    | with_reducible refine wpAny_loadPart_at hx ?_
    | with_reducible refine lc.at ?_
    | wp_step)
  · exact ⟨_, #[], _, (Heap.get?_update_ne _ _ _ _ hxs.symm).trans (Heap.get?_push_at rfl rfl), rfl,
      fun e he => absurd he (by simp), fun _ => rfl⟩
  · intro h' tk' hn' hs
    have hx₁ : (hp.push { cls := .type "dict", data := .dict #[] }).get? x = some { cls := .ref C, data := .fields fv } :=
      Heap.get?_push_of_some _ hx
    refine hq h' tk' hp.objs.size (fun b o hb ho => ?_) (Nat.le_refl _) hxs.symm ?_ hn'
    · exact (hs.2 b (Nat.ne_of_lt (Heap.lt_size ho))).trans
        ((Heap.get?_update_ne _ _ _ _ hb).trans (Heap.get?_push_of_some _ ho))
    · exact (hs.2 x hxs).trans (Heap.get?_update_self _ hx₁ rfl)
end

section
variable {X : Cx} {pins : List (Addr × Obj)} {σ : L2.St} {H : Hp} {s : Shared} {a C t1 : Addr} {f : Str} {y : V}
  {u : Value} {E : Value → Shared → Prop} {A : Around}

/-- self.f = y, the first attribute -/
theorem eq_newF {Q : Unit → Shared → Prop} (T : OexF X.K C) (I : Inv X pins σ H s) (e : H a = some (exq a C none t1))
    (hno : PySem.W.findIn X.K (.ref C) f = some none) (ry : RelV y u)
    (h : ∀ dx s', H dx = none → dx ≠ a →
      Inv X pins σ (upd (upd H dx (exd dx [(f, y)])) a (exq a C (some dx) t1)) s' → Q () s') :
    wpAny (model X.prog X.w) A (setAttr (.ref a) f u) Q E s := by
  obtain ⟨newId, nm, q, N, bs, bm, sn, sub, ab, col, dd, k0, k1, k2, k3, k5, hC, ft⟩ := T.cls
  have hcl : PySem.W.clsIn X.K C = some { name := nm, bases := bs, mro := .ref C :: bm, ns := N, qualname := q, hasDict := true, slotNames := sn, subclasses := sub, abstract := ab, collection := col, hasDel := false } := by
    unfold PySem.W.clsIn
    rw [hC] <;> rfl
  have ho := exq_at I.hok e
  obtain ⟨hp, g, d, t, os⟩ := s
  refine PySem.W.set_plain I.kIn (ox := exOb C none t1) (od := none) ⟨ho, rfl, rfl, trivial⟩ T.sa ?_
  refine osaF I.kIn ho hcl rfl ft.obj ft.pass rfl hno (fun h' tk' dx k dn dne hx hn => ?_)
  have hnd : H dx = none := I.hok.fresh dn
  have nd : ∀ {b : Addr} {o : Obj}, hp.get? b = some o → b ≠ dx :=
    fun {b o} q => Nat.ne_of_lt (Nat.lt_of_lt_of_le (Heap.lt_size q) dn)
  have na : ∀ {b : Addr}, H b = none → b ≠ a := fun {b} n z => by rw [z, e] at n; cases n
  have Un1 : Un X.fs [] H (upd (upd H dx (exd dx [(f, y)])) a (exq a C (some dx) t1)) hp h' := {
    keep := fun b o q n _ _ => k b o (na n) q
    slot := fun b o q n _ _ => ⟨o.slots, k b o (na n) q⟩
    free := fun b o q n _ => ((upd_ne (na n)).trans (upd_ne (nd q))).trans n
    there := fun b o q _ => by
      by_cases hb : b = a
      · exact ⟨_, hb ▸ hx⟩
      · exact ⟨o, k b o hb q⟩
    tups := fun b xs q => ((upd_ne (at_ne e q exq_tup)).trans (upd_ne (ne_of_none q hnd))).trans q
    frzs := fun b o v q => ((upd_ne (at_ne e q exq_frz)).trans (upd_ne (ne_of_none q hnd))).trans q
    tbls := fun b ps q => ⟨#[], by rw [upd_ne (at_ne e q exq_tbl), upd_ne (ne_of_none q hnd), q]; simp⟩ }
  refine h dx _ hnd dne (I.un (t' := tk') Un1 fun b o q => ?_)
  by_cases hb : b = a
  · subst hb
    cases upd_same.symm.trans q
    exact exq_ok hx
  · rw [upd_ne hb] at q
    by_cases hd : b = dx
    · subst hd
      cases upd_same.symm.trans q
      exact exd_ok hn (relO_put (fs := []) ry fun g => True.intro)
    · rw [upd_ne hd] at q
      refine (I.hok b o q).stay (fun c v hc z => k c v ?_ z)
        (fun c hc => ((upd_ne (at_ne e hc exq_own)).trans (upd_ne (ne_of_none hc hnd))).trans hc)
        (fun c xs hc => ((upd_ne (at_ne e hc exq_tup)).trans (upd_ne (ne_of_none hc hnd))).trans hc)
      rcases hc with hc | hc
      · exact hc ▸ hb
      · exact at_ne e hc exq_own

/-- what the class stands above, from its own list -/
theorem has_of {K : PySem.W.Frag} {newId : String} {nm q : Str} {N : Addr} {bs bm : List Value} {sn : List Str}
    {sub : List Value} {ab : Bool} {col : Option Bool} {dd : Option Addr} {k0 k1 k2 k3 k5 : Option Value} {T : Value}
    (hC : K.lookup C = some (excClassObj nm q C N bs bm true sn sub ab col dd k0 k1 k2 k3 k5 newId))
    (m : PySem.W.mroIn K C T = some true) : (Value.ref C :: bm).contains T = true := by
  have hcl : PySem.W.clsIn K C = some { name := nm, bases := bs, mro := .ref C :: bm, ns := N, qualname := q, hasDict := true, slotNames := sn, subclasses := sub, abstract := ab, collection := col, hasDel := false } := by
    unfold PySem.W.clsIn
    rw [hC] <;> rfl
  unfold PySem.W.mroIn at m
  rw [hcl, Option.bind_some, if_neg (by show ¬ (false = true); decide)] at m
  exact Option.some.inj m

theorem eq_initF {B initId : String} {us : List Value} {ws : List V} {Q : Value → Shared → Prop} (J : IniF B initId)
    (T : OexF X.K C) (hB : PySem.W.mroIn X.K C (.type B) = some true) (I : Inv X pins σ H s)
    (e : H a = some (exq a C none t1)) (hl : us.length ≤ sizeLine) (rw' : Vals ws us)
    (h : ∀ t2 s', H t2 = none → t2 ≠ a → Inv X pins σ (upd (upd H t2 (.tup ws)) a (exq a C none t2)) s' → Q .none s') :
    wpAny (model X.prog X.w) A (call (.builtin initId) (.ref a :: us)) Q E s := by
  obtain ⟨newId, nm, q, N, bs, bm, sn, sub, ab, col, dd, k0, k1, k2, k3, k5, hC, ft⟩ := T.cls
  have ho := exq_at I.hok e
  obtain ⟨hp, g, d, t, os⟩ := s
  refine wpAny_call (init_argsF J (has_of hC hB) (I.kIn _ _ hC) ho hl fun h' t2 hsz k hx ht => ?_)
  have nt : H t2 = none := I.hok.fresh hsz
  have nea : t2 ≠ a := (ne_of_none e nt).symm
  have na : ∀ {b : Addr}, H b = none → b ≠ a := fun {b} n z => by rw [z, e] at n; cases n
  have nd : ∀ {b : Addr} {o : Obj}, hp.get? b = some o → b ≠ t2 :=
    fun {b o} q => Nat.ne_of_lt (Nat.lt_of_lt_of_le (Heap.lt_size q) hsz)
  have Un1 : Un X.fs [] H (upd (upd H t2 (.tup ws)) a (exq a C none t2)) hp h' := {
    keep := fun b o q n _ _ => k b o (na n) q
    slot := fun b o q n _ _ => ⟨o.slots, k b o (na n) q⟩
    free := fun b o q n _ => ((upd_ne (na n)).trans (upd_ne (nd q))).trans n
    there := fun b o q _ => by
      by_cases hb : b = a
      · exact ⟨_, hb ▸ hx⟩
      · exact ⟨o, k b o hb q⟩
    tups := fun b xs q => ((upd_ne (at_ne e q exq_tup)).trans (upd_ne (ne_of_none q nt))).trans q
    frzs := fun b o v q => ((upd_ne (at_ne e q exq_frz)).trans (upd_ne (ne_of_none q nt))).trans q
    tbls := fun b ps q => ⟨#[], by rw [upd_ne (at_ne e q exq_tbl), upd_ne (ne_of_none q nt), q]; simp⟩ }
  refine h t2 _ nt nea (I.un (t' := t) Un1 fun b o q => ?_)
  by_cases hb : b = a
  · subst hb
    cases upd_same.symm.trans q
    exact exq_ok hx
  · rw [upd_ne hb] at q
    by_cases hd : b = t2
    · subst hd
      cases upd_same.symm.trans q
      exact ⟨by rw [Paired.length rw']; exact hl, us, rw', _, ht, rfl, _, rfl⟩
    · rw [upd_ne hd] at q
      refine (I.hok b o q).stay (fun c v hc z => k c v ?_ z)
        (fun c hc => ((upd_ne (at_ne e hc exq_own)).trans (upd_ne (ne_of_none hc nt))).trans hc)
        (fun c xs hc => ((upd_ne (at_ne e hc exq_tup)).trans (upd_ne (ne_of_none hc nt))).trans hc)
      rcases hc with hc | hc
      · exact hc ▸ hb
      · exact at_ne e hc exq_own
end

/-! ### the rules -/
/-- B.__init__(self, ..) -/
def tBeq (K : PySem.W.Frag) (B : String) (ta : TA) : TE := fun σ H Q => ta σ H fun vs H1 =>
  ∃ (a C t0 : Addr) (ws : List V), vs = .ref a :: ws ∧ ws.length ≤ 1000 ∧ OexF K C ∧
    PySem.W.mroIn K C (.type B) = some true ∧ H1 a = some (exq a C none t0) ∧
    ∀ t2, H1 t2 = none → t2 ≠ a → Q .non (upd (upd H1 t2 (.tup ws)) a (exq a C none t2))
/-- self.f = e, the first attribute -/
def tEstF (K : PySem.W.Frag) (f : Str) (to te : TE) : TS := fun D σ H => te σ H fun y H1 => to σ H1 fun x H2 =>
  ∃ a C t1 : Addr, x = .ref a ∧ OexF K C ∧ PySem.W.findIn K (.ref C) f = some none ∧ H2 a = some (exq a C none t1) ∧
    ∀ dx, H2 dx = none → dx ≠ a → D.nx σ (upd (upd H2 dx (exd dx [(f, y)])) a (exq a C (some dx) t1))
/-- the names of the three bases as the text reads them -/
structure BaseNm (B : String) (x : Str) (initId : String) : Prop where
  ini : IniF B initId
  boot : bootBuiltins x = some (.type B)
  typ : typeOf (.type B) = pure (.type "type")
  stub : Manifest.isStub B = false
  hand : PySem.W.handedIn (.builtin initId) = true
  dbg : (x == ("__debug__" : Str)) = false
  nme : x ≠ "__name__"
theorem nmV : BaseNm "ValueError" "ValueError" "ValueError.__init__" :=
  ⟨iniV, PyProof.Rows.Boot.«ValueError», by kernel_rfl, by decide +kernel, by decide +kernel, by decide, by decide⟩
theorem nmL : BaseNm "LookupError" "LookupError" "LookupError.__init__" :=
  ⟨iniL, by kernel_rfl, by kernel_rfl, by decide +kernel, by decide +kernel, by decide, by decide⟩
theorem nmK : BaseNm "KeyError" "KeyError" "KeyError.__init__" :=
  ⟨iniK, by kernel_rfl, by kernel_rfl, by decide +kernel, by decide +kernel, by decide, by decide⟩

section
variable {X : Cx} {o e : Expr} {es : List Expr} {to te : TE} {ta : TA} {f : Str} {p p' p1 p2 pos : Pos}
theorem pe_beq {B initId : String} {x : Str} {pl : Sem Bool} (N : BaseNm B x initId) (hg : Gl X x) (hm : X.mg x = none)
    (vV : PySem.W.findCls X.K (.type B) (.type "type") "__init__" = some (.val (.builtin initId)))
    (ha : PA X (e :: es) ta)
    (hc : eval (.Call (.Attribute (.Name x p1) "__init__" p2) (e :: es) [] pos) X.env = (do
      let ov ← eval (.Name x p1) X.env
      standAt p2.atName
      let (f, first) ← holding [ov] (getMethod ov "__init__" pl)
      callWith pos f first (backTo pos (starEach (e :: es) X.env)) (backToKw pos (keywordEach [] X.env))) := by rfl)
    (he : starEach (e :: es) X.env = (false, eval e X.env) :: starEach es X.env := by rfl)
    (hpl : (backTo pos (starEach es X.env)).any (·.1) = false := by rfl) :
    PE X (.Call (.Attribute (.Name x p1) "__init__" p2) (e :: es) [] pos) (tBeq X.K B ta) := by
  refine ⟨fun pins s σ H Q I h => ?_⟩
  refine PySem.W.methodCall_KW (ld_blt I hg hm N.boot ?_ N.nme N.dbg) hc
  obtain ⟨m, fr⟩ := I.fr
  refine PySem.W.method_type fr I.ok.mod.kin N.typ N.stub vV N.hand ?_
  refine PyProof.Rows.callWith_method1 (first := []) (thn (ha.run pos pins _ σ H _ (I.tok _) h)
    fun us s1 ⟨vs, H1, I1, r1, a, C, t0, ws, ev, hl, T, hB, ea, q⟩ => ?_) he hpl
  subst ev
  cases r1 with
  | @cons _ u0 _ ur ra rw' =>
    obtain rfl : u0 = Value.ref a := ra
    have hlen : ur.length ≤ sizeLine := by
      rw [← Paired.length rw', sizeLine_eq]
      omega
    exact eq_initF N.ini T hB I1 ea hlen rw' fun t2 s' n1 n2 J => ⟨.non, _, J, rfl, q t2 n1 n2⟩

theorem ps_estF (ho : PE X o to) (he : PE X e te)
    (hs : swapsWith e (some (.Attribute o f p')) pos.line X.env = pure false := by rfl) :
    PS X (.Assign [.Attribute o f p'] e pos) (tEstF X.K f to te) := by
  refine ⟨fun pins s σ H D I h => ?_⟩
  refine plainObj_wpAny_Assign_Attribute (thn (he.run pins s σ H _ I h) fun v s1 ⟨y, H1, I1, r1, q1⟩ =>
    thn (ho.run pins s1 σ H1 _ I1 q1) fun u s2 ⟨x, H2, I2, r2, a, C, t1, ex, T, hno, ea, q⟩ => ?_) hs
  subst ex
  obtain rfl : u = Value.ref a := r2
  exact eq_newF T I2 ea hno r1 fun dx s' n ne J => ⟨σ, _, J, q dx n ne⟩

/-- the class called, its own __init__ keeping sp: us by place, kw by name; as: what its __init__ binds behind self -/
theorem own_call {pins : List (Addr × Obj)} {σ : L2.St} {H1 : Hp} {s1 : Shared} {C fI : Addr} {k : Nat} {CX : CXT} {fd : FuncData}
    {ps : List Str} {sp : Sp} {us as : List Value} {kw : List (Str × Value)} {vs avs : List V} {Q : VK} (T : OexF X.K C)
    (iC : PySem.W.findIn X.K (.ref C) "__init__" = some (some (.ref fI)))
    (tI : PySem.W.typeIn X.K (.ref fI) = some (.type "function"))
    (F1 : FnOk X.prog X.w X.K X.mg X.base CX k fI fd ps sp) (hr : Room (k + 1) X.A)
    (hb : ∀ (s : Shared) (self : Value), X.K.In s.heap → (self :: as).length = ps.length →
      BindsTo s fd ⟨self :: us, kw⟩ (ps.zip (self :: as)))
    (hx : Passes CX X (fun _ _ _ => False)) (I1 : Inv X pins σ H1 s1) (r1 : Vals vs us) (r2 : Vals avs as)
    (hz : vs.length ≤ 1000)
    (q1 : ∀ t0 a, H1 t0 = none → H1 a = none → t0 ≠ a →
      sp (.ref a :: avs) (upd (upd H1 t0 (.tup vs)) a (exq a C none t0))
        (fun v H2 => v = .non ∧ Q (.ref a) H2) (fun _ _ _ => False)) :
    wpAny (model X.prog X.w) X.A (call (.ref C) us kw) (EP X pins σ Q) X.xe s1 := by
  obtain ⟨newId, nm, q, N, bs, bm, sn, sub, ab, col, dd, k0, k1, k2, k3, k5, hC, ft⟩ := T.cls
  obtain ⟨B, i, bmB, EF, hB⟩ := ft.maker
  obtain ⟨hp, g, dr, tk, os⟩ := s1
  have n0 : H1 hp.objs.size = none := I1.hok.fresh (Nat.le_refl _)
  have n1 : H1 (hp.objs.size + 1) = none := I1.hok.fresh (Nat.le_succ _)
  have hne : hp.objs.size ≠ hp.objs.size + 1 := Nat.ne_of_lt (Nat.lt_succ_self _)
  have hq := q1 hp.objs.size (hp.objs.size + 1) n0 n1 hne
  have hus : us.length ≤ sizeLine := by
    rw [← Paired.length r1, sizeLine_eq]
    omega
  have I2 : Inv X pins σ (upd H1 hp.objs.size (.tup vs)) ⟨hp.push (PySem.W.kdv_tup us), g, dr, tk, os⟩ :=
    I1.laid (t' := tk) (a := hp.objs.size) (o := .tup vs) (h' := hp.push (PySem.W.kdv_tup us))
      (fun b o z => Heap.get?_push_of_some _ z) (Nat.le_refl _)
      ⟨by rw [Paired.length r1]; exact hus, us, r1, _, Heap.get?_push_size _ rfl, rfl, _, rfl⟩
  have hget : ((hp.push (PySem.W.kdv_tup us)).push (exOb C none hp.objs.size)).get? (hp.objs.size + 1) =
      some (exOb C none hp.objs.size) := by heap_get
  have hsz2 : (hp.push (PySem.W.kdv_tup us)).objs.size ≤ hp.objs.size + 1 := by
    simp [Heap.push]
  have I3 : Inv X pins σ (upd (upd H1 hp.objs.size (.tup vs)) (hp.objs.size + 1) (exq (hp.objs.size + 1) C none hp.objs.size))
      ⟨(hp.push (PySem.W.kdv_tup us)).push (exOb C none hp.objs.size), g, dr, tk, os⟩ :=
    I2.laid (t' := tk) (a := hp.objs.size + 1) (o := exq (hp.objs.size + 1) C none hp.objs.size)
      (h' := (hp.push (PySem.W.kdv_tup us)).push (exOb C none hp.objs.size))
      (fun b o z => Heap.get?_push_of_some _ z) hsz2 (exq_ok hget)
  have r3 : Vals (V.ref (hp.objs.size + 1) :: avs) (Value.ref (hp.objs.size + 1) :: as) := .cons rfl r2
  have hl : (Value.ref (hp.objs.size + 1) :: as).length = ps.length :=
    r3.length.symm.trans (F1.len _ _ _ _ hq)
  refine wpAny_call (call_ownF EF hB ft.noA ft.noN (I1.kIn _ _ hC) (PySem.W.looks_findIn I1.kIn iC)
    (fun self => PySem.W.bind_fn I1.kIn self tI) hus
    (codeAny_mono (F1.run _ X.stack _ _ ⟨Value.ref (hp.objs.size + 1) :: us, kw⟩
      (Value.ref (hp.objs.size + 1) :: as) _ _ (fun _ _ _ => False) (hr.make C us kw) (I3.env0.make C us kw)
      (hb _ (Value.ref (hp.objs.size + 1)) I3.kIn hl) r3 hq) fun r s' hq' => ?_))
  match r, hq' with
  | .error er, hq' => exact hx pins σ _ _ er s' I3 hq'
  | .ok (.ret u), hq' =>
    obtain ⟨v, H', I4, rv, ev, q3⟩ := I3.after hq'
    subst ev
    exact ⟨rv, ⟨V.ref (hp.objs.size + 1), H', I4, rfl, q3⟩⟩
  | .ok .next, hq' => exact False.elim hq'
  | .ok .brk, hq' => exact False.elim hq'
  | .ok .cont, hq' => exact False.elim hq'

/-- C(e, ..) -/
theorem pe_mkqF {x : Str} {C fI : Addr} {k : Nat} {CX : CXT} {fd : FuncData} {ps : List Str} {sp : Sp}
    {ds : List Value} {dvs : List V} (T : OexF X.K C)
    (iC : PySem.W.findIn X.K (.ref C) "__init__" = some (some (.ref fI)))
    (tI : PySem.W.typeIn X.K (.ref fI) = some (.type "function"))
    (F1 : FnOk X.prog X.w X.K X.mg X.base CX k fI fd ps sp) (hr : Room (k + 1) X.A) (hb : Binds X.K fd ps ds)
    (hd : Vals dvs ds) (hx : Passes CX X (fun _ _ _ => False)) (hg : Gl X x) (hm : X.mg x = some (.ref C))
    (ha : PA X (e :: es) ta) (hdb : (x == ("__debug__" : Str)) = false := by decide)
    (he : starEach (e :: es) X.env = (false, eval e X.env) :: starEach es X.env := by rfl)
    (hpl : (backTo pos (starEach es X.env)).any (·.1) = false := by rfl) :
    PE X (.Call (.Name x p) (e :: es) [] pos) (tMkq C sp dvs ta) := by
  refine ⟨fun pins s σ H Q I h => ?_⟩
  refine wpAny_Call_Name_kw (ld_glob I hg hm ?_ hdb)
  exact PySem.W.callWith_K (h₀ := X.base) I.ok.mod.kin T.kC
    (thn (ha.run pos pins s σ H _ I h) fun us s1 ⟨vs, H1, I1, r1, hz, q1⟩ =>
      ⟨I1.kIn, own_call T iC tI F1 hr (fun s self X hl => hb s (self :: us) X hl) hx I1 r1 (r1.append hd) hz q1⟩) he hpl

/-- C(f = e): by the name of its field -/
def tMkqK (C : Addr) (sp : Sp) (te : TE) : TE := fun σ H Q => tCons te tNil σ H fun zs H1 => ∃ v, zs = [v] ∧
  ∀ t0 a, H1 t0 = none → H1 a = none → t0 ≠ a →
    sp [.ref a, v] (upd (upd H1 t0 (.tup [])) a (exq a C none t0)) (fun v H2 => v = .non ∧ Q (.ref a) H2) (fun _ _ _ => False)
theorem pe_mkqK {x n self : Str} {C fI : Addr} {k : Nat} {CX : CXT} {fd : FuncData} {sp : Sp} {kp : Pos} (T : OexF X.K C)
    (iC : PySem.W.findIn X.K (.ref C) "__init__" = some (some (.ref fI)))
    (tI : PySem.W.typeIn X.K (.ref fI) = some (.type "function"))
    (F1 : FnOk X.prog X.w X.K X.mg X.base CX k fI fd [self, n] sp) (hr : Room (k + 1) X.A)
    (hb : ∀ (s : Shared) (a b : Value), X.K.In s.heap → BindsTo s fd ⟨[a], [(n, b)]⟩ [(self, a), (n, b)])
    (hx : Passes CX X (fun _ _ _ => False)) (hg : Gl X x) (hm : X.mg x = some (.ref C))
    (he : PE X e te) (hdb : (x == ("__debug__" : Str)) = false := by decide)
    (hall : (backToKw pos (keywordEach [⟨some n, e, kp⟩] X.env)).all (·.1.isSome) = true := by rfl)
    (hks : (backToKw pos (keywordEach [⟨some n, e, kp⟩] X.env)).filterMap (·.1) = [n] := by rfl)
    (hpl : ((backTo pos (starEach [] X.env)).any (·.1) || (backToKw pos (keywordEach [⟨some n, e, kp⟩] X.env)).any (·.1.isNone)) = false := by rfl) :
    PE X (.Call (.Name x p) [] [⟨some n, e, kp⟩] pos) (tMkqK C sp te) := by
  refine ⟨fun pins s σ H Q I h => ?_⟩
  refine wpAny_Call_Name_kw (ld_glob I hg hm ?_ hdb)
  refine PySem.W.callWith_KW0 (h₀ := X.base) I.ok.mod.kin T.kC hall ?_ hpl
  have P : PK X [⟨some n, e, kp⟩] (tCons te tNil) := pk_cons he pk_nil
  refine thn (P.run pos pins s σ H _ I h) fun ws s2 ⟨zs, H2, I2, rz, v, ev, q2⟩ => ⟨I2.kIn, ?_⟩
  subst ev
  obtain ⟨u, rfl, ru⟩ : ∃ u, ws = [u] ∧ RelV v u := by
    cases rz with
    | cons r1 r2 => cases r2; exact ⟨_, rfl, r1⟩
  rw [hks]
  exact own_call (us := []) (as := [u]) T iC tI F1 hr (fun s a X _ => hb s a u X) hx I2 .nil (.cons ru .nil) (Nat.zero_le _) q2

/-- e.f, the error at e with its dict -/
def tQget (K : PySem.W.Frag) (f : Str) (te : TE) : TE := fun σ H Q => te σ H fun x H1 =>
  ∃ (a C d t : Addr) (fs : List (Str × V)) (v : V), x = .ref a ∧ XfC K C ∧ PySem.W.findIn K (.ref C) f = some none ∧
    H1 a = some (exq a C (some d) t) ∧ H1 d = some (exd d fs) ∧ fs.lookup f = some v ∧ Q v H1
theorem pe_qget {te : TE} (he : PE X e te)
    (hb : attributeBase e f X.env (eval e X.env) = eval e X.env := by rfl) :
    PE X (.Attribute e f pos) (tQget X.K f te) := by
  refine ⟨fun pins s σ H Q I h => ?_⟩
  refine attr_of hb (thn (he.run pins s σ H _ I h) fun u s1 hh => ?_)
  obtain ⟨x, H1, I1, rx, a, C, dd, t, fs, v, rfl, T, hno, ea, ed, l, q⟩ := hh
  obtain rfl : u = Value.ref a := rx
  obtain ⟨mA, hns, hr⟩ := exd_at I1.hok ed
  obtain ⟨od, ho, hl⟩ := lookIn_ns hns
  obtain ⟨u, hu, ru⟩ := RelO.some_of (v := v) (o := mA f) (by rw [← l]; exact hr f)
  have J : PySem.W.InstAt s1.heap a (exOb C (some dd) t) C (some od) := ⟨exq_at I1.hok ea, rfl, rfl, ho⟩
  exact PySem.HandSPX.exc_get I1.kIn J T.ga T.gg T.exC (PySem.W.findObj_own T.hdC hno rfl (by rw [hl, hu])) (handed_of ru)
    ⟨v, H1, I1.tok _, ru, q⟩
end

/-! ### isinstance, the error may be without a dict -/
inductive TyE (K : PySem.W.Frag) (H : Hp) : V → Value → Prop where
  | base {x : V} {t : Value} (h : TyQ K H x t) : TyE K H x t
  | bare {a D t : Addr} (e : H a = some (exq a D none t)) (c : ExcC K D) : TyE K H (.ref a) (.ref D)
def rIsE2 (K : PySem.W.Frag) : List V → Hp → VK → Prop := fun xs H Q => ∃ (x c : V) (t u : Value) (b : Bool),
  xs = [x, c] ∧ ClsV c u ∧ TyE K H x t ∧ PySem.W.kitOne K t u = some b ∧ Q (.bl b) H
theorem call_ise {X : Cx} : CallR X (.builtin "isinstance") (rIsE2 X.K) := by
  intro pins s σ H xs us Q I r h
  obtain ⟨x, c, t, u, b, rfl, k, ty, e, q⟩ := h
  cases ty with
  | base ty => exact call_isa pins s σ H _ us Q I r ⟨x, c, t, u, b, rfl, k, ty, e, q⟩
  | bare ex C =>
    obtain ⟨u1, u2, rfl, r1, r2⟩ := vals2 r
    obtain rfl := k.eq r2
    obtain rfl : u1 = Value.ref _ := r1
    have ha := exq_at I.hok ex
    refine PySem.W.kia_one (PySem.W.handS_kitx_exc C.hg C.hk C.hs C.hd C.ha C.hn C.ht C.hm) I.kIn ⟨ha, rfl, rfl, trivial⟩ e (fun z => nomatch z)
      fun tk => ⟨.bl b, H, I.tok tk, rfl, q⟩
end Pw

/-! Such an error is raised: what was known of it as a value is let go, its dict stands as an error's dict. -/
namespace Pw
open PySem PySem.Spec PyProof.Rows L2
theorem exd_frz' {e : Addr} {fs : List (Str × V)} {o : Obj} {u : HO} : exd e fs ≠ .frz o u := fun z => by
  have z' : HO.ext _ = HO.frz o u := z
  cases z'
theorem exd_tbl' {e : Addr} {fs : List (Str × V)} {ps : Array Value} : exd e fs ≠ .tbl ps := fun z => by
  have z' : HO.ext _ = HO.tbl ps := z
  cases z'
section
variable {X : Cx} {pins : List (Addr × Obj)} {σ : L2.St} {H : Hp} {s : Shared}
theorem toXd {d : Addr} {fs : List (Str × V)} (I : Inv X pins σ H s) (ed : H d = some (exd d fs)) :
    Inv X pins σ (upd H d (.xd fs)) s := by
  have nd : ∀ {b : Addr}, H b = none → b ≠ d := fun {b} n z => by rw [z, ed] at n; cases n
  have U : Un X.fs [] H (upd H d (.xd fs)) s.heap s.heap := {
    keep := fun b o q n _ _ => q
    slot := fun b o q n _ _ => ⟨o.slots, q⟩
    free := fun b o q n _ => (upd_ne (nd n)).trans n
    there := fun b o q _ => ⟨o, q⟩
    tups := fun b xs q => (upd_ne (at_ne ed q exd_tup)).trans q
    frzs := fun b o v q => (upd_ne (at_ne ed q exd_frz')).trans q
    tbls := fun b ps q => ⟨#[], by rw [upd_ne (at_ne ed q exd_tbl'), q]; simp⟩ }
  have hk : HOk X.prog X.w (upd H d (.xd fs)) s.heap := fun b o q => by
    by_cases hb : b = d
    · subst hb
      cases upd_same.symm.trans q
      exact exd_at I.hok ed
    · rw [upd_ne hb] at q
      exact (I.hok b o q).stay (fun c v _ z => z) (fun c hc => (upd_ne (at_ne ed hc exd_own)).trans hc)
        (fun c xs hc => (upd_ne (at_ne ed hc exd_tup)).trans hc)
  exact I.un (t' := s.toks) U hk
/-- what is asked where such an error is raised -/
def tRq (H0 : Hp) (K0 : PySem.W.Frag) (te : TE) : L2.St → Hp → XK → Prop := fun σ H Q => te σ H fun x H1 => ∃ a C t : Addr, x = .ref a ∧ Fr0 H0 a ∧
  PySem.W.subIn K0 (.ref C) (.type "BaseException") = some true ∧ PySem.W.typeIn K0 (.ref C) = some (.type "type") ∧ ((H1 a = some (exq a C none t) ∧ Q (.ref C) none (delH H1 a)) ∨
    ∃ (d : Addr) (fs : List (Str × V)), d ≠ a ∧ H1 a = some (exq a C (some d) t) ∧ H1 d = some (exd d fs) ∧
      Q (.ref C) (some d) (upd (delH H1 a) d (.xd fs)))
theorem pmk_q {e : Expr} {te : TE} {H0 : Hp} {K0 : PySem.W.Frag} (hH : X.H_0 = H0) (hK : X.K = K0) (hx : X.ex = []) (he : PE X e te) : PMk X e (tRq H0 K0 te) := by
  subst hH
  subst hK
  intro pins s σ H Q I h
  refine wpAny_mono (he.run pins s σ H _ I h) (fun u s1 hu => ?_) fun _ _ x => x
  obtain ⟨v, H1, I1, r1, a, C, t, rfl, h0, r2, r3, q | ⟨d, fs, hda, ea, ed, q⟩⟩ := hu
  · have hr : Raises X (.ref C) := raises_own r2 r3
    obtain ⟨ea, q⟩ := q
    cases r1
    have ho := exq_at I1.hok ea
    obtain ⟨G, gs, ga, J⟩ := I1.untrack ea h0 hx
    exact ⟨a, _, _, { s1 with heap := G }, delH H1 a, .ref C, none, rfl, J, gs, ga, ho, ⟨rfl, rfl⟩, rfl, rfl, delH_same, rfl, I1.bare, hr, q⟩
  · have hr : Raises X (.ref C) := raises_own r2 r3
    cases r1
    have ho := exq_at I1.hok ea
    obtain ⟨G, gs, ga, J⟩ := I1.untrack ea h0 hx
    have J2 := toXd (d := d) (fs := fs) J ((delH_ne hda).trans ed)
    exact ⟨a, _, _, { s1 with heap := G }, upd (delH H1 a) d (.xd fs), .ref C, some d, rfl, J2, gs, ga, ho, ⟨rfl, rfl⟩, rfl, rfl,
      (upd_ne hda.symm).trans delH_same, rfl, I1.bare, hr, q⟩
end
end Pw

/-! A head of which nothing is written out: facts of one's own, each told by a truth over the part of the heap that the names reach. -/
namespace Pw
open PySem PySem.Spec PyProof.Rows L2

abbrev Fb := PySem.W.Frag → Bool
def obsB (fb : List Fb) (fn : List He.DefD) (K : PySem.W.Frag) : He.AlD := ((fb.all fun f => f K) && fn.all fun d => d.ok K, fn.map fun d => He.fnW K d.at_)
def SaysB (fb : List Fb) (fn : List He.DefD) (K : PySem.W.Frag) : Prop := obsB fb fn K = He.valD fn
/-- what an object names: a def's code and defaults; a class's names, its methods, their code -/
def kid1 (g : Addr → Option Obj) (a : Addr) : List Addr := match g a with
  | some ⟨_, _, .func fd, _⟩ => He.refV fd.code ++ (He.refV fd.defaults ++ He.refV fd.kwdefaults)
  | _ => []
def kids (g : Addr → Option Obj) (a : Addr) : List Addr := match g a with
  | some ⟨_, _, .dict es _, _⟩ => es.toList.flatMap fun e => He.refV e.val
  | _ => []
def kid2 (g : Addr → Option Obj) (a : Addr) : List Addr := match g a with
  | some ⟨_, _, .cls cd, _⟩ => cd.ns :: (kids g cd.ns).flatMap fun f => f :: kid1 g f
  | _ => kid1 g a
/-- what the module's names reach -/
def reachB (g : Addr → Option Obj) : List Addr := PySem.cStatics :: mainGlobals :: (kids g mainGlobals).flatMap fun a => a :: kid2 g a
def obsBG (n : Nat) (fb : List Fb) (fn : List He.DefD) (g : Addr → Option Obj) : He.AlD := obsB fb fn (He.frG g (reachB g))
def hookB (n : Nat) (fb : List Fb) (fn : List He.DefD) : PySem.W.Hook where
  α := He.AlD
  obs := fun s => obsBG n fb fn s.heap.get?
  val := fun _ => He.valD fn
  says := fun _ h => ∃ K : PySem.W.Frag, K.In h ∧ SaysB fb fn K
  of := fun _ _ e => ⟨_, He.frG_in, e⟩
  keeps := fun _ _ _ ⟨K, hK, c⟩ k => ⟨K, PySem.W.Frag.In.keeps hK k, c⟩
theorem obsBG_eq {n : Nat} {fb : List Fb} {fn : List He.DefD} {g : Addr → Option Obj} {s : Shared} (h : ∀ a, g a = s.heap.get? a) : obsBG n fb fn g = (hookB n fb fn).obs s := by
  have e : g = s.heap.get? := funext h
  rw [e] <;> rfl
section
variable {fb : List Fb} {fn : List He.DefD} {K : PySem.W.Frag}
theorem SaysB.fact (c : SaysB fb fn K) {f : Fb} (i : Nat) (h : fb[i]? = some f) : f K = true := by
  have c1 := (He.ba (show ((fb.all fun f => f K) && fn.all fun d => d.ok K) = true from congrArg (fun z : He.AlD => z.1) c)).1
  exact List.all_eq_true.mp c1 f (List.mem_of_getElem? h)
theorem SaysB.def_ (c : SaysB fb fn K) {d : He.DefD} (i : Nat) (h : fn[i]? = some d) : ∃ fd, FunD K d.name d.qual d.params d.body d.scope (d.dvs K) (d.kws K) (He.fAd K d.at_) fd := by
  have c2 := (He.ba (show ((fb.all fun f => f K) && fn.all fun d => d.ok K) = true from congrArg (fun z : He.AlD => z.1) c)).2
  have e : fn.map (fun d => He.fnW K d.at_) = fn.map He.DefD.val := congrArg (fun z : He.AlD => z.2) c
  have e2 : (fn.map fun d => He.fnW K d.at_)[i]? = (fn.map He.DefD.val)[i]? := by rw [e]
  rw [List.getElem?_map, List.getElem?_map, h] at e2
  exact He.DefD.funD (Option.some.inj e2) (List.all_eq_true.mp c2 d (List.mem_of_getElem? h))
end
/-- a def without defaults, as the layer has it -/
theorem funOf {K : PySem.W.Frag} {x q : Str} {st : Stmt} {f : Addr} {fd : FuncData} (F : FunD K x q (defArgs st) (defBody st) (defScope st) [] [] f fd) : Fun K x q st f fd := by
  obtain ⟨oc, od, dV, kV, doc, pm, an, cdv, ct, osl, e, lk, hcd, hD, _⟩ := F.ex
  rcases hD with ⟨_, rfl⟩ | ⟨h, _⟩
  · subst e
    exact ⟨⟨oc, od, kV, doc, pm, an, cdv, ct, osl, rfl, lk, hcd⟩, F.kp⟩
  · exact absurd rfl h
theorem atOf {K : PySem.W.Frag} {h : Heap} {mg : Str → Option Value} {x : Str} {st : Stmt} (X : K.In h) (G : h.Ns mainGlobals mg) (g : (He.Fa.glo x).ok K = true)
    (F : ∃ fd, FunD K x x (defArgs st) (defBody st) (defScope st) [] [] (He.ga K x) fd) : At K mg x st :=
  let ⟨fd, F⟩ := F
  ⟨_, fd, funOf F, He.glo_ok X G g⟩
/-- a class that is an exception, as it stands -/
def xcB (K : PySem.W.Frag) (C : Addr) (bm : List Value) (newId : String) (x : Str) : Bool := match K.lookup C with
  | some ⟨.type "type", _, .cls cd, sl⟩ => (match sl.toList with
    | [_, _, _, _, some (.builtin n), _] => decide (cd.mro = .ref C :: bm) && (decide (n = newId) && (!cd.hasDel && (cd.hasDict && decide (cd.name = x))))
    | _ => false)
  | _ => false
theorem xcB_ok {K : PySem.W.Frag} {C : Addr} {bm : List Value} {newId : String} {x : Str} (q : xcB K C bm newId x = true) :
    ∃ qn N bs sn sub ab col dd m0 m1 m2 m3 m5, K.lookup C = some (excClassObj x qn C N bs bm true sn sub ab col dd m0 m1 m2 m3 m5 newId) := by
  unfold xcB at q
  split at q
  · rename_i dd cd sl ho
    split at q
    · rename_i k0 k1 k2 k3 n k5 hs
      obtain ⟨nm, bs, mro, ns, qn, hd, sn, sub, ab, col, del⟩ := cd
      simp only [Bool.and_eq_true, decide_eq_true_eq, Bool.not_eq_true'] at q
      obtain ⟨rfl, rfl, rfl, rfl, rfl⟩ := q
      have hsl : sl = #[k0, k1, k2, k3, some (.builtin n), k5] := by
        obtain ⟨l⟩ := sl
        simp only at hs
        rw [hs]
      subst hsl
      exact ⟨qn, ns, bs, sn, sub, ab, col, dd, k0, k1, k2, k3, k5, ho⟩
    · cases q
  · cases q
/-- a law: F gives the written part, the function object, the promise over every base, where nothing is being shown -/
theorem walkE {l : PySem.W.OpenLaw} {n k : Nat} {q : Program} {loose : List Str} {XP : (Str → Option Value) → Heap → Prop} {YP : World → Heap → Prop} {d : DefRec} {CX : CXT} {x : Str}
    (hn : l.most = some n) (hn2 : n ≤ sizeLine) (hdf : d.params.defaults = []) (hr : Room k callerA)
    (F : ∀ (w : World) (mg : Str → Option Value) (fa : Addr) (h : Heap), YP w h → h.Ns mainGlobals mg → mg d.name = some (.ref fa) →
      ∃ (K : PySem.W.Frag) (fd : FuncData) (sp : Sp), K.In h ∧ (∀ (s : Shared) (u : Value), BindsTo s fd ⟨[u], []⟩ [(x, u)]) ∧
        (∀ (H : Hp) (a : Addr) (ns : List Int), ns.length ≤ n → Only H → SqL K H a (ns.map V.int) → sp [.ref a] H (fun v _ => v = .bl true) fun _ _ _ => False) ∧
        ∀ base : Heap, K.In base → base.Ns mainGlobals mg → FnG l.prog w K mg base CX k fa fd [x] sp)
    (hCX : ∀ (H : Hp) (s : Shared) (e : Value) (s' : Shared), CX [] H s (fun _ _ _ => False) e s' → False) :
    PySem.W.WalkO q loose XP YP l.row.toRowW d [] (fun f vs => PySem.call f vs) := by
  refine Att.attach_call hn hdf fun w s₀ s₁ mg mb fa o pm cd doc a vs ns G Y ho hd hcd hmg hobj hints hlen hg => ?_
  obtain ⟨K, fd, sp, KX, hb, hsp, hF⟩ := F w mg fa _ Y G.T.g hmg
  exact law_callG KX G.T.g G.T.b G.T.builtins G.T.nolimit hg hobj hints (Nat.le_trans hlen hn2) hr hF hb (fun H hO hS => hsp H a ns hlen hO hS) fun H e s' => hCX H s₁ e s'
end Pw

/-! Own errors raised, let through, and held by a suite. -/
namespace Pw
open PySem PySem.Spec PyProof.Rows L2
theorem kit_xd {K : PySem.W.Frag} {x D : Addr} {ox oD : Obj} (C : ExcC K D) :
    PySem.W.KitX K (.ref x) (.ref D) (fun h => PySem.W.InstAt h x ox D (some oD)) where
  ty := fun _ _ _ I => I.type
  it := fun M h X _ => by
    obtain ⟨cd, hc⟩ := Option.isSome_iff_exists.mp (cls_of_dict C.hd)
    unfold PySem.W.clsIn at hc
    split at hc
    · rename_i ho
      intro A' Q' E' s' k q
      unfold isType loadHead
      exact wpAny_bind (wpAny_loadPart (k _ _ (X _ _ ho)) (wpAny_pure q))
    · cases hc
  ne := fun h tp dd its n sl X htp => by
    obtain ⟨cd, hc⟩ := Option.isSome_iff_exists.mp (cls_of_dict C.hd)
    refine Bool.eq_false_iff.mpr fun q => ?_
    obtain rfl : D = tp := Value.ref.inj (beq_iff_eq.mp q)
    unfold PySem.W.clsIn at hc
    split at hc
    · rename_i ho
      cases (X _ _ ho).symm.trans htp
    · cases hc
  ca := fun X I k => PySem.W.pw_class C.hg C.hk C.hs
    (PySem.W.findObj_data (cls_of_dict C.hd) C.ha C.hn C.ht) C.hm X I k
/-- isinstance(e, c), e the error that the suite holds, with its dict -/
def rIsD (K : PySem.W.Frag) (a : Addr) (cls : Value) (d : Option Addr) : List V → Hp → VK → Prop := fun xs H Q => ∃ (D dd : Addr) (fs : List (Str × V)) (c : V) (cv : Value) (b : Bool),
  cls = .ref D ∧ d = some dd ∧ ExcC K D ∧ xs = [.ref a, c] ∧ (∀ u, RelV c u → u = cv) ∧ PySem.W.kitOne K (.ref D) cv = some b ∧ H dd = some (.xd fs) ∧ Q (.bl b) H
theorem call_isD {X : Cx} {a : Addr} {oe : Obj} {cls : Value} {d : Option Addr} {pn : List (Addr × Obj)} (hz : Zc cls d oe) (hf : ∃ vs, oe.data = .fields vs) :
    CallR (X.suite a ((a, oe) :: pn)) (.builtin "isinstance") (rIsD X.K a cls d) := by
  intro pins s σ H xs us Q I r h
  obtain ⟨D, dd, fs, c, cv, b, rfl, rfl, C, rfl, hcv, e, ed, q⟩ := h
  cases r with
  | cons rx rr =>
    cases rr with
    | cons rt rr =>
      cases rr
      cases rx
      have ec := hcv _ rt
      subst ec
      obtain ⟨hget, _⟩ := I.pin (a, oe) (List.mem_append.mpr (.inl List.mem_cons_self))
      obtain ⟨vs, hv⟩ := hf
      have hx : ObjOk X.prog X.w H s.heap dd (.xd fs) := I.hok dd _ ed
      obtain ⟨mA, hns, hr⟩ := hx
      obtain ⟨od, ho, hl⟩ := lookIn_ns hns
      have J : PySem.W.InstAt s.heap a oe D (some od) := ⟨hget, hz.1, by unfold PySem.W.notCls; rw [hv] <;> rfl, by rw [hz.2]; exact ho⟩
      exact PySem.W.kia_one (kit_xd C) I.kIn J e (fun z => nomatch z) fun tk => ⟨.bl b, H, I.kept (t' := tk) fun _ _ z => z, rfl, q⟩
/-- a family of refusals, by its name: read as a class, and made -/
structure Fam (K : PySem.W.Frag) (mg : Str → Option Value) (x : Str) (q : Str) (B : String) (st : Stmt) (C f : Addr) : Prop where
  mgC : mg x = some (.ref C)
  oex : OexF K C
  hB : PySem.W.mroIn K C (.type B) = some true
  sg : PySem.W.specialIn K (.ref C) "__getattribute__" = some (some (.builtin "type.__getattribute__"))
  rd : PySem.W.readsIn K C (.type "type") = true
  at_ : PySem.W.findCls K (.ref C) (.type "type") "__init__" = some (.val (.ref f))
  iC : PySem.W.findIn K (.ref C) "__init__" = some (some (.ref f))
  tI : PySem.W.typeIn K (.ref f) = some (.type "function")
  fn : ∃ fd, Fun K "__init__" q st f fd
/-- how a built-in base's __init__ is read -/
structure Bas (K : PySem.W.Frag) (mg : Str → Option Value) (B : String) (x : Str) (initId : String) : Prop where
  nm : BaseNm B x initId
  free : mg x = none
  vV : PySem.W.findCls K (.type B) (.type "type") "__init__" = some (.val (.builtin initId))
/-- a refusal's class as it stands -/
structure Cl (K : PySem.W.Frag) (mg : Str → Option Value) (x q field : Str) (B : String) (st : Stmt) (C : Addr) : Prop where
  mgC : mg x = some (.ref C)
  oex : OexF K C
  hB : PySem.W.mroIn K C (.type B) = some true
  nF : PySem.W.findIn K (.ref C) field = some none
  fn : ∃ f fd, PySem.W.findIn K (.ref C) "__init__" = some (some (.ref f)) ∧
    PySem.W.typeIn K (.ref f) = some (.type "function") ∧ Fun K "__init__" q st f fd

section
variable {P : Program} {w : World} {K : PySem.W.Frag} {mg : Str → Option Value} {base : Heap}
/-- a family's __init__(self, text) -/
def spFam (K : PySem.W.Frag) (B : String) : Sp := fun vs H Q _ => ∃ a C t0 x, vs = [.ref a, .str x] ∧ OexF K C ∧
  PySem.W.mroIn K C (.type B) = some true ∧ H a = some (exq a C none t0) ∧
  ∀ t2, H t2 = none → t2 ≠ a → Q .non (upd (upd H t2 (.tup [.str x])) a (exq a C none t2))
/-- a refusal's __init__(self, field): the text x0 becomes its args -/
def spX (K : PySem.W.Frag) (B : String) (field x0 : Str) : Sp := fun vs H Q _ => ∃ a C t0 y, vs = [.ref a, y] ∧ OexF K C ∧
  PySem.W.mroIn K C (.type B) = some true ∧ H a = some (exq a C none t0) ∧
  PySem.W.findIn K (.ref C) field = some none ∧
  ∀ t2 dx, H t2 = none → t2 ≠ a → H dx = none → dx ≠ a → dx ≠ t2 →
    Q .non (upd (upd (upd (upd H t2 (.tup [.str x0])) a (exq a C none t2)) dx (exd dx [(field, y)])) a (exq a C (some dx) t2))
theorem fin_x {field x0 : Str} {H : Hp} {a C : Addr} {y : V} {Q : V → Hp → Prop} {σ : L2.St}
    {D : Ends} (hD : ∀ H', Q .non H' → D.nx σ H')
    (k : ∀ t2 dx, H t2 = none → t2 ≠ a → H dx = none → dx ≠ a → dx ≠ t2 →
      Q .non (upd (upd (upd (upd H t2 (.tup [.str x0])) a (exq a C none t2)) dx (exd dx [(field, y)])) a (exq a C (some dx) t2)))
    {t2 : Addr} (n2 : H t2 = none) (ne : t2 ≠ a) {dx : Addr}
    (nx : upd (upd H t2 (.tup [.str x0])) a (exq a C none t2) dx = none) (nxa : dx ≠ a) :
    D.nx σ (upd (upd (upd (upd H t2 (.tup [.str x0])) a (exq a C none t2)) dx (exd dx [(field, y)])) a (exq a C (some dx) t2)) := by
  have e1 : dx ≠ t2 := fun z => by
    rw [z, upd_ne ne, upd_same] at nx
    cases nx
  have e2 : H dx = none := by
    rw [upd_ne nxa, upd_ne e1] at nx
    exact nx
  exact hD _ (k t2 dx n2 ne e2 nxa e1)
end
/-- the same, K told -/
theorem call_isDK {X : Cx} {K : PySem.W.Frag} {a : Addr} {oe : Obj} {cls : Value} {d : Option Addr} {pn : List (Addr × Obj)} (hK : X.K = K) (hz : Zc cls d oe) (hf : ∃ vs, oe.data = .fields vs) :
    CallR (X.suite a ((a, oe) :: pn)) (.builtin "isinstance") (rIsD K a cls d) := by
  subst hK
  exact call_isD hz hf
theorem call_reprK {X : Cx} {K : PySem.W.Frag} (hK : X.K = K) (gd : X.A.guards = some []) (hu : X.A.units + 64 < cLine) : CallR X (.builtin "repr") (rRepr K) := by
  subst hK
  exact call_repr gd hu
/-! ### defs that let errors out -/
section
variable (P : Program) (w : World) (K : PySem.W.Frag) (mg : Str → Option Value) (base : Heap)
/-- under its name x a def stands that keeps the promise sp, errors too; ds fill up what is left out -/
structure DefE (x : Str) (k : Nat) (ps : List Str) (ds : List V) (sp : Sp) : Prop where
  ex : ∃ f fd us, mg x = some (.ref f) ∧ PySem.W.keepIn K (.ref f) = true ∧ Vals ds us ∧ Binds K fd ps us ∧
    FnOk P w K mg base (L2.CX P w) k f fd ps sp
end
section
variable {P : Program} {w : World} {K : PySem.W.Frag} {mg : Str → Option Value} {base : Heap}
theorem mkDefE {x : Str} {st : Stmt} {N ps : List Str} {k : Nat} {sp : Sp} (A : At K mg x st)
    (S : FnScope N ps (defScope st))
    (hb : ∀ (kV doc pm : Value) (an : Option Addr) (cdv ct : Value) (us : List Value), us.length = ps.length →
      bindArgs (PySem.W.fnOf x x (defArgs st) (defBody st) (defScope st) .none kV doc pm an cdv ct) ⟨us, []⟩ = pure (ps.zip us))
    (len : ∀ vs H Q E, sp vs H Q E → vs.length = ps.length)
    (body : ∀ (f : Addr) (cdv : Value) (A : Around) (out : List Env) (s : Shared) (H : Hp) (vs : List V) (Q : VK) (E : XK),
      Room k (A.deeper (envOfC x (defScope st) s.heap.objs.size f cdv)) → sp vs H Q E →
      ∃ t, PSs (cxOf (L2.CX P w) P w K mg base N x (defScope st) f cdv A out s H E) (defBody st) t ∧
        t { nx := fun _ H' => Q .non H', rt := Q } (start N vs) H) : DefE P w K mg base x (k + 1) ps [] sp := by
  obtain ⟨f, fd, F, m⟩ := A.ex
  exact ⟨f, fd, [], m, F.kp, .nil, F.binds hb, F.okX S len (body f)⟩
theorem mkDefED {x : Str} {st : Stmt} {kws : List (Str × V)} {N ps : List Str} {k n : Nat} {sp : Sp} (A : AtD K mg x st kws)
    (S : FnScope N ps (defScope st)) (hk : kws ≠ []) (hn : n + kws.length = ps.length)
    (hb : ∀ (D : Addr) (doc pm : Value) (an : Option Addr) (cdv ct : Value) (us ks : List Value), us.length = n → ks.length = kws.length →
      KwChain D ((kws.map (·.1)).zip ks) (bindArgs (PySem.W.fnOf x x (defArgs st) (defBody st) (defScope st) .none (.ref D) doc pm an cdv ct) ⟨us, []⟩) (ps.zip (us ++ ks)))
    (len : ∀ vs H Q E, sp vs H Q E → vs.length = ps.length)
    (body : ∀ (f : Addr) (cdv : Value) (A : Around) (out : List Env) (s : Shared) (H : Hp) (vs : List V) (Q : VK) (E : XK),
      Room k (A.deeper (envOfC x (defScope st) s.heap.objs.size f cdv)) → sp vs H Q E →
      ∃ t, PSs (cxOf (L2.CX P w) P w K mg base N x (defScope st) f cdv A out s H E) (defBody st) t ∧
        t { nx := fun _ H' => Q .non H', rt := Q } (start N vs) H) : DefE P w K mg base x (k + 1) ps (kws.map (·.2)) sp := by
  obtain ⟨f, fd, F, m⟩ := A.ex
  obtain ⟨us, hv, b⟩ := F.binds0 n hk hn hb
  exact ⟨f, fd, us, m, F.kp, hv, b, F.ok S len fun cdv A out s H vs Q E hr hs => body f cdv A out s H vs Q E hr hs⟩
end
theorem pe_dE {X : Cx} {x : Str} {k j : Nat} {ps : List Str} {ds : List V} {sp : Sp} {W : WX} {p pos : Pos} {e : Expr} {es : List Expr} {t : TA}
    (D : DefE X.prog X.w X.K X.mg X.base x k ps ds sp) (tk : Takes X W) (hr : Room j X.A) (hk : k ≤ j) (hg : Gl X x) (ha : PA X (e :: es) t)
    (hdb : (x == ("__debug__" : Str)) = false := by decide)
    (he : starEach (e :: es) X.env = (false, eval e X.env) :: starEach es X.env := by rfl)
    (hpl : (backTo pos (starEach es X.env)).any (·.1) = false := by rfl) :
    PE X (.Call (.Name x p) (e :: es) [] pos) (tCallSD sp ds (WE W) t) := by
  obtain ⟨f, fd, us, m, kp, hv, b, F⟩ := D.ex
  exact pe_callSD F (hr.mono hk) hg m kp b hv (passAt tk) ha hdb he hpl
end Pw

/-! Methods that let own errors out. -/
namespace Pw
open PySem PySem.Spec PyProof.Rows L2
section
variable (P : Program) (w : World) (K : PySem.W.Frag) (mg : Str → Option Value) (base : Heap)
/-- the method m of the class at C keeps the promise sp, errors too -/
structure DefME (C : Addr) (m : Str) (k : Nat) (ps : List Str) (sp : Sp) : Prop where
  ex : ∃ f fd, Meth K C m f ∧ Binds K fd ps [] ∧ FnOk P w K mg base (L2.CX P w) k f fd ps sp
end
section
variable {P : Program} {w : World} {K : PySem.W.Frag} {mg : Str → Option Value} {base : Heap}
theorem mkDefME {C : Addr} {m q : Str} {st : Stmt} {N ps : List Str} {k : Nat} {sp : Sp} (A : AtMt K C m q st) (S : FnScope N ps (defScope st))
    (hb : ∀ (kV doc pm : Value) (an : Option Addr) (cdv ct : Value) (us : List Value), us.length = ps.length →
      bindArgs (PySem.W.fnOf m q (defArgs st) (defBody st) (defScope st) .none kV doc pm an cdv ct) ⟨us, []⟩ = pure (ps.zip us))
    (len : ∀ vs H Q E, sp vs H Q E → vs.length = ps.length)
    (body : ∀ (f : Addr) (cdv : Value) (A : Around) (out : List Env) (s : Shared) (H : Hp) (vs : List V) (Q : VK) (E : XK),
      Room k (A.deeper (envOfC q (defScope st) s.heap.objs.size f cdv)) → sp vs H Q E →
      ∃ t, PSs (cxOf (L2.CX P w) P w K mg base N q (defScope st) f cdv A out s H E) (defBody st) t ∧
        t { nx := fun _ H' => Q .non H', rt := Q } (start N vs) H) : DefME P w K mg base C m (k + 1) ps sp := by
  obtain ⟨f, fd, F, M⟩ := A.ex
  exact ⟨f, fd, M, F.binds hb, F.okX S len (body f)⟩
end
section
variable {X : Cx} {m : Str} {C : Addr} {k j : Nat} {ps : List Str} {sp : Sp} {W : WX} {o : Expr} {pos apos : Pos} {e : Expr} {es : List Expr} {ta : TE} {t : TA}
/-- x.m(..), errors let out -/
def tMethE (C : Addr) (m : Str) (sp : Sp) (W : WX) (ta : TE) (t : TA) : TE := fun σ H Q => ta σ H fun x H1 => ∃ a dx fs, x = .ref a ∧ H1 a = some (.ins C dx fs) ∧ fs.lookup m = none ∧
  t σ H1 fun vs H2 => sp (x :: vs) H2 Q (WE W σ)
theorem pe_mmE {pl : Sem Bool} (he : PE X o ta) (c : Cls X.K C) (D : DefME X.prog X.w X.K X.mg X.base C m k ps sp) (tk : Takes X W) (hr : Room j X.A) (hk : k ≤ j) (ha : PA X (e :: es) t)
    (hst : starEach (e :: es) X.env = (false, eval e X.env) :: starEach es X.env := by rfl) (hpl : (backTo pos (starEach es X.env)).any (·.1) = false := by rfl)
    (ht : eval (.Call (.Attribute o m apos) (e :: es) [] pos) X.env = (do
      let ov ← eval o X.env
      standAt apos.atName
      let (f, first) ← holding [ov] (getMethod ov m pl)
      callWith pos f first (backTo pos (starEach (e :: es) X.env)) (backToKw pos (keywordEach [] X.env))) := by rfl) :
    PE X (.Call (.Attribute o m apos) (e :: es) [] pos) (tMethE C m sp W ta t) := by
  obtain ⟨f, fd, M, b, F⟩ := D.ex
  refine ⟨fun pins s σ H Q I h => PySem.W.methodCall_KW (pl := pl) (thn (he.run pins s σ H _ I h) fun u s1 ⟨x, H1, I1, rx, a, dx, fs, ex, ea, l, q⟩ => ?_) ht⟩
  subst ex
  obtain rfl : u = Value.ref a := rx
  exact getmeth_ok I1 ea c M l (PySem.W.callWith_K (first := [.ref a]) (h₀ := X.base) I.ok.mod.kin M.kp
    (thn (ha.run pos pins s1 σ H1 _ I1 q) fun us s2 ⟨vs, H2, I2, r, q2⟩ => ⟨I2.kIn, run_fnSD (us := .ref a :: us) (vs := .ref a :: vs) F (hr.mono hk) b .nil (passAt tk σ) I2 (.cons rfl r) (by
      rw [List.append_nil]
      exact q2)⟩) hst hpl)
end
end Pw

set_option maxHeartbeats 8000000
namespace W24
open PySem PySem.Spec PyProof.Rows L2 Pw
/-- the two refusals, as the head finds them -/
structure ErrT (K : PySem.W.Frag) (mg : Str → Option Value) (CN CB fB CW CP fP CA : Addr) : Prop where
  NL : Bas K mg "LookupError" "LookupError" "LookupError.__init__"
  NV : Bas K mg "ValueError" "ValueError" "ValueError.__init__"
  B : Fam K mg "Barred" "Barred.__init__" "LookupError" mBarred_Init CB fB
  P : Fam K mg "PanelError" "PanelError.__init__" "ValueError" mPanelError_Init CP fP
  A : mg "Absent" = some (.ref CA)
  N : Cl K mg "NotNow" "NotNow.__init__" "found" "LookupError" mNotNow_Init CN
  W : Cl K mg "NoWorth" "NoWorth.__init__" "found" "ValueError" mNoWorth_Init CW
  xN : ExcC K CN
  xW : ExcC K CW
  tN : PySem.W.typeIn K (.ref CN) = some (.type "type")
  tW : PySem.W.typeIn K (.ref CW) = some (.type "type")
  eN : PySem.W.exmOne K (.ref CN) (.ref CN) = some true
  eW : PySem.W.exmOne K (.ref CW) (.ref CW) = some true
  kB : PySem.W.kitOne K (.ref CN) (.ref CB) = some true
  kA : PySem.W.kitOne K (.ref CN) (.ref CA) = some false
  kP : PySem.W.kitOne K (.ref CN) (.ref CP) = some false
section
variable {P : Program} {w : World} {K : PySem.W.Frag} {mg : Str → Option Value} {base : Heap} {C : Addr}
/-- such a refusal: its dict holds what was found -/
def gone (H : Hp) (d : Addr) (n : Int) (H' : Hp) : Prop := Same H H' ∧ H d = none ∧ H' d = some (.xd [(("found" : Str), .int n)])
theorem ok_barred {f : Addr} {fd : FuncData} (N : Bas K mg "LookupError" "LookupError" "LookupError.__init__") (F : Fun K "__init__" "Barred.__init__" mBarred_Init f fd) :
    FnOk P w K mg base CX0 1 f fd ["self", "text"] (spFam K "LookupError") := by
  refine F.ok scmBarred_Init (fun vs H Q E ⟨a, C, t0, x, e, _⟩ => by rw [e]; rfl) (fun cdv A outer s H vs Q E hr h => ?_)
  obtain ⟨a, C, t0, x, rfl, T, hB, ea, k⟩ := h
  refine ⟨_, pss_one (ps_expr (pe_beq N.nm (by rfl) N.free N.vV (pa_cons (pv 0) (pa_cons (pv 1) pa_nil)))), ?_⟩
  exact ⟨_, rfl, _, rfl, a, C, t0, [.str x], rfl, (by show 1 ≤ 1000; decide), T, hB, ea, k⟩
theorem ok_panel {f : Addr} {fd : FuncData} (N : Bas K mg "ValueError" "ValueError" "ValueError.__init__") (F : Fun K "__init__" "PanelError.__init__" mPanelError_Init f fd) :
    FnOk P w K mg base CX0 1 f fd ["self", "text"] (spFam K "ValueError") := by
  refine F.ok scmPanelError_Init (fun vs H Q E ⟨a, C, t0, x, e, _⟩ => by rw [e]; rfl) (fun cdv A outer s H vs Q E hr h => ?_)
  obtain ⟨a, C, t0, x, rfl, T, hB, ea, k⟩ := h
  refine ⟨_, pss_one (ps_expr (pe_beq N.nm (by rfl) N.free N.vV (pa_cons (pv 0) (pa_cons (pv 1) pa_nil)))), ?_⟩
  exact ⟨_, rfl, _, rfl, a, C, t0, [.str x], rfl, (by show 1 ≤ 1000; decide), T, hB, ea, k⟩
theorem ok_notnow {CB fB f : Addr} {fdB fd : FuncData} (B : Fam K mg "Barred" "Barred.__init__" "LookupError" mBarred_Init CB fB) (FB : Fun K "__init__" "Barred.__init__" mBarred_Init fB fdB)
    (G : FnOk P w K mg base CX0 1 fB fdB ["self", "text"] (spFam K "LookupError")) (F : Fun K "__init__" "NotNow.__init__" mNotNow_Init f fd) :
    FnOk P w K mg base CX0 2 f fd ["self", "found"] (spX K "LookupError" "found" "this can't be done now") := by
  have bB := FB.binds (ps := ["self", "text"]) fun _ _ _ _ _ _ us hl => match us, hl with | [_, _], _ => rfl
  refine F.ok scmNotNow_Init (fun vs H Q E ⟨a, C, t0, x, e, _⟩ => by rw [e]; rfl) (fun cdv A outer s H vs Q E hr h => ?_)
  obtain ⟨a, C, t0, y, rfl, T, hB, ea, nF, k⟩ := h
  refine ⟨_, pss_cons (ps_expr (pe_off (by rfl) B.mgC B.sg B.rd B.at_ FB.kp G hr bB .nil pass0 (pa_cons (pv 0) (pa_cons pe_str pa_nil))))
    (pss_one (ps_estF (pv 0) (pv 1))), ?_⟩
  refine ⟨_, rfl, a, C, t0, _, rfl, T, hB, ea, fun t2 n2 ne => ?_⟩
  exact ⟨_, rfl, _, rfl, a, C, t2, rfl, T, nF, upd_same, fun dx nx nxa => fin_x (fun _ q => q) k n2 ne nx nxa⟩
theorem ok_noworth {CB fB f : Addr} {fdB fd : FuncData} (B : Fam K mg "PanelError" "PanelError.__init__" "ValueError" mPanelError_Init CB fB) (FB : Fun K "__init__" "PanelError.__init__" mPanelError_Init fB fdB)
    (G : FnOk P w K mg base CX0 1 fB fdB ["self", "text"] (spFam K "ValueError")) (F : Fun K "__init__" "NoWorth.__init__" mNoWorth_Init f fd) :
    FnOk P w K mg base CX0 2 f fd ["self", "found"] (spX K "ValueError" "found" "this is no worth") := by
  have bB := FB.binds (ps := ["self", "text"]) fun _ _ _ _ _ _ us hl => match us, hl with | [_, _], _ => rfl
  refine F.ok scmNoWorth_Init (fun vs H Q E ⟨a, C, t0, x, e, _⟩ => by rw [e]; rfl) (fun cdv A outer s H vs Q E hr h => ?_)
  obtain ⟨a, C, t0, y, rfl, T, hB, ea, nF, k⟩ := h
  refine ⟨_, pss_cons (ps_expr (pe_off (by rfl) B.mgC B.sg B.rd B.at_ FB.kp G hr bB .nil pass0 (pa_cons (pv 0) (pa_cons pe_str pa_nil))))
    (pss_one (ps_estF (pv 0) (pv 1))), ?_⟩
  refine ⟨_, rfl, a, C, t0, _, rfl, T, hB, ea, fun t2 n2 ne => ?_⟩
  exact ⟨_, rfl, _, rfl, a, C, t2, rfl, T, nF, upd_same, fun dx nx nxa => fin_x (fun _ q => q) k n2 ne nx nxa⟩
end
end W24

set_option maxHeartbeats 8000000
namespace W24
open PySem PySem.Spec PyProof.Rows L2 Pw
theorem whole_out {i lo hi : Int} (h : hi < i) : wholeB (.int i) lo hi = false := by
  unfold wholeB
  simp only
  rw [decide_eq_false (show ¬ i ≤ hi by omega), Bool.and_false]
section
variable {P : Program} {w : World} {K : PySem.W.Frag} {mg : Str → Option Value} {base : Heap} {C : Addr}
/-- what of the heap is new behind such a refusal -/
theorem gone_of {H : Hp} {CX t0 a t2 dx : Addr} {n : Int} (n0 : H t0 = none) (na : H a = none)
    (n2 : upd (upd H t0 (.tup [.int n])) a (exq a CX none t0) t2 = none) (nx : upd (upd H t0 (.tup [.int n])) a (exq a CX none t0) dx = none) (nxa : dx ≠ a) {H' : Hp}
    (hk : ∀ c o, c ≠ a → c ≠ t2 → c ≠ dx → upd (upd H t0 (.tup [.int n])) a (exq a CX none t0) c = some o → H' c = some o) (hd : H' dx = some (.xd [(("found" : Str), .int n)])) : gone H dx n H' := by
  refine ⟨fun c o e => ?_, ?_, hd⟩
  · have c1 := ne_of_none e n0
    have e0 : upd H t0 (.tup [.int n]) c = some o := (upd_ne c1).trans e
    have c2 := ne_of_none e na
    have e1 : upd (upd H t0 (.tup [.int n])) a (exq a CX none t0) c = some o := (upd_ne c2).trans e0
    exact hk c o c2 (ne_of_none e1 n2) (ne_of_none e1 nx) e1
  · rw [upd_ne nxa] at nx
    by_cases z : dx = t0
    · rw [z, upd_same] at nx
      cases nx
    · rw [upd_ne z] at nx
      exact nx
/-- hear refuses: it is not the time, or no worth -/
def spHearX (C CN CW : Addr) : Sp := fun vs H Q E => ∃ p L rl s wo ti t y, vs = [.ref p, .int t, .int y] ∧ WAt C H p L rl s wo ti ∧ (0 ≤ t ∧ t ≤ 9999) ∧
  (((0 ≤ y ∧ y ≤ 63) ∧ (∃ t0, ti = .int t0 ∧ t ≤ t0) ∧ ∀ d H', gone H d t H' → E (.ref CN) (some d) H') ∨ (63 < y ∧ ∀ d H', gone H d y H' → E (.ref CW) (some d) H'))
theorem d_hearX {CN CB fB CW CP fP CA : Addr} (M : ErrT K mg CN CB fB CW CP fP CA) (W : WC K C) (A : AtMt K C "hear" "Watch.hear" mWatch_Hear) (dc : Def P w K mg base "check_time" 5 ["thing"] (spIn 0 9999)) (dl : Def P w K mg base "is_level" 4 ["thing"] (spRange K 0 63)) :
    DefME P w K mg base C "hear" 6 ["self", "time", "worth"] (spHearX C CN CW) := by
  obtain ⟨fN, fdN, iN, tN, FN⟩ := M.N.fn
  obtain ⟨fdB, FB⟩ := M.B.fn
  obtain ⟨fW, fdW, iW, tW, FW⟩ := M.W.fn
  obtain ⟨fdP, FP⟩ := M.P.fn
  have GN := ok_notnow (P := P) (w := w) (base := base) M.B FB (ok_barred M.NL FB) FN
  have GW := ok_noworth (P := P) (w := w) (base := base) M.P FP (ok_panel M.NV FP) FW
  have bN := FN.binds (ps := ["self", "found"]) fun _ _ _ _ _ _ us hl => match us, hl with | [_, _], _ => rfl
  have bW := FW.binds (ps := ["self", "found"]) fun _ _ _ _ _ _ us hl => match us, hl with | [_, _], _ => rfl
  refine mkDefME A scmWatch_Hear (fun _ _ _ _ _ _ us hl => match us, hl with | [_, _, _], _ => rfl) (fun vs H Q E ⟨_, _, _, _, _, _, _, _, e, _⟩ => by rw [e]; rfl)
    (fun f cdv A out sh H vs Q E hr h => ?_)
  obtain ⟨p, L, rl, s, wo, ti, t, y, rfl, hw, ht, h⟩ := h
  obtain ⟨dx, es, e1, e2, al⟩ := hw.ex
  have tk := takes_of (X := cxOf (L2.CX P w) P w K mg base ["self", "time", "worth", "told"] "Watch.hear" (defScope mWatch_Hear) f cdv A out sh H E) (E := E) rfl rfl rfl rfl
  refine ⟨_, (pss_cons (ps_expr (pe_d dc hr (by decide) (by rfl) (pa_cons (pv 1) pa_nil)))
    (pss_cons (ps_if (pt_not (pt_val (pe_d dl hr (by decide) (by rfl) (pa_cons (pv 2) pa_nil))))
      (pss_one (ps_raise rfl tk (pmk_q (H0 := H) (K0 := K) rfl rfl rfl (pe_mkqF M.W.oex iW tW GW (hr.mono (by decide)) bW .nil pass0 (by rfl) M.W.mgC (pa_cons (pv 2) pa_nil)))))
      pss_nil)
    (pss_cons (ps_if (PW.pt (pw_and (pt_cmpR op_notN (pe_fld (pv 0) rfl) pe_non (nomark _)) (pw_and1 (pt_cmpR op_le (pv 1) (pe_fld (pv 0) rfl) (nomark _)))))
      (pss_one (ps_raise rfl tk (pmk_q (H0 := H) (K0 := K) rfl rfl rfl (pe_mkqF M.N.oex iN tN GN (hr.mono (by decide)) bN .nil pass0 (by rfl) M.N.mgC (pa_cons (pv 1) pa_nil)))))
      pss_nil)
    (pss_cons ps_never (pss_cons ps_never (pss_cons ps_never (pss_cons ps_never (pss_one ps_never)))))))), ?_⟩
  refine ⟨_, rfl, t, rfl, ht.1, ht.2, ?_⟩
  rcases h with ⟨hy, ⟨t0, rfl, hle⟩, k⟩ | ⟨hy, k⟩
  · refine ⟨_, rfl, .int y, _, rfl, .int y, _, rfl, ?_⟩
    rw [whole_in hy.1 hy.2]
    refine iteF ?_
    refine ⟨_, rfl, p, C, dx, _, _, rfl, e1, W.cl, W.nT, wf_time, rfl, true, rfl, iteT ?_⟩
    refine ⟨_, rfl, _, rfl, p, C, dx, _, _, rfl, e1, W.cl, W.nT, wf_time, t, t0, rfl, rfl, true, congrArg V.bl (decide_eq_true hle), iteT ?_⟩
    refine ⟨_, rfl, by show 1 ≤ 1000; decide, fun q0 a n0 na h0a => ?_⟩
    refine ⟨a, CN, q0, _, rfl, M.N.oex, M.N.hB, upd_same, M.N.nF, fun t2 dd n2 n2a nx nxa nx2 => ⟨rfl, ?_⟩⟩
    refine ⟨a, CN, t2, rfl, fr0_none na, M.N.oex.exC, M.tN, .inr ⟨dd, _, nxa, upd_same, (upd_ne nxa).trans upd_same, ?_⟩⟩
    refine k dd _ (gone_of n0 na n2 nx nxa (fun c o c2 c3 c4 e => ?_) upd_same)
    exact (upd_ne c4).trans ((delH_ne c2).trans ((upd_ne c2).trans ((upd_ne c4).trans ((upd_ne c2).trans ((upd_ne c3).trans e)))))
  · refine ⟨_, rfl, .int y, _, rfl, .int y, _, rfl, ?_⟩
    rw [whole_out hy]
    refine iteT ?_
    refine ⟨_, rfl, by show 1 ≤ 1000; decide, fun q0 a n0 na h0a => ?_⟩
    refine ⟨a, CW, q0, _, rfl, M.W.oex, M.W.hB, upd_same, M.W.nF, fun t2 dd n2 n2a nx nxa nx2 => ⟨rfl, ?_⟩⟩
    refine ⟨a, CW, t2, rfl, fr0_none na, M.W.oex.exC, M.tW, .inr ⟨dd, _, nxa, upd_same, (upd_ne nxa).trans upd_same, ?_⟩⟩
    refine k dd _ (gone_of n0 na n2 nx nxa (fun c o c2 c3 c4 e => ?_) upd_same)
    exact (upd_ne c4).trans ((delH_ne c2).trans ((upd_ne c2).trans ((upd_ne c4).trans ((upd_ne c2).trans ((upd_ne c3).trans e)))))
/-- go_on refuses: the time is past -/
def spGoX (C CN : Addr) : Sp := fun vs H Q E => ∃ p L rl s wo t0 t, vs = [.ref p, .int t] ∧ WAt C H p L rl s wo (.int t0) ∧ (0 ≤ t ∧ t ≤ 9999) ∧ t < t0 ∧ ∀ d H', gone H d t H' → E (.ref CN) (some d) H'
theorem d_goX {CN CB fB CW CP fP CA : Addr} (M : ErrT K mg CN CB fB CW CP fP CA) (W : WC K C) (A : AtMt K C "go_on" "Watch.go_on" mWatch_GoOn) (dc : Def P w K mg base "check_time" 5 ["thing"] (spIn 0 9999)) :
    DefME P w K mg base C "go_on" 6 ["self", "time"] (spGoX C CN) := by
  obtain ⟨fN, fdN, iN, tN, FN⟩ := M.N.fn
  obtain ⟨fdB, FB⟩ := M.B.fn
  have GN := ok_notnow (P := P) (w := w) (base := base) M.B FB (ok_barred M.NL FB) FN
  have bN := FN.binds (ps := ["self", "found"]) fun _ _ _ _ _ _ us hl => match us, hl with | [_, _], _ => rfl
  refine mkDefME A scmWatch_GoOn (fun _ _ _ _ _ _ us hl => match us, hl with | [_, _], _ => rfl) (fun vs H Q E ⟨_, _, _, _, _, _, _, e, _⟩ => by rw [e]; rfl)
    (fun f cdv A out sh H vs Q E hr h => ?_)
  obtain ⟨p, L, rl, s, wo, t0, t, rfl, hw, ht, hlt, k⟩ := h
  obtain ⟨dx, es, e1, e2, al⟩ := hw.ex
  have tk := takes_of (X := cxOf (L2.CX P w) P w K mg base ["self", "time"] "Watch.go_on" (defScope mWatch_GoOn) f cdv A out sh H E) (E := E) rfl rfl rfl rfl
  refine ⟨_, (pss_cons (ps_expr (pe_d dc hr (by decide) (by rfl) (pa_cons (pv 1) pa_nil)))
    (pss_cons (ps_if (PW.pt (pw_and (pt_cmpR op_notN (pe_fld (pv 0) rfl) pe_non (nomark _)) (pw_and1 (pt_cmpR op_lt (pv 1) (pe_fld (pv 0) rfl) (nomark _)))))
      (pss_one (ps_raise rfl tk (pmk_q (H0 := H) (K0 := K) rfl rfl rfl (pe_mkqF M.N.oex iN tN GN (hr.mono (by decide)) bN .nil pass0 (by rfl) M.N.mgC (pa_cons (pv 1) pa_nil)))))
      pss_nil)
    (pss_cons ps_never (pss_one ps_never)))), ?_⟩
  refine ⟨_, rfl, t, rfl, ht.1, ht.2, ?_⟩
  refine ⟨_, rfl, p, C, dx, _, _, rfl, e1, W.cl, W.nT, wf_time, rfl, true, rfl, iteT ?_⟩
  refine ⟨_, rfl, _, rfl, p, C, dx, _, _, rfl, e1, W.cl, W.nT, wf_time, t, t0, rfl, rfl, true, congrArg V.bl (decide_eq_true hlt), iteT ?_⟩
  refine ⟨_, rfl, by show 1 ≤ 1000; decide, fun q0 a n0 na h0a => ?_⟩
  refine ⟨a, CN, q0, _, rfl, M.N.oex, M.N.hB, upd_same, M.N.nF, fun t2 dd n2 n2a nx nxa nx2 => ⟨rfl, ?_⟩⟩
  refine ⟨a, CN, t2, rfl, fr0_none na, M.N.oex.exC, M.tN, .inr ⟨dd, _, nxa, upd_same, (upd_ne nxa).trans upd_same, ?_⟩⟩
  refine k dd _ (gone_of n0 na n2 nx nxa (fun c o c2 c3 c4 e => ?_) upd_same)
  exact (upd_ne c4).trans ((delH_ne c2).trans ((upd_ne c2).trans ((upd_ne c4).trans ((upd_ne c2).trans ((upd_ne c3).trans e)))))
end
end W24

/-! Defs that are called in an except suite: they neither loop nor raise. -/
namespace Pw
open PySem PySem.Spec PyProof.Rows L2
open L2H (RoomH PinOk cxH inv_startH)
/-- a def's promise where an exception is handled -/
structure FnC (P : Program) (w : World) (K : PySem.W.Frag) (mg : Str → Option Value) (base : Heap) (k : Nat) (f : Addr) (fd : FuncData) (ps : List Str) (sp : Sp) : Prop where
  len : ∀ vs H Q E, sp vs H Q E → vs.length = ps.length
  run : ∀ (A : Around) (out : List Env) (s : Shared) (H : Hp) (ar : Args) (us : List Value) (vs : List V) (Q : VK) (p : Addr × Obj), RoomH k A → PinOk out H s p →
    Env0 P w K mg base A out s H → BindsTo s fd ar (ps.zip us) → Vals vs us → sp vs H Q E0 → codeAny (model P w) A (.call (.ref f) ar) (CR CX0 out P w H s Q E0) s
section
variable {P : Program} {w : World} {K : PySem.W.Frag} {mg : Str → Option Value} {base : Heap}
theorem okC {x qual : Str} {st : Stmt} {f : Addr} {fd : FuncData} {N ps : List Str} {k : Nat} {sp : Sp} (F : Fun K x qual st f fd) (S : FnScope N ps (defScope st))
    (len : ∀ vs H Q E, sp vs H Q E → vs.length = ps.length)
    (hb0 : ∀ (cdv : Value) (A : Around) (out : List Env) (s : Shared) (H : Hp) (vs : List V) (Q : VK) (p : Addr × Obj), RoomH k (A.deeper (envOfC qual (defScope st) s.heap.objs.size f cdv)) → sp vs H Q E0 →
      ∃ t, PSs (cxH CX0 P w K mg base N qual (defScope st) f cdv A out s H E0 p) (defBody st) t ∧ t { nx := fun _ H' => Q .non H', rt := Q } (start N vs) H) : FnC P w K mg base (k + 1) f fd ps sp := by
  obtain ⟨oc, od, kV, doc, pm, an, cdv, ct, osl, rfl, lk, hcd⟩ := F.ex
  refine ⟨len, fun A out s H ar us vs Q p hr hpin e0 hbn r hs0 => ?_⟩
  have hlen := len _ _ _ _ hs0
  have old : ∀ b o, base.get? b = some o → s.heap.get? b = some o := fun b o e => (e0.bs b o e).1
  have KX : K.In s.heap := e0.mod.kin.keeps old
  have lim : s.heap.NoLimit := e0.mod.nolimit.keeps old
  have kinds : ∀ y ∈ ps.zip us, (defScope st).names.lookup y.1 = some .local ∨
      ((defScope st).names.lookup y.1 = some .cell ∧ ((cellsFrom (s.heap.objs.size + 1) (defScope st).names []).lookup y.1).isSome = true) := by
    intro ⟨n, v⟩ hy
    rcases S.par n (List.of_mem_zip hy).1 with z | z
    · exact .inl z
    · exact .inr ⟨z, PySem.W.cellsFrom_some _ _ _ (.inl z)⟩
  refine codeAny_call_function hr.depth (KX _ _ lk) rfl S.co S.gen rfl (PySem.W.codeRec_of KX hcd) (hbn _ _ _ _ ?_)
  refine wpAny_newFunctionEnv_cells S.kind kinds fun env he s1 x => ?_
  subst he
  refine ⟨lim.keeps x.toInCall.keep, codeAny_func ?_⟩
  obtain ⟨t, T, q0⟩ := hb0 cdv A out s H vs Q p (hr.deeper _) hs0
  have J0 := inv_startH (CX := CX0) (P := P) (w := w) (K := K) (mg := mg) (base := base) (qual := qual) (f := f) (cd := cdv) (E := E0) S hpin e0 hlen r x
  refine wpAny_mono (T.run [] s1 (start N vs) H _ J0 q0) (fun fl s' hs => ?_) fun e s' hs => hs
  have fin : ∀ {σ' : L2.St} {H' : Hp} {v : V} {u : Value}, Inv (cxH CX0 P w K mg base N qual (defScope st) f cdv A out s H E0 p) [] σ' H' s' → RelV v u → Q v H' → CE out P w H s Q u s' :=
    fun {σ' H' v u} J rv q => ⟨v, H', J.os, J.bare, J.base, J.hok, rv, q⟩
  match fl, hs with
  | .ret u, ⟨v, σ', H', J, rv, q⟩ => exact fin J rv q
  | .next, ⟨σ', H', J, q⟩ => exact fin (v := V.non) (u := Value.none) J rfl q
  | .brk, ⟨_, _, _, q⟩ => exact False.elim q
  | .cont, ⟨_, _, _, q⟩ => exact False.elim q
end
section
variable (P : Program) (w : World) (K : PySem.W.Frag) (mg : Str → Option Value) (base : Heap)
structure DefC (x : Str) (k : Nat) (ps : List Str) (sp : Sp) : Prop where
  ex : ∃ f fd, mg x = some (.ref f) ∧ PySem.W.keepIn K (.ref f) = true ∧ Binds K fd ps [] ∧ FnC P w K mg base k f fd ps sp
end
section
variable {P : Program} {w : World} {K : PySem.W.Frag} {mg : Str → Option Value} {base : Heap}
theorem mkDefC {x : Str} {st : Stmt} {N ps : List Str} {k : Nat} {sp : Sp} (A : At K mg x st) (S : FnScope N ps (defScope st))
    (hb : ∀ (kV doc pm : Value) (an : Option Addr) (cdv ct : Value) (us : List Value), us.length = ps.length →
      bindArgs (PySem.W.fnOf x x (defArgs st) (defBody st) (defScope st) .none kV doc pm an cdv ct) ⟨us, []⟩ = pure (ps.zip us))
    (len : ∀ vs H Q E, sp vs H Q E → vs.length = ps.length)
    (body : ∀ (f : Addr) (cdv : Value) (A : Around) (out : List Env) (s : Shared) (H : Hp) (vs : List V) (Q : VK) (p : Addr × Obj), RoomH k (A.deeper (envOfC x (defScope st) s.heap.objs.size f cdv)) → sp vs H Q E0 →
      ∃ t, PSs (cxH CX0 P w K mg base N x (defScope st) f cdv A out s H E0 p) (defBody st) t ∧ t { nx := fun _ H' => Q .non H', rt := Q } (start N vs) H) : DefC P w K mg base x (k + 1) ps sp := by
  obtain ⟨f, fd, F, m⟩ := A.ex
  exact ⟨f, fd, m, F.kp, F.binds hb, okC F S len (body f)⟩
end
/-- x(..) in a suite that holds the error a -/
theorem pe_dC {X : Cx} {P : Program} {w : World} {K : PySem.W.Frag} {mg : Str → Option Value} {base : Heap} {x : Str} {k j : Nat} {ps : List Str} {sp : Sp} {p pos : Pos} {e : Expr} {es : List Expr} {t : TA} {q : Addr × Obj} {pn : List (Addr × Obj)} (D : DefC P w K mg base x k ps sp)
    (hP : X.prog = P) (hw : X.w = w) (hK : X.K = K) (hmg : X.mg = mg) (hbs : X.base = base) (hpn : X.pn = q :: pn) (hr : RoomH j X.A) (hk : k ≤ j) (hg : Gl X x) (ha : PA X (e :: es) t)
    (hdb : (x == ("__debug__" : Str)) = false := by decide) (he : starEach (e :: es) X.env = (false, eval e X.env) :: starEach es X.env := by rfl) (hpl : (backTo pos (starEach es X.env)).any (·.1) = false := by rfl) :
    PE X (.Call (.Name x p) (e :: es) [] pos) (tCall sp [] E0 t) := by
  subst hP hw hK hmg hbs
  obtain ⟨f, fd, m, kp, b, F⟩ := D.ex
  refine ⟨fun pins s σ H Q I h => wpAny_Call_Name_kw (ld_glob I hg m (PySem.W.callWith_K (h₀ := X.base) I.ok.mod.kin kp (thn (ha.run pos pins s σ H _ I h) fun us s1 ⟨vs, H1, I1, r, q1⟩ => ⟨I1.kIn, ?_⟩) he hpl) hdb)⟩
  replace q1 : sp vs H1 Q E0 := by
    have z : sp (vs ++ []) H1 Q E0 := q1
    rw [List.append_nil] at z
    exact z
  have hl : us.length = ps.length := by rw [← r.length]; exact F.len _ _ _ _ q1
  have bb := b s1 us I1.kIn (by rw [List.append_nil]; exact hl)
  rw [List.append_nil] at bb
  have P1 := I1.pin q (List.mem_append_left _ (by rw [hpn]; exact List.mem_cons_self))
  have hpin : PinOk X.stack H1 s1 q := ⟨P1.1, P1.2.1, fun hm => (List.mem_cons.mp (I1.stkSub q.1 hm)).elim P1.2.2.1 P1.2.2.2.1, P1.2.2.2.2⟩
  refine wpAny_call (codeAny_mono (F.run X.A X.stack s1 H1 ⟨us, []⟩ us vs Q q (hr.mono hk) hpin I1.env0 bb r q1) fun r s' hq => ?_)
  match r, hq with
  | .error e, hq => exact False.elim hq
  | .ok (.ret u), hq => exact I1.after hq
  | .ok .next, hq => exact False.elim hq
  | .ok .brk, hq => exact False.elim hq
  | .ok .cont, hq => exact False.elim hq
/-- isinstance(e, (C1, ..)), e the error that the suite holds, with its dict -/
def rIsDT (K : PySem.W.Frag) (a : Addr) (cls : Value) (d : Option Addr) : List V → Hp → VK → Prop := fun xs H Q => ∃ (D dd q : Addr) (fs : List (Str × V)) (cs : List Addr) (b : Bool),
  cls = .ref D ∧ d = some dd ∧ ExcC K D ∧ xs = [.ref a, .ref q] ∧ H q = some (.tup (cs.map V.ref)) ∧ PySem.W.kitAny K (.ref D) (cs.map Value.ref) = some b ∧ H dd = some (.xd fs) ∧ Q (.bl b) H
theorem vals_refs : ∀ {cs : List Addr} {us : List Value}, Vals (cs.map V.ref) us → us = cs.map Value.ref
  | [], _, h => by cases h; rfl
  | c :: cs, _, h => by
    cases h with
    | cons r rr =>
      rw [vals_refs rr, show _ = Value.ref c from r]
      rfl
theorem call_isDT {X : Cx} {K : PySem.W.Frag} {a : Addr} {oe : Obj} {cls : Value} {d : Option Addr} {pn : List (Addr × Obj)} (hK : X.K = K) (hz : Zc cls d oe) (hf : ∃ vs, oe.data = .fields vs) :
    CallR (X.suite a ((a, oe) :: pn)) (.builtin "isinstance") (rIsDT K a cls d) := by
  subst hK
  intro pins s σ H xs us Q I r h
  obtain ⟨D, dd, q, fs, cs, b, rfl, rfl, C, rfl, eq, e, ed, k⟩ := h
  obtain ⟨u1, u2, rfl, r1, r2⟩ := vals2 r
  obtain rfl : u1 = Value.ref a := r1
  obtain rfl : u2 = Value.ref q := r2
  obtain ⟨hget, _⟩ := I.pin (a, oe) (List.mem_append.mpr (.inl List.mem_cons_self))
  obtain ⟨vs, hv⟩ := hf
  have hx : ObjOk X.prog X.w H s.heap dd (.xd fs) := I.hok dd _ ed
  obtain ⟨mA, hns, hr⟩ := hx
  obtain ⟨od, ho, hl⟩ := lookIn_ns hns
  have J : PySem.W.InstAt s.heap a oe D (some od) := ⟨hget, hz.1, by unfold PySem.W.notCls; rw [hv] <;> rfl, by rw [hz.2]; exact ho⟩
  obtain ⟨_, its, rv, o, h1, h2, n, h3⟩ := (show ObjOk X.prog X.w H s.heap q (.tup _) from I.hok q _ eq)
  have ei := vals_refs rv
  subst ei
  obtain ⟨oc, od2, odt, osl⟩ := o
  have h2' : oc = .type "tuple" := h2
  have h3' : odt = .seq (cs.map Value.ref).toArray n := h3
  subst h2' h3'
  exact PySem.W.kia_tup (kit_xd C) I.kIn J h1 e (fun z => nomatch z) fun tk => ⟨.bl b, H, I.kept (t' := tk) fun _ _ z => z, rfl, k⟩
end Pw

set_option maxHeartbeats 8000000
namespace W24
open PySem PySem.Spec PyProof.Rows L2 Pw
section
variable {P : Program} {w : World} {K : PySem.W.Frag} {mg : Str → Option Value} {base : Heap} {C : Addr}
def spLikeC : Sp := fun vs H Q _ => ∃ i, vs = [.int i, .int i] ∧ Q (.bl true) H
theorem d_likeC (T : Txt mg) (A : At K mg "_law_alike" sLawAlike) : DefC P w K mg base "_law_alike" 1 ["_law_found", "_law_due"] spLikeC := by
  refine mkDefC A scLawAlike (fun _ _ _ _ _ _ us hl => match us, hl with | [_, _], _ => rfl) (fun vs H Q E ⟨_, e, _⟩ => by rw [e]; rfl)
    (fun f cdv A out s H vs Q p hr h => ?_)
  obtain ⟨i, rfl, q⟩ := h
  refine ⟨_, (pss_cons (ps_if (pt_cmpR op_isN (pv 1) pe_non (nomark _))
      (pss_one ps_never)
      pss_nil)
    (pss_cons (ps_if (pt_val (pe_is T.isinstance (by rfl) (pv 1) T.bool (by rfl) (Tn := "bool") (by decide +kernel)))
      (pss_one ps_never)
      pss_nil)
    (pss_cons (ps_if (pt_val (pe_is T.isinstance (by rfl) (pv 1) T.int (by rfl) (Tn := "int") (by decide +kernel)))
      (pss_one (ps_ret (pe_and (pe_is T.isinstance (by rfl) (pv 0) T.int (by rfl) (Tn := "int") (by decide +kernel)) (pe_and (pe_not (pe_is T.isinstance (by rfl) (pv 0) T.bool (by rfl) (Tn := "bool") (by decide +kernel))) (pe_one (pe_cmpR op_eq (pv 0) (pv 1) (nomark _)))))))
      pss_nil)
    (pss_cons ps_never (pss_cons ps_never (pss_cons ps_never (pss_cons ps_never (pss_one ps_never)))))))), ?_⟩
  have ty : Pw.Ty K H (.int i) (.type "int") := .int i
  refine ⟨_, rfl, rfl, false, rfl, iteF ?_⟩
  refine ⟨_, rfl, .int i, .ty "bool", _, .type "bool", false, rfl, .ty "bool", ty.q, ty.isBool, false, rfl, iteF ?_⟩
  refine ⟨_, rfl, .int i, .ty "int", _, .type "int", true, rfl, .ty "int", ty.q, ty.isInt, true, rfl, iteT ?_⟩
  refine ⟨_, rfl, .int i, .ty "int", _, .type "int", true, rfl, .ty "int", ty.q, ty.isInt, true, rfl, iteT ?_⟩
  refine ⟨_, rfl, .int i, .ty "bool", _, .type "bool", false, rfl, .ty "bool", ty.q, ty.isBool, false, rfl, true, rfl, iteT ?_⟩
  refine ⟨_, rfl, _, rfl, rfl, ?_⟩
  rw [decide_eq_true rfl]
  exact q
/-- it is refused as not now -/
def spRefused (C : Addr) : Sp := fun vs H Q _ => ∃ p L rl s wo t0 way t, vs = [.ref p, .int way, .int t] ∧ WAt C H p L rl s wo (.int t0) ∧ (0 ≤ t ∧ t ≤ 9999) ∧ (if way = 0 then t ≤ t0 else t < t0) ∧
  ∀ H', Same H H' → Q (.bl true) H'
theorem d_refused {CN CB fB CW CP fP CA : Addr} (T : Txt mg) (M : ErrT K mg CN CB fB CW CP fP CA) (W : WC K C) (A : At K mg "_law_refused" sLawRefused) (dl : DefC P w K mg base "_law_alike" 1 ["_law_found", "_law_due"] spLikeC)
    (dh : DefME P w K mg base C "hear" 6 ["self", "time", "worth"] (spHearX C CN CW)) (dg : DefME P w K mg base C "go_on" 6 ["self", "time"] (spGoX C CN)) :
    Def P w K mg base "_law_refused" 7 ["_law_watch", "_law_way", "_law_time"] (spRefused C) := by
  have xf : XfC K CN := ⟨M.xN.hg, M.xN.hk, M.xN.hs, M.xN.hd⟩
  refine mkDef A scLawRefused (fun _ _ _ _ _ _ us hl => match us, hl with | [_, _, _], _ => rfl) (fun vs H Q E ⟨_, _, _, _, _, _, _, _, e, _⟩ => by rw [e]; rfl)
    (fun f cdv A out sh H vs Q E hr h => ?_)
  obtain ⟨p, L, rl, s, wo, t0, way, t, rfl, hw, ht, hlt, k⟩ := h
  refine ⟨_, (pss_cons (ps_try_as (i := 3) rfl rfl scLawRefused.nd rfl rfl ⟨by rfl, by decide, .inl M.N.mgC⟩ takes_none5
        (fun W' pn xe tk _ => pss_one (ps_if (pt_cmpR op_eq (pv 1) pe_int (nomark _))
          (pss_one (ps_expr (pe_mmE (pv 0) W.cl dh tk hr (by decide) (pa_cons (pv 2) (pa_cons pe_int pa_nil)))))
          (pss_one (ps_expr (pe_mmE (pv 0) W.cl dg tk hr (by decide) (pa_cons (pv 2) pa_nil))))))
        (fun a oe cls d pn hz hf => pss_one (ps_ret (pe_and (pe_dC (j := 6) dl rfl rfl rfl rfl rfl rfl ⟨hr.dp, hr.un⟩ (by decide) (by rfl) (pa_cons (pe_xf (C := CN) xf M.N.nF hz hf (pv 3)) (pa_cons (pv 2) pa_nil)))
          (pe_and (pe_callB (call_isDK (K := K) rfl hz hf) (by rfl) T.isinstance PyProof.Rows.boot_isinstance (pa_cons (pv 3) (pa_cons (pe_glob (v := .ref CB) (by rfl) M.B.mgC rfl) pa_nil)))
            (pe_one (pe_not (pe_callB (call_isDT (K := K) rfl hz hf) (by rfl) T.isinstance PyProof.Rows.boot_isinstance (pa_cons (pv 3) (pa_cons (pe_tup (pa_cons (pe_glob (v := .ref CA) (by rfl) M.A rfl) (pa_cons (pe_glob (v := .ref CP) (by rfl) M.P.mgC rfl) pa_nil))) pa_nil))))))))))
    (pss_one (ps_ret pe_bl))), ?_⟩
  obtain ⟨dx, es, e1, e2, al⟩ := hw.ex
  have kAP : PySem.W.kitAny K (.ref CN) ([CA, CP].map Value.ref) = some false := by
    show PySem.W.kitAny K (.ref CN) [.ref CA, .ref CP] = some false
    unfold PySem.W.kitAny
    rw [M.kA]
    unfold PySem.W.kitAny
    rw [M.kP]
    rfl
  have no : ∀ {si wo ti : V} {m : Str}, (m == ("_rule" : Str)) = false → (m == ("_events" : Str)) = false → (m == ("_since" : Str)) = false → (m == ("_worth" : Str)) = false →
    (m == ("_time" : Str)) = false → (wf (.ref rl) (.ref L) si wo ti).lookup m = none := fun h1 h2 h3 h4 h5 => wf_no h1 h2 h3 h4 h5
  refine ⟨_, rfl, rfl, _, rfl, ?_⟩
  by_cases hway : way = 0
  · rw [if_pos hway] at hlt
    rw [decide_eq_true (congrArg V.int hway)]
    refine iteT ?_
    refine ⟨_, rfl, p, dx, _, rfl, e1, no (by decide +kernel) (by decide +kernel) (by decide +kernel) (by decide +kernel) (by decide +kernel), _, rfl, p, L, rl, s, wo, .int t0, t, 5, rfl, hw, ht, .inl ⟨by decide, ⟨t0, rfl, hlt⟩, fun d H' gd => ?_⟩⟩
    refine ⟨true, M.eN, fun _ a0 _ => ?_, fun q => Bool.noConfusion q⟩
    refine ⟨_, rfl, rfl, rfl, d, _, .int t, rfl, gd.2.2, rfl, _, rfl, t, rfl, true, rfl, iteT ?_⟩
    refine ⟨_, rfl, CN, d, _, .ref CB, .ref CB, true, rfl, rfl, M.xN, rfl, (fun u h => h), M.kB, gd.2.2, true, rfl, iteT ?_⟩
    refine ⟨_, rfl, by show 2 ≤ sizeLine; decide, fun q nq => ?_⟩
    refine ⟨CN, d, q, _, [CA, CP], false, rfl, rfl, M.xN, rfl, upd_same, kAP, (upd_ne (ne_of_none gd.2.2 nq)).trans gd.2.2, false, rfl, ?_⟩
    exact k _ (gd.1.trans (Same.laid nq))
  · rw [if_neg hway] at hlt
    rw [decide_eq_false (fun z => hway (V.int.inj z))]
    refine iteF ?_
    refine ⟨_, rfl, p, dx, _, rfl, e1, no (by decide +kernel) (by decide +kernel) (by decide +kernel) (by decide +kernel) (by decide +kernel), _, rfl, p, L, rl, s, wo, t0, t, rfl, hw, ht, hlt, fun d H' gd => ?_⟩
    refine ⟨true, M.eN, fun _ a0 _ => ?_, fun q => Bool.noConfusion q⟩
    refine ⟨_, rfl, rfl, rfl, d, _, .int t, rfl, gd.2.2, rfl, _, rfl, t, rfl, true, rfl, iteT ?_⟩
    refine ⟨_, rfl, CN, d, _, .ref CB, .ref CB, true, rfl, rfl, M.xN, rfl, (fun u h => h), M.kB, gd.2.2, true, rfl, iteT ?_⟩
    refine ⟨_, rfl, by show 2 ≤ sizeLine; decide, fun q nq => ?_⟩
    refine ⟨CN, d, q, _, [CA, CP], false, rfl, rfl, M.xN, rfl, upd_same, kAP, (upd_ne (ne_of_none gd.2.2 nq)).trans gd.2.2, false, rfl, ?_⟩
    exact k _ (gd.1.trans (Same.laid nq))
/-- it is refused as no worth -/
def spNoWorth (C : Addr) : Sp := fun vs H Q _ => ∃ p L rl s wo ti t, vs = [.ref p, .int t] ∧ WAt C H p L rl s wo ti ∧ (0 ≤ t ∧ t ≤ 9999) ∧ ∀ H', Same H H' → Q (.bl true) H'
theorem d_noWorth {CN CB fB CW CP fP CA : Addr} (M : ErrT K mg CN CB fB CW CP fP CA) (W : WC K C) (A : At K mg "_law_no_worth" sLawNoWorth) (dl : DefC P w K mg base "_law_alike" 1 ["_law_found", "_law_due"] spLikeC)
    (dh : DefME P w K mg base C "hear" 6 ["self", "time", "worth"] (spHearX C CN CW)) :
    Def P w K mg base "_law_no_worth" 7 ["_law_watch", "_law_time"] (spNoWorth C) := by
  have xf : XfC K CW := ⟨M.xW.hg, M.xW.hk, M.xW.hs, M.xW.hd⟩
  refine mkDef A scLawNoWorth (fun _ _ _ _ _ _ us hl => match us, hl with | [_, _], _ => rfl) (fun vs H Q E ⟨_, _, _, _, _, _, _, e, _⟩ => by rw [e]; rfl)
    (fun f cdv A out sh H vs Q E hr h => ?_)
  obtain ⟨p, L, rl, s, wo, ti, t, rfl, hw, ht, k⟩ := h
  refine ⟨_, (pss_cons (ps_try_as (i := 2) rfl rfl scLawNoWorth.nd rfl rfl ⟨by rfl, by decide, .inl M.W.mgC⟩ takes_none5
        (fun W' pn xe tk _ => pss_one (ps_expr (pe_mmE (pv 0) W.cl dh tk hr (by decide) (pa_cons (pv 1) (pa_cons pe_int pa_nil)))))
        (fun a oe cls d pn hz hf => pss_one (ps_ret (pe_dC (j := 6) dl rfl rfl rfl rfl rfl rfl ⟨hr.dp, hr.un⟩ (by decide) (by rfl) (pa_cons (pe_xf (C := CW) xf M.W.nF hz hf (pv 2)) (pa_cons pe_int pa_nil))))))
    (pss_one (ps_ret pe_bl))), ?_⟩
  obtain ⟨dx, es, e1, e2, al⟩ := hw.ex
  have no : ∀ {si wo ti : V} {m : Str}, (m == ("_rule" : Str)) = false → (m == ("_events" : Str)) = false → (m == ("_since" : Str)) = false → (m == ("_worth" : Str)) = false →
    (m == ("_time" : Str)) = false → (wf (.ref rl) (.ref L) si wo ti).lookup m = none := fun h1 h2 h3 h4 h5 => wf_no h1 h2 h3 h4 h5
  refine ⟨_, rfl, p, dx, _, rfl, e1, no (by decide +kernel) (by decide +kernel) (by decide +kernel) (by decide +kernel) (by decide +kernel), _, rfl, p, L, rl, s, wo, ti, t, 64, rfl, hw, ht, .inr ⟨by decide, fun d H' gd => ?_⟩⟩
  refine ⟨true, M.eW, fun _ a0 _ => ?_, fun q => Bool.noConfusion q⟩
  exact ⟨_, rfl, rfl, rfl, d, _, .int 64, rfl, gd.2.2, rfl, 64, rfl, k _ gd.1⟩
end
end W24

/-! == and != of own instances, whatever the answer. -/
namespace Pw
open PySem PySem.Spec PyProof.Rows L2
open Builtin
section
variable {prog : Program} {w : World} {A : Around} {E : Value → Shared → Prop} {s : Shared} {K : PySem.W.Frag} {x C f : Addr} {ox : Obj} {od : Option Obj} {b tb : Value}
/-- x != b, by the class's own ==: the answer turned about -/
theorem ne_K {Q : Value → Shared → Prop} (hu : A.units + 1 < cLine) (X : K.In s.heap) (I : PySem.W.InstAt s.heap x ox C od) (hb : PySem.W.Looks (model prog w) s.heap (typeOf b) tb) (hn : PySem.W.notFirst K C tb = true)
    (hne : PySem.W.findIn K (.ref C) "__ne__" = some (some (.builtin "object.__ne__"))) (hm : PySem.W.mroIn K C (.type "object") = some true)
    (hs : PySem.W.findIn K (.ref C) "__eq__" = some (some (.ref f))) (hf : PySem.W.isFn K (.ref f) = true)
    (h : wpAny (model prog w) A.in1 (call (.ref f) [.ref x, b]) (fun v s' => ∃ r, v = .bool r ∧ Q (.bool (!r)) s') E s) : wpAny (model prog w) A (richCompare .NotEq (.ref x) b) Q E s := by
  have entry : wpAny (model prog w) A.in1 (Builtin.«object.__ne__» ⟨[.ref x, b], []⟩) (fun r s' => ∃ v, r = .done (.ret v) ∧ ∃ k, v = .bool k ∧ Q v s') E s := by
    unfold Builtin.«object.__ne__»
    repeat (first
      | with_reducible refine wpAny_cRoomFor (show A.in1.units < cLine from hu) ?_
      | (refine wpAny_bind (m := callSpecialIfBound? (.ref x) (Str.ofString "__eq__") [b])
          (PySem.W.ifBound_K X I hs hf (wpAny_mono h (fun r s' hr => by
            obtain ⟨k, rfl, hq⟩ := hr
            repeat (first | exact ⟨_, rfl, _, rfl, hq⟩ | exact wpAny_pure ⟨_, rfl, _, rfl, hq⟩ | exact wpAny_truthy_bool ⟨_, rfl, _, rfl, hq⟩ | (refine wpAny_bind (m := truthy (.bool _)) (wpAny_truthy_bool ?_)) | wp_step)) fun _ _ e => e)))
      | wp_step)
  have one : wpAny (model prog w) A (tryCompare (.ref x) "__ne__" b) (fun r s' => ∃ v, r = some v ∧ Q v s') E s := by
    unfold tryCompare
    have S : Slot "tuple_iterator" "__ne__" "object.__ne__" := PySem.F.slot_tuple_iterator_ne
    simp only [callSpecialIfBound?, bindSpecialIfBound?]
    refine wpAny_bind (wpAny_holding (wpAny_bind (wpAny_bind (wpAny_bind (I.type.here ((PySem.W.looks_findIn X hne).here ?_))))))
    simp only [S.bind]
    refine wpAny_bind (wpAny_askSetting (wpAny_ite ?_))
    have sub : PySem.W.Looks (model prog w) s.heap (isInstance (.ref x) (.type "object")) true := I.type.andThen (PySem.W.looks_mroIn X hm)
    have run : wpAny (model prog w) A (call (.builtin "object.__ne__") ([.ref x] ++ [b])) (fun v s' => ∃ k, v = .bool k ∧ Q v s') E s := by
      refine wpAny_call (codeAny_call_builtin S.plain F.cmpEntry_ne ?_)
      refine PySem.W.check_slot (i := "object.__ne__") (owner := "object") (n := "__ne__") F.cmpKind_ne F.cmpSplit_ne sub (F.cmpArgs_ne _ _) ?_
      refine wpAny_mono entry (fun r s' hr => ?_) fun _ _ e => e
      obtain ⟨v, rfl, q⟩ := hr
      exact q
    have fin : wpAny (model prog w) A (call (.builtin "object.__ne__") ([.ref x] ++ [b]) >>= fun v => pure (some v)) (fun a s' =>
            wpAny (model prog w) A
              (match a with
              | some Value.notImplemented => pure none
              | none => pure none
              | some v => pure (some v))
              (fun r s' => ∃ v, r = some v ∧ Q v s') E s') E s :=
      wpAny_bind (wpAny_mono run (fun v s' h' => by
        obtain ⟨k, rfl, q⟩ := h'
        exact wpAny_pure (wpAny_pure ⟨_, rfl, q⟩)) fun _ _ h' => h')
    split
    · exact wpAny_bind (wpAny_pure (wpAny_pure fin))
    · exact wpAny_tryCatch (wpAny_bind (wpAny_pure (wpAny_pure fin)))
  unfold richCompare
  simp only [oneThing_ref]
  refine wpAny_holding (wpAny_bind (wpAny_cRoomFor (Nat.lt_of_succ_lt hu) ?_))
  refine wpAny_bind (I.type.here (wpAny_bind (hb.here ?_)))
  split
  · rename_i q
    have e : PySem.W.subIn K tb (.ref C) = some false := by
      rcases Bool.or_eq_true_iff.mp hn with e | e
      · rw [beq_iff_eq.mp e] at q; simp at q
      · exact beq_iff_eq.mp e
    refine wpAny_bind ((PySem.W.looks_subIn X e).here ?_)
    simp only [Bool.false_eq_true, if_false]
    refine wpAny_bind (wpAny_mono one (fun r s' z => ?_) fun _ _ e => e)
    obtain ⟨v, rfl, hq⟩ := z
    exact wpAny_pure hq
  · refine wpAny_bind (wpAny_pure ?_)
    simp only [Bool.false_eq_true, if_false]
    refine wpAny_bind (wpAny_mono one (fun r s' z => ?_) fun _ _ e => e)
    obtain ⟨v, rfl, hq⟩ := z
    exact wpAny_pure hq
end
/-- what kind of thing stands right of the sign -/
inductive TyW (K : PySem.W.Frag) (H : Hp) : V → Value → Prop where
  | non : TyW K H .non (.type "NoneType")
  | bl (b : Bool) : TyW K H (.bl b) (.type "bool")
  | int (i : Int) : TyW K H (.int i) (.type "int")
  | str (s : Str) : TyW K H (.str s) (.type "str")
  | lst {a : Addr} {xs : List V} (e : SqL K H a xs) : TyW K H (.ref a) (.type "list")
  | tup {a : Addr} {xs : List V} (e : SqT K H a xs) : TyW K H (.ref a) (.type "tuple")
  | ins {a C dx : Addr} {fs : List (Str × V)} (e : H a = some (.ins C dx fs)) : TyW K H (.ref a) (.ref C)
theorem type_of {M : Model} {h : Heap} {y : Addr} {o : Obj} {t : Value} (ho : h.get? y = some o) (hc : o.cls = t) : PySem.W.Looks M h (typeOf (.ref y)) t := by
  intro A' Q' E' s' k q
  unfold typeOf
  refine wpAny_bind (wpAny_loadPart (k _ _ ho) ?_)
  subst hc
  exact wpAny_pure q
theorem TyW.look {X : Cx} {pins : List (Addr × Obj)} {σ : L2.St} {H : Hp} {s : Shared} (I : Inv X pins σ H s) {y : V} {v t : Value} (r : RelV y v) (h : TyW X.K H y t) :
    PySem.W.Looks (model X.prog X.w) s.heap (typeOf v) t := by
  cases h with
  | non =>
    obtain rfl : v = Value.none := r
    exact PySem.W.Looks.of_pure rfl
  | bl b =>
    obtain rfl : v = Value.bool b := r
    exact PySem.W.Looks.of_pure rfl
  | int i =>
    obtain ⟨t, rfl⟩ := (show ∃ t, v = Value.int i t from r)
    exact PySem.W.Looks.of_pure rfl
  | str z =>
    obtain ⟨t, rfl⟩ := (show ∃ t, v = Value.str z t from r)
    exact PySem.W.Looks.of_pure rfl
  | lst e =>
    obtain rfl : v = Value.ref _ := r
    obtain ⟨its, rv, p, hz⟩ := I.list e
    obtain ⟨o, ho, hc, _⟩ := id p.isList
    exact type_of ho hc
  | tup e =>
    obtain rfl : v = Value.ref _ := r
    obtain ⟨its, rv, p, hz⟩ := I.tuple e
    obtain ⟨o, ho, hc, _⟩ := p
    exact type_of ho hc
  | ins e =>
    obtain rfl : v = Value.ref _ := r
    obtain ⟨mA, J, _⟩ := ins_get I.hok e
    obtain ⟨od, J, _⟩ := J.look
    exact J.type
/-- x == y, x an instance of the class at C, by its own == -/
def rEqW (K : PySem.W.Frag) (C : Addr) (sp : Sp) : R2 := fun x y H Q => ∃ a dx fs t, x = .ref a ∧ H a = some (.ins C dx fs) ∧ TyW K H y t ∧ PySem.W.notFirst K C t = true ∧ sp [x, y] H (fun v H' => ∃ k, v = .bl k ∧ Q v H') E0
def rNeW (K : PySem.W.Frag) (C : Addr) (sp : Sp) : R2 := fun x y H Q => ∃ a dx fs t, x = .ref a ∧ H a = some (.ins C dx fs) ∧ TyW K H y t ∧ PySem.W.notFirst K C t = true ∧ sp [x, y] H (fun v H' => ∃ k, v = .bl k ∧ Q (.bl (!k)) H') E0
section
variable {X : Cx} {C : Addr} {k j : Nat} {ps : List Str} {sp : Sp}
theorem run_m {A : Around} {pins : List (Addr × Obj)} {σ : L2.St} {H : Hp} {s : Shared} {Q : VK} {us : List Value} {vs : List V} {f : Addr} {fd : FuncData} (F : FnOk X.prog X.w X.K X.mg X.base CX0 k f fd ps sp) (hr : Room k A)
    (fr : A.frames = X.A.frames) (hb : Binds X.K fd ps []) (I : Inv X pins σ H s) (r : Vals vs us) (h : sp vs H Q E0) : wpAny (model X.prog X.w) A (call (.ref f) us) (EP X pins σ Q) X.xe s := by
  have e0 : Env0 X.prog X.w X.K X.mg X.base A X.stack s H := by
    have e := I.env0
    exact ⟨by rw [fr]; exact e.frames, e.mod, e.bs, e.bsz, e.funs, e.frf, e.hok, e.bare⟩
  have hl := F.len _ _ _ _ h
  refine wpAny_call (codeAny_mono (F.run A X.stack s H ⟨us, []⟩ us vs Q _ hr e0 (by
    have := hb s us I.kIn (by rw [List.append_nil, ← r.length]; exact hl)
    rw [List.append_nil] at this
    exact this) r h) fun r s' hq => ?_)
  match r, hq with
  | .error e, hq => exact False.elim hq
  | .ok (.ret u), hq => exact I.after hq
  | .ok .next, hq => exact False.elim hq
  | .ok .brk, hq => exact False.elim hq
  | .ok .cont, hq => exact False.elim hq
theorem op_eqW (D : DefM X.prog X.w X.K X.mg X.base C "__eq__" k ps sp) (hr : Room j X.A) (hk : k ≤ j) : OpR X (compareOp .Eq) (rEqW X.K C sp) := by
  intro pins s σ H x y v u Q I rx ry h
  obtain ⟨f, fd, M, b, F⟩ := D.ex
  obtain ⟨a, dx, fs, t, rfl, e, ty, nf, q⟩ := h
  obtain rfl : v = Value.ref a := rx
  obtain ⟨mA, J, _⟩ := ins_get I.hok e
  obtain ⟨od, J, _⟩ := J.look
  obtain ⟨m, hF⟩ := I.fr
  show wpAny _ _ (richCompare .Eq (.ref a) u) _ _ _
  refine PySem.W.cmp_K (op := .Eq) (tb := t) (hr.mono hk).units0 hF I.ok.mod.kin J (ty.look I ry) nf M.at_ M.fn ?_
  refine wpAny_mono (run_m (vs := [.ref a, y]) F (hr.mono hk) rfl b I (.cons rfl (.cons ry .nil)) q) (fun r s' z => ?_) fun _ _ x => x
  obtain ⟨z', H', I', rz, kk, ez, qz⟩ := z
  subst ez
  obtain rfl : r = Value.bool kk := rz
  exact ⟨.bl kk, H', I', rfl, qz⟩
theorem op_neW (D : DefM X.prog X.w X.K X.mg X.base C "__eq__" k ps sp) (hr : Room j X.A) (hk : k + 1 ≤ j) (hne : PySem.W.findIn X.K (.ref C) "__ne__" = some (some (.builtin "object.__ne__")))
    (hm : PySem.W.mroIn X.K C (.type "object") = some true) : OpR X (compareOp .NotEq) (rNeW X.K C sp) := by
  intro pins s σ H x y v u Q I rx ry h
  obtain ⟨f, fd, M, b, F⟩ := D.ex
  obtain ⟨a, dx, fs, t, rfl, e, ty, nf, q⟩ := h
  obtain rfl : v = Value.ref a := rx
  obtain ⟨mA, J, _⟩ := ins_get I.hok e
  obtain ⟨od, J, _⟩ := J.look
  have hr1 : Room (k + 1) X.A := hr.mono hk
  show wpAny _ _ (richCompare .NotEq (.ref a) u) _ _ _
  refine ne_K (f := f) (by have := hr1.units; omega) I.kIn J (ty.look I ry) nf hne hm M.at_ M.fn ?_
  refine wpAny_mono (run_m (vs := [.ref a, y]) F hr1.in1 rfl b I (.cons rfl (.cons ry .nil)) q) (fun r s' z => ?_) fun _ _ x => x
  obtain ⟨z', H', I', rz, kk, ez, qz⟩ := z
  subst ez
  obtain rfl : r = Value.bool kk := rz
  exact ⟨kk, rfl, .bl (!kk), H', I', rfl, qz⟩
end
/-- len(x), x an instance of the class at C, by its own __len__ -/
def rLenW (C : Addr) (sp : Sp) : List V → Hp → VK → Prop := fun xs H Q => ∃ a dx fs, xs = [V.ref a] ∧ H a = some (.ins C dx fs) ∧ sp [.ref a] H (fun v H' => ∃ n : Int, v = .int n ∧ (0 ≤ n ∧ n < 1000000000) ∧ Q v H') E0
theorem call_lenW {X : Cx} {C : Addr} {k j : Nat} {ps : List Str} {sp : Sp} (D : DefM X.prog X.w X.K X.mg X.base C "__len__" k ps sp) (hr : Room j X.A) (hk : k + 1 ≤ j) : CallR X (.builtin "len") (rLenW C sp) := by
  intro pins s σ H xs us Q I r h
  obtain ⟨f, fd, M, b, F⟩ := D.ex
  obtain ⟨a, dx, fs, rfl, e, q⟩ := h
  obtain ⟨u, rfl, ru⟩ := vals1 r
  obtain rfl : u = Value.ref a := ru
  obtain ⟨mA, J, _⟩ := ins_get I.hok e
  obtain ⟨od, J, _⟩ := J.look
  obtain ⟨m, hF⟩ := I.fr
  have hr1 : Room (k + 1) X.A := hr.mono hk
  refine PySem.W.len_K hF I.ok.mod.kin J M.at_ M.fn ?_
  refine wpAny_mono (run_m (vs := [.ref a]) F hr1.in1 rfl b I (.cons rfl .nil) q) (fun r s' z => ?_) fun _ _ x => x
  obtain ⟨z', H', I', rz, n, ez, hn, qz⟩ := z
  subst ez
  obtain ⟨t, rfl⟩ := (show ∃ t, r = Value.int n t from rz)
  exact ⟨⟨hn.1, by omega⟩, .int n, H', I'.tok _, ⟨_, rfl⟩, qz⟩
end Pw

/-! What came between two times, told by the events of both. -/
namespace Wm
/-- what the events e have that the events f have not, in the order of e -/
def newE (f e : List Ev) : List (Bool × Int) := e.flatMap fun x => (if x.1 ∈ f.map Prod.fst then [] else [(true, x.1)]) ++ (match x.2 with
  | none => []
  | some t => if (x.1, some t) ∈ f then [] else [(false, t)])
theorem newE_append (f a b : List Ev) : newE f (a ++ b) = newE f a ++ newE f b := by
  unfold newE
  rw [List.flatMap_append]
theorem newE_old {f : List Ev} : ∀ {e : List Ev}, (∀ x ∈ e, x ∈ f) → newE f e = []
  | [], _ => rfl
  | x :: e, h => by
    have ih := newE_old (e := e) fun y hy => h y (by simp [hy])
    have hx := h x (by simp)
    have h1 : x.1 ∈ f.map Prod.fst := List.mem_map.mpr ⟨x, hx, rfl⟩
    show newE f ([x] ++ e) = []
    rw [newE_append, ih, List.append_nil]
    unfold newE
    rw [List.flatMap_cons, List.flatMap_nil, List.append_nil, if_pos h1, List.nil_append]
    obtain ⟨a, o⟩ := x
    cases o with
    | none => rfl
    | some t => exact if_pos hx
theorem newE_len (f : List Ev) : ∀ e : List Ev, (newE f e).length ≤ 2 * e.length
  | [] => Nat.le_refl _
  | (a, o) :: e => by
    have h1 : (newE f [(a, o)]).length ≤ 2 := by
      unfold newE
      rw [List.flatMap_cons, List.flatMap_nil, List.append_nil, List.length_append]
      cases o with
      | none => simp only; split <;> simp
      | some t => simp only; split <;> split <;> simp
    have h2 := newE_len f e
    show (newE f ([(a, o)] ++ e)).length ≤ _
    rw [newE_append, List.length_append, List.length_cons]
    omega
/-- a state behind the tick T: all of it no later -/
structure Up (R : Rule) (s : S) (T : Int) : Prop where
  num : ∀ e ∈ s.ev, e.1 ≤ T ∧ ∀ u, e.2 = some u → u ≤ T
  si : ∀ a, s.si = some a → a + R.hold > T
  st : stnd s.ev = true → s.si = none
theorem fst_no {R : Rule} {s : S} {T x : Int} (h : Up R s T) (hx : T < x) : x ∉ s.ev.map Prod.fst := fun hm => by
  obtain ⟨e, he, rfl⟩ := List.mem_map.mp hm
  have := (h.num e he).1
  omega
theorem end_no {R : Rule} {s : S} {T x t : Int} (h : Up R s T) (ht : T < t) : (x, some t) ∉ s.ev := fun hm => by
  have := (h.num _ hm).2 t rfl
  omega
theorem wait_new {R : Rule} {s : S} {T T' : Int} (h : Up R s T) : newE s.ev (waitS R s T').ev = waitT R s T' := by
  unfold waitS waitT
  cases hs : s.si with
  | none => exact newE_old fun x hx => hx
  | some a =>
    simp only
    have ha := h.si a hs
    split
    · exact newE_old fun x hx => hx
    · rw [newE_append, newE_old (fun x hx => hx), List.nil_append]
      unfold newE
      rw [List.flatMap_cons, List.flatMap_nil, List.append_nil, if_neg (fst_no h ha)]
      rfl
theorem last_split {ev : List Ev} (h : stnd ev = true) : ∃ l a, ev = l ++ [(a, none)] ∧ lastR ev = a := by
  rcases List.eq_nil_or_concat ev with z | ⟨l, e, z⟩
  · rw [z] at h; cases h
  · rw [List.concat_eq_append] at z
    obtain ⟨a, o⟩ := e
    rw [z, stnd_snoc] at h
    cases o with
    | none =>
      refine ⟨l, a, z, ?_⟩
      rw [z]
      unfold lastR
      rw [List.getLast?_concat]
    | some u => cases h
theorem hear_new {R : Rule} (g : Good R) {s : S} {T t w : Int} (h : Up R s T) (ht : T < t) : newE s.ev (hearS R s t w).ev = hearT R s t w := by
  unfold hearS hearT
  -- the waiting
  by_cases hw : ∃ a, s.si = some a ∧ a + R.hold ≤ t - 1
  · obtain ⟨a, ha, hle⟩ := hw
    have hgt := h.si a ha
    have e1 : waitS R s (t - 1) = ⟨s.ev ++ [(a + R.hold, none)], none⟩ := by
      unfold waitS
      rw [ha]
      exact if_neg (by omega)
    have e2 : waitT R s (t - 1) = [(true, a + R.hold)] := by
      unfold waitT
      rw [ha]
      exact if_neg (by omega)
    rw [e1, e2]
    have hst : stnd (s.ev ++ [(a + R.hold, none)]) = true := by rw [stnd_snoc]; rfl
    unfold takeS takeT
    simp only [hst, if_true]
    cases hr : rst R w with
    | true =>
      simp only [if_true]
      have el : lastR (s.ev ++ [(a + R.hold, none)]) = a + R.hold := by unfold lastR; rw [List.getLast?_concat]
      rw [List.dropLast_concat, el, newE_append, newE_old (fun x hx => hx), List.nil_append]
      unfold newE
      rw [List.flatMap_cons, List.flatMap_nil, List.append_nil, if_neg (fst_no h hgt)]
      simp only
      rw [if_neg (end_no h ht)]
    | false =>
      simp only [Bool.false_eq_true, if_false]
      rw [newE_append, newE_old (fun x hx => hx), List.nil_append]
      unfold newE
      rw [List.flatMap_cons, List.flatMap_nil, List.append_nil, if_neg (fst_no h hgt)]
  · have e1 : waitS R s (t - 1) = s := by
      unfold waitS
      cases hs : s.si with
      | none => rfl
      | some a =>
        simp only
        exact if_pos (by
          have : ¬ a + R.hold ≤ t - 1 := fun z => hw ⟨a, hs, z⟩
          omega)
    have e2 : waitT R s (t - 1) = [] := by
      unfold waitT
      cases hs : s.si with
      | none => rfl
      | some a =>
        simp only
        exact if_pos (by
          have : ¬ a + R.hold ≤ t - 1 := fun z => hw ⟨a, hs, z⟩
          omega)
    rw [e1, e2, List.nil_append]
    unfold takeS takeT
    cases hst : stnd s.ev with
    | true =>
      simp only [if_true]
      cases hr : rst R w with
      | true =>
        simp only [if_true]
        obtain ⟨l, a, e, el⟩ := last_split hst
        rw [el]
        have hl : ∀ x ∈ s.ev.dropLast, x ∈ s.ev := fun x hx => (List.dropLast_sublist s.ev).subset hx
        rw [newE_append, newE_old hl, List.nil_append]
        have hm : a ∈ s.ev.map Prod.fst := List.mem_map.mpr ⟨(a, none), by rw [e]; simp, rfl⟩
        unfold newE
        rw [List.flatMap_cons, List.flatMap_nil, List.append_nil, if_pos hm, List.nil_append]
        simp only
        rw [if_neg (end_no h ht)]
      | false =>
        simp only [Bool.false_eq_true, if_false]
        exact newE_old fun x hx => hx
    | false =>
      simp only [Bool.false_eq_true, if_false]
      cases hb : bey R w with
      | false =>
        simp only [if_true]
        exact newE_old fun x hx => hx
      | true =>
        simp only [Bool.true_eq_false, if_false]
        unfold waitS waitT
        simp only
        split
        · exact newE_old fun x hx => hx
        · rename_i hc
          rw [newE_append, newE_old (fun x hx => hx), List.nil_append]
          have hx : T < s.si.getD t + R.hold := by
            cases hs : s.si with
            | none =>
              rw [hs] at hc
              have : (none : Option Int).getD t = t := rfl
              rw [this] at hc ⊢
              have := g.hold
              omega
            | some a => exact h.si a hs
          unfold newE
          rw [List.flatMap_cons, List.flatMap_nil, List.append_nil, if_neg (fst_no h hx)]
          rfl
end Wm

set_option maxHeartbeats 8000000
namespace W24
open PySem PySem.Spec PyProof.Rows L2 Pw
theorem goods_ok {rs : List R3} (h : GoodH rs) : (pr (goods rs)).Pairwise (fun a b => a.1 < b.1) ∧ (∀ x ∈ pr (goods rs), 0 ≤ x.1) := by
  refine ⟨List.pairwise_map.mpr (h.rise.sublist List.filter_sublist), fun x hx => ?_⟩
  unfold pr at hx
  simp only [List.mem_map] at hx
  obtain ⟨y, hy, rfl⟩ := hx
  exact (h.all y (List.mem_filter.mp hy).1).t0
theorem ev_tick {r : Rl} (g : GoodRl r) {rs : List R3} (h : GoodH rs) {T : Int} (hT : 0 ≤ T) : evM r rs T = Wm.tickS r.R (Wm.lw (pr (goods rs))) 0 (T + 1).toNat := by
  have := Wm.ticks_to g.g (lo := 0) hT (goods_ok h).1 (goods_ok h).2
  rw [Int.sub_zero] at this
  exact this
theorem ev_num {r : Rl} (g : GoodRl r) {rs : List R3} (h : GoodH rs) {T : Int} (hT : 0 ≤ T) : Wm.Num 0 T (evM r rs T).ev := by
  rw [ev_tick g h hT]
  exact (Wm.tick_num g.g _ 0 _).mono (by omega)

/-! ### the signs that a watch heard: all good, rising -/
structure Heard (rs : List R3) (T : Int) : Prop where
  h : GoodH rs
  good : ∀ x ∈ rs, x.2.2 = "good"
  upto : ∀ x ∈ rs, x.1 ≤ T
  pos : 0 ≤ T
theorem goods_all {rs : List R3} (h : ∀ x ∈ rs, x.2.2 = "good") : goods rs = rs := by
  unfold goods
  exact List.filter_eq_self.mpr fun x hx => decide_eq_true (h x hx)
theorem sg_all {rs : List R3} (h : ∀ x ∈ rs, x.2.2 = "good") {T : Int} (hT : ∀ x ∈ rs, x.1 ≤ T) : sg rs T = pr rs := by
  unfold sg
  rw [goods_all h]
  refine List.filter_eq_self.mpr fun x hx => ?_
  unfold pr at hx
  simp only [List.mem_map] at hx
  obtain ⟨y, hy, rfl⟩ := hx
  exact decide_eq_true (hT y hy)
theorem wait_take {R : Wm.Rule} (g : Wm.Good R) {s : Wm.S} {t w : Int} (h0 : Wm.stnd s.ev = true → s.si = none) : Wm.waitS R (Wm.takeS R s t w) t = Wm.takeS R s t w := by
  have A := Wm.At.take g h0 (t := t) (w := w)
  unfold Wm.waitS
  cases hs : (Wm.takeS R s t w).si with
  | none => rfl
  | some a =>
    simp only
    refine if_pos ?_
    cases hst : Wm.stnd (Wm.takeS R s t w).ev with
    | true =>
      have := (A.st hst).1
      rw [hs] at this
      cases this
    | false => exact (A.no hst a hs).2
theorem wait_hear {R : Wm.Rule} (g : Wm.Good R) {s : Wm.S} {t w : Int} (h0 : Wm.stnd s.ev = true → s.si = none) : Wm.waitS R (Wm.hearS R s t w) t = Wm.hearS R s t w := by
  unfold Wm.hearS
  exact wait_take g (Wm.wait_h0 _ h0)
theorem ev_all {r : Rl} {rs : List R3} (h : ∀ x ∈ rs, x.2.2 = "good") {T : Int} (hT : ∀ x ∈ rs, x.1 ≤ T) : evM r rs T = Wm.waitS r.R (Wm.runS r.R (pr rs)) T := by
  unfold evM
  rw [sg_all h hT]
theorem ev_go {r : Rl} {rs : List R3} {T T' : Int} (h : Heard rs T) (hT : T ≤ T') : evM r rs T' = Wm.waitS r.R (evM r rs T) T' := by
  rw [ev_all h.good fun x hx => by have := h.upto x hx; omega, ev_all h.good h.upto, Wm.waitS_wait _ hT]
def gs (t y : Int) : R3 := (t, y, ("good" : Str))
theorem ev_hear {r : Rl} (g : GoodRl r) {rs : List R3} {T t y : Int} (h : Heard rs T) (ht : T < t) : evM r (rs ++ [gs t y]) t = Wm.hearS r.R (evM r rs T) t y := by
  have e : pr (rs ++ [gs t y]) = pr rs ++ [(t, y)] := by unfold pr; rw [List.map_append]; rfl
  rw [ev_all (r := r) (rs := rs ++ [gs t y]) (fun x hx => by
    rcases List.mem_append.mp hx with z | z
    · exact h.good x z
    · rw [List.mem_singleton.mp z]; rfl) (fun x hx => by
    rcases List.mem_append.mp hx with z | z
    · have := h.upto x z; omega
    · rw [List.mem_singleton.mp z]; exact Int.le_refl _), ev_all h.good h.upto, e, Wm.runS_snoc, Wm.hear_wait _ ht]
  exact wait_hear g.g (Wm.run_h0 g.g _)
theorem ev_cut {r : Rl} {rs : List R3} {T t y : Int} (h : Heard rs T) (ht : T < t) : evM r (rs ++ [gs t y]) T = evM r rs T := by
  unfold evM
  congr 2
  unfold sg pr goods
  rw [List.filter_append, List.map_append, List.filter_append]
  have : (List.map (fun r : R3 => (r.1, r.2.1)) (List.filter (fun r => decide (r.2.2 = "good")) [gs t y])).filter (fun r => decide (r.1 ≤ T)) = [] := by
    have e1 : List.filter (fun r : R3 => decide (r.2.2 = "good")) [gs t y] = [gs t y] := List.filter_eq_self.mpr fun x hx => by
      rw [List.mem_singleton.mp hx]
      exact decide_eq_true rfl
    rw [e1]
    refine List.filter_eq_nil_iff.mpr fun x hx => ?_
    simp only [List.map_cons, List.map_nil, List.mem_singleton] at hx
    subst hx
    intro z
    have z' : t ≤ T := of_decide_eq_true z
    omega
  rw [this, List.append_nil]
theorem ev_up {r : Rl} (g : GoodRl r) {rs : List R3} {T : Int} (h : Heard rs T) : Wm.Up r.R (evM r rs T) T := by
  have n := ev_num g h.h h.pos
  refine ⟨fun e he => ⟨(n e he).1.2, fun u hu => ((n e he).2 u hu).2⟩, fun a ha => ?_, ?_⟩
  · unfold evM at ha
    by_cases c : a + r.R.hold > T
    · exact c
    · have e := Wm.wait_si ha
      unfold Wm.waitS at ha
      rw [e] at ha
      simp only at ha
      rw [if_neg c] at ha
      cases ha
  · unfold evM
    exact Wm.wait_h0 _ (Wm.run_h0 g.g _)
theorem ev_nil (r : Rl) (T : Int) : evM r [] T = Wm.init := rfl
theorem up_init (R : Wm.Rule) (T : Int) : Wm.Up R Wm.init T := ⟨(fun e he => by cases he), (fun a ha => by cases ha), (fun z => by cases z)⟩
section
variable {P : Program} {w : World} {K : PySem.W.Frag} {mg : Str → Option Value} {base : Heap} {C : Addr}
def spLenM (C : Addr) : Sp := fun vs H Q _ => ∃ p L rl s wo ti, vs = [.ref p] ∧ WAt C H p L rl s wo ti ∧ Q (.int (s.ev.length : Int)) H
theorem d_lenM (T : Txt mg) (W : WC K C) (A : AtMt K C "__len__" "Watch.__len__" mWatch_Len) : DefM P w K mg base C "__len__" 1 ["self"] (spLenM C) := by
  refine mkDefM A scmWatch_Len (fun _ _ _ _ _ _ us hl => match us, hl with | [_], _ => rfl) (fun vs H Q E ⟨_, _, _, _, _, _, e, _⟩ => by rw [e]; rfl)
    (fun f cdv A out s H vs Q E hr h => ?_)
  obtain ⟨p, L, rl, s, wo, ti, rfl, hw, k⟩ := h
  obtain ⟨dx, es, e1, e2, al⟩ := hw.ex
  refine ⟨_, (pss_one (ps_ret (pe_callB call_len_seq (by rfl) T.len PySem.boot_len (pa_cons (pe_fld (pv 0) rfl) pa_nil)))), ?_⟩
  refine ⟨_, rfl, p, C, dx, _, _, rfl, e1, W.cl, W.nE, wf_events, L, es, rfl, .inl (SqL.of e2), ?_⟩
  rw [al.length]
  exact k
end
end W24

/-! sorted(d.items()) of a dict whose keys are numbers that rise. -/
namespace Pw
open PySem PySem.Spec PyProof.Rows L2 L2.DX

/-- the number that stands first in the tuple at v -/
def fstI (h : Heap) : Value → Int
  | .ref a => match h.get? a with
    | some o => match o.data with
      | .seq xs _ => match (xs[0]? : Option Value) with
        | some (Value.int x _) => x
        | _ => 0
      | _ => 0
    | none => 0
  | _ => 0
/-- a pair of a number and any thing -/
def PairR (h : Heap) (v : Value) (x : Int) (u : Value) : Prop := ∃ a o t n, v = .ref a ∧ h.get? a = some o ∧ o.cls = .type "tuple" ∧ o.data = .seq #[.int x t, u] n
theorem PairR.fst {h : Heap} {v u : Value} {x : Int} (p : PairR h v x u) : fstI h v = x := by
  obtain ⟨a, o, t, n, rfl, ho, hc, hd⟩ := p
  simp only [fstI, ho, hd]
  rfl
theorem PairR.keeps {h h' : Heap} {v u : Value} {x : Int} (p : PairR h v x u) (k : ∀ b o, h.get? b = some o → o.cls = .type "tuple" → h'.get? b = some o) : PairR h' v x u := by
  obtain ⟨a, o, t, n, e, ho, hc, hd⟩ := p
  exact ⟨a, o, t, n, e, k _ _ ho hc, hc, hd⟩
theorem firsts_ofR {h : Heap} : ∀ {vs : List Value}, (∀ v ∈ vs, ∃ x u, PairR h v x u) → ∃ fs : List Value, PySem.W.KatTups h vs fs ∧ fs.length = vs.length ∧ ∀ f ∈ fs, ∃ x t, f = Value.int x t
  | [], _ => ⟨[], PySem.W.KatTups.nil, rfl, fun _ hm => by simp at hm⟩
  | v :: vs, hp => by
    obtain ⟨fs, h1, h2, h3⟩ := firsts_ofR (vs := vs) fun v' hm => hp v' (List.mem_cons_of_mem _ hm)
    obtain ⟨x, u, a, o, t, n, e, ho, hc, hd⟩ := hp v (List.mem_cons_self ..)
    subst e
    refine ⟨.int x t :: fs, PySem.W.KatTups.cons ho hc hd rfl h1, by rw [List.length_cons, List.length_cons, h2], fun f hm => ?_⟩
    rcases List.mem_cons.mp hm with rfl | hm
    · exact ⟨x, t, rfl⟩
    · exact h3 f hm
theorem swo_by (k : Value → Int) : SrtO.Swo fun v u => decide (k v < k u) := by
  refine ⟨fun x y h => ?_, fun x y z h1 h2 => ?_⟩
  · have := of_decide_eq_true h
    exact decide_eq_false (by omega)
  · have a := of_decide_eq_false h1
    have b := of_decide_eq_false h2
    exact decide_eq_false (by omega)
section
variable {prog : Program} {w : World} {A : Around} {s : Shared}
theorem pairR_cmp {vs : List Value} {k : Value → Int} (hp : ∀ v ∈ vs, ∃ u, PairR s.heap v (k v) u) (hi : ∀ v ∈ vs, ∀ u ∈ vs, k v = k u → v = u) :
    SrtO.Cmp prog w A s (tuples' true) (fun p => p.1 ∈ vs) (SrtO.lt2 fun v u => decide (k v < k u)) := by
  intro p q hm hm'
  obtain ⟨y, a, o, t, n, e, ho, hc, hd⟩ := hp _ hm
  obtain ⟨y', a', o', t', n', e', ho', hc', hd'⟩ := hp _ hm'
  have hinj := hi _ hm _ hm'
  show wpAny (model prog w) A (keyLt' (tuples' true) p.1 q.1) (fun r s' => s' = s ∧ r = decide (k p.1 < k q.1)) (fun _ _ => False) s
  generalize k p.1 = x at hd hinj ⊢
  generalize k q.1 = x' at hd' hinj ⊢
  rw [e, e'] at hinj ⊢
  refine PySem.W.kat_lt ho hd ho' hd' ?_
  show PySem.W.KatLex prog w A true (decide (2 < 2)) _ [(.int x t, .int x' t'), (y, y')] 0 s
  refine PySem.W.kat_cons (SeqAt.EqAt.int_int x t x' t' prog w _ _ ?_)
  refine PySem.W.kat_go (fun e1 => ?_) (fun e1 => ?_)
  · have ex : x = x' := by simpa using e1
    have ea := hinj ex
    cases ea
    rw [ho] at ho'
    cases ho'
    rw [hd] at hd'
    injection hd' with h1 h2
    have hy : y = y' := by
      have := congrArg (fun z : Array Value => z[1]?) h1
      simpa using this
    subst hy
    refine PySem.W.kat_yes (PySem.W.kat_cons (SeqAt.EqAt.same y prog w _ _ ?_))
    refine PySem.W.kat_yes (PySem.W.kat_nil ⟨rfl, ?_⟩)
    rw [ex]
    exact (decide_eq_false (Int.lt_irrefl _)).symm
  · exact PySem.W.kat_no (oneLt_int ⟨rfl, rfl⟩)
theorem pairsR_sortable {a : Addr} {vs : List Value} {k : Value → Int} (h0 : 0 < vs.length) (hp : ∀ v ∈ vs, ∃ u, PairR s.heap v (k v) u) (hi : ∀ v ∈ vs, ∀ u ∈ vs, k v = k u → v = u)
    (ha : ∀ o, s.heap.get? a = some o → o.cls ≠ .type "tuple") : SrtO.SortableO prog w A s a vs fun v u => decide (k v < k u) := by
  intro h' keep
  have hp' : ∀ v ∈ vs, ∃ u, PairR h' v (k v) u := fun v hm => let ⟨u, z⟩ := hp v hm; ⟨u, z.keeps fun b o e c => keep b o (fun z => by subst z; exact ha o e c) e⟩
  obtain ⟨fs, h1, h2, h3⟩ := firsts_ofR fun v hm => let ⟨u, z⟩ := hp' v hm; ⟨_, u, z⟩
  refine ⟨tuples' true, fun Q E hq => ?_, pairR_cmp hp' hi⟩
  refine PySem.W.kat_kind (T := .type "int") h1 (by omega) (fun f hm => ?_) (by rfl) ?_
  · obtain ⟨x, t, rfl⟩ := h3 f hm
    exact PySem.W.Looks.now
  · have e : (Value.type "int" != Value.type "tuple") = true := by first | decide +kernel | rfl | decide
    rw [e]
    exact hq
end
theorem perm_rise {α : Type} (f : α → Int) : ∀ (l m : List α), l.Perm m → l.Pairwise (fun a b => f a ≤ f b) → m.Pairwise (fun a b => f a < f b) → l = m
  | [], m, p, _, _ => p.nil_eq
  | y :: l, [], p, _, _ => by cases p.length_eq
  | y :: l, x :: m, p, h1, h2 => by
    have hy : y ∈ x :: m := p.mem_iff.mp (List.mem_cons_self ..)
    have hx : x ∈ y :: l := p.mem_iff.mpr (List.mem_cons_self ..)
    have e : y = x := by
      rcases List.mem_cons.mp hy with e | hy
      · exact e
      · rcases List.mem_cons.mp hx with e | hx
        · exact e.symm
        · have a := (List.pairwise_cons.mp h1).1 x hx
          have b := (List.pairwise_cons.mp h2).1 y hy
          omega
    subst e
    rw [perm_rise f l m p.cons_inv (List.pairwise_cons.mp h1).2 (List.pairwise_cons.mp h2).2]

section
variable {X : Cx}
/-- d.items(), d a dict with number or text keys -/
def rItemsK : V → List V → Hp → VK → Prop := fun x xs H Q => ∃ (a : Addr) (kvs : List (Key × V)), x = .ref a ∧ xs = [] ∧ H a = some (.dK kvs) ∧ ∀ p, H p = none → Q (.ref p) (upd H p (itemsO p a))
theorem mt_itemsK : MtR X "dict.items" rItemsK := by
  intro pins s σ H x xs v us Q I rx rxs h
  obtain ⟨a, kvs, rfl, rfl, ha, q⟩ := h
  cases rx
  cases rxs
  obtain ⟨_, hsys, us, hkv, o, es, ep, h1, h2, h3, _⟩ := (show ObjOk X.prog X.w H s.heap a (.dK kvs) from I.hok a _ ha)
  refine DT.callItems (es := es) (ep := ep) hsys ⟨o, h1, h2, h3⟩ ?_
  have hf : H s.heap.objs.size = none := I.hok.fresh (Nat.le_refl _)
  exact ⟨.ref s.heap.objs.size, upd H s.heap.objs.size (itemsO s.heap.objs.size a), I.laid (t' := s.toks) (fun b u e => Heap.get?_push_of_some _ e) (Nat.le_refl _) (itemsO_ok (Heap.get?_push_size _ rfl)), rfl, q _ hf⟩

/-- sorted(d.items()): the keys are numbers that rise -/
def rSortK : List V → Hp → VK → Prop := fun xs H Q => ∃ (p a : Addr) (kvs : List (Key × V)) (ks : List Int), xs = [.ref p] ∧ H p = some (itemsO p a) ∧ H a = some (.dK kvs) ∧
  kvs.map Prod.fst = ks.map Sum.inl ∧ ks.Pairwise (· < ·) ∧ kvs.length ≤ 1000000 ∧
  ∀ (H' : Hp) (l : Addr) (as : List Addr), Same H H' → H l = none → H' l = some (.lst (as.map V.ref)) → as.length = kvs.length →
    (∀ (j : Nat) (b : Addr) (k : Int) (v : V), as[j]? = some b → kvs[j]? = some (.inl k, v) → H b = none ∧ H' b = some (.tup [.int k, v])) → Q (.ref l) H'
theorem cr_sortK (hc : X.calm = true) : CallR X (.builtin "sorted") rSortK := by
  intro pins s σ H xs us Q I r h
  obtain ⟨p, a, kvs, ks, rfl, hp, ha, hk, hri, hl, q⟩ := h
  obtain rfl := Vals.ref1 r
  have view : s.heap.IsItemsView p a := (show ObjOk X.prog X.w H s.heap p (itemsO p a) from I.hok p _ hp).1
  obtain ⟨_, hsys, ws, hkv, o, es, ep, h1, h2, h3, _, h4, _⟩ := (show ObjOk X.prog X.w H s.heap a (.dK kvs) from I.hok a _ ha)
  obtain ⟨r1, r2⟩ := pairs_keys hkv h4
  have hh : X.A.handled = none := I.ok.hd hc
  have les : es.size = kvs.length := by
    have := r2.length
    simpa using this.symm
  have lks : ks.length = kvs.length := by
    have := congrArg List.length hk
    simpa using this.symm
  have big : (1000000 : Nat) < sizeLine := by decide
  refine DT.sortedI (es := es) (ep := ep) hh view ⟨o, h1, h2, h3⟩ (by omega) fun h' tk as hk' hlt hl' hG => ?_
  have lak : as.length = kvs.length := by omega
  have nd : as.Nodup := List.Pairwise.imp (fun h => Nat.ne_of_lt h) hG.rise
  have pr : ∀ (j : Nat) (b : Addr), as[j]? = some b → ∃ (k : Int) (v : V) (t : Tok) (u : Value), kvs[j]? = some (.inl k, v) ∧ ks[j]? = some k ∧ RelV v u ∧ h'.get? b = some { cls := .type "tuple", data := .seq #[.int k t, u] } := by
    intro j b hj
    obtain ⟨en, he, hg⟩ := hG.pairs j b hj
    have hj2 : j < kvs.length := by rw [← lak]; exact (List.getElem?_eq_some_iff.mp hj).1
    have he' : es.toList[j]? = some en := by rw [Array.getElem?_toList]; exact he
    obtain ⟨u1, hu1, rv1⟩ := r1.get (i := j) (x := kV (kvs[j]).1) (by rw [List.getElem?_map, List.getElem?_eq_getElem hj2]; rfl)
    obtain ⟨u2, hu2, rv2⟩ := r2.get (i := j) (x := (kvs[j]).2) (by rw [List.getElem?_map, List.getElem?_eq_getElem hj2]; rfl)
    rw [List.getElem?_map, he'] at hu1 hu2
    have hkj : ks[j]? = some ks[j] := List.getElem?_eq_getElem (by omega)
    have ek : (kvs[j]).1 = Sum.inl ks[j] := by
      have := congrArg (fun z => z[j]?) hk
      simp only [List.getElem?_map, List.getElem?_eq_getElem hj2, hkj, Option.map_some, Option.some.injEq] at this
      exact this
    cases hu1
    cases hu2
    rw [ek] at rv1
    obtain ⟨t, et⟩ := (show ∃ t, en.key = Value.int ks[j] t from rv1)
    rw [et] at hg
    refine ⟨ks[j], (kvs[j]).2, t, en.val, ?_, hkj, rv2, hg⟩
    rw [List.getElem?_eq_getElem hj2, ← ek]
  have hob : (h'.push { cls := .type "list", data := .seq (as.map Value.ref).toArray }).get? h'.objs.size = some (seqObj "list" (as.map Value.ref).toArray 0) := Heap.get?_push_size _ rfl
  have ne0 : ∀ b o, h'.get? b = some o → b ≠ h'.objs.size := fun b o e => Nat.ne_of_lt (Heap.lt_size e)
  generalize hh2 : h'.push { cls := .type "list", data := .seq (as.map Value.ref).toArray } = h2' at hob ⊢
  have ka : ∀ b o, h'.get? b = some o → h2'.get? b = some o := fun b o e => by rw [← hh2]; exact Heap.get?_push_of_some _ e
  have kb : ∀ b o, s.heap.get? b = some o → h2'.get? b = some o := fun b o e => ka _ _ (hk' _ _ e)
  have pin : ∀ (j : Nat) (b : Addr) (k : Int), as[j]? = some b → ks[j]? = some k → ∃ u, PairR h2' (.ref b) k u := by
    intro j b k hj hkj
    obtain ⟨k', v, t, u, _, e2, _, e4⟩ := pr j b hj
    rw [hkj] at e2
    cases e2
    exact ⟨u, b, _, t, 0, rfl, ka _ _ e4, rfl, rfl⟩
  have fk : ∀ (j : Nat) (b : Addr) (k : Int), as[j]? = some b → ks[j]? = some k → fstI h2' (.ref b) = k := fun j b k hj hkj =>
    let ⟨u, z⟩ := pin j b k hj hkj
    z.fst
  have at_ : ∀ v ∈ as.map Value.ref, ∃ (j : Nat) (b : Addr) (k : Int), v = .ref b ∧ as[j]? = some b ∧ ks[j]? = some k := by
    intro v hv'
    obtain ⟨b, hb, rfl⟩ := List.mem_map.mp hv'
    obtain ⟨j, hj⟩ := List.mem_iff_getElem?.mp hb
    obtain ⟨k, _, _, _, _, e2, _⟩ := pr j b hj
    exact ⟨j, b, k, rfl, hj, e2⟩
  have fits : (as.map Value.ref).length ≤ sizeLine := by rw [List.length_map]; omega
  have ndk : ks.Nodup := List.Pairwise.imp (fun h => Int.ne_of_lt h) hri
  have rise : (as.map Value.ref).Pairwise fun v u => fstI h2' v < fstI h2' u := by
    refine List.pairwise_iff_getElem.mpr fun i j hi hj hij => ?_
    rw [List.length_map] at hi hj
    have hi' : i < ks.length := by omega
    have hj' : j < ks.length := by omega
    rw [List.getElem_map, List.getElem_map, fk i _ ks[i] (List.getElem?_eq_getElem hi) (List.getElem?_eq_getElem hi'), fk j _ ks[j] (List.getElem?_eq_getElem hj) (List.getElem?_eq_getElem hj')]
    exact List.pairwise_iff_getElem.mp hri i j hi' hj' hij
  refine wpAny_call_entry PyProof.Rows.slot_list_sort ⟨_, hob, rfl⟩ PyProof.Rows.entry_list_sort
    (SrtO.list_sort_ord (s := { s with heap := h2', toks := tk }) (swo_by (fstI h2')) hob fits (fun h2 => ?_) fun out g1 g2 => ⟨.none, rfl, ?_⟩) (PyProof.Rows.args_list_sort _)
  · refine pairsR_sortable (s := { s with heap := h2', toks := tk }) (by omega) (fun v hv' => ?_) (fun v hv' u hu' e => ?_) (fun o e => ?_)
    · obtain ⟨j, b, k, rfl, hj, hkj⟩ := at_ v hv'
      rw [fk j b k hj hkj]
      exact pin j b k hj hkj
    · obtain ⟨j, b, k, rfl, hj, hkj⟩ := at_ v hv'
      obtain ⟨j2, b2, k2, rfl, hj2, hkj2⟩ := at_ u hu'
      rw [fk j b k hj hkj, fk j2 b2 k2 hj2 hkj2] at e
      subst e
      have := (List.getElem?_inj (List.getElem?_eq_some_iff.mp hkj).1 ndk).mp (hkj.trans hkj2.symm)
      subst this
      rw [hj] at hj2
      cases hj2
      rfl
    · have e' : some o = some (seqObj "list" (as.map Value.ref).toArray 0) := e.symm.trans hob
      cases e'
      intro c
      exact absurd (Value.type.inj c) (by decide)
  · show EP X pins σ Q (.ref h'.objs.size) { s with heap := sortedHeap h2' h'.objs.size (as.map Value.ref) out.toArray, toks := tk }
    have eo : out = as.map Value.ref := by
      refine perm_rise (fstI h2') _ _ g2.perm (g1.imp fun {x y} z => ?_) rise
      have := of_decide_eq_false z
      omega
    subst eo
    have kF : ∀ b o, b ≠ h'.objs.size → h2'.get? b = some o → (sortedHeap h2' h'.objs.size (as.map Value.ref) (as.map Value.ref).toArray).get? b = some o := fun b o hb e => (PyProof.Rows.sortedHeap_old hb (Heap.lt_size e)).trans e
    have kS : ∀ b o, s.heap.get? b = some o → (sortedHeap h2' h'.objs.size (as.map Value.ref) (as.map Value.ref).toArray).get? b = some o := fun b o e => kF b o (ne0 _ _ (hk' b o e)) (kb b o e)
    obtain ⟨eF, heF⟩ := PyProof.Rows.sortedHeap_at (vs := as.map Value.ref) (out := (as.map Value.ref).toArray) hob
    generalize sortedHeap h2' h'.objs.size (as.map Value.ref) (as.map Value.ref).toArray = h5 at kF kS heF ⊢
    have I1 : Inv X pins σ H { s with heap := h5, toks := tk } := I.kept (t' := tk) kS
    have hn0 : H h'.objs.size = none := I.hok.fresh (Nat.le_of_lt hlt)
    have hlen : (as.map V.ref).length ≤ sizeLine := by rw [List.length_map]; omega
    have rv : Vals (as.map V.ref) (as.map Value.ref) := vals_maps V.ref Value.ref as fun _ _ => rfl
    have I2 : Inv X pins σ (upd H h'.objs.size (.lst (as.map V.ref))) { s with heap := h5, toks := tk } :=
      I1.take (h' := h5) (t' := tk) (fun b ob _ e => e) (I.fpOk (Nat.le_of_lt hlt) hn0) ⟨hlen, as.map Value.ref, eF, rv, by simpa using heF⟩
    obtain ⟨H2, I3, g, qt⟩ := takeT (P := fun b vs => ∃ (j : Nat) (k : Int) (v : V), as[j]? = some b ∧ kvs[j]? = some (.inl k, v) ∧ vs = [.int k, v]) I as _ I2 nd fun b hb => by
      obtain ⟨j, hj⟩ := List.mem_iff_getElem?.mp hb
      obtain ⟨k, v, t, u, e1, _, e3, e4⟩ := pr j b hj
      have hbl : s.heap.objs.size ≤ b := Nat.le_of_lt (hG.above b hb)
      refine ⟨hbl, ?_, [.int k, v], ⟨j, k, v, hj, e1, rfl⟩, fun H3 => ⟨(by show 2 ≤ sizeLine; decide), [Value.int k t, u], .cons ⟨t, rfl⟩ (.cons e3 .nil), ⟨_, kF _ _ (ne0 _ _ e4) (ka _ _ e4), rfl, 0, rfl⟩⟩⟩
      rw [upd_ne (ne0 _ _ e4)]
      exact I.hok.fresh hbl
    have gr : ∀ b o, H b = some o → H2 b = some o := fun b o e => g b o (by rw [upd_ne (ne_of_none e hn0)]; exact e)
    refine ⟨.ref h'.objs.size, H2, I3, rfl, q H2 h'.objs.size as gr hn0 (g _ _ upd_same) lak fun j b k v hj hkv' => ?_⟩
    obtain ⟨vs, ⟨i, k', v', i1, i2, ev⟩, hH⟩ := qt b (List.mem_of_getElem? hj)
    have eij : i = j := (List.getElem?_inj (List.getElem?_eq_some_iff.mp i1).1 nd).mp (i1.trans hj.symm)
    subst eij
    rw [hkv'] at i2
    cases i2
    rw [ev] at hH
    exact ⟨I.hok.fresh (Nat.le_of_lt (hG.above b (List.mem_of_getElem? hj))), hH⟩
end
end Pw

/-! Rows in a list or in a tuple; how lists of rows are shown. -/
namespace Pw
open PySem PySem.Spec PyProof.Rows L2
/-- at a a tuple of tuples -/
def TT {α : Type} (f : α → List V) (H : Hp) (a : Addr) (rs : List α) : Prop := ∃ vs, H a = some (.tup vs) ∧ Al f H vs rs
/-- at a a list or a tuple of tuples -/
def LS {α : Type} (f : α → List V) (H : Hp) (a : Addr) (rs : List α) : Prop := LT f H a rs ∨ TT f H a rs
section
variable {α : Type} {f : α → List V} {H H' : Hp} {K : PySem.W.Frag}
theorem TT.same {a : Addr} {rs : List α} (h : TT f H a rs) (S : Same H H') : TT f H' a rs := let ⟨vs, e, al⟩ := h; ⟨vs, S _ _ e, al.same S⟩
theorem LS.same {a : Addr} {rs : List α} (h : LS f H a rs) (S : Same H H') : LS f H' a rs := h.imp (fun l => l.same S) fun t => t.same S
theorem LT.ls {a : Addr} {rs : List α} (h : LT f H a rs) : LS f H a rs := .inl h
theorem TT.ls {a : Addr} {rs : List α} (h : TT f H a rs) : LS f H a rs := .inr h
/-- rows are shown by their texts, none longer than N -/
def ShR (f : α → List V) (tx : α → Str) (ok : α → Prop) (N : Nat) : Prop :=
  ∀ (K : PySem.W.Frag) (H : Hp) (p : Addr) (r : α), ok r → H p = some (.tup (f r)) → Shw K H (.ref p) 1 N (tx r)
theorem shl_rows {tx : α → Str} {ok : α → Prop} {N : Nat} (S : ShR f tx ok N) {vs : List V} {rs : List α} (h : Al f H vs rs) (ho : ∀ r ∈ rs, ok r) :
    ∃ d, d ≤ 1 ∧ ShwL K H vs d (rs.length * (N + 2)) (rs.map tx) := by
  induction h with
  | nil => exact ⟨0, by decide, by simpa using ShwL.nil⟩
  | @cons p vs r rs e t ih =>
    obtain ⟨d, hd, s⟩ := ih fun r hr => ho r (by simp [hr])
    refine ⟨max 1 d, by omega, ?_⟩
    have := ShwL.cons (S K H p r (ho r (by simp)) e) s
    have e2 : N + 2 + rs.length * (N + 2) = (r :: rs).length * (N + 2) := by
      rw [List.length_cons, Nat.succ_mul]
      omega
    rw [e2] at this
    exact this
/-- a list of rows is shown -/
theorem shw_rows {tx : α → Str} {ok : α → Prop} {N : Nat} (K : PySem.W.Frag) (S : ShR f tx ok N) {a : Addr} {rs : List α} (h : LT f H a rs) (ho : ∀ r ∈ rs, ok r)
    (hl : rs.length * (N + 2) + 2 ≤ sizeLine) : ∃ d n, Shw K H (.ref a) (d + 1) n (listText (rs.map tx)) ∧ n ≤ sizeLine ∧ d + 1 ≤ 60 := by
  obtain ⟨vs, e, al⟩ := h.ex
  obtain ⟨d, hd, s⟩ := shl_rows (K := K) S al ho
  exact ⟨d, _, .lst e s, hl, by omega⟩
theorem sm60 {i : Int} (h : -1000000000000 ≤ i) (k : i ≤ 1000000000000) : i.natAbs.log2 < 1920 := by
  by_cases hz : i.natAbs = 0
  · rw [hz]
    decide
  · rw [Nat.log2_lt hz]
    exact Nat.lt_of_lt_of_le (show i.natAbs < 2 ^ 60 by omega) (Nat.pow_le_pow_right (by decide) (by decide))
/-- what follows two ways that meet -/
theorem seq_join {A B : TS} {D : Ends} {σ : L2.St} {H : Hp} (P : L2.St → Hp → Prop) (h2 : ∀ N' : L2.St → Hp → Prop, (∀ σ' H', P σ' H' → N' σ' H') → A { D with nx := N' } σ H)
    (h1 : ∀ σ' H', P σ' H' → B D σ' H') : tSeq A B D σ H := h2 _ h1
end
end Pw

/-! Things as trees: kinds, equality, what is shown. -/
namespace Pw
open PySem PySem.Spec PyProof.Rows L2
inductive Lf where
  | non
  | bl (b : Bool)
  | int (i : Int)
  | str (s : Str)
  | ed
deriving DecidableEq
def Tr : Nat → Type
  | 0 => Lf
  | d + 1 => Sum Lf (Bool × List (Tr d))
def Tr.lf {d : Nat} (l : Lf) : Tr (d + 1) := Sum.inl l
def Tr.sq {d : Nat} (k : Bool) (ts : List (Tr d)) : Tr (d + 1) := Sum.inr (k, ts)
def RepL (H : Hp) : Lf → V → Prop
  | .non, v => v = .non
  | .bl b, v => v = .bl b
  | .int i, v => v = .int i
  | .str s, v => v = .str s
  | .ed, v => ∃ a, v = .ref a ∧ H a = some (.dK [])
def seqO (k : Bool) (vs : List V) : HO := if k = true then .lst vs else .tup vs
/-- the value stands for the tree; true: a list -/
def Rep (H : Hp) : (d : Nat) → Tr d → V → Prop
  | 0, t, v => RepL H t v
  | _ + 1, .inl l, v => RepL H l v
  | d + 1, .inr (k, ts), v => ∃ a vs, v = .ref a ∧ H a = some (seqO k vs) ∧ vs.length = ts.length ∧ ts.length ≤ 100000 ∧
      ∀ (i : Nat) (t : Tr d) (u : V), ts[i]? = some t → vs[i]? = some u → Rep H d t u
theorem RepL.same {H H' : Hp} (S : Same H H') : ∀ {l : Lf} {v : V}, RepL H l v → RepL H' l v
  | .non, _, h => h
  | .bl _, _, h => h
  | .int _, _, h => h
  | .str _, _, h => h
  | .ed, _, ⟨a, e, h⟩ => ⟨a, e, S _ _ h⟩
theorem Rep.same {H H' : Hp} (S : Same H H') : ∀ {d : Nat} {t : Tr d} {v : V}, Rep H d t v → Rep H' d t v
  | 0, _, _, h => RepL.same S h
  | _ + 1, .inl _, _, h => RepL.same S h
  | d + 1, .inr (_, _), _, ⟨a, vs, e, h, l1, l2, k⟩ => ⟨a, vs, e, S _ _ h, l1, l2, fun i t u h1 h2 => Rep.same S (k i t u h1 h2)⟩
def lfEq (a b : Lf) : Bool := decide (a = b)
def trEq : (d : Nat) → Tr d → Tr d → Bool
  | 0, a, b => lfEq a b
  | _ + 1, .inl a, .inl b => lfEq a b
  | _ + 1, .inl _, .inr _ => false
  | _ + 1, .inr _, .inl _ => false
  | d + 1, .inr (k, ts), .inr (j, us) => (k == j) && (decide (ts.length = us.length) && (List.zipWith (trEq d) ts us).all id)
theorem zip_refl {α : Type} {f : α → α → Bool} (h : ∀ a, f a a = true) : ∀ l : List α, (List.zipWith f l l).all id = true
  | [] => rfl
  | a :: l => by
    rw [List.zipWith_cons_cons, List.all_cons, zip_refl h l, h a]
    rfl
theorem lfEq_refl (a : Lf) : lfEq a a = true := decide_eq_true rfl
theorem trEq_refl : ∀ {d : Nat} (t : Tr d), trEq d t t = true
  | 0, t => lfEq_refl t
  | _ + 1, .inl a => lfEq_refl a
  | d + 1, .inr (k, ts) => by
    show ((k == k) && (decide (ts.length = ts.length) && (List.zipWith (trEq d) ts ts).all id)) = true
    rw [zip_refl (fun a => trEq_refl a), beq_self_eq_true, decide_eq_true rfl]
    rfl
/-- the second is of numbers, texts and None; where it is none of a list or tuple, the first is no list, tuple or dict -/
def CmpL (a b : Lf) : Prop := a ≠ .ed ∧ (b = .non ∨ (∃ i, b = .int i) ∨ ∃ s, b = .str s)
def CmpT : (d : Nat) → Tr d → Tr d → Prop
  | 0, a, b => CmpL a b
  | _ + 1, .inl a, .inl b => CmpL a b
  | _ + 1, .inl _, .inr _ => True
  | _ + 1, .inr _, .inl _ => False
  | d + 1, .inr (j, ts), .inr (k, us) => j = k → ∀ (i : Nat) (t u : Tr d), ts[i]? = some t → us[i]? = some u → CmpT d t u
/-- the kind of a leaf, of a tree -/
def kdL : Lf → String
  | .non => "NoneType"
  | .bl _ => "bool"
  | .int _ => "int"
  | .str _ => "str"
  | .ed => "dict"
def kdS (k : Bool) : String := if k = true then "list" else "tuple"
theorem RepL.ty {K : PySem.W.Frag} {H : Hp} : ∀ {l : Lf} {v : V}, RepL H l v → Ty K H v (.type (kdL l))
  | .non, _, h => by rw [show _ = V.non from h]; exact .non
  | .bl b, _, h => by rw [show _ = V.bl b from h]; exact .bl b
  | .int i, _, h => by rw [show _ = V.int i from h]; exact .int i
  | .str s, _, h => by rw [show _ = V.str s from h]; exact .str s
  | .ed, _, h => by
    obtain ⟨a, rfl, e⟩ := h
    exact .dct e
theorem seq_ty {K : PySem.W.Frag} {H : Hp} {a : Addr} {k : Bool} {vs : List V} (h : H a = some (seqO k vs)) : Ty K H (.ref a) (.type (kdS k)) := by
  cases k with
  | true => exact .lst h
  | false => exact .tup h
/-- is that kind a list? a tuple? a truth? a number (or a truth)? a text? a dict? -/
structure Kit (K : PySem.W.Frag) (n : String) (l t b i s d : Bool) : Prop where
  l : PySem.W.kitOne K (.type n) (.type "list") = some l
  t : PySem.W.kitOne K (.type n) (.type "tuple") = some t
  b : PySem.W.kitOne K (.type n) (.type "bool") = some b
  i : PySem.W.kitOne K (.type n) (.type "int") = some i
  s : PySem.W.kitOne K (.type n) (.type "str") = some s
  d : PySem.W.kitOne K (.type n) (.type "dict") = some d
def blL : Lf → Bool
  | .bl _ => true
  | _ => false
def intL : Lf → Bool
  | .int _ => true
  | _ => false
def strL : Lf → Bool
  | .str _ => true
  | _ => false
def edL : Lf → Bool
  | .ed => true
  | _ => false
section
variable {K : PySem.W.Frag}
theorem kit_non : Kit K "NoneType" false false false false false false :=
  ⟨kit_ty (a := "NoneType") (b := "list") (by decide +kernel), kit_ty (a := "NoneType") (b := "tuple") (by decide +kernel), kit_ty (a := "NoneType") (b := "bool") (by decide +kernel),
    kit_ty (a := "NoneType") (b := "int") (by decide +kernel), kit_ty (a := "NoneType") (b := "str") (by decide +kernel), kit_ty (a := "NoneType") (b := "dict") (by decide +kernel)⟩
theorem kit_bl : Kit K "bool" false false true true false false :=
  ⟨kit_ty (a := "bool") (b := "list") (by decide +kernel), kit_ty (a := "bool") (b := "tuple") (by decide +kernel), kit_ty (a := "bool") (b := "bool") (by decide +kernel),
    kit_ty (a := "bool") (b := "int") (by decide +kernel), kit_ty (a := "bool") (b := "str") (by decide +kernel), kit_ty (a := "bool") (b := "dict") (by decide +kernel)⟩
theorem kit_int : Kit K "int" false false false true false false :=
  ⟨kit_ty (a := "int") (b := "list") (by decide +kernel), kit_ty (a := "int") (b := "tuple") (by decide +kernel), kit_ty (a := "int") (b := "bool") (by decide +kernel),
    kit_ty (a := "int") (b := "int") (by decide +kernel), kit_ty (a := "int") (b := "str") (by decide +kernel), kit_ty (a := "int") (b := "dict") (by decide +kernel)⟩
theorem kit_str : Kit K "str" false false false false true false :=
  ⟨kit_ty (a := "str") (b := "list") (by decide +kernel), kit_ty (a := "str") (b := "tuple") (by decide +kernel), kit_ty (a := "str") (b := "bool") (by decide +kernel),
    kit_ty (a := "str") (b := "int") (by decide +kernel), kit_ty (a := "str") (b := "str") (by decide +kernel), kit_ty (a := "str") (b := "dict") (by decide +kernel)⟩
theorem kit_dict : Kit K "dict" false false false false false true :=
  ⟨kit_ty (a := "dict") (b := "list") (by decide +kernel), kit_ty (a := "dict") (b := "tuple") (by decide +kernel), kit_ty (a := "dict") (b := "bool") (by decide +kernel),
    kit_ty (a := "dict") (b := "int") (by decide +kernel), kit_ty (a := "dict") (b := "str") (by decide +kernel), kit_ty (a := "dict") (b := "dict") (by decide +kernel)⟩
theorem kit_list : Kit K "list" true false false false false false :=
  ⟨kit_ty (a := "list") (b := "list") (by decide +kernel), kit_ty (a := "list") (b := "tuple") (by decide +kernel), kit_ty (a := "list") (b := "bool") (by decide +kernel),
    kit_ty (a := "list") (b := "int") (by decide +kernel), kit_ty (a := "list") (b := "str") (by decide +kernel), kit_ty (a := "list") (b := "dict") (by decide +kernel)⟩
theorem kit_tuple : Kit K "tuple" false true false false false false :=
  ⟨kit_ty (a := "tuple") (b := "list") (by decide +kernel), kit_ty (a := "tuple") (b := "tuple") (by decide +kernel), kit_ty (a := "tuple") (b := "bool") (by decide +kernel),
    kit_ty (a := "tuple") (b := "int") (by decide +kernel), kit_ty (a := "tuple") (b := "str") (by decide +kernel), kit_ty (a := "tuple") (b := "dict") (by decide +kernel)⟩
theorem kit_lf : ∀ l : Lf, Kit K (kdL l) false false (blL l) (blL l || intL l) (strL l) (edL l)
  | .non => kit_non
  | .bl _ => kit_bl
  | .int _ => kit_int
  | .str _ => kit_str
  | .ed => kit_dict
theorem kit_seq : ∀ k : Bool, Kit K (kdS k) k (!k) false false false false
  | true => kit_list
  | false => kit_tuple
end
/-- leaves that == compares: no truth, no dict -/
theorem cmp_scal {H : Hp} {a b : Lf} {x y : V} (hx : RepL H a x) (hy : RepL H b y) (h : CmpL a b) (hb : blL a = false) : scal x y = true ∧ decide (x = y) = lfEq a b := by
  obtain ⟨he, hc⟩ := h
  cases a with
  | ed => exact absurd rfl he
  | bl k => cases hb
  | non =>
    obtain rfl : x = .non := hx
    rcases hc with rfl | ⟨i, rfl⟩ | ⟨s, rfl⟩
    · obtain rfl : y = .non := hy
      exact ⟨rfl, by simp [lfEq]⟩
    · obtain rfl : y = .int i := hy
      exact ⟨rfl, by simp [lfEq]⟩
    · obtain rfl : y = .str s := hy
      exact ⟨rfl, by simp [lfEq]⟩
  | int j =>
    obtain rfl : x = .int j := hx
    rcases hc with rfl | ⟨i, rfl⟩ | ⟨s, rfl⟩
    · obtain rfl : y = .non := hy
      exact ⟨rfl, by simp [lfEq]⟩
    · obtain rfl : y = .int i := hy
      exact ⟨rfl, by simp [lfEq]⟩
    · obtain rfl : y = .str s := hy
      exact ⟨rfl, by simp [lfEq]⟩
  | str j =>
    obtain rfl : x = .str j := hx
    rcases hc with rfl | ⟨i, rfl⟩ | ⟨s, rfl⟩
    · obtain rfl : y = .non := hy
      exact ⟨rfl, by simp [lfEq]⟩
    · obtain rfl : y = .int i := hy
      exact ⟨rfl, by simp [lfEq]⟩
    · obtain rfl : y = .str s := hy
      exact ⟨rfl, by simp [lfEq]⟩
theorem cmp_bl {a b : Lf} (h : CmpL a b) (hb : blL a = true) : lfEq a b = false := by
  obtain ⟨_, hc⟩ := h
  cases a with
  | bl k =>
    refine decide_eq_false fun z => ?_
    subst z
    rcases hc with q | ⟨i, q⟩ | ⟨s, q⟩ <;> cases q
  | _ => cases hb
/-- how the two stand to each other -/
inductive Two (K : PySem.W.Frag) (H : Hp) : (d : Nat) → Tr d → Tr d → V → V → Prop where
  /-- two leaves -/
  | leaf {d : Nat} {t u : Tr d} {x y : V} (a b : Lf) (ha : RepL H a x) (hb : RepL H b y) (hc : CmpL a b) (e : trEq d t u = lfEq a b) : Two K H d t u x y
  /-- a list or tuple, and a thing that is none such -/
  | other {d : Nat} {t : Tr (d + 1)} {us : List (Tr d)} {x : V} {b : Addr} {ys : List V} (k : Bool) (n : String) {l t' b' i s d' : Bool} (eb : H b = some (seqO k ys)) (tx : Ty K H x (.type n)) (kx : Kit K n l t' b' i s d')
      (h1 : k = true → l = false) (h2 : k = false → t' = false) (e : trEq (d + 1) t (.inr (k, us)) = false) : Two K H (d + 1) t (.inr (k, us)) x (.ref b)
  /-- two lists, or two tuples -/
  | both {d : Nat} {ts us : List (Tr d)} {a b : Addr} {xs ys : List V} (k : Bool) (ea : H a = some (seqO k xs)) (eb : H b = some (seqO k ys)) (l1 : xs.length = ts.length) (l2 : ts.length ≤ 100000) (l3 : ys.length = us.length) (l4 : us.length ≤ 100000)
      (r1 : ∀ (i : Nat) (t : Tr d) (v : V), ts[i]? = some t → xs[i]? = some v → Rep H d t v) (r2 : ∀ (i : Nat) (t : Tr d) (v : V), us[i]? = some t → ys[i]? = some v → Rep H d t v)
      (hc : ∀ (i : Nat) (t u : Tr d), ts[i]? = some t → us[i]? = some u → CmpT d t u)
      (e : trEq (d + 1) (.inr (k, ts)) (.inr (k, us)) = (decide (ts.length = us.length) && (List.zipWith (trEq d) ts us).all id)) : Two K H (d + 1) (.inr (k, ts)) (.inr (k, us)) (.ref a) (.ref b)
theorem two {K : PySem.W.Frag} {H : Hp} : ∀ {d : Nat} {t u : Tr d} {x y : V}, Rep H d t x → Rep H d u y → CmpT d t u → Two K H d t u x y
  | 0, t, u, _, _, rt, ru, hc => .leaf t u rt ru hc rfl
  | _ + 1, .inl a, .inl b, _, _, rt, ru, hc => .leaf a b rt ru hc rfl
  | _ + 1, .inr _, .inl _, _, _, _, _, hc => False.elim hc
  | _ + 1, .inl a, .inr (k, us), _, _, rt, ⟨b, ys, e, eb, _⟩, _ => by
    subst e
    exact .other k _ eb (RepL.ty (K := K) rt) (kit_lf a) (fun _ => rfl) (fun _ => rfl) rfl
  | d + 1, .inr (j, ts), .inr (k, us), _, _, ⟨a, xs, e1, ea, l1, l2, r1⟩, ⟨b, ys, e2, eb, l3, l4, r2⟩, hc => by
    subst e1 e2
    by_cases hjk : j = k
    · subst hjk
      refine .both j ea eb l1 l2 l3 l4 r1 r2 (hc rfl) ?_
      show ((j == j) && _) = _
      rw [beq_self_eq_true]
      rfl
    · refine .other k _ eb (seq_ty (K := K) ea) (kit_seq j) (fun e => ?_) (fun e => ?_) ?_
      · cases j with
        | true => exact absurd e.symm hjk
        | false => rfl
      · cases j with
        | true => rfl
        | false => exact absurd e.symm hjk
      · show ((j == k) && _) = false
        rw [beq_eq_false_iff_ne.mpr hjk]
        rfl
theorem walk_zipT {K : PySem.W.Frag} {a b : Addr} {xs ys : List V} {n : Nat} (hn : n = min xs.length ys.length) :
    Walk (RZ.ItzT K a b) n (fun H => SqT K H a xs ∧ SqT K H b ys) (YPair (fun i => xs[i]?) (fun i => ys[i]?)) := by
  subst hn
  refine ⟨fun i _ hi q => ?_, fun _ q => ⟨xs, ys, q.1, q.2, by omega⟩, fun i H v H' _ q y => ?_⟩
  · have h1 : i < xs.length := by omega
    have h2 : i < ys.length := by omega
    exact ⟨xs, ys, xs[i], ys[i], q.1, q.2, by simp [h1], by simp [h2]⟩
  · obtain ⟨T, x, z, h1, h2, h3, h4, h5⟩ := y
    exact ⟨T, x, z, h1, h2, h3, h4 xs q.1, h5 ys q.2⟩
theorem zw_take {α β : Type} (f : α → α → β) (ts us : List α) {i : Nat} {t u : α} (ht : ts[i]? = some t) (hu : us[i]? = some u) :
    (List.zipWith f ts us).take (i + 1) = (List.zipWith f ts us).take i ++ [f t u] := by
  rw [List.take_add_one]
  congr 1
  rw [List.getElem?_zipWith, ht, hu]
  rfl
/-! ### what is shown of it -/
def szL : Lf → Nat
  | .non => 5
  | .bl _ => 5
  | .int _ => 1921
  | .str s => (reprText s).length
  | .ed => 2
def szT : (d : Nat) → Tr d → Nat
  | 0, l => szL l
  | _ + 1, .inl l => szL l
  | d + 1, .inr (k, ts) => (ts.map fun t => szT d t + 2).sum + (if k = true then 2 else 3)
def smL : Lf → Prop
  | .int i => -1000000000000 ≤ i ∧ i ≤ 1000000000000
  | _ => True
def smT : (d : Nat) → Tr d → Prop
  | 0, l => smL l
  | _ + 1, .inl l => smL l
  | d + 1, .inr (_, ts) => ∀ t ∈ ts, smT d t
theorem RepL.shw {K : PySem.W.Frag} {H : Hp} : ∀ {l : Lf} {v : V}, RepL H l v → smL l → ∃ e x, Shw K H v e (szL l) x ∧ e ≤ 1 ∧ (∀ a, v = .ref a → 0 < e)
  | .non, _, h, _ => by
    obtain rfl : _ = V.non := h
    exact ⟨0, _, .non, by decide, fun a z => by cases z⟩
  | .bl b, _, h, _ => by
    obtain rfl : _ = V.bl b := h
    exact ⟨0, _, .bl b, by decide, fun a z => by cases z⟩
  | .int i, _, h, s => by
    obtain rfl : _ = V.int i := h
    exact ⟨0, _, .int i (sm60 s.1 s.2), by decide, fun a z => by cases z⟩
  | .str y, _, h, _ => by
    obtain rfl : _ = V.str y := h
    exact ⟨0, _, .str y _ (Nat.le_refl _), by decide, fun a z => by cases z⟩
  | .ed, _, h, _ => by
    obtain ⟨a, rfl, e⟩ := h
    exact ⟨1, _, .dct e .nil .nil, by decide, fun _ _ => by decide⟩
theorem shw_items {K : PySem.W.Frag} {H : Hp} {d : Nat} (ih : ∀ {t : Tr d} {v : V}, Rep H d t v → smT d t → ∃ e x, Shw K H v e (szT d t) x ∧ e ≤ d + 1 ∧ (∀ a, v = .ref a → 0 < e)) :
    ∀ (ts : List (Tr d)) (vs : List V), vs.length = ts.length → (∀ (i : Nat) (t : Tr d) (u : V), ts[i]? = some t → vs[i]? = some u → Rep H d t u) → (∀ t ∈ ts, smT d t) →
      ∃ e xs, ShwL K H vs e (ts.map fun t => szT d t + 2).sum xs ∧ e ≤ d + 1
  | [], [], _, _, _ => ⟨0, [], .nil, by omega⟩
  | [], _ :: _, h, _, _ => by cases h
  | _ :: _, [], h, _, _ => by cases h
  | t :: ts, v :: vs, h, hr, hs => by
    obtain ⟨e1, x1, s1, l1, _⟩ := ih (hr 0 t v rfl rfl) (hs t (by simp))
    obtain ⟨e2, x2, s2, l2⟩ := shw_items ih ts vs (by simpa using h) (fun i t u h1 h2 => hr (i + 1) t u h1 h2) (fun t ht => hs t (by simp [ht]))
    exact ⟨max e1 e2, x1 :: x2, by rw [List.map_cons, List.sum_cons]; exact .cons s1 s2, by omega⟩
theorem Rep.shw {K : PySem.W.Frag} {H : Hp} : ∀ {d : Nat} {t : Tr d} {v : V}, Rep H d t v → smT d t → ∃ e x, Shw K H v e (szT d t) x ∧ e ≤ d + 1 ∧ (∀ a, v = .ref a → 0 < e)
  | 0, _, _, h, s => RepL.shw h s
  | d + 1, .inl _, _, h, s => by
    obtain ⟨e, x, a, b, c⟩ := RepL.shw (K := K) h s
    exact ⟨e, x, a, by omega, c⟩
  | d + 1, .inr (k, ts), _, ⟨a, vs, e, h, l1, l2, q⟩, s => by
    subst e
    obtain ⟨e2, xs, sh, l3⟩ := shw_items (K := K) (fun h s => Rep.shw h s) ts vs l1 q s
    cases k with
    | true => exact ⟨e2 + 1, _, .lst h sh, by omega, fun _ _ => by omega⟩
    | false => exact ⟨e2 + 1, _, .tup h sh, by omega, fun _ _ => by omega⟩
end Pw

set_option maxHeartbeats 16000000
namespace W24
open PySem PySem.Spec PyProof.Rows L2 Pw
theorem inV_int (i : Int) : ∀ ns : List Int, inV (.int i) (ns.map V.int) = decide (i ∈ ns)
  | [] => rfl
  | n :: ns => by
    have ih := inV_int i ns
    unfold inV at ih ⊢
    rw [List.map_cons, List.any_cons, ih]
    by_cases h : n = i
    · subst h
      simp [eqV]
    · simp [eqV, h, Ne.symm h]
def gE (e : Wm.Ev) : List PyData := [.int e.1, match e.2 with
  | none => .none
  | some i => .int i]
theorem DE : Dat fE gE fun _ => True := by
  refine ⟨fun K H r => .cons (.int _) (.cons ?_ .nil), fun r h => ?_, fun r => ?_⟩
  · cases r.2 with
    | none => exact .non
    | some i => exact .int i
  · unfold gE
    cases r.2 <;> simp only [PyData.canLayAll0, PyData.canLay0, Bool.and_self]
  · unfold gE
    cases r.2 <;> simp only [PyData.depthAll, PyData.depth, Nat.max_self]
theorem any_ev (a t : Int) : ∀ f : List Wm.Ev, ((f.map fun r => PyData.tuple (gE r)).any fun z => PyData.eqv z (.tuple [.int a, .int t])) = decide ((a, some t) ∈ f)
  | [] => rfl
  | (b, o) :: f => by
    rw [List.map_cons, List.any_cons, any_ev a t f]
    cases o with
    | none =>
      have : PyData.eqv (.tuple (gE (b, none))) (.tuple [.int a, .int t]) = false := by simp [gE, PyData.eqv, PyData.eqvAll]
      rw [this]
      simp
    | some u =>
      have : PyData.eqv (.tuple (gE (b, some u))) (.tuple [.int a, .int t]) = (decide (b = a) && decide (u = t)) := by
        simp [gE, PyData.eqv, PyData.eqvAll]
        rw [Bool.eq_iff_iff]
        simp
      rw [this]
      by_cases h1 : b = a
      · by_cases h2 : u = t
        · simp [h1, h2]
        · simp [h1, h2, Ne.symm h2]
      · simp [h1, Ne.symm h1]
section
variable {P : Program} {w : World} {K : PySem.W.Frag} {mg : Str → Option Value} {base : Heap} {C : Addr}
def spRight (C : Addr) : Sp := fun vs H Q _ => ∃ p L rl g r rs T wo ti, vs = [.ref p, .ref rl, .ref g, .int T] ∧ WAt C H p L rl (evM r rs T) wo ti ∧ H rl = some (.tup (fR r)) ∧ GoodRl r ∧ LT f3 H g rs ∧ GoodH rs ∧ (0 ≤ T ∧ T ≤ 9999) ∧
  ∀ H', Same H H' → Q (.bl true) H'
theorem d_right (T : Txt mg) (W : WC K C) (A : At K mg "_law_right" sLawRight) (dModel : Def P w K mg base "_law_model" 2 ["_law_rule_here", "_law_signs", "_law_till"] (spModel K)) (dAlike : Def P w K mg base "_law_alike" (1 + 3) ["_law_found", "_law_due"] (spAlike 3))
    (de : DefM P w K mg base C "events" 1 ["self"] (spEvs C)) (ds : DefM P w K mg base C "state" 2 ["self"] (spState C)) (dl : DefM P w K mg base C "__len__" 1 ["self"] (spLenM C)) :
    Def P w K mg base "_law_right" 6 ["_law_watch", "_law_rule_here", "_law_signs", "_law_till"] (spRight C) := by
  refine mkDef A scLawRight (fun _ _ _ _ _ _ us hl => match us, hl with | [_, _, _, _], _ => rfl) (fun vs H Q E ⟨_, _, _, _, _, _, _, _, _, e, _⟩ => by rw [e]; rfl)
    (fun f cdv A out sh H vs Q E hr h => ?_)
  obtain ⟨p, L, rl, g, r, rs, T', wo, ti, rfl, hw, er, gr, hL, hg, hT, k⟩ := h
  refine ⟨_, (pss_cons (ps_asg (pe_d dModel hr (by decide) (by rfl) (pa_cons (pv 1) (pa_cons (pv 2) (pa_cons (pv 3) pa_nil)))) (pg_tup (by rfl) (pgs_cons (pg_name (i := 4) scLawRight.nd rfl (.inl rfl)) (pgs_cons (pg_name (i := 5) scLawRight.nd rfl (.inl rfl)) pgs_nil))))
    (pss_cons (ps_set (i := 6) scLawRight.nd rfl (.inl rfl) (pe_mm0 (pv 0) W.cl de hr (by decide)))
    (pss_cons (ps_if (PW.pt (pw_or (pt_not (pt_val (pe_d dAlike hr (by decide) (by rfl) (pa_cons (pv 6) (pa_cons (pv 4) pa_nil))))) (pw_or (pt_not (pt_val (pe_d dAlike hr (by decide) (by rfl) (pa_cons (pe_mm0 (pv 0) W.cl ds hr (by decide)) (pa_cons (pv 5) pa_nil))))) (pw_or1 (pt_not (pt_val (pe_d dAlike hr (by decide) (by rfl) (pa_cons (pe_callB (call_lenW dl hr (by decide)) (by rfl) T.len PySem.boot_len (pa_cons (pv 0) pa_nil)) (pa_cons (pe_callB call_len_seq (by rfl) T.len PySem.boot_len (pa_cons (pv 4) pa_nil)) pa_nil)))))))))
      (pss_one (ps_ret pe_bl))
      pss_nil)
    (pss_cons (ps_expr (pe_bm PySem.F.plainAttrs_list PySem.F.slot_list_append PySem.F.type_list_append mt_append (pv 6) (pa_cons (pe_tup (pa_cons pe_int (pa_cons pe_non pa_nil))) pa_nil)))
    (pss_one (ps_ret (pe_d dAlike hr (by decide) (by rfl) (pa_cons (pe_mm0 (pv 0) W.cl de hr (by decide)) (pa_cons (pv 4) pa_nil))))))))), ?_⟩
  have no : ∀ {G : Hp} {dx : Addr} {m : Str}, (m == ("_rule" : Str)) = false → (m == ("_events" : Str)) = false → (m == ("_since" : Str)) = false → (m == ("_worth" : Str)) = false →
    (m == ("_time" : Str)) = false → (wf (.ref rl) (.ref L) (oV (evM r rs T').si) wo ti).lookup m = none := fun h1 h2 h3 h4 h5 => wf_no h1 h2 h3 h4 h5
  have evl : (evM r rs T').ev.length ≤ 50000 := evM_len hg T'
  refine ⟨_, rfl, _, rfl, _, rfl, rl, r, g, rs, T', rfl, er, gr, hL, hg, ⟨hT.1, by omega⟩, fun b b1 b2 H1 S1 e0 h1 _ e2 => ?_⟩
  refine ⟨b, _, rfl, SqT.of e0, rfl, _, _, rfl, _, _, rfl, rfl, ?_⟩
  obtain ⟨dx, es, g1, g2, _⟩ := (hw.same S1).ex
  refine ⟨_, rfl, p, dx, _, rfl, g1, no (G := H1) (dx := dx) (by decide +kernel) (by decide +kernel) (by decide +kernel) (by decide +kernel) (by decide +kernel), p, L, rl, _, wo, ti, rfl, hw.same S1, fun b3 H2 S2 nb3 h3 => ?_⟩
  dsimp only [gName]
  have h12 := h1.same S2
  refine ⟨_, rfl, _, rfl, _, _, rfl, Sim.lt h3 h12 (by omega) fE_flat (fun _ => by show 2 ≤ 100; decide), fun H3 S3 => ?_⟩
  refine ⟨_, rfl, iteF ?_⟩
  have S13 := S1.trans (S2.trans S3)
  obtain ⟨dx', es', g1', g2', _⟩ := (hw.same S13).ex
  refine ⟨_, rfl, p, dx', _, rfl, g1', no (G := H3) (dx := dx') (by decide +kernel) (by decide +kernel) (by decide +kernel) (by decide +kernel) (by decide +kernel), p, L, rl, _, wo, ti, rfl, hw.same S13, by omega, fun b4 H4 S4 nb4 e4 => ?_⟩
  refine ⟨_, rfl, _, _, rfl, Sim.tup e4 ((S2.trans (S3.trans S4)) _ _ e2) (by show 2 ≤ 100000; decide) (fS_flat _), fun H5 S5 => ?_⟩
  refine ⟨_, rfl, iteF ?_⟩
  have S15 := S13.trans (S4.trans S5)
  obtain ⟨dx5, es5, g15, g25, _⟩ := (hw.same S15).ex
  refine ⟨_, rfl, p, dx5, _, rfl, g15, p, L, rl, _, wo, ti, rfl, hw.same S15, ((evM r rs T').ev.length : Int), rfl, ⟨by omega, by omega⟩, ?_⟩
  obtain ⟨vs1, e1, al1⟩ := (h12.same (S3.trans (S4.trans S5))).ex
  refine ⟨_, rfl, b1, vs1, rfl, .inl (SqL.of e1), ?_⟩
  rw [al1.length]
  refine ⟨_, _, rfl, Sim.flat (.int _), fun H6 S6 => ?_⟩
  refine ⟨_, rfl, iteF ?_⟩
  have h36 := h3.same (S3.trans (S4.trans (S5.trans S6)))
  obtain ⟨vs3, e3, al3⟩ := h36.ex
  have nL3 : H b3 = none := Same.no S1 nb3
  refine ⟨_, rfl, .inl ⟨rfl, _, SqL.of e3⟩, by show 2 ≤ sizeLine; decide, fun q nq => ?_⟩
  have U1 := Same.laid (o := HO.tup [V.int 1, .non]) nq
  refine ⟨b3, vs3, .ref q, rfl, rfl, U1 _ _ e3, (by rw [al3.length]; exact Nat.lt_of_le_of_lt evl (by decide)), ?_⟩
  generalize upd H6 q (.tup [V.int 1, .non]) = H7 at *
  have S17 : Same H1 (upd H7 b3 (.lst (vs3 ++ [.ref q]))) := Same.wo_upd (S2.trans (S3.trans (S4.trans (S5.trans (S6.trans U1))))) nb3
  have SF := S1.trans S17
  obtain ⟨dx7, es7, g17, g27, _⟩ := (hw.same SF).ex
  refine ⟨_, rfl, p, dx7, _, rfl, g17, no (G := H7) (dx := dx7) (by decide +kernel) (by decide +kernel) (by decide +kernel) (by decide +kernel) (by decide +kernel), p, L, rl, _, wo, ti, rfl, hw.same SF, fun b8 H8 S8 nb8 h8 => ?_⟩
  exact ⟨_, rfl, _, _, rfl, Sim.lt h8 (h1.same (S17.trans S8)) (by omega) fE_flat (fun _ => by show 2 ≤ 100; decide), fun H9 S9 => k H9 (SF.trans (S8.trans S9))⟩
theorem lt_push {α : Type} {f : α → List V} {G : Hp} {D q : Addr} {vs : List V} {l : List α} {x : α} (eD : G D = some (.lst vs)) (al : Al f G vs l) (nq : G q = none) :
    LT f (upd (upd G q (.tup (f x))) D (.lst (vs ++ [.ref q]))) D (l ++ [x]) := by
  have qD : q ≠ D := fun z => by rw [z, eD] at nq; cases nq
  refine ⟨_, upd_same, ?_⟩
  refine Al.snoc (al.imp fun p xs e => ?_) ((upd_ne qD).trans upd_same)
  have pD : p ≠ D := fun z => by rw [z, eD] at e; cases e
  exact (upd_ne pD).trans ((upd_ne (ne_of_none e nq)).trans e)
def spNew (K : PySem.W.Frag) : Sp := fun vs H Q _ => ∃ rl g el r rs F T, vs = [.ref rl, .ref g, el, .int T] ∧ H rl = some (.tup (fR r)) ∧ GoodRl r ∧ LT f3 H g rs ∧ GoodH rs ∧
  ((el = .non ∧ F = []) ∨ ∃ T0, el = .int T0 ∧ (0 ≤ T0 ∧ T0 ≤ 9999) ∧ F = (evM r rs T0).ev) ∧ (0 ≤ T ∧ T ≤ 9999) ∧
  ∀ b H', Same H H' → H b = none → LT fT H' b (Wm.newE F (evM r rs T).ev) → Q (.ref b) H'
theorem d_new (A : At K mg "_law_new" sLawNew) (dModel : Def P w K mg base "_law_model" 2 ["_law_rule_here", "_law_signs", "_law_till"] (spModel K)) :
    Def P w K mg base "_law_new" 3 ["_law_rule_here", "_law_signs", "_law_elder", "_law_till"] (spNew K) := by
  refine mkDef A scLawNew (fun _ _ _ _ _ _ us hl => match us, hl with | [_, _, _, _], _ => rfl) (fun vs H Q E ⟨_, _, _, _, _, _, _, e, _⟩ => by rw [e]; rfl)
    (fun f cdv A out sh H vs Q E hr h => ?_)
  obtain ⟨rl, g, el, r, rs, F, T, rfl, er, gr, hL, hg, hel, hT, k⟩ := h
  have hu65 : (A.deeper (envOfC "_law_new" (defScope sLawNew) sh.heap.objs.size f cdv)).units + 65 < cLine := by have := hr.un; omega
  refine ⟨_, (pss_cons (ps_set (i := 4) scLawNew.nd rfl (.inl rfl) (pe_lst pa_nil))
    (pss_cons (ps_if (pt_cmpR op_notN (pv 2) pe_non (nomark _))
      (pss_one (ps_set (i := 4) scLawNew.nd rfl (.inl rfl) (pe_ix ix_tup (pe_d dModel hr (by decide) (by rfl) (pa_cons (pv 0) (pa_cons (pv 1) (pa_cons (pv 2) pa_nil)))) pe_int (fun _ _ => rfl))))
      pss_nil)
    (pss_cons (ps_set (i := 5) scLawNew.nd rfl (.inl rfl) (pe_lst pa_nil))
    (pss_cons (ps_for PassesOwn.never rfl (pi_list (pe_ix ix_tup (pe_d dModel hr (by decide) (by rfl) (pa_cons (pv 0) (pa_cons (pv 1) (pa_cons (pv 3) pa_nil)))) pe_int (fun _ _ => rfl))) (pg_tup (by rfl) (pgs_cons (pg_name (i := 6) scLawNew.nd rfl (.inl rfl)) (pgs_cons (pg_name (i := 7) scLawNew.nd rfl (.inl rfl)) pgs_nil)))
      (pss_cons (ps_if (pt_cmpR op_notIn_seq (pv 6) (pe_lc (own := [("_law_one", 8)]) (g := gName 8) (tt := tYes) rfl scLawNew.nd (pi_list (pv 4))
        (blkOk_by (own := [("_law_one", 8)]) (N := ["_law_rule_here", "_law_signs", "_law_elder", "_law_till", "_law_first", "_law_due", "_law_raised", "_law_ended_here", "_law_one"]) (sc := defScope sLawNew) (by decide +kernel))
        (fun _ _ _ _ _ => (pg_name (i := 8) scLawNew.nd rfl (.inl rfl))) (fun _ _ _ _ _ => pts_nil)
        (fun _ _ _ _ _ => (pe_ix (r := rIxT K) ix_tup (pv 8) pe_int (fun _ _ => rfl)))) (by rfl))
        (pss_one (ps_expr (pe_bm PySem.F.plainAttrs_list PySem.F.slot_list_append PySem.F.type_list_append mt_append (pv 5) (pa_cons (pe_tup (pa_cons pe_str (pa_cons (pv 6) pa_nil))) pa_nil))))
        pss_nil)
      (pss_one (ps_if (PW.pt (pw_and (pt_cmpR op_notN (pv 7) pe_non (nomark _)) (pw_and1 (pt_cmpR (op_notInD hu65) (pe_tup (pa_cons (pv 6) (pa_cons (pv 7) pa_nil))) (pv 4) (by rfl)))))
        (pss_one (ps_expr (pe_bm PySem.F.plainAttrs_list PySem.F.slot_list_append PySem.F.type_list_append mt_append (pv 5) (pa_cons (pe_tup (pa_cons pe_str (pa_cons (pv 7) pa_nil))) pa_nil))))
        pss_nil))))
    (pss_one (ps_ret (pv 5))))))), ?_⟩
  refine ⟨by show 0 ≤ sizeLine; decide, fun L0 nL0 => ?_⟩
  have S0 := Same.laid (o := HO.lst []) nL0
  have eL0 : upd H L0 (.lst []) L0 = some (.lst []) := upd_same
  generalize upd H L0 (.lst []) = H1 at *
  dsimp only [gName]
  refine seq_join (A := tIfS _ _ _) (fun σ' G => ∃ fa, σ' = [some (.ref rl), some (.ref g), some el, some (.int T), some (.ref fa), none, none, none, none] ∧ Same H G ∧ LT fE G fa F ∧ F.length ≤ 50000) (fun N' hN => ?_) ?_
  · rcases hel with ⟨rfl, rfl⟩ | ⟨T0, rfl, hT0, rfl⟩
    · refine ⟨_, rfl, rfl, _, rfl, iteF ?_⟩
      exact hN _ _ ⟨L0, rfl, S0, ⟨[], eL0, .nil⟩, by decide⟩
    · refine ⟨_, rfl, rfl, _, rfl, iteT ?_⟩
      refine ⟨_, rfl, _, rfl, _, rfl, rl, r, g, rs, T0, rfl, S0 _ _ er, gr, hL.same S0, hg, ⟨hT0.1, by omega⟩, fun b b1 b2 G S1 e0 h1 _ _ => ?_⟩
      refine ⟨b, _, 0, .ref b1, rfl, rfl, SqT.of e0, rfl, ?_⟩
      exact hN _ _ ⟨b1, rfl, S0.trans S1, h1, evM_len hg T0⟩
  rintro σ' G ⟨fa, rfl, SG, hF, hFl⟩
  refine ⟨by show 0 ≤ sizeLine; decide, fun D nD => ?_⟩
  have U1 := Same.laid (o := HO.lst []) nD
  have eD : upd G D (.lst []) D = some (.lst []) := upd_same
  have S01 := SG.trans U1
  have nDH : H D = none := Same.no SG nD
  have faD : fa ≠ D := by
    obtain ⟨_, eF0, _⟩ := hF.ex
    exact ne_of_none eF0 nD
  generalize upd G D (.lst []) = G1 at *
  dsimp only [gName]
  refine ⟨_, rfl, _, rfl, _, rfl, rl, r, g, rs, T, rfl, S01 _ _ er, gr, hL.same S01, hg, ⟨hT.1, by omega⟩, fun b b1 b2 G2 S2 e0 h1 nb1 _ => ?_⟩
  refine ⟨b, _, 0, .ref b1, rfl, rfl, SqT.of e0, rfl, ?_⟩
  obtain ⟨vE, eE, alE⟩ := h1.ex
  have hF2 := hF.same (U1.trans S2)
  have eD2 := S2 _ _ eD
  have S02 := S01.trans S2
  have evl : (evM r rs T).ev.length ≤ 50000 := evM_len hg T
  have sz : 200010 < sizeLine := by decide
  have bD : b1 ≠ D := fun z => by rw [z, eD] at nb1; cases nb1
  refine ⟨b1, rfl, ⟨_, SqL.of eE⟩, ?_⟩
  refine for_it (walk_list (K := K) (a := b1) (xs := vE)) (fun i σ X => ∃ (v6 v7 v8 : Option V), σ = [some (.ref rl), some (.ref g), some el, some (.int T), some (.ref fa), some (.ref D), v6, v7, v8] ∧
      Same H X ∧ X b1 = some (.lst vE) ∧ Al fE X vE (evM r rs T).ev ∧ LT fE X fa F ∧ LT fT X D (Wm.newE F ((evM r rs T).ev.take i))) ?_
    (fun i σ X _ ⟨_, _, _, _, _, e, _⟩ => SqL.of e) ?_ ?_
  · exact ⟨none, none, none, rfl, S02, eE, alE, hF2, ⟨[], eD2, .nil⟩⟩
  · rintro i v σ X0 X hi ⟨v6, v7, v8, rfl, SX, eEX, alX, hFX, hDX⟩ ⟨rfl, hx⟩
    obtain ⟨q, e, rfl, hx', eq⟩ := alX.get hx
    have et : (evM r rs T).ev.take (i + 1) = (evM r rs T).ev.take i ++ [e] := by rw [List.take_add_one, hx']; rfl
    have ln : (Wm.newE F ((evM r rs T).ev.take i)).length ≤ 2 * i := by
      have h3 := Wm.newE_len F ((evM r rs T).ev.take i)
      rw [List.length_take] at h3
      omega
    have hi' : i < 50001 := by have := alX.length; omega
    refine ⟨q, fE e, rfl, SqT.of eq, rfl, _, _, rfl, _, _, rfl, rfl, ?_⟩
    dsimp only [gName]
    -- raised of it?
    refine seq_join (A := tIfS _ _ _) (fun σ' Y => ∃ v8', σ' = [some (.ref rl), some (.ref g), some el, some (.int T), some (.ref fa), some (.ref D), some (.int e.1), some (oV e.2), v8'] ∧
      Same H Y ∧ Y b1 = some (.lst vE) ∧ Al fE Y vE (evM r rs T).ev ∧ LT fE Y fa F ∧ LT fT Y D (Wm.newE F ((evM r rs T).ev.take i) ++ (if e.1 ∈ F.map Prod.fst then [] else [(true, e.1)]))) (fun N' hN => ?_) ?_
    · obtain ⟨vF, eF, alF⟩ := hFX.ex
      refine ⟨_, rfl, _, rfl, fa, rfl, ⟨_, SqL.of eF⟩, fun D2 nD2 => ?_⟩
      refine lc_acc (walk_list (K := K) (a := fa) (xs := vF)) nD2 (by rw [alF.length]; omega) (fun i acc _ => acc = ((F.take i).map Prod.fst).map V.int) rfl (fun H' S => SqL.of (S _ _ eF)) ?_ ?_
      · rintro i v Y2 Y3 acc hi S2 eD2 hl2 rfl ⟨rfl, hx⟩ Fy Fn hy1 _
        obtain ⟨q3, x, rfl, hx', eq3⟩ := (alF.same S2).get hx
        refine ⟨rfl, ?_⟩
        unfold tYes
        refine iteT ?_
        refine ⟨_, rfl, q3, fE x, 0, .int (Prod.fst x), rfl, rfl, SqT.of eq3, rfl, ?_⟩
        refine hy1 _ _ (Same.refl _) ?_
        rw [List.take_add_one, hx', List.map_append, List.map_append]
        rfl
      rintro Y2 acc S2 eD2' rfl
      rw [alF.length, List.take_length] at eD2'
      refine ⟨D2, _, rfl, .inl (SqL.of eD2'), rfl, List.all_eq_true.mpr (fun y hy => by
        simp only [List.mem_map] at hy
        obtain ⟨z, _, rfl⟩ := hy
        rfl), ?_⟩
      refine ⟨_, rfl, ?_⟩
      rw [show inV (V.int e.1) ((F.map Prod.fst).map V.int) = decide (e.1 ∈ F.map Prod.fst) from inV_int _ _]
      have SXY := SX.trans S2
      by_cases hm : e.1 ∈ F.map Prod.fst
      · rw [decide_eq_true hm]
        refine iteF (hN _ _ ⟨_, rfl, SXY, S2 _ _ eEX, alX.same S2, hFX.same S2, ?_⟩)
        rw [if_pos hm, List.append_nil]
        exact hDX.same S2
      · rw [decide_eq_false hm]
        refine iteT ?_
        obtain ⟨vD, eDY, alD⟩ := (hDX.same S2).ex
        refine ⟨_, rfl, .inl ⟨rfl, _, SqL.of eDY⟩, _, rfl, by show 2 ≤ sizeLine; decide, fun q3 nq3 => ?_⟩
        have V1 := Same.laid (o := HO.tup [V.str "raised", .int e.1]) nq3
        refine ⟨D, vD, .ref q3, rfl, rfl, V1 _ _ eDY, (by rw [alD.length]; omega), ?_⟩
        have hD' := lt_push (x := (true, e.1)) eDY alD nq3
        have SF := Same.wo_upd (SXY.trans V1) nDH (o := HO.lst (vD ++ [.ref q3]))
        have keep : ∀ c o, c ≠ D → Y2 c = some o → upd (upd Y2 q3 (.tup (fT (true, e.1)))) D (.lst (vD ++ [.ref q3])) c = some o := fun c o n ec => (upd_ne n).trans (V1 c o ec)
        refine hN _ _ ⟨_, rfl, SF, keep _ _ bD (S2 _ _ eEX), (alX.same S2).imp fun p xs ep => keep p _ (fun z => by rw [z, eDY] at ep; cases ep) ep, ?_, ?_⟩
        · obtain ⟨vF', eF', alF'⟩ := (hFX.same S2).ex
          exact ⟨vF', keep _ _ faD eF', alF'.imp fun p xs ep => keep p _ (fun z => by rw [z, eDY] at ep; cases ep) ep⟩
        · rw [if_neg hm]
          exact hD'
    rintro σ' Y ⟨v8', rfl, SY, eEY, alY, hFY, hDY⟩
    have newE1 : Wm.newE F ((evM r rs T).ev.take (i + 1)) = Wm.newE F ((evM r rs T).ev.take i) ++ (if e.1 ∈ F.map Prod.fst then [] else [(true, e.1)]) ++ (match e.2 with
        | none => []
        | some t => if (e.1, some t) ∈ F then [] else [(false, t)]) := by
      rw [et, Wm.newE_append, List.append_assoc]
      congr 1
      unfold Wm.newE
      rw [List.flatMap_cons, List.flatMap_nil, List.append_nil]
      all_goals (cases e.2 <;> rfl)
    refine ⟨_, rfl, rfl, ?_⟩
    cases he2 : e.2 with
    | none =>
      refine ⟨false, rfl, iteF (iteF ?_)⟩
      rw [he2] at newE1
      refine ⟨_, _, _, rfl, SY, eEY, alY, hFY, ?_⟩
      rw [newE1, List.append_nil]
      exact hDY
    | some t =>
      rw [he2] at newE1
      refine ⟨true, rfl, iteT ?_⟩
      refine ⟨_, rfl, _, rfl, by show 2 ≤ sizeLine; decide, fun q5 nq5 => ?_⟩
      have V1 := Same.laid (o := HO.tup [V.int e.1, oV (some t)]) nq5
      have e5 : upd Y q5 (.tup [V.int e.1, oV (some t)]) q5 = some (.tup [V.int e.1, V.int t]) := upd_same
      generalize upd Y q5 (.tup [V.int e.1, oV (some t)]) = Y1 at *
      have hF1 := hFY.same V1
      refine ⟨_, rfl, .tuple [.int e.1, .int t], F.map fun r => .tuple (gE r), .tup (SqT.of e5) (.cons (.int _) (.cons (.int _) .nil)), hF1.dp DE, ?_, shaped_rows DE F (fun _ _ => trivial), ?_⟩
      · unfold SeqAt.shaped
        simp only [PyData.canLay0, PyData.canLayAll0, PyData.depth, PyData.depthAll]
        rfl
      refine ⟨_, rfl, ?_⟩
      rw [any_ev]
      have SY1 := SY.trans V1
      by_cases hm : (e.1, some t) ∈ F
      · rw [decide_eq_true hm]
        refine iteF ?_
        refine ⟨_, _, _, rfl, SY1, V1 _ _ eEY, alY.same V1, hF1, ?_⟩
        rw [newE1]
        simp only
        rw [if_pos hm, List.append_nil]
        exact hDY.same V1
      · rw [decide_eq_false hm]
        refine iteT ?_
        obtain ⟨vD, eDY, alD⟩ := (hDY.same V1).ex
        refine ⟨_, rfl, .inl ⟨rfl, _, SqL.of eDY⟩, _, rfl, by show 2 ≤ sizeLine; decide, fun q3 nq3 => ?_⟩
        have V2 := Same.laid (o := HO.tup [V.str "ended", .int t]) nq3
        have ln1 : (if e.1 ∈ F.map Prod.fst then ([] : List (Bool × Int)) else [(true, e.1)]).length ≤ 1 := by split <;> simp
        refine ⟨D, vD, .ref q3, rfl, rfl, V2 _ _ eDY, (by rw [alD.length, List.length_append]; omega), ?_⟩
        have hD' := lt_push (x := (false, t)) eDY alD nq3
        have SF := Same.wo_upd (SY1.trans V2) nDH (o := HO.lst (vD ++ [.ref q3]))
        have keep : ∀ c o, c ≠ D → Y1 c = some o → upd (upd Y1 q3 (.tup (fT (false, t)))) D (.lst (vD ++ [.ref q3])) c = some o := fun c o n ec => (upd_ne n).trans (V2 c o ec)
        refine ⟨_, _, _, rfl, SF, keep _ _ bD (V1 _ _ eEY), (alY.same V1).imp fun p xs ep => keep p _ (fun z => by rw [z, eDY] at ep; cases ep) ep, ?_, ?_⟩
        · obtain ⟨vF', eF', alF'⟩ := hF1.ex
          exact ⟨vF', keep _ _ faD eF', alF'.imp fun p xs ep => keep p _ (fun z => by rw [z, eDY] at ep; cases ep) ep⟩
        · rw [newE1]
          simp only
          rw [if_neg hm]
          exact hD'
  · rintro σ X ⟨v6, v7, v8, rfl, SX, eEX, alX, hFX, hDX⟩
    rw [alE.length, List.take_length] at hDX
    exact ⟨_, rfl, k D X SX nDH hDX⟩
end
end W24

set_option maxHeartbeats 16000000
namespace W24
open PySem PySem.Spec PyProof.Rows L2 Pw
/-- the state of a watch by its signs and its last time -/
def stOf (r : Rl) (rs : List R3) : Option Int → Wm.S
  | none => Wm.init
  | some T => evM r rs T
def woOf (rs : List R3) : V := match rs.getLast? with
  | none => .non
  | some x => .int x.2.1
/-- a box: the watch, its rule, its signs, its last time -/
structure Bx where
  p : Addr
  L : Addr
  rl : Addr
  g : Addr
  b : Addr
  r : Rl
structure BoxAt (C : Addr) (H : Hp) (x : Bx) (rs : List R3) (la : Option Int) : Prop where
  eb : H x.b = some (.lst [.ref x.p, .ref x.rl, .ref x.g, oV la])
  w : WAt C H x.p x.L x.rl (stOf x.r rs la) (woOf rs) (oV la)
  er : H x.rl = some (.tup (fR x.r))
  gr : GoodRl x.r
  hg : LT f3 H x.g rs
  bL : x.b ≠ x.L
  bg : x.b ≠ x.g
  Lg : x.L ≠ x.g
  none_ : la = none → rs = []
  some_ : ∀ T, la = some T → Heard rs T ∧ T ≤ 9999
/-- all stays but at the box's own places -/
def FrB (x : Bx) (H H' : Hp) : Prop := ∀ c o, c ≠ x.b → c ≠ x.p → c ≠ x.L → c ≠ x.g → H c = some o → H' c = some o
theorem FrB.refl {x : Bx} {H : Hp} : FrB x H H := fun _ _ _ _ _ _ e => e
theorem FrB.of {x : Bx} {H H' : Hp} (S : Same H H') : FrB x H H' := fun c o _ _ _ _ e => S c o e
theorem FrB.trans {x : Bx} {H H1 H2 : Hp} (a : FrB x H H1) (b : FrB x H1 H2) : FrB x H H2 := fun c o n1 n2 n3 n4 e => b c o n1 n2 n3 n4 (a c o n1 n2 n3 n4 e)
theorem FrB.fr {x : Bx} {H H' : Hp} (F : Fr x.p x.L H H') : FrB x H H' := fun c o _ n2 n3 _ e => F c o n2 n3 e
theorem seq_c {v : V} {i : Nat} {B : TS} {D : Ends} {σ : L2.St} {H : Hp} (h : B D (σ.set i (some v)) H) : tSeq (tAsg (tC v) (gName i)) B D σ H := h
theorem fT_flat (r : Bool × Int) : ∀ x ∈ fT r, Flat x := by
  intro x hx
  unfold fT at hx
  simp only [List.mem_cons, List.not_mem_nil, or_false] at hx
  rcases hx with rfl | rfl
  · exact .str _
  · exact .int _
theorem ev_hear0 {r : Rl} (g : GoodRl r) (t y : Int) : evM r [gs t y] t = Wm.hearS r.R Wm.init t y := by
  have e : pr [gs t y] = [] ++ [(t, y)] := rfl
  rw [ev_all (r := r) (rs := [gs t y]) (fun x hx => by rw [List.mem_singleton.mp hx]; rfl) (fun x hx => by rw [List.mem_singleton.mp hx]; exact Int.le_refl _), e, Wm.runS_snoc]
  exact wait_hear g.g fun z => by cases z
theorem heard_nil {T : Int} (h : 0 ≤ T) : Heard [] T := ⟨⟨(fun x hx => by cases hx), .nil, by decide⟩, (fun x hx => by cases hx), (fun x hx => by cases hx), h⟩
theorem heard_go {rs : List R3} {T T' : Int} (h : Heard rs T) (l : T ≤ T') : Heard rs T' := ⟨h.h, h.good, fun x hx => by have := h.upto x hx; omega, by have := h.pos; omega⟩
theorem heard_hear {rs : List R3} {T t y : Int} (h : ∀ x ∈ rs, x.1 < t) (hg : GoodH rs) (hgood : ∀ x ∈ rs, x.2.2 = "good") (h0 : 0 ≤ t) (h1 : t ≤ 9999) (hy : 0 ≤ y ∧ y ≤ 63) (hl : rs.length ≤ 900) : Heard (rs ++ [gs t y]) t := by
  refine ⟨⟨fun x hx => ?_, ?_, ?_⟩, fun x hx => ?_, fun x hx => ?_, h0⟩
  · rcases List.mem_append.mp hx with z | z
    · exact hg.all x z
    · rw [List.mem_singleton.mp z]
      exact ⟨h0, h1, hy.1, hy.2, .inl rfl⟩
  · refine List.pairwise_append.mpr ⟨hg.rise, by simp, fun a ha b hb => ?_⟩
    rw [List.mem_singleton.mp hb]
    exact h a ha
  · rw [List.length_append, List.length_singleton]
    omega
  · rcases List.mem_append.mp hx with z | z
    · exact hgood x z
    · rw [List.mem_singleton.mp z]; rfl
  · rcases List.mem_append.mp hx with z | z
    · have := h x z; omega
    · rw [List.mem_singleton.mp z]; exact Int.le_refl _
theorem woOf_snoc (rs : List R3) (t y : Int) : woOf (rs ++ [gs t y]) = .int y := by
  unfold woOf
  rw [List.getLast?_concat]
  rfl
/-- what a box tells of its watch's state -/
theorem st_facts {C : Addr} {H : Hp} {x : Bx} {rs : List R3} {la : Option Int} (B : BoxAt C H x rs la) {t : Int} (h : ∀ T0, la = some T0 → T0 < t) (h0 : 0 ≤ t) (h1 : t ≤ 9999) (hl : rs.length ≤ 900) :
    (∃ T1, T1 < t ∧ Wm.Up x.r.R (stOf x.r rs la) T1) ∧ evM x.r rs t = Wm.waitS x.r.R (stOf x.r rs la) t ∧ Heard rs t ∧ (∀ y, evM x.r (rs ++ [gs t y]) t = Wm.hearS x.r.R (stOf x.r rs la) t y) ∧ (∀ y, 0 ≤ y ∧ y ≤ 63 → Heard (rs ++ [gs t y]) t) ∧
    (∀ T0, la = some T0 → ∀ y, evM x.r (rs ++ [gs t y]) T0 = evM x.r rs T0) ∧ (stOf x.r rs la).ev.length ≤ 50000 := by
  cases la with
  | none =>
    have hr := B.none_ rfl
    subst hr
    exact ⟨⟨t - 1, by omega, up_init _ _⟩, rfl, heard_nil h0, fun y => ev_hear0 B.gr t y, fun y hy => heard_hear (T := t) (fun x hx => by cases hx) ⟨(fun x hx => by cases hx), .nil, by decide⟩ (fun x hx => by cases hx) h0 h1 hy hl,
      fun _ z => (by cases z), by show 0 ≤ 50000; decide⟩
  | some T0 =>
    obtain ⟨hh, _⟩ := B.some_ T0 rfl
    have ht := h T0 rfl
    refine ⟨⟨T0, ht, ev_up B.gr hh⟩, ev_go hh (by omega), heard_go hh (by omega), fun y => ev_hear B.gr hh ht, fun y hy => heard_hear (T := t) (fun x hx => by have := hh.upto x hx; omega) hh.h hh.good h0 h1 hy hl,
      fun _ z y => (by cases z; exact ev_cut hh ht), evM_len hh.h T0⟩
theorem LT.keep {α : Type} {f : α → List V} {H H' : Hp} {a : Addr} {rs : List α} (h : LT f H a rs) (ha : ∀ vs, H a = some (.lst vs) → H' a = some (.lst vs)) (ht : ∀ p xs, H p = some (.tup xs) → H' p = some (.tup xs)) : LT f H' a rs :=
  let ⟨vs, e, al⟩ := h.ex
  ⟨vs, ha vs e, al.imp ht⟩
theorem BoxAt.same {C : Addr} {H H' : Hp} {x : Bx} {rs : List R3} {la : Option Int} (B : BoxAt C H x rs la) (S : Same H H') : BoxAt C H' x rs la :=
  ⟨S _ _ B.eb, B.w.same S, S _ _ B.er, B.gr, B.hg.same S, B.bL, B.bg, B.Lg, B.none_, B.some_⟩
/-- a list of no part of the box changes -/
theorem BoxAt.keep {C : Addr} {H H' : Hp} {x : Bx} {rs : List R3} {la : Option Int} {q : Addr} {vq : List V} (B : BoxAt C H x rs la) (eq : H q = some (.lst vq)) (n1 : q ≠ x.b) (n2 : q ≠ x.L) (n3 : q ≠ x.g)
    (kp : ∀ c o, c ≠ q → H c = some o → H' c = some o) : BoxAt C H' x rs la := by
  obtain ⟨dx, es, e1, e2, al⟩ := B.w.ex
  have tk : ∀ p xs, H p = some (.tup xs) → H' p = some (.tup xs) := fun p xs e => kp p _ (fun z => by rw [z, eq] at e; cases e) e
  exact ⟨kp _ _ (Ne.symm n1) B.eb, ⟨dx, es, kp _ _ (fun z => by rw [z, eq] at e1; cases e1) e1, kp _ _ (Ne.symm n2) e2, al.imp tk⟩, tk _ _ B.er, B.gr, LT.keep B.hg (fun vs e => kp _ _ (Ne.symm n3) e) tk, B.bL, B.bg, B.Lg, B.none_, B.some_⟩
/-- what a deed of the watch leaves of the box -/
theorem BoxAt.deed {C : Addr} {H H' : Hp} {x : Bx} {rs : List R3} {la : Option Int} (B : BoxAt C H x rs la) (F : Fr x.p x.L H H') :
    H' x.b = some (.lst [.ref x.p, .ref x.rl, .ref x.g, oV la]) ∧ H' x.rl = some (.tup (fR x.r)) ∧ LT f3 H' x.g rs ∧ x.b ≠ x.p ∧ x.g ≠ x.p := by
  obtain ⟨dx, es, e1, e2, al⟩ := B.w.ex
  obtain ⟨vg, eg, alg⟩ := B.hg.ex
  have bp : x.b ≠ x.p := fun z => by have := B.eb; rw [z, e1] at this; cases this
  have gp : x.g ≠ x.p := fun z => by rw [z, e1] at eg; cases eg
  refine ⟨F _ _ bp B.bL B.eb, F _ _ (fun z => ?_) (fun z => ?_) B.er, ?_, bp, gp⟩
  · have := B.er; rw [z, e1] at this; cases this
  · have := B.er; rw [z, e2] at this; cases this
  · refine LT.keep B.hg (fun vs e => F _ _ gp (Ne.symm B.Lg) e) fun p xs e => F _ _ (fun z => ?_) (fun z => ?_) e
    · rw [z, e1] at e; cases e
    · rw [z, e2] at e; cases e
section
variable {P : Program} {w : World} {K : PySem.W.Frag} {mg : Str → Option Value} {base : Heap} {C : Addr}
def gT (e : Bool × Int) : List PyData := [.str (if e.1 = true then "raised" else "ended"), .int e.2]
theorem DT : Dat fT gT fun _ => True := by
  refine ⟨fun K H r => .cons (.str _) (.cons (.int _) .nil), fun r _ => ?_, fun r => ?_⟩
  · have : PyData.strOk (if r.1 = true then ("raised" : Str) else "ended") = true := by cases r.1 <;> decide +kernel
    simp only [gT, PyData.canLayAll0, PyData.canLay0, this, Bool.and_self]
  · simp only [gT, PyData.depthAll, PyData.depth, Nat.max_self]
def spStep (C : Addr) : Sp := fun vs H Q _ => ∃ (x : Bx) (rw_ : Addr) (rs : List R3) (la : Option Int), vs = [.ref x.b, .ref rw_] ∧ BoxAt C H x rs la ∧ Row H rw_ 6 ∧ rs.length ≤ 900 ∧
  ∀ H' rs' la', FrB x H H' → BoxAt C H' x rs' la' → rs'.length ≤ rs.length + 1 → Q (.bl true) H'
theorem d_step (T : Txt mg) (W : WC K C) (A : At K mg "_law_step" sLawStep) (dRef : Def P w K mg base "_law_refused" 7 ["_law_watch", "_law_way", "_law_time"] (spRefused C)) (dNW : Def P w K mg base "_law_no_worth" 7 ["_law_watch", "_law_time"] (spNoWorth C))
    (dNew : Def P w K mg base "_law_new" 3 ["_law_rule_here", "_law_signs", "_law_elder", "_law_till"] (spNew K)) (dAlike : Def P w K mg base "_law_alike" (1 + 3) ["_law_found", "_law_due"] (spAlike 3))
    (dg : DefM P w K mg base C "go_on" 6 ["self", "time"] (spGo C)) (dh : DefM P w K mg base C "hear" 6 ["self", "time", "worth"] (spHear C)) :
    Def P w K mg base "_law_step" 8 ["_law_box", "_law_row_here"] (spStep C) := by
  refine mkDef A scLawStep (fun _ _ _ _ _ _ us hl => match us, hl with | [_, _], _ => rfl) (fun vs H Q E ⟨_, _, _, _, e, _⟩ => by rw [e]; rfl)
    (fun f cdv A out sh H vs Q E hr h => ?_)
  obtain ⟨x, rw_, rs, la, rfl, B, hR, hlen, k⟩ := h
  refine ⟨_, (pss_cons (ps_asg (pv 0) (L2.pg_lst (by rfl) (pgs_cons (pg_name (i := 2) scLawStep.nd rfl (.inl rfl)) (pgs_cons (pg_name (i := 3) scLawStep.nd rfl (.inl rfl)) (pgs_cons (pg_name (i := 4) scLawStep.nd rfl (.inl rfl)) (pgs_cons (pg_name (i := 5) scLawStep.nd rfl (.inl rfl)) pgs_nil))))))
    (pss_cons (ps_set (i := 6) scLawStep.nd rfl (.inl rfl) pe_int)
    (pss_cons (ps_if (pt_cmpR op_notN (pv 5) pe_non (nomark _))
      (pss_one (ps_set (i := 6) scLawStep.nd rfl (.inl rfl) (pe_op op_add (pv 5) pe_int)))
      pss_nil)
    (pss_cons (ps_set (i := 7) scLawStep.nd rfl (.inl rfl) (pe_ix ix_list (pe_lst (pa_cons pe_int (pa_cons (pe_op op_mod (pe_ix ix_list (pv 1) pe_int (fun _ _ => rfl)) pe_int) (pa_cons (pe_ix ix_tup (pv 3) pe_int (fun _ _ => rfl)) (pa_cons (pe_callB (call_max2 rfl) (by rfl) T.max PyProof.Rows.boot_max (pa_cons pe_int (pa_cons (pe_op op_sub (pe_ix ix_tup (pv 3) pe_int (fun _ _ => rfl)) pe_int) pa_nil))) (pa_cons (pe_op op_add (pe_ix ix_tup (pv 3) pe_int (fun _ _ => rfl)) pe_int) (pa_cons (pe_op op_mod (pe_ix ix_list (pv 1) pe_int (fun _ _ => rfl)) pe_int) pa_nil))))))) (pe_op op_mod (pe_ix ix_list (pv 1) pe_int (fun _ _ => rfl)) pe_int) (fun _ _ => rfl)))
    (pss_cons (ps_set (i := 8) scLawStep.nd rfl (.inl rfl) (pe_op op_add (pv 6) (pv 7)))
    (pss_cons (ps_if (pt_cmpR op_gt (pv 8) pe_int (nomark _))
      (pss_one (ps_ret pe_bl))
      pss_nil)
    (pss_cons (ps_if (PW.pt (pw_and (pt_cmpR op_notN (pv 5) pe_non (nomark _)) (pw_and1 (pt_cmpR op_eq (pe_op op_mod (pe_ix ix_list (pv 1) pe_int (fun _ _ => rfl)) pe_int) pe_int (nomark _)))))
      (pss_cons (ps_if (PW.pt (pw_or (pt_not (pt_val (pe_d dRef hr (by decide) (by rfl) (pa_cons (pv 2) (pa_cons pe_int (pa_cons (pe_op op_sub (pv 5) (pe_op op_mod (pe_ix ix_list (pv 1) pe_int (fun _ _ => rfl)) (pe_op op_add (pv 5) pe_int))) pa_nil)))))) (pw_or1 (pt_cmpR (op_neD hr.units) (pe_mm (pv 2) W.cl dg hr (by decide) (pa_cons (pv 5) pa_nil)) (pe_lst pa_nil) (nomark _)))))
        (pss_one (ps_ret pe_bl))
        pss_nil)
      (pss_cons (ps_if (pt_not (pt_val (pe_d dNW hr (by decide) (by rfl) (pa_cons (pv 2) (pa_cons (pe_op op_sub (pv 5) (pe_op op_mod (pe_ix ix_list (pv 1) pe_int (fun _ _ => rfl)) (pe_op op_add (pv 5) pe_int))) pa_nil)))))
        (pss_one (ps_ret pe_bl))
        pss_nil)
      (pss_one (ps_ret (pe_or (pe_cmpR op_eq (pv 5) pe_int (nomark _)) (pe_one (pe_d dRef hr (by decide) (by rfl) (pa_cons (pv 2) (pa_cons pe_int (pa_cons (pe_op op_sub (pe_op op_sub (pv 5) pe_int) (pe_op op_mod (pe_ix ix_list (pv 1) pe_int (fun _ _ => rfl)) (pv 5))) pa_nil))))))))))
      pss_nil)
    (pss_cons (ps_if (pt_cmpR op_eq (pe_op op_mod (pe_ix ix_list (pv 1) pe_int (fun _ _ => rfl)) pe_int) pe_int (nomark _))
      (pss_one (ps_set (i := 9) scLawStep.nd rfl (.inl rfl) (pe_mm (pv 2) W.cl dg hr (by decide) (pa_cons (pv 8) pa_nil))))
      (pss_cons (ps_set (i := 10) scLawStep.nd rfl (.inl rfl) (pe_ix ix_list (pe_lst (pa_cons (pe_ix ix_tup (pv 3) pe_int (fun _ _ => rfl)) (pa_cons (pe_op op_sub pe_int (pe_ix ix_tup (pv 3) pe_int (fun _ _ => rfl))) pa_nil))) (pe_callTy call_int1 (by rfl) T.int (by decide +kernel) (pa_cons (pe_cmpR op_eq (pe_ix ix_tup (pv 3) pe_int (fun _ _ => rfl)) pe_str (nomark _)) pa_nil)) (fun _ _ => rfl)))
      (pss_cons (ps_set (i := 11) scLawStep.nd rfl (.inl rfl) (pe_op op_add (pe_ix ix_tup (pv 3) pe_int (fun _ _ => rfl)) (pv 10)))
      (pss_cons (ps_set (i := 12) scLawStep.nd rfl (.inl rfl) (pe_lst (pa_cons (pe_ix ix_tup (pv 3) pe_int (fun _ _ => rfl)) (pa_cons (pe_op op_add (pe_ix ix_tup (pv 3) pe_int (fun _ _ => rfl)) pe_int) (pa_cons (pe_op op_sub (pe_ix ix_tup (pv 3) pe_int (fun _ _ => rfl)) pe_int) (pa_cons (pv 11) (pa_cons (pe_op op_add (pv 11) pe_int) (pa_cons (pe_op op_sub (pv 11) pe_int) (pa_cons (pe_op op_mod (pe_ix ix_list (pv 1) pe_int (fun _ _ => rfl)) pe_int) pa_nil)))))))))
      (pss_cons (ps_set (i := 13) scLawStep.nd rfl (.inl rfl) (pe_callB (call_max2 rfl) (by rfl) T.max PyProof.Rows.boot_max (pa_cons pe_int (pa_cons (pe_callB (call_min2 rfl) (by rfl) T.min PyProof.Rows.boot_min (pa_cons pe_int (pa_cons (pe_ix ix_list (pv 12) (pe_op op_mod (pe_ix ix_list (pv 1) pe_int (fun _ _ => rfl)) pe_int) (fun _ _ => rfl)) pa_nil))) pa_nil))))
      (pss_cons (ps_set (i := 9) scLawStep.nd rfl (.inl rfl) (pe_mm (pv 2) W.cl dh hr (by decide) (pa_cons (pv 8) (pa_cons (pv 13) pa_nil))))
      (pss_one (ps_expr (pe_bm PySem.F.plainAttrs_list PySem.F.slot_list_append PySem.F.type_list_append mt_append (pv 4) (pa_cons (pe_tup (pa_cons (pv 8) (pa_cons (pv 13) (pa_cons pe_str pa_nil)))) pa_nil))))))))))
    (pss_cons (ps_asg (pv 8) (pg_sub (pv 0) pe_int set_list))
    (pss_cons (ps_set (i := 14) scLawStep.nd rfl (.inl rfl) (pe_d dNew hr (by decide) (by rfl) (pa_cons (pv 3) (pa_cons (pv 4) (pa_cons (pv 5) (pa_cons (pv 8) pa_nil))))))
    (pss_cons (ps_if (pt_not (pt_val (pe_d dAlike hr (by decide) (by rfl) (pa_cons (pv 9) (pa_cons (pv 14) pa_nil)))))
      (pss_one (ps_ret pe_bl))
      pss_nil)
    (pss_cons (ps_expr (pe_bm PySem.F.plainAttrs_list PySem.F.slot_list_append PySem.F.type_list_append mt_append (pv 9) (pa_cons (pe_tup (pa_cons pe_str (pa_cons pe_int pa_nil))) pa_nil)))
    (pss_one (ps_ret pe_bl)))))))))))))), ?_⟩
  have bb := B.deed Fr.refl
  obtain ⟨dx, es, e1, e2, alE⟩ := B.w.ex
  have no : ∀ {si wo ti : V} {m : Str}, (m == ("_rule" : Str)) = false → (m == ("_events" : Str)) = false → (m == ("_since" : Str)) = false → (m == ("_worth" : Str)) = false →
    (m == ("_time" : Str)) = false → (wf (.ref x.rl) (.ref x.L) si wo ti).lookup m = none := fun h1 h2 h3 h4 h5 => wf_no h1 h2 h3 h4 h5
  obtain ⟨xs, x0, eb, a0, _⟩ := hR.at 0 (by decide)
  obtain ⟨xs', x1, eb1, a1, _⟩ := hR.at 1 (by decide)
  obtain rfl : xs = xs' := by rw [eb] at eb1; cases eb1; rfl
  obtain ⟨xs', x2, eb2, a2, _⟩ := hR.at 2 (by decide)
  obtain rfl : xs = xs' := by rw [eb] at eb2; cases eb2; rfl
  obtain ⟨xs', x3, eb3, a3, _⟩ := hR.at 3 (by decide)
  obtain rfl : xs = xs' := by rw [eb] at eb3; cases eb3; rfl
  obtain ⟨xs', x4, eb4, a4, _⟩ := hR.at 4 (by decide)
  obtain rfl : xs = xs' := by rw [eb] at eb4; cases eb4; rfl
  obtain ⟨xs', x5, eb5, a5, _⟩ := hR.at 5 (by decide)
  obtain rfl : xs = xs' := by rw [eb] at eb5; cases eb5; rfl
  obtain ⟨y0, at0⟩ : ∃ y0, xs[0]? = some (V.int y0) := by
    obtain ⟨ns, e, l, _⟩ := hR.ex
    rw [eb] at e
    cases e
    cases ns with
    | nil => cases l
    | cons y ys => exact ⟨y, rfl⟩
  have alno : ∀ {α : Type} {f : α → List V} {l : List α}, Al f H xs l → False := fun al => by
    obtain ⟨q, r', e, _⟩ := al.get at0
    cases e
  have rwne : rw_ ≠ x.p ∧ rw_ ≠ x.L ∧ rw_ ≠ x.g ∧ rw_ ≠ x.b := by
    refine ⟨fun z => ?_, fun z => ?_, fun z => ?_, fun z => ?_⟩
    · rw [z, e1] at eb; cases eb
    · rw [z, e2] at eb; cases eb; exact alno alE
    · obtain ⟨vg, eg, alg⟩ := B.hg.ex
      rw [z, eg] at eb; cases eb; exact alno alg
    · have := B.eb
      rw [z, this] at eb
      cases eb
      cases at0
  have md : ∀ (x m : Int), 0 < m → 0 ≤ x % m ∧ x % m < m := fun x m hm => ⟨Int.emod_nonneg _ (by omega), Int.emod_lt_of_pos _ hm⟩
  refine ⟨_, rfl, x.b, _, rfl, SqL.of B.eb, rfl, _, _, rfl, _, _, rfl, _, _, rfl, _, _, rfl, rfl, ?_⟩
  dsimp only [gName]
  refine seq_c ?_
  -- the start
  refine seq_join (A := tIfS _ _ _) (fun σ' G => ∃ st : Int, σ' = [some (.ref x.b), some (.ref rw_), some (.ref x.p), some (.ref x.rl), some (.ref x.g), some (oV la), some (.int st), none, none, none, none, none, none, none, none] ∧ G = H ∧
      (0 ≤ st ∧ st ≤ 10000) ∧ ∀ T0, la = some T0 → st = T0 + 1) (fun N' hN => ?_) ?_
  · refine ⟨_, rfl, rfl, ?_⟩
    cases hla : la with
    | none =>
      rw [hla] at hN
      exact ⟨false, rfl, iteF (hN _ _ ⟨0, rfl, rfl, by decide, fun _ z => by cases z⟩)⟩
    | some T0 =>
      have hT := B.some_ T0 hla
      have := hT.1.pos
      rw [hla] at hN
      exact ⟨true, rfl, iteT ⟨_, rfl, T0, 1, rfl, rfl, hN _ _ ⟨T0 + 1, rfl, rfl, by omega, fun _ z => by cases z; rfl⟩⟩⟩
  rintro σ' G ⟨st, rfl, rfl, hst, hla⟩
  -- the time
  have m3 := md x1 3 (by decide)
  have m30 := md x1 30 (by decide)
  have hh := B.gr.hold
  refine ⟨_, rfl, rw_, xs, 1, .int x1, rfl, rfl, SqL.of eb, a1, x1, 3, rfl, rfl, (by decide : (0 : Int) < 3), _, rfl, x.rl, _, 5, .int x.r.R.hold, rfl, rfl, SqT.of B.er, rfl, _, rfl, x.rl, _, 5, .int x.r.R.hold, rfl, rfl, SqT.of B.er, rfl, x.r.R.hold, 1, rfl, rfl, 0, x.r.R.hold - 1, rfl,
    _, rfl, x.rl, _, 5, .int x.r.R.hold, rfl, rfl, SqT.of B.er, rfl, x.r.R.hold, 1, rfl, rfl, _, rfl, rw_, xs, 1, .int x1, rfl, rfl, SqL.of eb, a1, x1, 30, rfl, rfl, (by decide : (0 : Int) < 30), by show 6 ≤ sizeLine; decide, fun L1 n1 => ?_⟩
  generalize hsteps : ([0, x1 % 3, x.r.R.hold, if x.r.R.hold - 1 > 0 then x.r.R.hold - 1 else 0, x.r.R.hold + 1, x1 % 30] : List Int) = steps
  have envs : ([V.int 0, .int (x1 % 3), .int x.r.R.hold, .int (if x.r.R.hold - 1 > 0 then x.r.R.hold - 1 else 0), .int (x.r.R.hold + 1), .int (x1 % 30)] : List V) = steps.map V.int := by rw [← hsteps]; rfl
  rw [envs]
  have hsl : steps.length = 6 := by rw [← hsteps]; rfl
  have U1 := Same.laid (o := HO.lst (steps.map V.int)) n1
  have e6 : upd G L1 (.lst (steps.map V.int)) L1 = some (.lst (steps.map V.int)) := upd_same
  generalize upd G L1 (.lst (steps.map V.int)) = H1 at *
  obtain ⟨gp, hgp, atg⟩ := menuI (xs := steps) (ok := fun v => 0 ≤ v ∧ v ≤ 100) (md x2 6 (by decide)).1 (by rw [hsl]; exact (md x2 6 (by decide)).2) (by
    rw [← hsteps]
    simp only [List.forall_mem_cons]
    exact ⟨by omega, by omega, by omega, by split <;> omega, by omega, by omega, fun _ h => by cases h⟩)
  refine ⟨_, rfl, rw_, xs, 2, .int x2, rfl, rfl, SqL.of (U1 _ _ eb), a2, x2, 6, rfl, rfl, (by decide : (0 : Int) < 6), L1, _, _, .int gp, rfl, rfl, SqL.of e6, atg, ?_⟩
  refine ⟨_, rfl, _, rfl, st, gp, rfl, rfl, ?_⟩
  refine ⟨_, rfl, st + gp, 9999, rfl, rfl, _, rfl, ?_⟩
  refine ite2 (fun _ => k _ rs la (FrB.of U1) (B.same U1) (by omega)) (fun hle => ?_)
  have hle' : ¬ st + gp > 9999 := fun z => hle (decide_eq_true z)
  dsimp only [gName, tNext]
  generalize ht : st + gp = t at *
  have B1 := B.same U1
  have eb1' := U1 _ _ eb
  -- refused ones
  refine seq_join (A := tIfS _ _ _) (fun σ' Y => σ' = [some (.ref x.b), some (.ref rw_), some (.ref x.p), some (.ref x.rl), some (.ref x.g), some (oV la), some (.int st), some (.int gp), some (.int t), none, none, none, none, none, none] ∧ Same H1 Y) (fun N' hN => ?_) ?_
  · refine ⟨_, rfl, rfl, ?_⟩
    cases hla' : la with
    | none =>
      rw [hla'] at hN
      exact ⟨false, rfl, iteF (iteF (hN _ _ ⟨rfl, Same.refl _⟩))⟩
    | some T0 =>
      refine ⟨true, rfl, iteT ?_⟩
      refine ⟨_, rfl, rw_, xs, 3, .int x3, rfl, rfl, SqL.of eb1', a3, x3, 6, rfl, rfl, (by decide : (0 : Int) < 6), rfl, _, rfl, ?_⟩
      refine ite2 (fun _ => ?_) (fun _ => by
        rw [hla'] at hN
        exact hN _ _ ⟨rfl, Same.refl _⟩)
      clear hN
      obtain ⟨hHe, hT9⟩ := B.some_ T0 hla'
      have p0 := hHe.pos
      subst hla'
      have mT := md x1 (T0 + 1) (by omega)
      have hw1 : WAt C H1 x.p x.L x.rl (evM x.r rs T0) (woOf rs) (.int T0) := B1.w
      -- hear refused
      refine ⟨_, rfl, _, rfl, _, rfl, rw_, xs, 1, .int x1, rfl, rfl, SqL.of eb1', a1, _, rfl, T0, 1, rfl, rfl, x1, T0 + 1, rfl, rfl, by show 0 < T0 + 1; omega, T0, x1 % (T0 + 1), rfl, rfl,
        x.p, x.L, x.rl, _, _, T0, 0, T0 - x1 % (T0 + 1), rfl, hw1, ⟨by omega, by omega⟩, by rw [if_pos rfl]; omega, fun H2 S2 => ?_⟩
      refine ⟨_, rfl, iteF ?_⟩
      -- go_on at the same time
      have hw2 := hw1.same S2
      obtain ⟨dx2, es2, f1, f2, _⟩ := hw2.ex
      have up0 := ev_up B.gr hHe
      refine ⟨_, rfl, x.p, dx2, _, rfl, f1, no (by decide +kernel) (by decide +kernel) (by decide +kernel) (by decide +kernel) (by decide +kernel), _, rfl, x.p, x.L, x.rl, _, _, .int T0, x.r, T0, rfl, hw2, S2 _ _ (U1 _ _ B.er), evM_len hHe.h T0, ⟨p0, hT9⟩, .inr ⟨T0, rfl, Int.le_refl _⟩, fun q H3 hw3 F3 nq hq => ?_⟩
      have eS : Wm.waitS x.r.R (evM x.r rs T0) T0 = evM x.r rs T0 := (ev_go hHe (Int.le_refl T0)).symm
      have eT : Wm.waitT x.r.R (evM x.r rs T0) T0 = [] := by
        rw [← Wm.wait_new up0, eS]
        exact Wm.newE_old fun _ h => h
      rw [eT] at hq
      rw [eS] at hw3
      refine ⟨by show 0 ≤ sizeLine; decide, fun Z nZ => ?_⟩
      have U4 := Same.laid (o := HO.lst []) nZ
      refine ne_empty DT (fun _ _ => trivial) (hq.same U4) upd_same ⟨_, rfl, iteF ?_⟩
      generalize upd H3 Z (.lst []) = H4 at *
      have hw4 := hw3.same U4
      have S12 : Same G H2 := U1.trans S2
      have B2 := B.same S12
      obtain ⟨b1, b2, b3, b4, b5⟩ := B2.deed F3
      have FB : FrB x G H4 := (FrB.of S12).trans ((FrB.fr F3).trans (FrB.of U4))
      have eb4' : H4 rw_ = some (.lst xs) := U4 _ _ (F3 _ _ rwne.1 rwne.2.1 (S12 _ _ eb))
      refine ⟨_, rfl, _, rfl, _, rfl, rw_, xs, 1, .int x1, rfl, rfl, SqL.of eb4', a1, _, rfl, T0, 1, rfl, rfl, x1, T0 + 1, rfl, rfl, by show 0 < T0 + 1; omega, T0, x1 % (T0 + 1), rfl, rfl,
        x.p, x.L, x.rl, _, _, _, T0 - x1 % (T0 + 1), rfl, hw4, ⟨by omega, by omega⟩, fun H5 S5 => ?_⟩
      refine ⟨_, rfl, iteF ?_⟩
      have BF : ∀ H6, Same H4 H6 → Q (.bl true) H6 := fun H6 S6 => by
        refine k H6 rs (some T0) (FB.trans (FrB.of S6)) ?_ (by omega)
        exact BoxAt.same ⟨U4 _ _ b1, hw4, U4 _ _ b2, B.gr, b3.same U4, B.bL, B.bg, B.Lg, B.none_, B.some_⟩ S6
      refine ⟨_, rfl, rfl, _, rfl, ?_⟩
      by_cases hz : T0 = 0
      · rw [show decide (oV (some T0) = V.int 0) = true from decide_eq_true (congrArg V.int hz)]
        exact iteT (BF H5 S5)
      · rw [show decide (oV (some T0) = V.int 0) = false from decide_eq_false (fun z => hz (V.int.inj z))]
        refine iteF ?_
        have mT2 := md x1 T0 (by omega)
        exact ⟨_, rfl, _, rfl, T0, 1, rfl, rfl, _, rfl, rw_, xs, 1, .int x1, rfl, rfl, SqL.of (S5 _ _ eb4'), a1, _, rfl, x1, T0, rfl, rfl, (show 0 < T0 by omega), T0 - 1, x1 % T0, rfl, rfl,
          x.p, x.L, x.rl, _, _, T0, 1, T0 - 1 - x1 % T0, rfl, hw4.same S5, ⟨by omega, by omega⟩, by rw [if_neg (by decide)]; omega, fun H6 S6 => BF H6 (S5.trans S6)⟩
  rintro σ' Y ⟨rfl, SY⟩
  have BY := B1.same SY
  have htl : ∀ T0, la = some T0 → T0 < t := fun T0 z => by have := hla T0 z; omega
  have t0' : 0 ≤ t := by omega
  have t1' : t ≤ 9999 := by omega
  obtain ⟨⟨T1, hT1, up⟩, egoE, hgo, ehear, hhear, ecut, evl0⟩ := st_facts BY htl t0' t1' hlen
  have SGY := U1.trans SY
  have ebY := SGY _ _ eb
  obtain ⟨dxY, esY, f1, f2, _⟩ := BY.w.ex
  refine seq_join (A := tIfS _ _ _) (fun σ' Z => ∃ (v10 v11 v12 v13 : Option V) (q : Addr) (rs' : List R3), σ' = [some (.ref x.b), some (.ref rw_), some (.ref x.p), some (.ref x.rl), some (.ref x.g), some (oV la), some (.int st), some (.int gp), some (.int t), some (.ref q), v10, v11, v12, v13, none] ∧
      FrB x G Z ∧ Z x.b = some (.lst [.ref x.p, .ref x.rl, .ref x.g, oV la]) ∧ WAt C Z x.p x.L x.rl (evM x.r rs' t) (woOf rs') (.int t) ∧ Z x.rl = some (.tup (fR x.r)) ∧ LT f3 Z x.g rs' ∧ Heard rs' t ∧ G q = none ∧
      LT fT Z q (Wm.newE (stOf x.r rs la).ev (evM x.r rs' t).ev) ∧ rs'.length ≤ rs.length + 1 ∧ (∀ T0, la = some T0 → evM x.r rs' T0 = evM x.r rs T0)) (fun N' hN => ?_) ?_
  · refine ⟨_, rfl, rw_, xs, 3, .int x3, rfl, rfl, SqL.of ebY, a3, x3, 6, rfl, rfl, (by decide : (0 : Int) < 6), rfl, _, rfl, ?_⟩
    refine ite2 (fun _ => ?_) (fun _ => ?_)
    · -- on
      refine ⟨_, rfl, x.p, dxY, _, rfl, f1, no (by decide +kernel) (by decide +kernel) (by decide +kernel) (by decide +kernel) (by decide +kernel), _, rfl, x.p, x.L, x.rl, _, _, oV la, x.r, t, rfl, BY.w, BY.er, evl0, ⟨t0', t1'⟩, ?_, fun q Z hwZ FZ nq hq => ?_⟩
      · cases la with
        | none => exact .inl rfl
        | some T0 => exact .inr ⟨T0, rfl, by have := htl T0 rfl; omega⟩
      · obtain ⟨b1, b2, b3, _, _⟩ := BY.deed FZ
        refine hN _ _ ⟨_, _, _, _, q, rs, rfl, (FrB.of SGY).trans (FrB.fr FZ), b1, ?_, b2, b3, hgo, Same.no SGY nq, ?_, by omega, fun _ _ => rfl⟩
        · rw [egoE]; exact hwZ
        · rw [egoE, Wm.wait_new up]; exact hq
    · -- hear
      have erY := BY.er
      refine ⟨_, rfl, x.rl, _, 4, .int x.r.R.back, rfl, rfl, SqT.of erY, rfl, _, rfl, x.rl, _, 4, .int x.r.R.back, rfl, rfl, SqT.of erY, rfl, 0, x.r.R.back, rfl, rfl, by show 2 ≤ sizeLine; decide, fun L2 n2 => ?_⟩
      have V1 := Same.laid (o := HO.lst [V.int x.r.R.back, .int (0 - x.r.R.back)]) n2
      have g1 : upd Y L2 (.lst [V.int x.r.R.back, .int (0 - x.r.R.back)]) L2 = some (.lst [V.int x.r.R.back, .int (0 - x.r.R.back)]) := upd_same
      generalize upd Y L2 (.lst [V.int x.r.R.back, .int (0 - x.r.R.back)]) = Y1 at *
      refine ⟨_, rfl, x.rl, _, 2, .str (wd x.r.R), rfl, rfl, SqT.of (V1 _ _ erY), rfl, rfl, .inr ⟨_, rfl, ?_⟩⟩
      rw [wd_above]
      obtain ⟨bk, atb⟩ : ∃ bk, atI [V.int x.r.R.back, .int (0 - x.r.R.back)] (if x.r.R.ab = true then 1 else 0) = some (.int bk) := by
        cases x.r.R.ab
        · exact ⟨_, rfl⟩
        · exact ⟨_, rfl⟩
      refine ⟨L2, _, _, .int bk, rfl, rfl, SqL.of g1, atb, ?_⟩
      have er1 := V1 _ _ erY
      have ebw1 := V1 _ _ ebY
      refine ⟨_, rfl, x.rl, _, 3, .int x.r.R.lim, rfl, rfl, SqT.of er1, rfl, _, rfl, x.r.R.lim, bk, rfl, rfl, ?_⟩
      refine ⟨_, rfl, x.rl, _, 3, .int x.r.R.lim, rfl, rfl, SqT.of er1, rfl, _, rfl, x.rl, _, 3, .int x.r.R.lim, rfl, rfl, SqT.of er1, rfl, x.r.R.lim, 1, rfl, rfl, _, rfl, x.rl, _, 3, .int x.r.R.lim, rfl, rfl, SqT.of er1, rfl, x.r.R.lim, 1, rfl, rfl,
        _, rfl, _, rfl, x.r.R.lim + bk, 1, rfl, rfl, _, rfl, x.r.R.lim + bk, 1, rfl, rfl, _, rfl, rw_, xs, 4, .int x4, rfl, rfl, SqL.of ebw1, a4, x4, 64, rfl, rfl, (by decide : (0 : Int) < 64), by show 7 ≤ sizeLine; decide, fun L3 n3 => ?_⟩
      generalize hnear : ([x.r.R.lim, x.r.R.lim + 1, x.r.R.lim - 1, x.r.R.lim + bk, x.r.R.lim + bk + 1, x.r.R.lim + bk - 1, x4 % 64] : List Int) = near
      have hnl : near.length = 7 := by rw [← hnear]; rfl
      have env : ([V.int x.r.R.lim, .int (x.r.R.lim + 1), .int (x.r.R.lim - 1), .int (x.r.R.lim + bk), .int (x.r.R.lim + bk + 1), .int (x.r.R.lim + bk - 1), .int (x4 % 64)] : List V) = near.map V.int := by rw [← hnear]; rfl
      rw [env]
      have V2 := Same.laid (o := HO.lst (near.map V.int)) n3
      have g2 : upd Y1 L3 (.lst (near.map V.int)) L3 = some (.lst (near.map V.int)) := upd_same
      generalize upd Y1 L3 (.lst (near.map V.int)) = Y2 at *
      obtain ⟨nv, _, atn⟩ := menuI (xs := near) (ok := fun v => v ∈ near) (md x5 7 (by decide)).1 (by rw [hnl]; exact (md x5 7 (by decide)).2) (fun _ h => h)
      refine ⟨_, rfl, _, rfl, rw_, xs, 5, .int x5, rfl, rfl, SqL.of (V2 _ _ ebw1), a5, x5, 7, rfl, rfl, (by decide : (0 : Int) < 7), L3, _, _, .int nv, rfl, rfl, SqL.of g2, atn, 63, nv, rfl, 0, _, rfl, ?_⟩
      generalize hy : (if (if nv < 63 then nv else 63) > 0 then (if nv < 63 then nv else 63) else (0 : Int)) = y
      have y01 : 0 ≤ y ∧ y ≤ 63 := by
        rw [← hy]
        constructor <;> split <;> split at * <;> omega
      have S12 := V1.trans V2
      have B2 := BY.same S12
      obtain ⟨dx2, es2, h1, h2, _⟩ := B2.w.ex
      refine ⟨_, rfl, x.p, dx2, _, rfl, h1, no (by decide +kernel) (by decide +kernel) (by decide +kernel) (by decide +kernel) (by decide +kernel), _, rfl, _, rfl, x.p, x.L, x.rl, _, _, oV la, x.r, t, y, rfl, B2.w, B2.er, evl0, ⟨t0', t1'⟩, y01, ?_, fun q Z hwZ FZ nq hq => ?_⟩
      · cases la with
        | none => exact .inl rfl
        | some T0 => exact .inr ⟨T0, rfl, htl T0 rfl⟩
      · obtain ⟨b1, b2, b3, b4, b5⟩ := B2.deed FZ
        obtain ⟨vg, eg, alg⟩ := b3.ex
        refine ⟨_, rfl, .inl ⟨rfl, _, SqL.of eg⟩, _, rfl, _, rfl, by show 3 ≤ sizeLine; decide, fun q2 nq2 => ?_⟩
        have W1 := Same.laid (o := HO.tup [V.int t, .int y, .str "good"]) nq2
        refine ⟨x.g, vg, .ref q2, rfl, rfl, W1 _ _ eg, (by rw [alg.length]; exact Nat.lt_of_le_of_lt hlen (by decide)), ?_⟩
        have hg' := lt_push (x := gs t y) eg alg nq2
        have keep : ∀ c o, c ≠ x.g → Z c = some o → upd (upd Z q2 (.tup (f3 (gs t y)))) x.g (.lst (vg ++ [.ref q2])) c = some o := fun c o n ec => (upd_ne n).trans (W1 c o ec)
        have SG2 := SGY.trans S12
        have nqG : G q = none := Same.no SG2 nq
        refine hN _ _ ⟨_, _, _, _, q, rs ++ [gs t y], rfl, ?_, keep _ _ B.bg b1, ?_, keep _ _ (fun z => by rw [z, eg] at b2; cases b2) b2, hg', hhear y y01, nqG, ?_, by rw [List.length_append, List.length_singleton]; omega, fun T0 z => ecut T0 z y⟩
        · intro c o n1 n2 n3 n4 ec
          exact keep c o n4 (FZ c o n2 n3 (SG2 c o ec))
        · rw [ehear, woOf_snoc]
          obtain ⟨dz, ez, i1, i2, i3⟩ := hwZ.ex
          exact ⟨dz, ez, keep _ _ (Ne.symm b5) i1, keep _ _ B.Lg i2, i3.imp fun p xs ep => keep p _ (fun z => by rw [z, eg] at ep; cases ep) ep⟩
        · rw [ehear, Wm.hear_new B.gr.g up hT1]
          obtain ⟨vq, eq, alq⟩ := hq.ex
          have qg : q ≠ x.g := fun z => by
            obtain ⟨vg0, eg0, _⟩ := B.hg.ex
            rw [z, eg0] at nqG
            cases nqG
          exact ⟨vq, keep _ _ qg eq, alq.imp fun p xs ep => keep p _ (fun z => by rw [z, eg] at ep; cases ep) ep⟩
  rintro σ' Z ⟨v10, v11, v12, v13, q, rs', rfl, FZ, ebZ, hwZ, erZ, hgZ, hHZ, nq, hqZ, hlZ, hcut⟩
  obtain ⟨dxZ, esZ, z1, z2, alZ⟩ := hwZ.ex
  obtain ⟨vg, eg, alg⟩ := hgZ.ex
  obtain ⟨vq, eq, alq⟩ := hqZ.ex
  have bpZ : x.b ≠ x.p := fun z => by rw [z, z1] at ebZ; cases ebZ
  have qb : q ≠ x.b := fun z => by have := B.eb; rw [← z, nq] at this; cases this
  have qL : q ≠ x.L := fun z => by rw [← z, nq] at e2; cases e2
  have qg : q ≠ x.g := fun z => by obtain ⟨vg0, eg0, _⟩ := B.hg.ex; rw [← z, nq] at eg0; cases eg0
  refine ⟨_, rfl, _, rfl, x.b, _, 3, 3, rfl, rfl, ebZ, rfl, ?_⟩
  have kp1 : ∀ c o, c ≠ x.b → Z c = some o → upd Z x.b (.lst ([V.ref x.p, .ref x.rl, .ref x.g, oV la].set 3 (.int t))) c = some o := fun c o n e => (upd_ne n).trans e
  have eb5 : upd Z x.b (.lst ([V.ref x.p, .ref x.rl, .ref x.g, oV la].set 3 (.int t))) x.b = some (.lst [.ref x.p, .ref x.rl, .ref x.g, oV (some t)]) := upd_same
  generalize upd Z x.b (.lst ([V.ref x.p, .ref x.rl, .ref x.g, oV la].set 3 (.int t))) = Z1 at *
  have tk1 : ∀ p xs, Z p = some (.tup xs) → Z1 p = some (.tup xs) := fun p xs e => kp1 p _ (fun z => by rw [z, ebZ] at e; cases e) e
  have BZ : BoxAt C Z1 x rs' (some t) := ⟨eb5, ⟨dxZ, esZ, kp1 _ _ (Ne.symm bpZ) z1, kp1 _ _ (Ne.symm B.bL) z2, alZ.imp tk1⟩, tk1 _ _ erZ, B.gr, LT.keep hgZ (fun vs e => kp1 _ _ (Ne.symm B.bg) e) tk1, B.bL, B.bg, B.Lg, fun z => (by cases z), fun T z => by cases z; exact ⟨hHZ, t1'⟩⟩
  have hq1 : LT fT Z1 q (Wm.newE (stOf x.r rs la).ev (evM x.r rs' t).ev) := LT.keep hqZ (fun vs e => kp1 _ _ qb e) tk1
  refine ⟨_, rfl, _, rfl, _, rfl, _, rfl, x.rl, x.g, oV la, x.r, rs', (stOf x.r rs la).ev, t, rfl, BZ.er, B.gr, BZ.hg, hHZ.h, ?_, ⟨t0', t1'⟩, fun b Z2 S2 nb hb => ?_⟩
  · cases hla' : la with
    | none => exact .inl ⟨rfl, rfl⟩
    | some T0 =>
      have := B.some_ T0 hla'
      exact .inr ⟨T0, rfl, ⟨this.1.pos, this.2⟩, by rw [hcut T0 hla']; rfl⟩
  dsimp only [gName]
  have nl : (Wm.newE (stOf x.r rs la).ev (evM x.r rs' t).ev).length ≤ 100000 := by
    have h3 := Wm.newE_len (stOf x.r rs la).ev (evM x.r rs' t).ev
    have h4 : (evM x.r rs' t).ev.length ≤ 50000 := evM_len hHZ.h t
    omega
  refine ⟨_, rfl, _, rfl, _, _, rfl, Sim.lt (hq1.same S2) hb nl fT_flat (fun _ => by show 2 ≤ 100; decide), fun Z3 S3 => ?_⟩
  refine ⟨_, rfl, iteF ?_⟩
  obtain ⟨vs3, e3, al3⟩ := (hq1.same (S2.trans S3)).ex
  refine ⟨_, rfl, .inl ⟨rfl, _, SqL.of e3⟩, by show 2 ≤ sizeLine; decide, fun q2 nq2 => ?_⟩
  have W1 := Same.laid (o := HO.tup [V.str "raised", .int 1]) nq2
  refine ⟨q, vs3, .ref q2, rfl, rfl, W1 _ _ e3, (by rw [al3.length]; exact Nat.lt_of_le_of_lt nl (by decide)), ?_⟩
  have kp3 : ∀ c o, c ≠ q → Z3 c = some o → upd (upd Z3 q2 (.tup [V.str "raised", .int 1])) q (.lst (vs3 ++ [.ref q2])) c = some o := fun c o n e => (upd_ne n).trans (W1 c o e)
  refine k _ rs' (some t) ?_ ((BZ.same (S2.trans S3)).keep e3 qb qL qg kp3) hlZ
  intro c o n1 n2 n3 n4 e
  exact kp3 c o (fun z => by rw [z, nq] at e; cases e) (S3 _ _ (S2 _ _ (kp1 c o n1 (FZ c o n1 n2 n3 n4 e))))
end
end W24

set_option maxHeartbeats 16000000
namespace W24
open PySem PySem.Spec PyProof.Rows L2 Pw
section
variable {P : Program} {w : World} {K : PySem.W.Frag} {mg : Str → Option Value} {base : Heap} {C : Addr}
def spEnded (C : Addr) : Sp := fun vs H Q _ => ∃ (x : Bx) (rs : List R3) (la : Option Int), vs = [.ref x.b] ∧ BoxAt C H x rs la ∧ rs.length ≤ 900 ∧ la ≠ some 9999 ∧
  ∀ H', FrB x H H' → Q (.bl true) H'
theorem d_ended (T : Txt mg) (W : WC K C) (A : At K mg "_law_ended" sLawEnded) (dRef : Def P w K mg base "_law_refused" 7 ["_law_watch", "_law_way", "_law_time"] (spRefused C))
    (dNew : Def P w K mg base "_law_new" 3 ["_law_rule_here", "_law_signs", "_law_elder", "_law_till"] (spNew K)) (dAlike : Def P w K mg base "_law_alike" (1 + 3) ["_law_found", "_law_due"] (spAlike 3))
    (dRight : Def P w K mg base "_law_right" 6 ["_law_watch", "_law_rule_here", "_law_signs", "_law_till"] (spRight C))
    (dg : DefM P w K mg base C "go_on" 6 ["self", "time"] (spGo C)) :
    Def P w K mg base "_law_ended" 8 ["_law_box"] (spEnded C) := by
  refine mkDef A scLawEnded (fun _ _ _ _ _ _ us hl => match us, hl with | [_], _ => rfl) (fun vs H Q E ⟨_, _, _, e, _⟩ => by rw [e]; rfl)
    (fun f cdv A out sh H vs Q E hr h => ?_)
  obtain ⟨x, rs, la, rfl, B, hlen, hne, k⟩ := h
  refine ⟨_, (pss_cons (ps_asg (pv 0) (L2.pg_lst (by rfl) (pgs_cons (pg_name (i := 1) scLawEnded.nd rfl (.inl rfl)) (pgs_cons (pg_name (i := 2) scLawEnded.nd rfl (.inl rfl)) (pgs_cons (pg_name (i := 3) scLawEnded.nd rfl (.inl rfl)) (pgs_cons (pg_name (i := 4) scLawEnded.nd rfl (.inl rfl)) pgs_nil))))))
    (pss_cons (ps_set (i := 5) scLawEnded.nd rfl (.inl rfl) (pe_mm (pv 1) W.cl dg hr (by decide) (pa_cons pe_int pa_nil)))
    (pss_cons (ps_if (PW.pt (pw_or (pt_not (pt_val (pe_d dAlike hr (by decide) (by rfl) (pa_cons (pv 5) (pa_cons (pe_d dNew hr (by decide) (by rfl) (pa_cons (pv 2) (pa_cons (pv 3) (pa_cons (pv 4) (pa_cons pe_int pa_nil))))) pa_nil))))) (pw_or1 (pt_not (pt_val (pe_d dRight hr (by decide) (by rfl) (pa_cons (pv 1) (pa_cons (pv 2) (pa_cons (pv 3) (pa_cons pe_int pa_nil))))))))))
      (pss_one (ps_ret pe_bl))
      pss_nil)
    (pss_one (ps_ret (pe_and (pe_cmpR (op_eqD hr.units) (pe_mm (pv 1) W.cl dg hr (by decide) (pa_cons pe_int pa_nil)) (pe_lst pa_nil) (nomark _)) (pe_and (pe_d dRef hr (by decide) (by rfl) (pa_cons (pv 1) (pa_cons pe_int (pa_cons pe_int pa_nil)))) (pe_one (pe_d dRight hr (by decide) (by rfl) (pa_cons (pv 1) (pa_cons (pv 2) (pa_cons (pv 3) (pa_cons pe_int pa_nil))))))))))))), ?_⟩
  have no : ∀ {si wo ti : V} {m : Str}, (m == ("_rule" : Str)) = false → (m == ("_events" : Str)) = false → (m == ("_since" : Str)) = false → (m == ("_worth" : Str)) = false →
    (m == ("_time" : Str)) = false → (wf (.ref x.rl) (.ref x.L) si wo ti).lookup m = none := fun h1 h2 h3 h4 h5 => wf_no h1 h2 h3 h4 h5
  have htl : ∀ T0, la = some T0 → T0 < 9999 := fun T0 z => by
    have := (B.some_ T0 z).2
    have : T0 ≠ 9999 := fun z' => hne (by rw [z, z'])
    omega
  obtain ⟨⟨T1, hT1, up⟩, egoE, hgo, _, _, _, evl0⟩ := st_facts B htl (by decide) (by decide) hlen
  obtain ⟨dx, es, e1, e2, alE⟩ := B.w.ex
  refine ⟨_, rfl, x.b, _, rfl, SqL.of B.eb, rfl, _, _, rfl, _, _, rfl, _, _, rfl, _, _, rfl, rfl, ?_⟩
  dsimp only [gName]
  refine ⟨_, rfl, x.p, dx, _, rfl, e1, no (by decide +kernel) (by decide +kernel) (by decide +kernel) (by decide +kernel) (by decide +kernel), x.p, x.L, x.rl, _, _, oV la, x.r, 9999, rfl, B.w, B.er, evl0, ⟨by decide, by decide⟩, ?_, fun q Z hwZ FZ nq hq => ?_⟩
  · cases la with
    | none => exact .inl rfl
    | some T0 => exact .inr ⟨T0, rfl, by have := htl T0 rfl; omega⟩
  obtain ⟨b1, b2, b3, _, _⟩ := B.deed FZ
  rw [← Wm.wait_new up, ← egoE] at hq
  rw [← egoE] at hwZ
  dsimp only [gName]
  refine ⟨_, rfl, _, rfl, _, rfl, _, rfl, x.rl, x.g, oV la, x.r, rs, (stOf x.r rs la).ev, 9999, rfl, b2, B.gr, b3, hgo.h, ?_, ⟨by decide, by decide⟩, fun b Z2 S2 nb hb => ?_⟩
  · cases hla' : la with
    | none => exact .inl ⟨rfl, rfl⟩
    | some T0 =>
      have := B.some_ T0 hla'
      exact .inr ⟨T0, rfl, ⟨this.1.pos, this.2⟩, rfl⟩
  have nl : (Wm.newE (stOf x.r rs la).ev (evM x.r rs 9999).ev).length ≤ 100000 := by
    have h3 := Wm.newE_len (stOf x.r rs la).ev (evM x.r rs 9999).ev
    have h4 : (evM x.r rs 9999).ev.length ≤ 50000 := evM_len hgo.h 9999
    omega
  refine ⟨_, _, rfl, Sim.lt (hq.same S2) hb nl fT_flat (fun _ => by show 2 ≤ 100; decide), fun Z3 S3 => ?_⟩
  have S23 := S2.trans S3
  refine ⟨_, rfl, iteF ?_⟩
  refine ⟨_, rfl, _, rfl, _, rfl, x.p, x.L, x.rl, x.g, x.r, rs, 9999, _, _, rfl, hwZ.same S23, S23 _ _ b2, B.gr, b3.same S23, hgo.h, ⟨by decide, by decide⟩, fun Z4 S4 => ?_⟩
  refine ⟨_, rfl, iteF ?_⟩
  have S24 := S23.trans S4
  have hw4 := hwZ.same S24
  obtain ⟨dx4, es4, f1, f2, _⟩ := hw4.ex
  have up9 := ev_up B.gr hgo
  refine ⟨_, rfl, x.p, dx4, _, rfl, f1, no (by decide +kernel) (by decide +kernel) (by decide +kernel) (by decide +kernel) (by decide +kernel), x.p, x.L, x.rl, _, _, .int 9999, x.r, 9999, rfl, hw4, S24 _ _ b2, evM_len hgo.h 9999, ⟨by decide, by decide⟩, .inr ⟨9999, rfl, Int.le_refl _⟩, fun q5 Z5 hw5 F5 nq5 hq5 => ?_⟩
  have eS : Wm.waitS x.r.R (evM x.r rs 9999) 9999 = evM x.r rs 9999 := (ev_go hgo (Int.le_refl 9999)).symm
  have eT : Wm.waitT x.r.R (evM x.r rs 9999) 9999 = [] := by
    rw [← Wm.wait_new up9, eS]
    exact Wm.newE_old fun _ h => h
  rw [eT] at hq5
  rw [eS] at hw5
  refine ⟨by show 0 ≤ sizeLine; decide, fun Y nY => ?_⟩
  have U6 := Same.laid (o := HO.lst []) nY
  refine eq_empty DT (fun _ _ => trivial) (hq5.same U6) upd_same ⟨_, rfl, iteT ?_⟩
  generalize upd Z5 Y (.lst []) = Z6 at *
  have hw6 := hw5.same U6
  refine ⟨_, rfl, x.p, x.L, x.rl, _, _, 9999, 0, 9999, rfl, hw6, ⟨by decide, by decide⟩, by rw [if_pos rfl]; decide, fun Z7 S7 => ?_⟩
  refine ⟨_, rfl, iteT ?_⟩
  have S67 := U6.trans S7
  have rlp : x.rl ≠ x.p := fun z => by have := B.er; rw [z, e1] at this; cases this
  have rlL : x.rl ≠ x.L := fun z => by have := B.er; rw [z, e2] at this; cases this
  have er5 := F5 _ _ rlp rlL (S24 _ _ b2)
  have tk5 : ∀ p xs, Z4 p = some (.tup xs) → Z5 p = some (.tup xs) := fun p xs e => F5 p _ (fun z => by rw [z, f1] at e; cases e) (fun z => by rw [z, f2] at e; cases e) e
  obtain ⟨vg, eg, alg⟩ := B.hg.ex
  have gp : x.g ≠ x.p := fun z => by rw [z, e1] at eg; cases eg
  have hg5 : LT f3 Z5 x.g rs := LT.keep (b3.same S24) (fun vs e => F5 _ _ gp (Ne.symm B.Lg) e) tk5
  refine ⟨_, rfl, _, rfl, _, rfl, x.p, x.L, x.rl, x.g, x.r, rs, 9999, _, _, rfl, hw6.same S7, S67 _ _ er5, B.gr, hg5.same S67, hgo.h, ⟨by decide, by decide⟩, fun Z8 S8 => ?_⟩
  exact k Z8 ((FrB.fr FZ).trans ((FrB.of S24).trans ((FrB.fr F5).trans (FrB.of (S67.trans S8)))))
end
end W24

set_option maxHeartbeats 16000000
namespace W24
open PySem PySem.Spec PyProof.Rows L2 Pw
theorem okS {s : Str} (h : OkName s) : PyData.strOk s = true := by
  have h2 := (h.sh s rfl).2
  unfold PyData.strOk
  rw [Array.all_eq_true']
  intro c hc
  have := h2 c (by simpa using hc)
  exact decide_eq_true (by omega)
def gR (r : Rl) : List PyData := [.str r.nm, .str r.pt, .str (wd r.R), .int r.R.lim, .int r.R.back, .int r.R.hold, .int r.rank]
theorem wd_ok (R : Wm.Rule) : PyData.strOk (wd R) = true := by
  unfold wd
  split <;> decide +kernel
theorem lay_gR {r : Rl} (h : GoodRl r) : PyData.canLayAll0 (gR r) = true := by
  simp only [gR, PyData.canLayAll0, PyData.canLay0, okS h.nm, okS h.pt, wd_ok, Bool.and_self]
theorem sh_gR {r : Rl} (h : GoodRl r) : SeqAt.shaped (.tuple (gR r)) = true := by
  unfold SeqAt.shaped
  simp only [PyData.canLay0, lay_gR h]
  simp only [gR, PyData.depth, PyData.depthAll]
  rfl
theorem wd_inj {a b : Wm.Rule} (h : wd a = wd b) : a.ab = b.ab := by
  unfold wd at h
  cases ha : a.ab <;> cases hb : b.ab <;> simp [ha, hb] at h ⊢
  · exact absurd h (by decide +kernel)
  · exact absurd h (by decide +kernel)
theorem eq_gR {a b : Rl} (h : PyData.eqv (.tuple (gR a)) (.tuple (gR b)) = true) : a = b := by
  simp [gR, PyData.eqv, PyData.eqvAll] at h
  obtain ⟨h1, h2, h3, h4, h5, h6, h7⟩ := h
  obtain ⟨an, ap, ⟨aa, al, ab, ah⟩, ar⟩ := a
  obtain ⟨bn, bp, ⟨ba, bl, bb, bh⟩, br⟩ := b
  have := wd_inj h3
  simp only at *
  subst h1 h2 h4 h5 h6 h7 this
  rfl
section
variable {P : Program} {w : World} {K : PySem.W.Frag} {mg : Str → Option Value} {base : Heap} {C : Addr}
theorem dp_gR {H : Hp} {p : Addr} {r : Rl} (e : H p = some (.tup (fR r))) : Dp K H (.ref p) (.tuple (gR r)) :=
  .tup (SqT.of e) (.cons (.str _) (.cons (.str _) (.cons (.str _) (.cons (.int _) (.cons (.int _) (.cons (.int _) (.cons (.int _) .nil)))))))
/-- of the class: what type() and == ask -/
structure WQ (K : PySem.W.Frag) (C : Addr) : Prop where
  c1 : PySem.W.findIn K (.ref C) "__class__" = some (some (.builtin "object.__class__"))
  c2 : PySem.W.specialIn K (.builtin "object.__class__") "__get__" = some (some (.builtin "getset_descriptor.__get__"))
  c3 : PySem.W.takesIn K (.builtin "object.__class__") = some true
  mo : PySem.W.mroIn K C (.type "object") = some true
  kit : PySem.W.kitOne K (.ref C) (.ref C) = some true
  ne : PySem.W.findIn K (.ref C) "__ne__" = some (some (.builtin "object.__ne__"))
  nf : PySem.W.notFirst K C (.ref C) = true
/-- == of two watches of like rules that stand alike -/
def spEqW (C : Addr) : Sp := fun vs H Q _ => ∃ p L rl p' L' rl' r s wo ti, vs = [.ref p, .ref p'] ∧ WAt C H p L rl s wo ti ∧ WAt C H p' L' rl' s wo ti ∧ H rl = some (.tup (fR r)) ∧ H rl' = some (.tup (fR r)) ∧ GoodRl r ∧ scal wo wo = true ∧ scal ti ti = true ∧ scal (oV s.si) (oV s.si) = true ∧ Q (.bl true) H
theorem d_eqW (T : Txt mg) (W : WC K C) (WQ : WQ K C) (hC : mg "Watch" = some (.ref C)) (A : AtMt K C "__eq__" "Watch.__eq__" mWatch_Eq) : DefM P w K mg base C "__eq__" 1 ["self", "other"] (spEqW C) := by
  refine mkDefM A scmWatch_Eq (fun _ _ _ _ _ _ us hl => match us, hl with | [_, _], _ => rfl) (fun vs H Q E ⟨_, _, _, _, _, _, _, _, _, _, e, _⟩ => by rw [e]; rfl)
    (fun f cdv A out s H vs Q E hr h => ?_)
  obtain ⟨p, L, rl, p', L', rl', r, s, wo, ti, rfl, h1, h2, er, er', gr, sw, st, ss, k⟩ := h
  obtain ⟨dx, es, e1, e2, al⟩ := h1.ex
  obtain ⟨dx', es', e1', e2', al'⟩ := h2.ex
  refine ⟨_, (pss_one (ps_ret (pe_and (pe_callB call_isa (by rfl) T.isinstance PyProof.Rows.boot_isinstance (pa_cons (pv 1) (pa_cons (pe_glob (v := V.ref C) (by rfl) hC rfl) pa_nil)))
    (pe_and (pe_cmpR (op_eqD hr.units) (pe_fld (pv 0) rfl) (pe_fld (pv 1) rfl) (nomark _)) (pe_and (pe_cmpR (op_eqD hr.units) (pe_fld (pv 0) rfl) (pe_fld (pv 1) rfl) (nomark _)) (pe_and (pe_cmpR op_eq (pe_fld (pv 0) rfl) (pe_fld (pv 1) rfl) (nomark _))
      (pe_and (pe_cmpR op_eq (pe_fld (pv 0) rfl) (pe_fld (pv 1) rfl) (nomark _)) (pe_one (pe_cmpR op_eq (pe_fld (pv 0) rfl) (pe_fld (pv 1) rfl) (nomark _)))))))))), ?_⟩
  refine ⟨_, rfl, .ref p', .ref C, .ref C, .ref C, true, rfl, .own C, .base (.base (.ins e1' W.cl WQ.c1 WQ.c2 WQ.c3 WQ.mo)), WQ.kit, ?_⟩
  refine ⟨_, rfl, iteT ?_⟩
  refine ⟨_, rfl, p, C, dx, _, _, rfl, e1, W.cl, W.nR, wf_rule, _, rfl, p', C, dx', _, _, rfl, e1', W.cl, W.nR, wf_rule, ?_⟩
  refine ⟨_, _, dp_gR er, dp_gR er', sh_gR gr, sh_gR gr, _, rfl, ?_⟩
  rw [eqv_refl_ _ (by simp only [PyData.canLay0]; exact lay_gR gr)]
  refine iteT ?_
  refine ⟨_, rfl, p, C, dx, _, _, rfl, e1, W.cl, W.nE, wf_events, _, rfl, p', C, dx', _, _, rfl, e1', W.cl, W.nE, wf_events, ?_⟩
  refine ⟨_, _, LT.dp DE ⟨es, e2, al⟩, LT.dp DE ⟨es', e2', al'⟩, shaped_rows DE s.ev (fun _ _ => trivial), shaped_rows DE s.ev (fun _ _ => trivial), _, rfl, ?_⟩
  rw [eqv_rows DE s.ev (fun _ _ => trivial)]
  refine iteT ?_
  refine ⟨_, rfl, p, C, dx, _, _, rfl, e1, W.cl, W.nS, wf_since, _, rfl, p', C, dx', _, _, rfl, e1', W.cl, W.nS, wf_since, ss, _, rfl, ?_⟩
  rw [decide_eq_true rfl]
  refine iteT ?_
  refine ⟨_, rfl, p, C, dx, _, _, rfl, e1, W.cl, W.nW, wf_worth, _, rfl, p', C, dx', _, _, rfl, e1', W.cl, W.nW, wf_worth, sw, _, rfl, ?_⟩
  rw [decide_eq_true rfl]
  refine iteT ?_
  refine ⟨_, rfl, p, C, dx, _, _, rfl, e1, W.cl, W.nT, wf_time, _, rfl, p', C, dx', _, _, rfl, e1', W.cl, W.nT, wf_time, st, ?_⟩
  rw [decide_eq_true rfl]
  exact k
end
end W24

set_option maxHeartbeats 16000000
namespace W24
open PySem PySem.Spec PyProof.Rows L2 Pw
/-- no place of a box's own -/
structure Off (x : Bx) (c : Addr) : Prop where
  b : c ≠ x.b
  p : c ≠ x.p
  L : c ≠ x.L
  g : c ≠ x.g
structure Two (x y : Bx) : Prop where
  b : Off x y.b
  p : Off x y.p
  L : Off x y.L
  g : Off x y.g
theorem BoxAt.other {C : Addr} {H H' : Hp} {x y : Bx} {rs rs' : List R3} {la la' : Option Int} (B : BoxAt C H y rs la) (Bx : BoxAt C H x rs' la') (D : Two x y) (F : FrB x H H') : BoxAt C H' y rs la := by
  obtain ⟨dx, es, e1, e2, al⟩ := B.w.ex
  obtain ⟨dx', es', e1', e2', al'⟩ := Bx.w.ex
  obtain ⟨vg, eg, alg⟩ := Bx.hg.ex
  have kp : ∀ c o, Off x c → H c = some o → H' c = some o := fun c o n e => F c o n.b n.p n.L n.g e
  have tk : ∀ p xs, H p = some (.tup xs) → H' p = some (.tup xs) := fun p xs e => F p _ (fun z => by have := Bx.eb; rw [← z, e] at this; cases this) (fun z => by rw [← z, e] at e1'; cases e1')
    (fun z => by rw [← z, e] at e2'; cases e2') (fun z => by rw [← z, e] at eg; cases eg) e
  exact ⟨kp _ _ D.b B.eb, ⟨dx, es, kp _ _ D.p e1, kp _ _ D.L e2, al.imp tk⟩, tk _ _ B.er, B.gr, LT.keep B.hg (fun vs e => kp _ _ D.g e) tk, B.bL, B.bg, B.Lg, B.none_, B.some_⟩
theorem FrB.off {x : Bx} {H H' : Hp} (F : FrB x H H') {c : Addr} {o : HO} (n : Off x c) (e : H c = some o) : H' c = some o := F c o n.b n.p n.L n.g e
/-- a new place is off -/
theorem BoxAt.off {C : Addr} {H : Hp} {x : Bx} {rs : List R3} {la : Option Int} (B : BoxAt C H x rs la) {c : Addr} (n : H c = none) : Off x c := by
  obtain ⟨dx, es, e1, e2, al⟩ := B.w.ex
  obtain ⟨vg, eg, alg⟩ := B.hg.ex
  refine ⟨fun z => ?_, fun z => ?_, fun z => ?_, fun z => ?_⟩
  · have := B.eb; rw [← z, n] at this; cases this
  · rw [← z, n] at e1; cases e1
  · rw [← z, n] at e2; cases e2
  · rw [← z, n] at eg; cases eg
theorem ok1 : OkName "a" := ⟨by decide +kernel, fun z e => by cases e; decide +kernel⟩
theorem ok2 : OkName "p" := ⟨by decide +kernel, fun z e => by cases e; decide +kernel⟩
def g3 (r : R3) : List PyData := [.int r.1, .int r.2.1, .str r.2.2]
def okM (r : R3) : Prop := r.2.2 = "good" ∨ r.2.2 = "odd"
theorem D3 : Dat f3 g3 okM := by
  refine ⟨fun K H r => .cons (.int _) (.cons (.int _) (.cons (.str _) .nil)), fun r h => ?_, fun r => ?_⟩
  · have : PyData.strOk r.2.2 = true := by rcases h with h | h <;> rw [h] <;> decide +kernel
    simp only [g3, PyData.canLayAll0, PyData.canLay0, this, Bool.and_self]
  · simp only [g3, PyData.depthAll, PyData.depth, Nat.max_self]
theorem eq_rows3 : ∀ {a b : List R3}, PyData.eqvAll (a.map fun r => .tuple (g3 r)) (b.map fun r => .tuple (g3 r)) = true → a = b
  | [], [], _ => rfl
  | [], _ :: _, h => by simp [PyData.eqvAll] at h
  | _ :: _, [], h => by simp [PyData.eqvAll] at h
  | (t, w, m) :: a, (t', w', m') :: b, h => by
    simp only [List.map_cons, PyData.eqvAll, Bool.and_eq_true] at h
    have ih := eq_rows3 h.2
    have h1 := h.1
    simp [g3, PyData.eqv, PyData.eqvAll] at h1
    obtain ⟨e1, e2, e3⟩ := h1
    subst e1 e2 e3 ih
    rfl
def laD : Option Int → PyData
  | none => .none
  | some i => .int i
theorem eq_box {a b : List R3} {x y : Option Int} (h : PyData.eqv (.list [.list (a.map fun r => .tuple (g3 r)), laD x]) (.list [.list (b.map fun r => .tuple (g3 r)), laD y]) = true) : a = b ∧ x = y := by
  simp only [PyData.eqv, PyData.eqvAll, Bool.and_eq_true, Bool.and_true] at h
  refine ⟨eq_rows3 h.1, ?_⟩
  have h2 := h.2
  cases x <;> cases y <;> simp [laD, PyData.eqv] at h2 ⊢
  exact h2
theorem Box.make {C : Addr} {H : Hp} {p L rl g b : Addr} {r : Rl} (hw : WAt C H p L rl Wm.init .non .non) (er : H rl = some (.tup (fR r))) (gr : GoodRl r) (ng : H g = none) (nb : upd H g (.lst []) b = none) :
    BoxAt C (upd (upd H g (.lst [])) b (.lst [.ref p, .ref rl, .ref g, .non])) ⟨p, L, rl, g, b, r⟩ [] none ∧ Same H (upd (upd H g (.lst [])) b (.lst [.ref p, .ref rl, .ref g, .non])) := by
  have S1 := Same.laid (o := HO.lst []) ng
  have S2 := Same.laid (o := HO.lst [.ref p, .ref rl, .ref g, .non]) nb
  have S := S1.trans S2
  obtain ⟨dx, es, e1, e2, al⟩ := hw.ex
  have eg : upd H g (.lst []) g = some (.lst []) := upd_same
  exact ⟨⟨upd_same, hw.same S, S _ _ er, gr, ⟨[], S2 _ _ eg, .nil⟩, Ne.symm (ne_of_none (S1 _ _ e2) nb), Ne.symm (ne_of_none eg nb), ne_of_none e2 ng, fun _ => rfl, fun _ z => by cases z⟩, S⟩
theorem cut_map (ns : List Int) (lo hi : Option Int) : ∃ ms : List Int, cutV (ns.map V.int) lo hi = ms.map V.int ∧ (∀ x ∈ ms, x ∈ ns) ∧ ms.length ≤ ns.length := by
  refine ⟨(ns.drop (HT.sIx ns.length 0 lo)).take (HT.sIx ns.length ns.length hi - HT.sIx ns.length 0 lo), ?_, fun x hx => List.mem_of_mem_drop (List.mem_of_mem_take hx), ?_⟩
  · unfold cutV
    rw [List.length_map, List.map_take, List.map_drop]
  · rw [List.length_take, List.length_drop]
    omega
/-- what stands while the law goes on -/
structure Ws (C : Addr) (G : Hp) (D BL : Addr) (x0 x1 : Bx) (rs0 rs1 : List R3) (la0 la1 : Option Int) : Prop where
  eD : G D = some (.lst [.ref x0.rl, .ref x1.rl])
  eB : G BL = some (.lst [.ref x0.b, .ref x1.b])
  B0 : BoxAt C G x0 rs0 la0
  B1 : BoxAt C G x1 rs1 la1
structure Offs (x0 x1 : Bx) (D BL : Addr) : Prop where
  t1 : Two x0 x1
  t0 : Two x1 x0
  D0 : Off x0 D
  D1 : Off x1 D
  b0 : Off x0 BL
  b1 : Off x1 BL
theorem Two.symm {x y : Bx} (h : Two x y) : Two y x := ⟨⟨Ne.symm h.b.b, Ne.symm h.p.b, Ne.symm h.L.b, Ne.symm h.g.b⟩, ⟨Ne.symm h.b.p, Ne.symm h.p.p, Ne.symm h.L.p, Ne.symm h.g.p⟩, ⟨Ne.symm h.b.L, Ne.symm h.p.L, Ne.symm h.L.L, Ne.symm h.g.L⟩, ⟨Ne.symm h.b.g, Ne.symm h.p.g, Ne.symm h.L.g, Ne.symm h.g.g⟩⟩
section
variable {C : Addr} {G H' : Hp} {D BL : Addr} {x0 x1 : Bx} {rs0 rs1 rs' : List R3} {la0 la1 la' : Option Int}
theorem Ws.same (w : Ws C G D BL x0 x1 rs0 rs1 la0 la1) (S : Same G H') : Ws C H' D BL x0 x1 rs0 rs1 la0 la1 := ⟨S _ _ w.eD, S _ _ w.eB, w.B0.same S, w.B1.same S⟩
theorem Ws.step0 (w : Ws C G D BL x0 x1 rs0 rs1 la0 la1) (o : Offs x0 x1 D BL) (F : FrB x0 G H') (B : BoxAt C H' x0 rs' la') : Ws C H' D BL x0 x1 rs' rs1 la' la1 :=
  ⟨F.off o.D0 w.eD, F.off o.b0 w.eB, B, w.B1.other w.B0 o.t1 F⟩
theorem Ws.step1 (w : Ws C G D BL x0 x1 rs0 rs1 la0 la1) (o : Offs x0 x1 D BL) (F : FrB x1 G H') (B : BoxAt C H' x1 rs' la') : Ws C H' D BL x0 x1 rs0 rs' la0 la' :=
  ⟨F.off o.D1 w.eD, F.off o.b1 w.eB, w.B0.other w.B1 o.t0 F, B⟩
end
section
variable {P : Program} {w : World} {K : PySem.W.Frag} {mg : Str → Option Value} {base : Heap} {C : Addr}
def spLaw (K : PySem.W.Frag) : Sp := fun vs H Q _ => ∃ (a : Addr) (ns : List Int), vs = [.ref a] ∧ SqL K H a (ns.map V.int) ∧ ns.length ≤ 63 ∧ ∀ H', Q (.bl true) H'
theorem ok_law {f : Addr} {fd : FuncData} (F : Fun K "law" "law" sLaw f fd) (T : Txt mg) (W : WC K C) (WQ : WQ K C)
    (dRow : Def P w K mg base "_law_row" 1 ["_law_cell", "_law_many", "_law_salt"] (spRowL K)) (dCell : Def P w K mg base "_law_cell_at" 1 ["_law_script", "_law_k"] (spCellAt K))
    (dRule : Def P w K mg base "_law_rule" 1 ["_law_name", "_law_point", "_law_row_here"] (spRuleL K)) (dStep : Def P w K mg base "_law_step" 8 ["_law_box", "_law_row_here"] (spStep C))
    (dEnded : Def P w K mg base "_law_ended" 8 ["_law_box"] (spEnded C)) (dAlike : Def P w K mg base "_law_alike" (1 + 3) ["_law_found", "_law_due"] (spAlike 3))
    (dRight : Def P w K mg base "_law_right" 6 ["_law_watch", "_law_rule_here", "_law_signs", "_law_till"] (spRight C))
    (di : DefI P w K mg base "Watch" C 8 ["self", "rule"] (spInit C)) (de : DefM P w K mg base C "events" 1 ["self"] (spEvs C)) (ds : DefM P w K mg base C "state" 2 ["self"] (spState C))
    (dq : DefM P w K mg base C "__eq__" 1 ["self", "other"] (spEqW C)) :
    FnOk P w K mg base CX0 10 f fd ["_law_script"] (spLaw K) := by
  refine F.ok scLaw (fun vs H Q E ⟨_, _, e, _⟩ => by rw [e]; rfl)
    (fun cdv A out s H vs Q E hr h => ?_)
  obtain ⟨a, ns, rfl, hS, hlen, k⟩ := h
  refine ⟨_, (pss_cons (ps_setLc (i := 1) (own := [("_law_k", 11)]) (g := gName 11) (tt := tYes) rfl scLaw.nd rfl rfl (sw_true rfl rfl rfl (by decide +kernel)) (pi_range1 (by rfl) T.range (pa_cons pe_int pa_nil))
        (blkOk_by (own := [("_law_k", 11)]) (N := ["_law_script", "_law_rules", "_law_boxes", "_law_cell", "_law_row_here", "_law_which", "_law_watch", "_law_rule_here", "_law_signs", "_law_last", "_law_alike_here", "_law_k", "_law_box"]) (sc := defScope sLaw) (by decide +kernel))
        (fun _ _ _ _ _ => (pg_name (i := 11) scLaw.nd rfl (.inl rfl))) (fun _ _ _ _ _ => pts_nil)
        (fun _ _ _ _ _ => (pe_d dRule hr (by decide) (by rfl) (pa_cons pe_str (pa_cons pe_str (pa_cons (pe_d dRow hr (by decide) (by rfl) (pa_cons (pe_d dCell hr (by decide) (by rfl) (pa_cons (pv 0) (pa_cons (pv 11) pa_nil))) (pa_cons pe_int (pa_cons pe_int pa_nil)))) pa_nil))))))
    (pss_cons (ps_set (i := 2) scLaw.nd rfl (.inl rfl) (pe_lst (pa_cons (pe_lst (pa_cons (pe_mi di hr (by decide) (by rfl) (pa_cons (pe_ix ix_list (pv 1) pe_int (fun _ _ => rfl)) pa_nil)) (pa_cons (pe_ix ix_list (pv 1) pe_int (fun _ _ => rfl)) (pa_cons (pe_lst pa_nil) (pa_cons pe_non pa_nil))))) (pa_cons (pe_lst (pa_cons (pe_mi di hr (by decide) (by rfl) (pa_cons (pe_ix ix_list (pv 1) pe_int (fun _ _ => rfl)) pa_nil)) (pa_cons (pe_ix ix_list (pv 1) pe_int (fun _ _ => rfl)) (pa_cons (pe_lst pa_nil) (pa_cons pe_non pa_nil))))) pa_nil))))
    (pss_cons (ps_if (PW.pt (pw_or (pt_not (pt_val (pe_d dAlike hr (by decide) (by rfl) (pa_cons (pe_mm0 (pe_ix ix_list (pe_ix ix_list (pv 2) pe_int (fun _ _ => rfl)) pe_int (fun _ _ => rfl)) W.cl ds hr (by decide)) (pa_cons (pe_tup (pa_cons pe_str (pa_cons pe_non pa_nil))) pa_nil))))) (pw_or1 (pt_cmpR (op_neD hr.units) (pe_mm0 (pe_ix ix_list (pe_ix ix_list (pv 2) pe_int (fun _ _ => rfl)) pe_int (fun _ _ => rfl)) W.cl de hr (by decide)) (pe_lst pa_nil) (nomark _)))))
      (pss_one (ps_ret pe_bl))
      pss_nil)
    (pss_cons (ps_for PassesOwn.never rfl (pi_list (pe_op op_cat (pe_slice sl_list (pv 0) (po_some pe_int) (po_some pe_int)) (pe_lst (pa_cons (pe_d dCell hr (by decide) (by rfl) (pa_cons (pv 0) (pa_cons pe_int pa_nil))) pa_nil)))) (pg_name (i := 3) scLaw.nd rfl (.inl rfl))
      (pss_cons (ps_set (i := 4) scLaw.nd rfl (.inl rfl) (pe_d dRow hr (by decide) (by rfl) (pa_cons (pv 3) (pa_cons pe_int (pa_cons pe_int pa_nil)))))
      (pss_cons (ps_set (i := 5) scLaw.nd rfl (.inl rfl) (pe_ix ix_list (pv 2) (pe_op op_mod (pe_ix ix_list (pv 4) pe_int (fun _ _ => rfl)) pe_int) (fun _ _ => rfl)))
      (pss_cons (ps_if (pt_not (pt_val (pe_d dStep hr (by decide) (by rfl) (pa_cons (pv 5) (pa_cons (pv 4) pa_nil)))))
        (pss_one (ps_ret pe_bl))
        pss_nil)
      (pss_one (ps_for PassesOwn.never rfl (pi_list (pv 2)) (L2.pg_lst (by rfl) (pgs_cons (pg_name (i := 6) scLaw.nd rfl (.inl rfl)) (pgs_cons (pg_name (i := 7) scLaw.nd rfl (.inl rfl)) (pgs_cons (pg_name (i := 8) scLaw.nd rfl (.inl rfl)) (pgs_cons (pg_name (i := 9) scLaw.nd rfl (.inl rfl)) pgs_nil)))))
        (pss_one (ps_if (PW.pt (pw_and (pt_cmpR op_notN (pv 9) pe_non (nomark _)) (pw_and1 (pt_not (pt_val (pe_d dRight hr (by decide) (by rfl) (pa_cons (pv 6) (pa_cons (pv 7) (pa_cons (pv 8) (pa_cons (pv 9) pa_nil))))))))))
          (pss_one (ps_ret pe_bl))
          pss_nil))))))))
    (pss_cons (ps_set (i := 10) scLaw.nd rfl (.inl rfl) (pe_and (pe_cmpR (op_eqD hr.units) (pe_ix ix_list (pv 1) pe_int (fun _ _ => rfl)) (pe_ix ix_list (pv 1) pe_int (fun _ _ => rfl)) (nomark _)) (pe_one (pe_cmpR (op_eqD hr.units) (pe_slice sl_list (pe_ix ix_list (pv 2) pe_int (fun _ _ => rfl)) (po_some pe_int) po_none) (pe_slice sl_list (pe_ix ix_list (pv 2) pe_int (fun _ _ => rfl)) (po_some pe_int) po_none) (nomark _)))))
    (pss_cons (ps_if (PW.pt (pw_and (pt_val (pv 10)) (pw_and1 (pt_cmpR (op_neW dq hr (by decide) WQ.ne WQ.mo) (pe_ix ix_list (pe_ix ix_list (pv 2) pe_int (fun _ _ => rfl)) pe_int (fun _ _ => rfl)) (pe_ix ix_list (pe_ix ix_list (pv 2) pe_int (fun _ _ => rfl)) pe_int (fun _ _ => rfl)) (nomark _)))))
      (pss_one (ps_ret pe_bl))
      pss_nil)
    (pss_one (ps_ret (pe_callB (cr_all rfl) (by rfl) T.all PyProof.Rows.boot_all (pa_cons (pe_lc (own := [("_law_box", 12)]) (g := gName 12) rfl scLaw.nd (pi_list (pv 2))
        (blkOk_by (own := [("_law_box", 12)]) (N := ["_law_script", "_law_rules", "_law_boxes", "_law_cell", "_law_row_here", "_law_which", "_law_watch", "_law_rule_here", "_law_signs", "_law_last", "_law_alike_here", "_law_k", "_law_box"]) (sc := defScope sLaw) (by decide +kernel))
        (fun _ _ _ _ _ => (pg_name (i := 12) scLaw.nd rfl (.inl rfl))) (fun _ _ _ _ _ => (pts_one (pt_cmpR op_ne (pe_ix (r := rIxL K) ix_list (pv 12) pe_int (fun _ _ => rfl)) pe_int (nomark _))))
        (fun _ _ _ _ _ => (pe_d dEnded hr (by decide) (by rfl) (pa_cons (pv 12) pa_nil)))) pa_nil)))))))))), ?_⟩
  -- the rules
  refine ⟨2, rfl, by decide, by decide, fun D nD => ?_⟩
  refine lc_acc (walk_range (lo := 0) (n := 2)) nD (by decide) (fun i acc G => ∃ rs : List Rl, Al fR G acc rs ∧ rs.length = i ∧ ∀ r ∈ rs, GoodRl r) ⟨[], .nil, rfl, fun _ h => by cases h⟩ (fun _ _ => trivial) ?_ ?_
  · rintro i v H2 H3 acc hi S2 eD hl2 ⟨rs, al, hrl, hrs⟩ ⟨rfl, rfl⟩ Fy Fn hy1 _
    refine ⟨rfl, ?_⟩
    unfold tYes
    refine iteT ?_
    refine ⟨_, rfl, _, rfl, a, ns, 0 + (i : Int), rfl, Same.seq S2 hS, hlen, by omega, by omega, fun c0 => ?_⟩
    refine ⟨c0, 7, 23, rfl, ⟨by decide, by decide⟩, ⟨by decide, by decide⟩, fun b H4 S4 nb hR => ?_⟩
    refine ⟨"a", "p", b, 7, rfl, hR, by decide, ok1, ok2, fun p H5 r S5 np ep g => ?_⟩
    have S35 := S4.trans S5
    refine hy1 _ _ S35 ⟨rs ++ [r], ?_, by rw [List.length_append, hrl]; rfl, fun x hx => ?_⟩
    · have pD : p ≠ D := fun z => by rw [z, S4 _ _ eD] at np; cases np
      exact (al.same (Same.wo S35)).snoc (wo_of pD ep)
    · rcases List.mem_append.mp hx with z | z
      · exact hrs x z
      · rw [List.mem_singleton.mp z]; exact g
  rintro G0 acc S0 eD ⟨rs2, al2, hrl, hrs⟩
  have hS0 := Same.seq S0 hS
  obtain ⟨r0, r1, rfl⟩ : ∃ r0 r1, rs2 = [r0, r1] := by
    match rs2, hrl with
    | [r0, r1], _ => exact ⟨r0, r1, rfl⟩
  have g0 := hrs r0 (by simp)
  have g1 := hrs r1 (by simp)
  obtain ⟨q0, q1, rfl, er0, er1⟩ : ∃ q0 q1, acc = [.ref q0, .ref q1] ∧ G0 q0 = some (.tup (fR r0)) ∧ G0 q1 = some (.tup (fR r1)) := by
    cases al2 with
    | cons e t =>
      cases t with
      | cons e' t' =>
        cases t'
        exact ⟨_, _, rfl, wo_same _ _ e, wo_same _ _ e'⟩
  dsimp only [gName]
  -- the first box
  have eD0 := eD
  refine ⟨_, rfl, D, _, 0, .ref q0, rfl, rfl, SqL.of eD, rfl, fun p0 dx0 np0 ndx0 nex0 => ?_⟩
  refine ⟨p0, dx0, q0, r0, rfl, upd_same, (upd_ne (ne_of_none er0 np0)).trans ((upd_ne (ne_of_none er0 ndx0)).trans er0), g0, fun L0 G1 hw0 K1 nL0 => ⟨rfl, ?_⟩⟩
  have S1 : Same G0 G1 := fun b o e => K1 b o (ne_of_none e np0) ((upd_ne (ne_of_none e np0)).trans ((upd_ne (ne_of_none e ndx0)).trans e))
  have nL0' : G0 L0 = none := by
    cases z : G0 L0 with
    | none => rfl
    | some o =>
      have := (upd_ne (o := HO.ins C dx0 []) (ne_of_none z np0)).trans ((upd_ne (o := HO.own p0) (ne_of_none z ndx0)).trans z)
      rw [nL0] at this
      cases this
  refine ⟨_, rfl, D, _, 0, .ref q0, rfl, rfl, SqL.of (S1 _ _ eD), rfl, by show 0 ≤ sizeLine; decide, fun w0 nw0 => ⟨by show 4 ≤ sizeLine; decide, fun b0 nb0 => ?_⟩⟩
  obtain ⟨B0, S2⟩ := Box.make hw0 (S1 _ _ er0) g0 nw0 nb0
  have S02 := S1.trans S2
  have D0 : Off ⟨p0, L0, q0, w0, b0, r0⟩ D := ⟨ne_of_none (Same.laid nw0 _ _ (S1 _ _ eD)) nb0, ne_of_none eD np0, ne_of_none eD nL0', ne_of_none (S1 _ _ eD) nw0⟩
  generalize upd (upd G1 w0 (.lst [])) b0 (.lst [.ref p0, .ref q0, .ref w0, .non]) = G2 at *
  -- the second
  have eD2 := S02 _ _ eD
  have er12 := S02 _ _ er1
  refine ⟨_, rfl, D, _, 1, .ref q1, rfl, rfl, SqL.of eD2, rfl, fun p1 dx1 np1 ndx1 nex1 => ?_⟩
  refine ⟨p1, dx1, q1, r1, rfl, upd_same, (upd_ne (ne_of_none er12 np1)).trans ((upd_ne (ne_of_none er12 ndx1)).trans er12), g1, fun L1 G3 hw1 K3 nL1 => ⟨rfl, ?_⟩⟩
  have S3 : Same G2 G3 := fun b o e => K3 b o (ne_of_none e np1) ((upd_ne (ne_of_none e np1)).trans ((upd_ne (ne_of_none e ndx1)).trans e))
  have nL1' : G2 L1 = none := by
    cases z : G2 L1 with
    | none => rfl
    | some o =>
      have := (upd_ne (o := HO.ins C dx1 []) (ne_of_none z np1)).trans ((upd_ne (o := HO.own p1) (ne_of_none z ndx1)).trans z)
      rw [nL1] at this
      cases this
  refine ⟨_, rfl, D, _, 1, .ref q1, rfl, rfl, SqL.of (S3 _ _ eD2), rfl, by show 0 ≤ sizeLine; decide, fun w1 nw1 => ⟨by show 4 ≤ sizeLine; decide, fun b1 nb1 => ?_⟩⟩
  obtain ⟨B1, S4⟩ := Box.make hw1 (S3 _ _ er12) g1 nw1 nb1
  have S24 := S3.trans S4
  have D1 : Off ⟨p1, L1, q1, w1, b1, r1⟩ D := ⟨ne_of_none (Same.laid nw1 _ _ (S3 _ _ eD2)) nb1, ne_of_none eD2 np1, ne_of_none eD2 nL1', ne_of_none (S3 _ _ eD2) nw1⟩
  have t01 : Two ⟨p0, L0, q0, w0, b0, r0⟩ ⟨p1, L1, q1, w1, b1, r1⟩ := ⟨((B0.same S3).same (Same.laid nw1)).off nb1, B0.off np1, B0.off nL1', (B0.same S3).off nw1⟩
  generalize upd (upd G3 w1 (.lst [])) b1 (.lst [.ref p1, .ref q1, .ref w1, .non]) = G4 at *
  have S04 := S02.trans S24
  have B0' := B0.same S24
  refine ⟨by show 2 ≤ sizeLine; decide, fun BL nBL => ?_⟩
  have o : Offs ⟨p0, L0, q0, w0, b0, r0⟩ ⟨p1, L1, q1, w1, b1, r1⟩ D BL := ⟨t01, t01.symm, D0, D1, B0'.off nBL, B1.off nBL⟩
  have S5 := Same.laid (o := HO.lst [.ref b0, .ref b1]) nBL
  have ws5 : Ws C (upd G4 BL (.lst [.ref b0, .ref b1])) D BL ⟨p0, L0, q0, w0, b0, r0⟩ ⟨p1, L1, q1, w1, b1, r1⟩ [] [] none none := ⟨S5 _ _ (S24 _ _ eD2), upd_same, B0'.same S5, B1.same S5⟩
  have hS5 := Same.seq S5 (Same.seq S04 hS0)
  generalize upd G4 BL (.lst [.ref b0, .ref b1]) = G5 at *
  clear K1 K3 S1 S2 S02 S3 S4 S24 S04 S5 D0 D1 t01 B0 B0' B1 hw0 hw1 hS0 eD eD0 eD2
  have hx : ∃ x0 : Bx, x0 = ⟨p0, L0, q0, w0, b0, r0⟩ := ⟨_, rfl⟩
  obtain ⟨x0, ex0⟩ := hx
  have hx : ∃ x1 : Bx, x1 = ⟨p1, L1, q1, w1, b1, r1⟩ := ⟨_, rfl⟩
  obtain ⟨x1, ex1⟩ := hx
  rw [← ex0, ← ex1] at o ws5
  have gr0 : GoodRl x0.r := ws5.B0.gr
  dsimp only [gName]
  have hb0 : V.ref b0 = .ref x0.b := by rw [ex0]
  have hp0 : x0.p = p0 := by rw [ex0]
  have no : ∀ {x : Bx} {si wo ti : V} {m : Str}, (m == ("_rule" : Str)) = false → (m == ("_events" : Str)) = false → (m == ("_since" : Str)) = false → (m == ("_worth" : Str)) = false →
    (m == ("_time" : Str)) = false → (wf (.ref x.rl) (.ref x.L) si wo ti).lookup m = none := fun h1 h2 h3 h4 h5 => wf_no h1 h2 h3 h4 h5
  have md : ∀ (x m : Int), 0 < m → 0 ≤ x % m ∧ x % m < m := fun x m hm => ⟨Int.emod_nonneg _ (by omega), Int.emod_lt_of_pos _ hm⟩
  -- at first
  obtain ⟨dx, es, e1, e2, _⟩ := ws5.B0.w.ex
  refine ⟨_, rfl, BL, _, 0, .ref x0.b, rfl, rfl, SqL.of ws5.eB, rfl, x0.b, _, 0, .ref x0.p, rfl, rfl, SqL.of ws5.B0.eb, rfl, x0.p, dx, _, rfl, e1, no (by decide +kernel) (by decide +kernel) (by decide +kernel) (by decide +kernel) (by decide +kernel), x0.p, x0.L, x0.rl, _, _, _, rfl, ws5.B0.w, by show 0 ≤ 100000; decide, fun t6 G6 S6 _ e6 => ?_⟩
  refine ⟨by show 2 ≤ sizeLine; decide, fun t7 n7 => ?_⟩
  have S7 := Same.laid (o := HO.tup [V.str "quiet", .non]) n7
  have e7 : upd G6 t7 (.tup [V.str "quiet", .non]) t7 = some (.tup (fS (Wm.told (stOf x0.r [] none)))) := upd_same
  generalize upd G6 t7 (.tup [V.str "quiet", .non]) = G7 at *
  refine ⟨_, _, rfl, Sim.tup (S7 _ _ e6) e7 (by show 2 ≤ 100000; decide) (fS_flat _), fun G8 S8 => ?_⟩
  refine ⟨_, rfl, iteF ?_⟩
  have ws8 := ws5.same (S6.trans (S7.trans S8))
  have hS8 := Same.seq (S6.trans (S7.trans S8)) hS5
  obtain ⟨dx, es, e1, e2, _⟩ := ws8.B0.w.ex
  refine ⟨_, rfl, BL, _, 0, .ref x0.b, rfl, rfl, SqL.of ws8.eB, rfl, x0.b, _, 0, .ref x0.p, rfl, rfl, SqL.of ws8.B0.eb, rfl, x0.p, dx, _, rfl, e1, no (by decide +kernel) (by decide +kernel) (by decide +kernel) (by decide +kernel) (by decide +kernel), x0.p, x0.L, x0.rl, _, _, _, rfl, ws8.B0.w, fun t9 G9 S9 _ h9 => ?_⟩
  refine ⟨by show 0 ≤ sizeLine; decide, fun Z nZ => ?_⟩
  have S10 := Same.laid (o := HO.lst []) nZ
  refine ne_empty DE (rs := (stOf x0.r [] none).ev) (fun _ _ => trivial) (h9.same S10) upd_same ⟨_, rfl, iteF ?_⟩
  generalize upd G9 Z (.lst []) = G10 at *
  have ws10 := ws8.same (S9.trans S10)
  have hS10 := Same.seq (S9.trans S10) hS8
  clear ws5 ws8 S6 S7 S8 S9 S10 e6 e7 h9 hS5 hS8
  dsimp only [tNext]
  -- the cells
  refine ⟨_, rfl, 3, rfl, 43, rfl, a, _, rfl, hS10, fun s1 ns1 => ?_⟩
  have S11 := Same.laid (o := HO.lst (cutV (ns.map V.int) (some 3) (some 43))) ns1
  have es1 : upd G10 s1 (.lst (cutV (ns.map V.int) (some 3) (some 43))) s1 = some (.lst (cutV (ns.map V.int) (some 3) (some 43))) := upd_same
  generalize upd G10 s1 (.lst (cutV (ns.map V.int) (some 3) (some 43))) = G11 at *
  refine ⟨_, rfl, a, ns, 2, rfl, Same.seq S11 hS10, hlen, by decide, by decide, fun c2 => ?_⟩
  refine ⟨by show 1 ≤ sizeLine; decide, fun s2 ns2 => ?_⟩
  have S12 := Same.laid (o := HO.lst [.int c2]) ns2
  have es2 : upd G11 s2 (.lst [.int c2]) s2 = some (.lst [.int c2]) := upd_same
  generalize upd G11 s2 (.lst [.int c2]) = G12 at *
  obtain ⟨ms, ems, _, mlen⟩ := cut_map ns (some 3) (some 43)
  rw [ems] at es1
  have cl : (cutV (ns.map V.int) (some 3) (some 43)).length ≤ 40 := by
    unfold cutV
    rw [List.length_take]
    have e2 : HT.sIx (ns.map V.int).length 0 (some 3) = min 3 (ns.map V.int).length := HT.sIx_nat ..
    rw [e2]
    have e3 : HT.sIx (ns.map V.int).length (ns.map V.int).length (some 43) = min 43 (ns.map V.int).length := HT.sIx_nat ..
    rw [e3]
    omega
  rw [ems, List.length_map] at cl
  refine ⟨s1, s2, _, _, rfl, rfl, S12 _ _ es1, es2, by rw [List.length_map, List.length_singleton]; exact Nat.le_trans (show ms.length + 1 ≤ 41 by omega) (by decide), fun s3 ns3 => ?_⟩
  have em : ms.map V.int ++ [V.int c2] = (ms ++ [c2]).map V.int := by rw [List.map_append]; rfl
  rw [em]
  generalize hcs : ms ++ [c2] = cs at *
  have clen : cs.length ≤ 41 := by rw [← hcs, List.length_append, List.length_singleton]; omega
  have S13 := Same.laid (o := HO.lst (cs.map V.int)) ns3
  have es3 : upd G12 s3 (.lst (cs.map V.int)) s3 = some (.lst (cs.map V.int)) := upd_same
  have ws12 := ws10.same (S11.trans S12)
  have o3 : Off x0 s3 := ws12.B0.off ns3
  have o3' : Off x1 s3 := ws12.B1.off ns3
  generalize upd G12 s3 (.lst (cs.map V.int)) = G13 at *
  have ws13 := ws12.same S13
  clear ws10 ws12 hS10 S11 S12 S13
  refine ⟨s3, rfl, ⟨_, SqL.of es3⟩, ?_⟩
  refine for_it (walk_list (K := K) (a := s3) (xs := cs.map V.int)) (fun i σ G => ∃ (v3 v4 v5 v6 v7 v8 v9 : Option V) (rs0 rs1 : List R3) (la0 la1 : Option Int), σ = [some (.ref a), some (.ref D), some (.ref BL), v3, v4, v5, v6, v7, v8, v9, none, none, none] ∧
      G s3 = some (.lst (cs.map V.int)) ∧ Ws C G D BL x0 x1 rs0 rs1 la0 la1 ∧ rs0.length ≤ i ∧ rs1.length ≤ i) ?_
    (fun i σ X _ ⟨_, _, _, _, _, _, _, _, _, _, _, _, e, _⟩ => SqL.of e) ?_ ?_
  · exact ⟨none, none, none, none, none, none, none, [], [], none, none, rfl, es3, ws13, Nat.le_refl _, Nat.le_refl _⟩
  · rintro i v σ X0 X hi ⟨v3, v4, v5, v6, v7, v8, v9, rs0, rs1, la0, la1, rfl, eX, ws, hl0, hl1⟩ ⟨rfl, hx⟩
    have hi41 : i < 41 := by rw [List.length_map] at hi; omega
    obtain ⟨z, rfl⟩ : ∃ z, v = .int z := by
      have := List.mem_of_getElem? hx
      simp only [List.mem_map] at this
      obtain ⟨z, _, e⟩ := this
      exact ⟨z, e.symm⟩
    refine ⟨_, rfl, z, 6, 29, rfl, ⟨by decide, by decide⟩, ⟨by decide, by decide⟩, fun b Y1 SY1 nb hR => ?_⟩
    have ws1 := ws.same SY1
    have eX1 := SY1 _ _ eX
    obtain ⟨xs, y0, eb, a0, _⟩ := hR.at 0 (by decide)
    have x02 := md y0 2 (by decide)
    have hwh : y0 % 2 = 0 ∨ y0 % 2 = 1 := by omega
    obtain ⟨xw, rsw, lw, hat, Bw, hlw, hnext⟩ : ∃ (xw : Bx) (rsw : List R3) (lw : Option Int), atI [V.ref x0.b, .ref x1.b] (y0 % 2) = some (.ref xw.b) ∧ BoxAt C Y1 xw rsw lw ∧ rsw.length ≤ 900 ∧
        ∀ H' rs' la', FrB xw Y1 H' → BoxAt C H' xw rs' la' → rs'.length ≤ rsw.length + 1 → ∃ rs0' rs1' la0' la1', Ws C H' D BL x0 x1 rs0' rs1' la0' la1' ∧ H' s3 = some (.lst (cs.map V.int)) ∧ rs0'.length ≤ i + 1 ∧ rs1'.length ≤ i + 1 := by
      rcases hwh with hw | hw
      · exact ⟨x0, rs0, la0, by rw [hw]; rfl, ws1.B0, by omega, fun H' rs' la' F B' hl => ⟨_, _, _, _, ws1.step0 o F B', F.off o3 eX1, by omega, by omega⟩⟩
      · exact ⟨x1, rs1, la1, by rw [hw]; rfl, ws1.B1, by omega, fun H' rs' la' F B' hl => ⟨_, _, _, _, ws1.step1 o F B', F.off o3' eX1, by omega, by omega⟩⟩
    refine ⟨_, rfl, _, rfl, b, xs, 0, .int y0, rfl, rfl, SqL.of eb, a0, y0, 2, rfl, rfl, (by decide : (0 : Int) < 2), BL, _, _, .ref xw.b, rfl, rfl, SqL.of ws1.eB, hat, ?_⟩
    refine ⟨_, rfl, _, rfl, xw, b, rsw, lw, rfl, Bw, hR, hlw, fun Y2 rs' la' FF B' hl => ?_⟩
    obtain ⟨rs0', rs1', la0', la1', ws2, eX2, hl0', hl1'⟩ := hnext Y2 rs' la' FF B' hl
    refine ⟨_, rfl, iteF ?_⟩
    dsimp only [gName, tNext]
    refine ⟨_, rfl, BL, rfl, ⟨_, SqL.of ws2.eB⟩, ?_⟩
    refine for_it (walk_list (K := K) (a := BL) (xs := [V.ref x0.b, .ref x1.b])) (fun j σ G => ∃ (v6 v7 v8 v9 : Option V), σ = [some (.ref a), some (.ref D), some (.ref BL), some (.int z), some (.ref b), some (.ref xw.b), v6, v7, v8, v9, none, none, none] ∧ Same Y2 G) ?_
      (fun j σ X _ ⟨_, _, _, _, _, S⟩ => SqL.of (S _ _ ws2.eB)) ?_ ?_
    · exact ⟨v6, v7, v8, v9, rfl, Same.refl _⟩
    · rintro j v σ Z0 Z hj ⟨v6, v7, v8, v9, rfl, SZ⟩ ⟨rfl, hxj⟩
      obtain ⟨x, rs, la, rfl, B⟩ : ∃ (x : Bx) (rs : List R3) (la : Option Int), v = .ref x.b ∧ BoxAt C Y2 x rs la := by
        match j, hj, hxj with
        | 0, _, hxj => cases hxj; exact ⟨x0, _, _, rfl, ws2.B0⟩
        | 1, _, hxj => cases hxj; exact ⟨x1, _, _, rfl, ws2.B1⟩
        | n + 2, hj, _ => exact absurd (show n + 2 < 2 from hj) (by omega)
      have BZ := B.same SZ
      refine ⟨x.b, _, rfl, SqL.of BZ.eb, rfl, _, _, rfl, _, _, rfl, _, _, rfl, _, _, rfl, rfl, ?_⟩
      dsimp only [gName]
      refine ⟨_, rfl, rfl, ?_⟩
      cases la with
      | none => exact ⟨false, rfl, iteF (iteF ⟨_, _, _, _, rfl, SZ⟩)⟩
      | some T0 =>
        obtain ⟨hh, hT⟩ := BZ.some_ T0 rfl
        refine ⟨true, rfl, iteT ?_⟩
        refine ⟨_, rfl, _, rfl, _, rfl, _, rfl, x.p, x.L, x.rl, x.g, x.r, rs, T0, _, _, rfl, BZ.w, BZ.er, BZ.gr, BZ.hg, hh.h, ⟨hh.pos, hT⟩, fun Z2 SZ2 => ?_⟩
        exact ⟨_, rfl, iteF ⟨_, _, _, _, rfl, SZ.trans SZ2⟩⟩
    · rintro σ Z ⟨v6, v7, v8, v9, rfl, SZ⟩
      exact ⟨_, _, _, _, _, _, _, _, _, _, _, rfl, SZ _ _ eX2, ws2.same SZ, hl0', hl1'⟩
  · rintro σ X ⟨v3, v4, v5, v6, v7, v8, v9, rs0, rs1, la0, la1, rfl, eX, ws, hl0, hl1⟩
    rw [List.length_map] at hl0 hl1
    have er0' := ws.B0.er
    have er1' := ws.B1.er
    dsimp only []
    -- alike?
    refine seq_join (A := tAsg _ _) (fun σ' Y => ∃ kk : Bool, σ' = [some (.ref a), some (.ref D), some (.ref BL), v3, v4, v5, v6, v7, v8, v9, some (.bl kk), none, none] ∧ Same X Y ∧ (kk = true → x0.r = x1.r ∧ rs0 = rs1 ∧ la0 = la1)) (fun N' hN => ?_) ?_
    · refine ⟨_, rfl, D, _, 0, .ref x0.rl, rfl, rfl, SqL.of ws.eD, rfl, _, rfl, D, _, 1, .ref x1.rl, rfl, rfl, SqL.of ws.eD, rfl, ?_⟩
      refine ⟨_, _, dp_gR er0', dp_gR er1', sh_gR ws.B0.gr, sh_gR ws.B1.gr, _, rfl, ?_⟩
      cases hE : PyData.eqv (.tuple (gR x0.r)) (.tuple (gR x1.r)) with
      | false => exact iteF (hN _ _ ⟨false, rfl, Same.refl _, fun z => by cases z⟩)
      | true =>
        have er := eq_gR hE
        refine iteT ?_
        refine ⟨_, rfl, BL, _, 0, .ref x0.b, rfl, rfl, SqL.of ws.eB, rfl, 2, rfl, x0.b, _, rfl, SqL.of ws.B0.eb, fun u0 nu0 => ?_⟩
        have T1 := Same.laid (o := HO.lst (cutV [.ref x0.p, .ref x0.rl, .ref x0.g, oV la0] (some 2) none)) nu0
        have f1 : upd X u0 (.lst (cutV [.ref x0.p, .ref x0.rl, .ref x0.g, oV la0] (some 2) none)) u0 = some (.lst [.ref x0.g, oV la0]) := upd_same
        generalize upd X u0 (.lst (cutV [.ref x0.p, .ref x0.rl, .ref x0.g, oV la0] (some 2) none)) = X1 at *
        have ws1 := ws.same T1
        refine ⟨_, rfl, BL, _, 1, .ref x1.b, rfl, rfl, SqL.of ws1.eB, rfl, 2, rfl, x1.b, _, rfl, SqL.of ws1.B1.eb, fun u1 nu1 => ?_⟩
        have T2 := Same.laid (o := HO.lst (cutV [.ref x1.p, .ref x1.rl, .ref x1.g, oV la1] (some 2) none)) nu1
        have f2 : upd X1 u1 (.lst (cutV [.ref x1.p, .ref x1.rl, .ref x1.g, oV la1] (some 2) none)) u1 = some (.lst [.ref x1.g, oV la1]) := upd_same
        generalize upd X1 u1 (.lst (cutV [.ref x1.p, .ref x1.rl, .ref x1.g, oV la1] (some 2) none)) = X2 at *
        have ws2 := ws1.same T2
        have dla : ∀ la : Option Int, Dp K X2 (oV la) (laD la) := fun la => by cases la with
          | none => exact .non
          | some i => exact .int i
        have okr : ∀ {x : Bx} {rs : List R3} {la : Option Int}, BoxAt C X2 x rs la → ∀ r ∈ rs, okM r := fun {x rs la} B r hr => by
          cases la with
          | none => rw [B.none_ rfl] at hr; cases hr
          | some T => exact .inl ((B.some_ T rfl).1.good r hr)
        have shl : ∀ (rs : List R3) (la : Option Int), (∀ r ∈ rs, okM r) → SeqAt.shaped (.list [.list (rs.map fun r => .tuple (g3 r)), laD la]) = true := fun rs la h => by
          have h1 := lay_rows D3 rs h
          have h4 := dep_rows D3 rs
          have e1 : PyData.canLay0 (.list [.list (rs.map fun r => .tuple (g3 r)), laD la]) = true := by
            cases la <;> simp only [PyData.canLay0, PyData.canLayAll0, laD, h1, Bool.and_self]
          have e2 : PyData.depth (.list [.list (rs.map fun r => .tuple (g3 r)), laD la]) ≤ 64 := by
            cases la <;> simp only [PyData.depth, PyData.depthAll, laD] <;> omega
          unfold SeqAt.shaped
          rw [e1, decide_eq_true e2]
          rfl
        refine ⟨_, _, .lst (SqL.of (T2 _ _ f1)) (.cons (LT.dp D3 ws2.B0.hg) (.cons (dla la0) .nil)), .lst (SqL.of f2) (.cons (LT.dp D3 ws2.B1.hg) (.cons (dla la1) .nil)), shl _ _ (okr ws2.B0), shl _ _ (okr ws2.B1), ?_⟩
        refine hN _ _ ⟨_, rfl, T1.trans T2, fun z => ?_⟩
        exact ⟨er, eq_box z⟩
    rintro σ' Y ⟨kk, rfl, SY, hkk⟩
    have wsY := ws.same SY
    refine seq_join (A := tIfS _ _ _) (fun σ' Y' => σ' = [some (.ref a), some (.ref D), some (.ref BL), v3, v4, v5, v6, v7, v8, v9, some (.bl kk), none, none] ∧ Same X Y') (fun N' hN => ?_) ?_
    · refine ⟨_, rfl, _, rfl, ?_⟩
      cases kk with
      | false => exact iteF (iteF (hN _ _ ⟨rfl, SY⟩))
      | true =>
        obtain ⟨h1, h2, h3⟩ := hkk rfl
        refine iteT ?_
        obtain ⟨dx, es, e1, e2, _⟩ := wsY.B0.w.ex
        obtain ⟨dx', es', e1', e2', _⟩ := wsY.B1.w.ex
        refine ⟨_, rfl, BL, _, 0, .ref x0.b, rfl, rfl, SqL.of wsY.eB, rfl, x0.b, _, 0, .ref x0.p, rfl, rfl, SqL.of wsY.B0.eb, rfl, _, rfl, BL, _, 1, .ref x1.b, rfl, rfl, SqL.of wsY.eB, rfl, x1.b, _, 0, .ref x1.p, rfl, rfl, SqL.of wsY.B1.eb, rfl, ?_⟩
        refine ⟨x0.p, dx, _, _, rfl, e1, .ins e1', WQ.nf, ?_⟩
        have w1 := wsY.B1.w
        have er1Y := wsY.B1.er
        rw [← h1, ← h2, ← h3] at w1
        rw [← h1] at er1Y
        have sc : ∀ la : Option Int, scal (oV la) (oV la) = true := fun la => by cases la <;> rfl
        have scw : scal (woOf rs0) (woOf rs0) = true := by unfold woOf; split <;> rfl
        exact ⟨x0.p, x0.L, x0.rl, x1.p, x1.L, x1.rl, x0.r, _, _, _, rfl, wsY.B0.w, w1, wsY.B0.er, er1Y, wsY.B0.gr, scw, sc _, sc _, true, rfl, _, rfl, iteF (hN _ _ ⟨rfl, SY⟩)⟩
    rintro σ' Y' ⟨rfl, SY'⟩
    have wsE := ws.same SY'
    -- to the end
    refine ⟨_, rfl, BL, rfl, ⟨_, SqL.of wsE.eB⟩, fun DD nDD => ?_⟩
    have oD0 : Off x0 DD := wsE.B0.off nDD
    have oD1 : Off x1 DD := wsE.B1.off nDD
    refine lc_it (walk_list (K := K) (a := BL) (xs := [V.ref x0.b, .ref x1.b])) (fun j G => ∃ n : Nat, n ≤ j ∧ G DD = some (.lst ((List.replicate n true).map V.bl)) ∧ G BL = some (.lst [.ref x0.b, .ref x1.b]) ∧ (j = 0 → BoxAt C G x0 rs0 la0) ∧ (j ≤ 1 → BoxAt C G x1 rs1 la1)) ?_
      (fun j X _ ⟨_, _, _, e, _⟩ => SqL.of e) ?_ ?_
    · have S := Same.laid (o := HO.lst []) nDD
      exact ⟨0, Nat.le_refl _, upd_same, S _ _ wsE.eB, fun _ => wsE.B0.same S, fun _ => wsE.B1.same S⟩
    · rintro j v Z0 Z hj ⟨n, hn, eDD, eB, h0, h1⟩ ⟨rfl, hxj⟩
      have bD : BL ≠ DD := ne_of_none wsE.eB nDD
      have size : ((List.replicate n true).map V.bl).length < sizeLine := by
        rw [List.length_map, List.length_replicate]
        have : j < 2 := hj
        exact Nat.lt_of_le_of_lt (show n ≤ 2 by omega) (by decide)
      have push : ∀ Z2 : Hp, Z2 DD = some (.lst ((List.replicate n true).map V.bl)) → upd Z2 DD (.lst ((List.replicate n true).map V.bl ++ [V.bl true])) DD = some (.lst ((List.replicate (n + 1) true).map V.bl)) := fun Z2 _ => by
        rw [upd_same, List.replicate_succ', List.map_append]
        rfl
      -- the box of this turn
      match j, hj, hxj, h0, h1 with
      | 0, _, hxj, h0, h1 =>
        cases hxj
        have B := h0 rfl
        have B1 := h1 (by decide)
        refine ⟨rfl, ?_⟩
        refine ⟨_, rfl, x0.b, _, 3, oV la0, rfl, rfl, SqL.of B.eb, rfl, by cases la0 <;> rfl, _, rfl, ?_⟩
        refine ite2 (fun hne => ?_) (fun _ => ⟨n, by omega, eDD, eB, fun z => (by cases z), fun _ => B1⟩)
        refine ⟨_, rfl, x0, rs0, la0, rfl, B, by omega, fun z => by rw [z] at hne; exact absurd hne (by decide), fun Z2 F => ?_⟩
        have eD2 := F.off oD0 eDD
        refine ⟨_, eD2, size, n + 1, by omega, push _ eD2, (upd_ne bD).trans (F.off o.b0 eB), fun z => (by cases z), fun _ => ?_⟩
        exact (B1.other B o.t1 F).keep eD2 oD1.b oD1.L oD1.g fun c oo n e => (upd_ne n).trans e
      | 1, _, hxj, h0, h1 =>
        cases hxj
        have B := h1 (by decide)
        refine ⟨rfl, ?_⟩
        refine ⟨_, rfl, x1.b, _, 3, oV la1, rfl, rfl, SqL.of B.eb, rfl, by cases la1 <;> rfl, _, rfl, ?_⟩
        refine ite2 (fun hne => ?_) (fun _ => ⟨n, by omega, eDD, eB, fun z => (by cases z), fun z => absurd z (by decide)⟩)
        refine ⟨_, rfl, x1, rs1, la1, rfl, B, by omega, fun z => by rw [z] at hne; exact absurd hne (by decide), fun Z2 F => ?_⟩
        have eD2 := F.off oD1 eDD
        exact ⟨_, eD2, size, n + 1, by omega, push _ eD2, (upd_ne bD).trans (F.off o.b1 eB), fun z => (by cases z), fun z => absurd z (by decide)⟩
      | m + 2, hj, _, _, _ => exact absurd (show m + 2 < 2 from hj) (by omega)
    · rintro Z ⟨n, hn, eDD, _, _, _⟩
      refine ⟨DD, _, rfl, SqL.of eDD, ?_⟩
      have : (List.replicate n true).all id = true := by simp
      rw [this]
      exact k Z
end
end W24

namespace W24
open PySem PySem.Spec PyProof.Rows L2 Pw
-- END defs: Number=_is_number Check=_check_number Whole=is_whole Name=is_name Time=is_time OneOf=is_one_of Tuple=is_tuple CTime=check_time Level=is_level RuleS=is_rule_shape Lock=is_lock_shape Bey=is_beyond Rst=is_at_rest CRule=_check_rule Cell=_law_cell_at LRow=_law_row Alike=_law_alike LRule=_law_rule Beyond=_law_beyond Rests=_law_rests Model=_law_model Right=_law_right New=_law_new Refused=_law_refused NoW=_law_no_worth Step=_law_step Ended=_law_ended
theorem fin {P : Program} {w : World} {K : PySem.W.Frag} {mg : Str → Option Value} {fa C fi CN CB fB CW CP fP CA : Addr} {fdi : FuncData} (hfa : mg "law" = some (.ref fa)) (T : Txt mg) (W : WC K C) (Wq : WQ K C) (hC : mg "Watch" = some (.ref C))
    (M : Mk K C fi) (FI : Fun K "__init__" "Watch.__init__" mWatch_Init fi fdi) (ME : ErrT K mg CN CB fB CW CP fP CA)
    (mHear : AtMt K C "hear" "Watch.hear" mWatch_Hear)
    (mGo : AtMt K C "go_on" "Watch.go_on" mWatch_GoOn)
    (mEvs : AtMt K C "events" "Watch.events" mWatch_Events)
    (mSt : AtMt K C "state" "Watch.state" mWatch_State)
    (mLen : AtMt K C "__len__" "Watch.__len__" mWatch_Len)
    (mEq : AtMt K C "__eq__" "Watch.__eq__" mWatch_Eq)
    (mStands : AtMt K C "_stands" "Watch._stands" mWatch_Stands)
    (mWait : AtMt K C "_wait_until" "Watch._wait_until" mWatch_WaitUntil)
    (mTake : AtMt K C "_take" "Watch._take" mWatch_Take)
    (mRest : AtMt K C "_rest" "Watch._rest" mWatch_Rest)
    (aNumber : At K mg "_is_number" sIsNumber)
    (aCheck : At K mg "_check_number" sCheckNumber)
    (aWhole : At K mg "is_whole" sIsWhole)
    (aName : At K mg "is_name" sIsName)
    (aTime : At K mg "is_time" sIsTime)
    (aOneOf : At K mg "is_one_of" sIsOneOf)
    (aTuple : At K mg "is_tuple" sIsTuple)
    (aCTime : At K mg "check_time" sCheckTime)
    (aLevel : At K mg "is_level" sIsLevel)
    (aRuleS : At K mg "is_rule_shape" sIsRuleShape)
    (aLock : At K mg "is_lock_shape" sIsLockShape)
    (aBey : At K mg "is_beyond" sIsBeyond)
    (aRst : At K mg "is_at_rest" sIsAtRest)
    (aCRule : At K mg "_check_rule" sCheckRule)
    (aCell : At K mg "_law_cell_at" sLawCellAt)
    (aLRow : At K mg "_law_row" sLawRow)
    (aAlike : At K mg "_law_alike" sLawAlike)
    (aLRule : At K mg "_law_rule" sLawRule)
    (aBeyond : At K mg "_law_beyond" sLawBeyond)
    (aRests : At K mg "_law_rests" sLawRests)
    (aModel : At K mg "_law_model" sLawModel)
    (aRight : At K mg "_law_right" sLawRight)
    (aNew : At K mg "_law_new" sLawNew)
    (aRefused : At K mg "_law_refused" sLawRefused)
    (aNoW : At K mg "_law_no_worth" sLawNoWorth)
    (aStep : At K mg "_law_step" sLawStep)
    (aEnded : At K mg "_law_ended" sLawEnded)
    (aLaw : At K mg "law" sLaw) :
    ∃ fd : FuncData, (∀ (s : Shared) (v : Value), BindsTo s fd ⟨[v], []⟩ [("_law_script", v)]) ∧
      ∀ base : Heap, K.In base → base.Ns mainGlobals mg → FnG P w K mg base CX0 10 fa fd ["_law_script"] (spLaw K) := by
  obtain ⟨f, fd, F, m⟩ := aLaw.ex
  cases hfa.symm.trans m
  have F' := F
  obtain ⟨oc, od, kV, doc, pm, an, cdv, ct, osl, rfl, lk, hcd⟩ := F.ex
  refine ⟨PySem.W.fnOf "law" "law" (defArgs sLaw) (defBody sLaw) (defScope sLaw) .none kV doc pm an cdv ct, fun s v => .of_eq rfl, fun base _ _ => FnG.of ?_⟩
  have dNumber : Def P w K mg base "_is_number" 1 ["thing"] (spNumber K) := d_number T aNumber
  have dCheck := d_check aCheck dNumber
  have dWhole := d_whole aWhole dNumber dCheck
  have dTuple : Def P w K mg base "is_tuple" 1 ["thing", "many"] (spTupN K) := d_tuple T aTuple
  have dOne : Def P w K mg base "is_one_of" 1 ["thing", "words"] (spOne K) := d_oneof T aOneOf
  have dName : Def P w K mg base "is_name" 1 ["thing"] (spName K) := d_name T aName
  have dTime := d_time T aTime dWhole
  have dLevel := d_level T aLevel dWhole
  have dCT := d_ctime aCTime dTime
  have dCR := d_crule aCRule (d_rule T aRuleS dTuple dName (d_lock aLock dTuple dName dOne dLevel) dLevel dWhole)
  have dBey : Def P w K mg base "is_beyond" 1 ["word", "limit", "worth"] spBey := d_bey aBey
  have dRst : Def P w K mg base "is_at_rest" 1 ["rule", "worth"] (spRst K) := d_rst aRst
  have eStands : DefM P w K mg base C "_stands" 1 ["self"] (spStands C) := d_stands T W mStands
  have eWait : DefM P w K mg base C "_wait_until" 1 ["self", "time"] (spWait C) := d_wait W mWait
  have eTake := d_takeW W mTake eStands (d_rest W mRest dRst) dBey eWait
  have eHear := d_hear W mHear dCT dLevel eWait eTake
  have eGo := d_go W mGo dCT eWait
  have eEvs : DefM P w K mg base C "events" 1 ["self"] (spEvs C) := d_evs T W mEvs
  have eSt := d_state T W mSt eStands
  have eI := d_init W hC M FI dCR
  have eLen : DefM P w K mg base C "__len__" 1 ["self"] (spLenM C) := d_lenM T W mLen
  have eEq : DefM P w K mg base C "__eq__" 1 ["self", "other"] (spEqW C) := d_eqW T W Wq hC mEq
  have dLR : Def P w K mg base "_law_row" 1 ["_law_cell", "_law_many", "_law_salt"] (spRowL K) := d_rowL T aLRow
  have dMo := d_model T aModel (d_rstL T aRests (P := P) (w := w) (base := base)) (d_beyL T aBeyond)
  have dAl := d_alike T aAlike 3 (P := P) (w := w) (base := base)
  have dLk : DefC P w K mg base "_law_alike" 1 ["_law_found", "_law_due"] spLikeC := d_likeC T aAlike
  have xHear := d_hearX ME W mHear dCT dLevel
  have xGo := d_goX ME W mGo dCT
  have dRef := d_refused T ME W aRefused dLk xHear xGo
  have dNW := d_noWorth ME W aNoW dLk xHear
  have dNew := d_new aNew dMo
  have dRight := d_right T W aRight dMo dAl eEvs eSt eLen
  exact ok_law F' T W Wq dLR (d_cellAt T aCell) (d_ruleL aLRule) (d_step T W aStep dRef dNW dNew dAl eGo eHear) (d_ended T W aEnded dRef dNew dAl dRight eGo) dAl dRight eI eEvs eSt eEq
end W24

/-! What a head by facts tells of own errors. -/
namespace Pw
open PySem PySem.Spec PyProof.Rows L2
/-- a class as it stands: what it stands above -/
structure Look (K : PySem.W.Frag) (C : Addr) (m : List Value) : Prop where
  cls : ∃ cd, PySem.W.clsIn K C = some cd ∧ cd.mro = .ref C :: m
  tyC : PySem.W.typeIn K (.ref C) = some (.type "type")
section
variable {K : PySem.W.Frag} {C D : Addr} {m m' : List Value}
theorem Look.mro (h : Look K C m) (v : Value) : PySem.W.mroIn K C v = some ((Value.ref C :: m).contains v) := by
  obtain ⟨cd, h1, h2⟩ := h.cls
  unfold PySem.W.mroIn
  rw [h1, Option.bind_some, h2]
  rfl
theorem Look.kit (h : Look K C m) (g : Look K D m') :
    PySem.W.kitOne K (.ref C) (.ref D) = some ((Value.ref C :: m).contains (.ref D)) := by
  obtain ⟨cd, h1, h2⟩ := g.cls
  unfold PySem.W.kitOne PySem.W.kitCls
  by_cases e : (Value.ref C == Value.ref D) = true
  · rw [if_pos e]
    obtain rfl := Value.ref.inj (beq_iff_eq.mp e)
    simp
  · rw [if_neg e]
    have e2 : ((PySem.W.clsIn K D).isSome && PySem.W.typeIn K (.ref D) == some (.type "type")) = true := by
      rw [h1, g.tyC]
      rfl
    simp only [e2, if_true]
    exact h.mro _
theorem Look.exm (h : Look K C m) (g : Look K D m') (hb : m'.contains (.type "BaseException") = true) (hne : C ≠ D) :
    PySem.W.exmOne K (.ref C) (.ref D) = some ((Value.ref C :: m).contains (.ref D)) := by
  obtain ⟨cd, h1, h2⟩ := g.cls
  have e2 : ((PySem.W.clsIn K D).isSome && PySem.W.typeIn K (.ref D) == some (.type "type")) = true := by
    rw [h1, g.tyC]
    rfl
  have e1 : PySem.W.subIn K (.ref D) (.type "BaseException") = some true := by
    show PySem.W.mroIn K D _ = _
    rw [g.mro, List.contains_cons, hb, Bool.or_true]
  unfold PySem.W.exmOne PySem.W.kitCls
  rw [e1, if_pos (by decide)]
  simp only [e2, if_true]
  exact h.mro _
theorem Look.exs (g : Look K D m') (hb : m'.contains (.type "BaseException") = true) :
    PySem.W.exmOne K (.ref D) (.ref D) = some true := by
  obtain ⟨cd, h1, h2⟩ := g.cls
  have e2 : ((PySem.W.clsIn K D).isSome && PySem.W.typeIn K (.ref D) == some (.type "type")) = true := by
    rw [h1, g.tyC]
    rfl
  have e1 : PySem.W.subIn K (.ref D) (.type "BaseException") = some true := by
    show PySem.W.mroIn K D _ = _
    rw [g.mro, List.contains_cons, hb, Bool.or_true]
  unfold PySem.W.exmOne PySem.W.kitCls
  rw [e1, if_pos (by decide)]
  simp only [e2, if_true]
  show PySem.W.mroIn K D _ = _
  rw [g.mro]
  simp
theorem Look.kitT (h : Look K C m) {T : String} (hk : PySem.W.kitMeta T = true) :
    PySem.W.kitOne K (.ref C) (.type T) = some (m.contains (.type T)) := by
  have e : (Value.ref C == Value.type T) = false := rfl
  unfold PySem.W.kitOne PySem.W.kitCls
  rw [e, if_neg Bool.false_ne_true]
  simp only [hk, if_true]
  show PySem.W.mroIn K C _ = _
  have e' : (Value.type T == Value.ref C) = false := rfl
  rw [h.mro, List.contains_cons, e', Bool.false_or]
end

section
variable {K : PySem.W.Frag} {mg : Str → Option Value} {h : Heap}
/-- what is the same of all errors -/
structure MethO (K : PySem.W.Frag) : Prop where
  hn : PySem.W.specialIn K (.builtin "object.__class__") "__get__" = some (some (.builtin "getset_descriptor.__get__"))
  ht : PySem.W.takesIn K (.builtin "object.__class__") = some true
theorem look_mk {x qn : Str} {C N : Addr} {bs bm : List Value} {sn : List Str} {sub : List Value} {ab : Bool} {col : Option Bool} {dd : Option Addr} {m0 m1 m2 m3 m5 : Option Value} {newId : String}
    (xL : K.lookup C = some (excClassObj x qn C N bs bm true sn sub ab col dd m0 m1 m2 m3 m5 newId))
    (tC : PySem.W.typeIn K (.ref C) = some (.type "type")) : Look K C bm :=
  ⟨⟨{ name := x, bases := bs, mro := .ref C :: bm, ns := N, qualname := qn, hasDict := true, slotNames := sn, subclasses := sub, abstract := ab, collection := col, hasDel := false },
    by unfold PySem.W.clsIn; rw [xL] <;> rfl, rfl⟩, tC⟩
theorem cl_mk {x q field qn : Str} {B newId : String} {st : Stmt} {C CB f N : Addr} {bs tl : List Value} {sn : List Str} {sub : List Value} {ab : Bool} {col : Option Bool} {dd : Option Addr} {m0 m1 m2 m3 m5 : Option Value}
    {oc : Value} {od an : Option Addr} {osl : Array (Option Value)} {kV doc pm cdv ct : Value} (X : K.In h) (G : h.Ns mainGlobals mg) (F : Fit newId tl) (hBt : tl.contains (.type B) = true) (hOb : tl.contains (.type "object") = true) (M : MethO K)
    (aC : PySem.W.nsIn K mainGlobals x = some (some (.ref C)))
    (xL : K.lookup C = some (excClassObj x qn C N bs (.ref CB :: tl) true sn sub ab col dd m0 m1 m2 m3 m5 newId))
    (sa : PySem.W.findIn K (.ref C) "__setattr__" = some (some (.builtin "object.__setattr__")))
    (eC : PySem.W.subIn K (.ref C) (.type "BaseException") = some true) (tC : PySem.W.typeIn K (.ref C) = some (.type "type"))
    (kC : PySem.W.keepIn K (.ref C) = true) (i1 : PySem.W.findIn K (.ref C) "__init__" = some (some (.ref f)))
    (t1 : PySem.W.typeIn K (.ref f) = some (.type "function"))
    (l1 : K.lookup f = some ⟨oc, od, .func (PySem.W.fnOf "__init__" q (defArgs st) (defBody st) (defScope st) .none kV doc pm an cdv ct), osl⟩)
    (c1 : PySem.W.codeIn K cdv q = true) (k1 : PySem.W.keepIn K (.ref f) = true)
    (hg : PySem.W.findIn K (.ref C) "__getattribute__" = some (some (.builtin "BaseException.__getattribute__")))
    (hk : PySem.W.findIn K (.ref C) "__getattr__" = some none) (hd : PySem.W.hasDictIn K C = true)
    (ha : PySem.W.findIn K (.ref C) "__class__" = some (some (.builtin "object.__class__")))
    (nF : PySem.W.findIn K (.ref C) field = some none) : Cl K mg x q field B st C ∧ Look K C (.ref CB :: tl) ∧ ExcC K C := by
  have L := look_mk xL tC
  refine ⟨⟨PySem.W.mg_of X G aC, ⟨⟨newId, x, qn, N, bs, _, sn, sub, ab, col, dd, m0, m1, m2, m3, m5, xL, (F.up CB).up C⟩, sa, eC, tC, kC⟩, ?_, nF, f, _, i1, t1, fun_mk (st := st) l1 c1 k1⟩,
    L, ⟨hg, hk, eC, hd, ha, M.hn, M.ht, ?_⟩⟩
  · rw [L.mro, List.contains_cons, List.contains_cons, hBt, Bool.or_true, Bool.or_true]
  · rw [L.mro, List.contains_cons, List.contains_cons, hOb, Bool.or_true, Bool.or_true]
theorem fam_mk {x q qn : Str} {B newId : String} {st : Stmt} {C f N : Addr} {bs tl : List Value} {sn : List Str} {sub : List Value} {ab : Bool} {col : Option Bool} {dd : Option Addr} {m0 m1 m2 m3 m5 : Option Value}
    {oc : Value} {od an : Option Addr} {osl : Array (Option Value)} {kV doc pm cdv ct : Value} (X : K.In h) (G : h.Ns mainGlobals mg) (F : Fit newId tl) (hBt : tl.contains (.type B) = true) (hOb : tl.contains (.type "object") = true) (M : MethO K)
    (aC : PySem.W.nsIn K mainGlobals x = some (some (.ref C)))
    (xL : K.lookup C = some (excClassObj x qn C N bs tl true sn sub ab col dd m0 m1 m2 m3 m5 newId))
    (sa : PySem.W.findIn K (.ref C) "__setattr__" = some (some (.builtin "object.__setattr__")))
    (eC : PySem.W.subIn K (.ref C) (.type "BaseException") = some true) (tC : PySem.W.typeIn K (.ref C) = some (.type "type"))
    (kC : PySem.W.keepIn K (.ref C) = true) (i1 : PySem.W.findIn K (.ref C) "__init__" = some (some (.ref f)))
    (t1 : PySem.W.typeIn K (.ref f) = some (.type "function"))
    (l1 : K.lookup f = some ⟨oc, od, .func (PySem.W.fnOf "__init__" q (defArgs st) (defBody st) (defScope st) .none kV doc pm an cdv ct), osl⟩)
    (c1 : PySem.W.codeIn K cdv q = true) (k1 : PySem.W.keepIn K (.ref f) = true)
    (hg : PySem.W.findIn K (.ref C) "__getattribute__" = some (some (.builtin "BaseException.__getattribute__")))
    (hk : PySem.W.findIn K (.ref C) "__getattr__" = some none) (hd : PySem.W.hasDictIn K C = true)
    (ha : PySem.W.findIn K (.ref C) "__class__" = some (some (.builtin "object.__class__")))
    (sg : PySem.W.specialIn K (.ref C) "__getattribute__" = some (some (.builtin "type.__getattribute__")))
    (rd : PySem.W.readsIn K C (.type "type") = true)
    (at_ : PySem.W.findCls K (.ref C) (.type "type") "__init__" = some (.val (.ref f))) : Fam K mg x q B st C f ∧ Look K C tl ∧ ExcC K C := by
  have L := look_mk xL tC
  refine ⟨⟨PySem.W.mg_of X G aC, ⟨⟨newId, x, qn, N, bs, _, sn, sub, ab, col, dd, m0, m1, m2, m3, m5, xL, F.up C⟩, sa, eC, tC, kC⟩, ?_, sg, rd, at_, i1, t1, _, fun_mk (st := st) l1 c1 k1⟩,
    L, ⟨hg, hk, eC, hd, ha, M.hn, M.ht, ?_⟩⟩
  · rw [L.mro, List.contains_cons, hBt, Bool.or_true]
  · rw [L.mro, List.contains_cons, hOb, Bool.or_true]
end
def iniB (B initId : String) : Fb := fun K => match PySem.W.findCls K (.type B) (.type "type") "__init__" with
  | some (.val v) => decide (v = .builtin initId)
  | _ => false
def hnB : Fb := fun K => He.eqO (PySem.W.specialIn K (.builtin "object.__class__") "__get__") (some (some (.builtin "getset_descriptor.__get__")))
def htB : Fb := fun K => decide (PySem.W.takesIn K (.builtin "object.__class__") = some true)
def clC (x : Str) : Fb := fun K => He.eqO (PySem.W.findIn K (.ref (He.ga K x)) "__setattr__") (some (some (.builtin "object.__setattr__"))) &&
  (decide (PySem.W.subIn K (.ref (He.ga K x)) (.type "BaseException") = some true) && (decide (PySem.W.typeIn K (.ref (He.ga K x)) = some (.type "type")) && (PySem.W.keepIn K (.ref (He.ga K x)) &&
  (He.eqO (PySem.W.findIn K (.ref (He.ga K x)) "__init__") (some (some (.ref (He.ma K (He.ga K x) "__init__")))) && (decide (PySem.W.typeIn K (.ref (He.ma K (He.ga K x) "__init__")) = some (.type "function")) &&
  (He.eqO (PySem.W.findIn K (.ref (He.ga K x)) "__getattribute__") (some (some (.builtin "BaseException.__getattribute__"))) && (He.eqO (PySem.W.findIn K (.ref (He.ga K x)) "__getattr__") (some none) &&
  (PySem.W.hasDictIn K (He.ga K x) && He.eqO (PySem.W.findIn K (.ref (He.ga K x)) "__class__") (some (some (.builtin "object.__class__")))))))))))
def clB (x fam field : Str) (tl : List Value) (newId : String) : Fb := fun K => (He.Fa.glo x).ok K && (xcB K (He.ga K x) (.ref (He.ga K fam) :: tl) newId x && (clC x K &&
  He.eqO (PySem.W.findIn K (.ref (He.ga K x)) field) (some none)))
def fmB (x : Str) (tl : List Value) (newId : String) : Fb := fun K => (He.Fa.glo x).ok K && (xcB K (He.ga K x) tl newId x && (clC x K &&
  (He.eqO (PySem.W.specialIn K (.ref (He.ga K x)) "__getattribute__") (some (some (.builtin "type.__getattribute__"))) && (PySem.W.readsIn K (He.ga K x) (.type "type") &&
  (match PySem.W.findCls K (.ref (He.ga K x)) (.type "type") "__init__" with
  | some (.val v) => decide (v = .ref (He.ma K (He.ga K x) "__init__"))
  | _ => false)))))
abbrev dfN (x : Str) (st : Stmt) : He.DefD := ⟨(x, none), x, x, defArgs st, defBody st, defScope st, [], []⟩
abbrev dfI (x q : Str) (st : Stmt) : He.DefD := ⟨(x, some "__init__"), "__init__", q, defArgs st, defBody st, defScope st, [], []⟩
section
variable {K : PySem.W.Frag} {h : Heap} {mg : Str → Option Value}
theorem iniB_ok {B initId : String} (c : iniB B initId K = true) : PySem.W.findCls K (.type B) (.type "type") "__init__" = some (.val (.builtin initId)) := by
  unfold iniB at c
  split at c
  · rename_i v e
    rw [e, of_decide_eq_true c]
  · cases c
theorem clB_ok {x q field fam : Str} {B newId : String} {st : Stmt} {tl : List Value} (X : K.In h) (G : h.Ns mainGlobals mg) (F : Fit newId tl) (hBt : tl.contains (.type B) = true) (hOb : tl.contains (.type "object") = true) (M : MethO K)
    (c : clB x fam field tl newId K = true) (D : ∃ fd, FunD K "__init__" q (defArgs st) (defBody st) (defScope st) [] [] (He.ma K (He.ga K x) "__init__") fd) :
    Cl K mg x q field B st (He.ga K x) ∧ Look K (He.ga K x) (.ref (He.ga K fam) :: tl) ∧ ExcC K (He.ga K x) := by
  obtain ⟨c1, c⟩ := He.ba c
  obtain ⟨c2, c⟩ := He.ba c
  obtain ⟨c3, c4⟩ := He.ba c
  obtain ⟨e1, c3⟩ := He.ba c3
  obtain ⟨e2, c3⟩ := He.ba c3
  obtain ⟨e3, c3⟩ := He.ba c3
  obtain ⟨e4, c3⟩ := He.ba c3
  obtain ⟨e5, c3⟩ := He.ba c3
  obtain ⟨e6, c3⟩ := He.ba c3
  obtain ⟨e7, c3⟩ := He.ba c3
  obtain ⟨e8, c3⟩ := He.ba c3
  obtain ⟨e9, e10⟩ := He.ba c3
  obtain ⟨qn, N, bs, sn, sub, ab, col, dd, m0, m1, m2, m3, m5, xL⟩ := xcB_ok c2
  obtain ⟨fd, DF⟩ := D
  obtain ⟨oc, od, dV, kV, doc, pm, an, cdv, ct, osl, rfl, lk, hcd, hD, _⟩ := DF.ex
  rcases hD with ⟨_, rfl⟩ | ⟨z, _⟩
  · exact cl_mk X G F hBt hOb M (He.eqO_ok c1) xL (He.eqO_ok e1) (of_decide_eq_true e2) (of_decide_eq_true e3) e4 (He.eqO_ok e5) (of_decide_eq_true e6) lk hcd DF.kp (He.eqO_ok e7) (He.eqO_ok e8) e9 (He.eqO_ok e10) (He.eqO_ok c4)
  · exact absurd rfl z
theorem fmB_ok {x q : Str} {B newId : String} {st : Stmt} {tl : List Value} (X : K.In h) (G : h.Ns mainGlobals mg) (F : Fit newId tl) (hBt : tl.contains (.type B) = true) (hOb : tl.contains (.type "object") = true) (M : MethO K)
    (c : fmB x tl newId K = true) (D : ∃ fd, FunD K "__init__" q (defArgs st) (defBody st) (defScope st) [] [] (He.ma K (He.ga K x) "__init__") fd) :
    Fam K mg x q B st (He.ga K x) (He.ma K (He.ga K x) "__init__") ∧ Look K (He.ga K x) tl ∧ ExcC K (He.ga K x) := by
  obtain ⟨c1, c⟩ := He.ba c
  obtain ⟨c2, c⟩ := He.ba c
  obtain ⟨c3, c⟩ := He.ba c
  obtain ⟨s1, c⟩ := He.ba c
  obtain ⟨s2, s3⟩ := He.ba c
  obtain ⟨e1, c3⟩ := He.ba c3
  obtain ⟨e2, c3⟩ := He.ba c3
  obtain ⟨e3, c3⟩ := He.ba c3
  obtain ⟨e4, c3⟩ := He.ba c3
  obtain ⟨e5, c3⟩ := He.ba c3
  obtain ⟨e6, c3⟩ := He.ba c3
  obtain ⟨e7, c3⟩ := He.ba c3
  obtain ⟨e8, c3⟩ := He.ba c3
  obtain ⟨e9, e10⟩ := He.ba c3
  obtain ⟨qn, N, bs, sn, sub, ab, col, dd, m0, m1, m2, m3, m5, xL⟩ := xcB_ok c2
  obtain ⟨fd, DF⟩ := D
  obtain ⟨oc, od, dV, kV, doc, pm, an, cdv, ct, osl, rfl, lk, hcd, hD, _⟩ := DF.ex
  have at_ : PySem.W.findCls K (.ref (He.ga K x)) (.type "type") "__init__" = some (.val (.ref (He.ma K (He.ga K x) "__init__"))) := by
    split at s3
    · rename_i v e
      rw [e, of_decide_eq_true s3]
    · cases s3
  rcases hD with ⟨_, rfl⟩ | ⟨z, _⟩
  · exact fam_mk X G F hBt hOb M (He.eqO_ok c1) xL (He.eqO_ok e1) (of_decide_eq_true e2) (of_decide_eq_true e3) e4 (He.eqO_ok e5) (of_decide_eq_true e6) lk hcd DF.kp (He.eqO_ok e7) (He.eqO_ok e8) e9 (He.eqO_ok e10) (He.eqO_ok s1) s2 at_
  · exact absurd rfl z
end
theorem typ_of_cl {x fam field : Str} {tl : List Value} {newId : String} {K : PySem.W.Frag} (c : clB x fam field tl newId K = true) : PySem.W.typeIn K (.ref (He.ga K x)) = some (.type "type") := by
  obtain ⟨_, c⟩ := He.ba c
  obtain ⟨_, c⟩ := He.ba c
  obtain ⟨c3, _⟩ := He.ba c
  obtain ⟨_, c3⟩ := He.ba c3
  obtain ⟨_, c3⟩ := He.ba c3
  obtain ⟨e3, _⟩ := He.ba c3
  exact of_decide_eq_true e3
/-- what the head finds of a def with keyword-only defaults -/
theorem atDOf {K : PySem.W.Frag} {h : Heap} {mg : Str → Option Value} {x : Str} {st : Stmt} {kws : List (Str × V)} (X : K.In h) (G : h.Ns mainGlobals mg) (g : (He.Fa.glo x).ok K = true)
    (F : ∃ fd, FunD K x x (defArgs st) (defBody st) (defScope st) [] kws (He.ga K x) fd) : AtD K mg x st kws :=
  let ⟨fd, F⟩ := F
  ⟨_, fd, F, He.glo_ok X G g⟩
end Pw

/-! What the head finds of a class's methods. -/
namespace Pw
open PySem PySem.Spec PyProof.Rows L2
section
variable {K : PySem.W.Frag}
theorem atMtOf {x m q : Str} {st : Stmt} (g : (He.Fa.meth x m).ok K = true) (F : ∃ fd, FunD K m q (defArgs st) (defBody st) (defScope st) [] [] (He.ma K (He.ga K x) m) fd) : AtMt K (He.ga K x) m q st :=
  let ⟨fd, F⟩ := F
  ⟨_, fd, funOf F, He.meth_ok g⟩
theorem iniOf {x q : Str} {st : Stmt} (F : ∃ fd, FunD K "__init__" q (defArgs st) (defBody st) (defScope st) [] [] (He.ma K (He.ga K x) "__init__") fd) : ∃ fd, Fun K "__init__" q st (He.ma K (He.ga K x) "__init__") fd :=
  let ⟨fd, F⟩ := F
  ⟨fd, funOf F⟩
end
end Pw

namespace W24
open PySem PySem.Spec PyProof.Rows L2 Pw
abbrev dfK (x : Str) (st : Stmt) (kw : List (Str × He.Dv)) : He.DefD := ⟨(x, none), x, x, defArgs st, defBody st, defScope st, [], kw⟩
abbrev dfM (c m q : Str) (st : Stmt) : He.DefD := ⟨(c, some m), m, q, defArgs st, defBody st, defScope st, [], []⟩

def fb : List Fb := ([(He.Fa.free "KeyError").ok, (He.Fa.free "LookupError").ok, (He.Fa.free "ValueError").ok, (He.Fa.free "abs").ok, (He.Fa.free "all").ok, (He.Fa.free "bool").ok, (He.Fa.free "dict").ok, (He.Fa.free "int").ok, (He.Fa.free "isinstance").ok, (He.Fa.free "len").ok, (He.Fa.free "list").ok, (He.Fa.free "max").ok, (He.Fa.free "min").ok, (He.Fa.free "range").ok, (He.Fa.free "str").ok, (He.Fa.free "tuple").ok, (He.Fa.int "MOST_TIME" 9999).ok, (He.Fa.int "MOST_LEVEL" 63).ok, (He.Fa.int "_MOST_NAME" 8).ok, (He.Fa.int "_MOST_HOLD" 99).ok, (He.Fa.int "_MOST_RANK" 3).ok, (He.Fa.glo "_is_number").ok, (He.Fa.glo "_check_number").ok, (He.Fa.glo "is_whole").ok, (He.Fa.glo "is_name").ok, (He.Fa.glo "is_time").ok, (He.Fa.glo "is_one_of").ok, (He.Fa.glo "is_tuple").ok, (He.Fa.glo "check_time").ok, (He.Fa.glo "is_level").ok] : List Fb) ++ ([(He.Fa.glo "is_rule_shape").ok, (He.Fa.glo "is_lock_shape").ok, (He.Fa.glo "is_beyond").ok, (He.Fa.glo "is_at_rest").ok, (He.Fa.glo "_check_rule").ok, (He.Fa.glo "_law_cell_at").ok, (He.Fa.glo "_law_row").ok, (He.Fa.glo "_law_alike").ok, (He.Fa.glo "_law_rule").ok, (He.Fa.glo "_law_beyond").ok, (He.Fa.glo "_law_rests").ok, (He.Fa.glo "_law_model").ok, (He.Fa.glo "_law_right").ok, (He.Fa.glo "_law_new").ok, (He.Fa.glo "_law_refused").ok, (He.Fa.glo "_law_no_worth").ok, (He.Fa.glo "_law_step").ok, (He.Fa.glo "_law_ended").ok, (He.Fa.glo "law").ok, hnB, htB, iniB "ValueError" "ValueError.__init__", iniB "LookupError" "LookupError.__init__", fmB "PanelError" veT "ValueError.__new__", fmB "Barred" leT "LookupError.__new__", clB "NotNow" "Barred" "found" leT "LookupError.__new__", clB "NoWorth" "PanelError" "found" veT "ValueError.__new__", (He.Fa.glo "Absent").ok, (fun K => decide (PySem.W.exmOne K (.ref (He.ga K "NotNow")) (.ref (He.ga K "NotNow")) = some true)), (fun K => decide (PySem.W.exmOne K (.ref (He.ga K "NoWorth")) (.ref (He.ga K "NoWorth")) = some true))] : List Fb) ++ ([(fun K => decide (PySem.W.kitOne K (.ref (He.ga K "NotNow")) (.ref (He.ga K "Barred")) = some true)), (fun K => decide (PySem.W.kitOne K (.ref (He.ga K "NotNow")) (.ref (He.ga K "Absent")) = some false)), (fun K => decide (PySem.W.kitOne K (.ref (He.ga K "NotNow")) (.ref (He.ga K "PanelError")) = some false)), (He.Fa.glo "Watch").ok, (He.Fa.cls "Watch").ok, (He.Fa.mkr "Watch").ok, (He.Fa.noat "Watch" "_rule").ok, (He.Fa.noat "Watch" "_events").ok, (He.Fa.noat "Watch" "_since").ok, (He.Fa.noat "Watch" "_worth").ok, (He.Fa.noat "Watch" "_time").ok, (He.Fa.meth "Watch" "hear").ok, (He.Fa.meth "Watch" "go_on").ok, (He.Fa.meth "Watch" "events").ok, (He.Fa.meth "Watch" "state").ok, (He.Fa.meth "Watch" "__len__").ok, (He.Fa.meth "Watch" "__eq__").ok, (He.Fa.meth "Watch" "_stands").ok, (He.Fa.meth "Watch" "_wait_until").ok, (He.Fa.meth "Watch" "_take").ok, (He.Fa.meth "Watch" "_rest").ok, (fun K => He.eqO (PySem.W.findIn K (.ref (He.ga K "Watch")) "__class__") (some (some (.builtin "object.__class__")))), (fun K => decide (PySem.W.mroIn K (He.ga K "Watch") (.type "object") = some true)), (fun K => decide (PySem.W.kitOne K (.ref (He.ga K "Watch")) (.ref (He.ga K "Watch")) = some true)), (fun K => He.eqO (PySem.W.findIn K (.ref (He.ga K "Watch")) "__ne__") (some (some (.builtin "object.__ne__")))), (fun K => PySem.W.notFirst K (He.ga K "Watch") (.ref (He.ga K "Watch")))] : List Fb)
def fn : List He.DefD := ([dfN "_is_number" sIsNumber, dfN "_check_number" sCheckNumber, dfN "is_whole" sIsWhole, dfN "is_name" sIsName, dfN "is_time" sIsTime, dfN "is_one_of" sIsOneOf, dfN "is_tuple" sIsTuple, dfN "check_time" sCheckTime, dfN "is_level" sIsLevel, dfN "is_rule_shape" sIsRuleShape, dfN "is_lock_shape" sIsLockShape, dfN "is_beyond" sIsBeyond, dfN "is_at_rest" sIsAtRest, dfN "_check_rule" sCheckRule, dfN "_law_cell_at" sLawCellAt, dfN "_law_row" sLawRow, dfN "_law_alike" sLawAlike, dfN "_law_rule" sLawRule, dfN "_law_beyond" sLawBeyond, dfN "_law_rests" sLawRests, dfN "_law_model" sLawModel, dfN "_law_right" sLawRight, dfN "_law_new" sLawNew, dfN "_law_refused" sLawRefused, dfN "_law_no_worth" sLawNoWorth, dfN "_law_step" sLawStep, dfN "_law_ended" sLawEnded, dfN "law" sLaw, dfM "PanelError" "__init__" "PanelError.__init__" mPanelError_Init, dfM "Barred" "__init__" "Barred.__init__" mBarred_Init] : List He.DefD) ++ ([dfM "NotNow" "__init__" "NotNow.__init__" mNotNow_Init, dfM "NoWorth" "__init__" "NoWorth.__init__" mNoWorth_Init, dfM "Watch" "__init__" "Watch.__init__" mWatch_Init, dfM "Watch" "hear" "Watch.hear" mWatch_Hear, dfM "Watch" "go_on" "Watch.go_on" mWatch_GoOn, dfM "Watch" "events" "Watch.events" mWatch_Events, dfM "Watch" "state" "Watch.state" mWatch_State, dfM "Watch" "__len__" "Watch.__len__" mWatch_Len, dfM "Watch" "__eq__" "Watch.__eq__" mWatch_Eq, dfM "Watch" "_stands" "Watch._stands" mWatch_Stands, dfM "Watch" "_wait_until" "Watch._wait_until" mWatch_WaitUntil, dfM "Watch" "_take" "Watch._take" mWatch_Take, dfM "Watch" "_rest" "Watch._rest" mWatch_Rest] : List He.DefD)
def loose : List Str := (["_wall", "PanelError", "Absent", "Barred", "NoTime", "NoWorth", "NoNumber", "NoRule", "NotNow", "MOST_TIME", "MOST_LEVEL", "_MOST_NAME", "_is_number", "_check_number", "is_whole", "is_name", "is_time", "is_one_of", "is_tuple", "check_time", "_MOST_HOLD", "_MOST_RANK", "is_level", "is_rule_shape", "is_lock_shape", "is_beyond", "Watch", "is_at_rest", "_check_rule", "_law_cell_at"] : List Str) ++ (["_law_row", "_law_alike", "_law_rule", "_law_beyond", "_law_rests", "_law_model", "_law_right", "_law_new", "_law_refused", "_law_no_worth", "_law_step", "_law_ended"] : List Str)
abbrev R : PySem.W.OpenRow := PySem.W.OpenLaw.row PySem.Challenge.rw_panelwatch_k24_watches_step_by_step
def hk : PySem.W.Hook := hookB 0 fb fn
def ob (s : PySem.W.SharedT) : He.AlD := obsBG 0 fb fn (HandSHeadRun.getT s)
theorem ob_eq (s : PySem.W.SharedT) : ob s = hk.obs s.abs := obsBG_eq (HandSHeadRun.getT_eq s)
theorem facts {P : Program} {w : World} {K : PySem.W.Frag} {h : Heap} {mg : Str → Option Value} {f : Addr} (X : K.In h) (G : h.Ns mainGlobals mg) (hfa : mg ("law" : Str) = some (.ref f)) (c : SaysB fb fn K) :
    ∃ fd : FuncData, (∀ (s : Shared) (v : Value), BindsTo s fd ⟨[v], []⟩ [("_law_script", v)]) ∧ ∀ base : Heap, K.In base → base.Ns mainGlobals mg → FnG P w K mg base CX0 10 f fd ["_law_script"] (spLaw K) := by
  have z_KeyError : PySem.W.nsIn K mainGlobals "KeyError" = some none := He.eqO_ok (c.fact (f := (He.Fa.free "KeyError").ok) 0 rfl)
  have z_LookupError : PySem.W.nsIn K mainGlobals "LookupError" = some none := He.eqO_ok (c.fact (f := (He.Fa.free "LookupError").ok) 1 rfl)
  have z_ValueError : PySem.W.nsIn K mainGlobals "ValueError" = some none := He.eqO_ok (c.fact (f := (He.Fa.free "ValueError").ok) 2 rfl)
  have z_abs : PySem.W.nsIn K mainGlobals "abs" = some none := He.eqO_ok (c.fact (f := (He.Fa.free "abs").ok) 3 rfl)
  have z_all : PySem.W.nsIn K mainGlobals "all" = some none := He.eqO_ok (c.fact (f := (He.Fa.free "all").ok) 4 rfl)
  have z_bool : PySem.W.nsIn K mainGlobals "bool" = some none := He.eqO_ok (c.fact (f := (He.Fa.free "bool").ok) 5 rfl)
  have z_dict : PySem.W.nsIn K mainGlobals "dict" = some none := He.eqO_ok (c.fact (f := (He.Fa.free "dict").ok) 6 rfl)
  have z_int : PySem.W.nsIn K mainGlobals "int" = some none := He.eqO_ok (c.fact (f := (He.Fa.free "int").ok) 7 rfl)
  have z_isinstance : PySem.W.nsIn K mainGlobals "isinstance" = some none := He.eqO_ok (c.fact (f := (He.Fa.free "isinstance").ok) 8 rfl)
  have z_len : PySem.W.nsIn K mainGlobals "len" = some none := He.eqO_ok (c.fact (f := (He.Fa.free "len").ok) 9 rfl)
  have z_list : PySem.W.nsIn K mainGlobals "list" = some none := He.eqO_ok (c.fact (f := (He.Fa.free "list").ok) 10 rfl)
  have z_max : PySem.W.nsIn K mainGlobals "max" = some none := He.eqO_ok (c.fact (f := (He.Fa.free "max").ok) 11 rfl)
  have z_min : PySem.W.nsIn K mainGlobals "min" = some none := He.eqO_ok (c.fact (f := (He.Fa.free "min").ok) 12 rfl)
  have z_range : PySem.W.nsIn K mainGlobals "range" = some none := He.eqO_ok (c.fact (f := (He.Fa.free "range").ok) 13 rfl)
  have z_str : PySem.W.nsIn K mainGlobals "str" = some none := He.eqO_ok (c.fact (f := (He.Fa.free "str").ok) 14 rfl)
  have z_tuple : PySem.W.nsIn K mainGlobals "tuple" = some none := He.eqO_ok (c.fact (f := (He.Fa.free "tuple").ok) 15 rfl)
  have T : Txt mg :=
    {KeyError := PySem.W.mg_none_of X G z_KeyError, LookupError := PySem.W.mg_none_of X G z_LookupError, ValueError := PySem.W.mg_none_of X G z_ValueError, abs := PySem.W.mg_none_of X G z_abs, all := PySem.W.mg_none_of X G z_all, bool := PySem.W.mg_none_of X G z_bool, dict := PySem.W.mg_none_of X G z_dict, int := PySem.W.mg_none_of X G z_int, isinstance := PySem.W.mg_none_of X G z_isinstance, len := PySem.W.mg_none_of X G z_len, list := PySem.W.mg_none_of X G z_list, max := PySem.W.mg_none_of X G z_max, min := PySem.W.mg_none_of X G z_min, range := PySem.W.mg_none_of X G z_range, str := PySem.W.mg_none_of X G z_str, tuple := PySem.W.mg_none_of X G z_tuple, cMOST_TIME := He.int_ok X G (c.fact (f := (He.Fa.int "MOST_TIME" 9999).ok) 16 rfl), cMOST_LEVEL := He.int_ok X G (c.fact (f := (He.Fa.int "MOST_LEVEL" 63).ok) 17 rfl), c_MOST_NAME := He.int_ok X G (c.fact (f := (He.Fa.int "_MOST_NAME" 8).ok) 18 rfl), c_MOST_HOLD := He.int_ok X G (c.fact (f := (He.Fa.int "_MOST_HOLD" 99).ok) 19 rfl), c_MOST_RANK := He.int_ok X G (c.fact (f := (He.Fa.int "_MOST_RANK" 3).ok) 20 rfl)}
  have aNumber : At K mg "_is_number" sIsNumber := atOf X G (c.fact (f := (He.Fa.glo "_is_number").ok) 21 rfl) (c.def_ (d := dfN "_is_number" sIsNumber) 0 rfl)
  have aCheck : At K mg "_check_number" sCheckNumber := atOf X G (c.fact (f := (He.Fa.glo "_check_number").ok) 22 rfl) (c.def_ (d := dfN "_check_number" sCheckNumber) 1 rfl)
  have aWhole : At K mg "is_whole" sIsWhole := atOf X G (c.fact (f := (He.Fa.glo "is_whole").ok) 23 rfl) (c.def_ (d := dfN "is_whole" sIsWhole) 2 rfl)
  have aName : At K mg "is_name" sIsName := atOf X G (c.fact (f := (He.Fa.glo "is_name").ok) 24 rfl) (c.def_ (d := dfN "is_name" sIsName) 3 rfl)
  have aTime : At K mg "is_time" sIsTime := atOf X G (c.fact (f := (He.Fa.glo "is_time").ok) 25 rfl) (c.def_ (d := dfN "is_time" sIsTime) 4 rfl)
  have aOneOf : At K mg "is_one_of" sIsOneOf := atOf X G (c.fact (f := (He.Fa.glo "is_one_of").ok) 26 rfl) (c.def_ (d := dfN "is_one_of" sIsOneOf) 5 rfl)
  have aTuple : At K mg "is_tuple" sIsTuple := atOf X G (c.fact (f := (He.Fa.glo "is_tuple").ok) 27 rfl) (c.def_ (d := dfN "is_tuple" sIsTuple) 6 rfl)
  have aCTime : At K mg "check_time" sCheckTime := atOf X G (c.fact (f := (He.Fa.glo "check_time").ok) 28 rfl) (c.def_ (d := dfN "check_time" sCheckTime) 7 rfl)
  have aLevel : At K mg "is_level" sIsLevel := atOf X G (c.fact (f := (He.Fa.glo "is_level").ok) 29 rfl) (c.def_ (d := dfN "is_level" sIsLevel) 8 rfl)
  have aRuleS : At K mg "is_rule_shape" sIsRuleShape := atOf X G (c.fact (f := (He.Fa.glo "is_rule_shape").ok) 30 rfl) (c.def_ (d := dfN "is_rule_shape" sIsRuleShape) 9 rfl)
  have aLock : At K mg "is_lock_shape" sIsLockShape := atOf X G (c.fact (f := (He.Fa.glo "is_lock_shape").ok) 31 rfl) (c.def_ (d := dfN "is_lock_shape" sIsLockShape) 10 rfl)
  have aBey : At K mg "is_beyond" sIsBeyond := atOf X G (c.fact (f := (He.Fa.glo "is_beyond").ok) 32 rfl) (c.def_ (d := dfN "is_beyond" sIsBeyond) 11 rfl)
  have aRst : At K mg "is_at_rest" sIsAtRest := atOf X G (c.fact (f := (He.Fa.glo "is_at_rest").ok) 33 rfl) (c.def_ (d := dfN "is_at_rest" sIsAtRest) 12 rfl)
  have aCRule : At K mg "_check_rule" sCheckRule := atOf X G (c.fact (f := (He.Fa.glo "_check_rule").ok) 34 rfl) (c.def_ (d := dfN "_check_rule" sCheckRule) 13 rfl)
  have aCell : At K mg "_law_cell_at" sLawCellAt := atOf X G (c.fact (f := (He.Fa.glo "_law_cell_at").ok) 35 rfl) (c.def_ (d := dfN "_law_cell_at" sLawCellAt) 14 rfl)
  have aLRow : At K mg "_law_row" sLawRow := atOf X G (c.fact (f := (He.Fa.glo "_law_row").ok) 36 rfl) (c.def_ (d := dfN "_law_row" sLawRow) 15 rfl)
  have aAlike : At K mg "_law_alike" sLawAlike := atOf X G (c.fact (f := (He.Fa.glo "_law_alike").ok) 37 rfl) (c.def_ (d := dfN "_law_alike" sLawAlike) 16 rfl)
  have aLRule : At K mg "_law_rule" sLawRule := atOf X G (c.fact (f := (He.Fa.glo "_law_rule").ok) 38 rfl) (c.def_ (d := dfN "_law_rule" sLawRule) 17 rfl)
  have aBeyond : At K mg "_law_beyond" sLawBeyond := atOf X G (c.fact (f := (He.Fa.glo "_law_beyond").ok) 39 rfl) (c.def_ (d := dfN "_law_beyond" sLawBeyond) 18 rfl)
  have aRests : At K mg "_law_rests" sLawRests := atOf X G (c.fact (f := (He.Fa.glo "_law_rests").ok) 40 rfl) (c.def_ (d := dfN "_law_rests" sLawRests) 19 rfl)
  have aModel : At K mg "_law_model" sLawModel := atOf X G (c.fact (f := (He.Fa.glo "_law_model").ok) 41 rfl) (c.def_ (d := dfN "_law_model" sLawModel) 20 rfl)
  have aRight : At K mg "_law_right" sLawRight := atOf X G (c.fact (f := (He.Fa.glo "_law_right").ok) 42 rfl) (c.def_ (d := dfN "_law_right" sLawRight) 21 rfl)
  have aNew : At K mg "_law_new" sLawNew := atOf X G (c.fact (f := (He.Fa.glo "_law_new").ok) 43 rfl) (c.def_ (d := dfN "_law_new" sLawNew) 22 rfl)
  have aRefused : At K mg "_law_refused" sLawRefused := atOf X G (c.fact (f := (He.Fa.glo "_law_refused").ok) 44 rfl) (c.def_ (d := dfN "_law_refused" sLawRefused) 23 rfl)
  have aNoW : At K mg "_law_no_worth" sLawNoWorth := atOf X G (c.fact (f := (He.Fa.glo "_law_no_worth").ok) 45 rfl) (c.def_ (d := dfN "_law_no_worth" sLawNoWorth) 24 rfl)
  have aStep : At K mg "_law_step" sLawStep := atOf X G (c.fact (f := (He.Fa.glo "_law_step").ok) 46 rfl) (c.def_ (d := dfN "_law_step" sLawStep) 25 rfl)
  have aEnded : At K mg "_law_ended" sLawEnded := atOf X G (c.fact (f := (He.Fa.glo "_law_ended").ok) 47 rfl) (c.def_ (d := dfN "_law_ended" sLawEnded) 26 rfl)
  have aLaw : At K mg "law" sLaw := atOf X G (c.fact (f := (He.Fa.glo "law").ok) 48 rfl) (c.def_ (d := dfN "law" sLaw) 27 rfl)
  have MO : MethO K := ⟨He.eqO_ok (c.fact (f := hnB) 49 rfl), of_decide_eq_true (c.fact (f := htB) 50 rfl)⟩
  have E1 := clB_ok (B := "LookupError") (q := "NotNow.__init__") (st := mNotNow_Init) X G fitL (by decide +kernel) (by decide +kernel) MO (c.fact (f := clB "NotNow" "Barred" "found" leT "LookupError.__new__") 55 rfl) (c.def_ (d := dfM "NotNow" "__init__" "NotNow.__init__" mNotNow_Init) 30 rfl)
  have E2 := clB_ok (B := "ValueError") (q := "NoWorth.__init__") (st := mNoWorth_Init) X G fitV (by decide +kernel) (by decide +kernel) MO (c.fact (f := clB "NoWorth" "PanelError" "found" veT "ValueError.__new__") 56 rfl) (c.def_ (d := dfM "NoWorth" "__init__" "NoWorth.__init__" mNoWorth_Init) 31 rfl)
  have E3 := fmB_ok (B := "LookupError") (q := "Barred.__init__") (st := mBarred_Init) X G fitL (by decide +kernel) (by decide +kernel) MO (c.fact (f := fmB "Barred" leT "LookupError.__new__") 54 rfl) (c.def_ (d := dfM "Barred" "__init__" "Barred.__init__" mBarred_Init) 29 rfl)
  have E4 := fmB_ok (B := "ValueError") (q := "PanelError.__init__") (st := mPanelError_Init) X G fitV (by decide +kernel) (by decide +kernel) MO (c.fact (f := fmB "PanelError" veT "ValueError.__new__") 53 rfl) (c.def_ (d := dfM "PanelError" "__init__" "PanelError.__init__" mPanelError_Init) 28 rfl)
  have ME : ErrT K mg (He.ga K "NotNow") (He.ga K "Barred") (He.ma K (He.ga K "Barred") "__init__") (He.ga K "NoWorth") (He.ga K "PanelError") (He.ma K (He.ga K "PanelError") "__init__") (He.ga K "Absent") := ⟨⟨nmL, PySem.W.mg_none_of X G z_LookupError, iniB_ok (c.fact (f := iniB "LookupError" "LookupError.__init__") 52 rfl)⟩, ⟨nmV, PySem.W.mg_none_of X G z_ValueError, iniB_ok (c.fact (f := iniB "ValueError" "ValueError.__init__") 51 rfl)⟩, E3.1, E4.1, He.glo_ok X G (c.fact (f := (He.Fa.glo "Absent").ok) 57 rfl), E1.1, E2.1, E1.2.2, E2.2.2, typ_of_cl (c.fact (f := clB "NotNow" "Barred" "found" leT "LookupError.__new__") 55 rfl), typ_of_cl (c.fact (f := clB "NoWorth" "PanelError" "found" veT "ValueError.__new__") 56 rfl), of_decide_eq_true (c.fact (f := (fun K => decide (PySem.W.exmOne K (.ref (He.ga K "NotNow")) (.ref (He.ga K "NotNow")) = some true))) 58 rfl), of_decide_eq_true (c.fact (f := (fun K => decide (PySem.W.exmOne K (.ref (He.ga K "NoWorth")) (.ref (He.ga K "NoWorth")) = some true))) 59 rfl), of_decide_eq_true (c.fact (f := (fun K => decide (PySem.W.kitOne K (.ref (He.ga K "NotNow")) (.ref (He.ga K "Barred")) = some true))) 60 rfl), of_decide_eq_true (c.fact (f := (fun K => decide (PySem.W.kitOne K (.ref (He.ga K "NotNow")) (.ref (He.ga K "Absent")) = some false))) 61 rfl), of_decide_eq_true (c.fact (f := (fun K => decide (PySem.W.kitOne K (.ref (He.ga K "NotNow")) (.ref (He.ga K "PanelError")) = some false))) 62 rfl)⟩
  have hC : mg "Watch" = some (.ref (He.ga K "Watch")) := He.glo_ok X G (c.fact (f := (He.Fa.glo "Watch").ok) 63 rfl)
  have W : WC K (He.ga K "Watch") := ⟨He.cls_ok (c.fact (f := (He.Fa.cls "Watch").ok) 64 rfl), He.noat_ok (c.fact (f := (He.Fa.noat "Watch" "_rule").ok) 66 rfl), He.noat_ok (c.fact (f := (He.Fa.noat "Watch" "_events").ok) 67 rfl), He.noat_ok (c.fact (f := (He.Fa.noat "Watch" "_since").ok) 68 rfl), He.noat_ok (c.fact (f := (He.Fa.noat "Watch" "_worth").ok) 69 rfl), He.noat_ok (c.fact (f := (He.Fa.noat "Watch" "_time").ok) 70 rfl)⟩
  have Wq : WQ K (He.ga K "Watch") := ⟨He.eqO_ok (c.fact (f := (fun K => He.eqO (PySem.W.findIn K (.ref (He.ga K "Watch")) "__class__") (some (some (.builtin "object.__class__"))))) 81 rfl), He.eqO_ok (c.fact (f := hnB) 49 rfl), of_decide_eq_true (c.fact (f := htB) 50 rfl), of_decide_eq_true (c.fact (f := (fun K => decide (PySem.W.mroIn K (He.ga K "Watch") (.type "object") = some true))) 82 rfl), of_decide_eq_true (c.fact (f := (fun K => decide (PySem.W.kitOne K (.ref (He.ga K "Watch")) (.ref (He.ga K "Watch")) = some true))) 83 rfl), He.eqO_ok (c.fact (f := (fun K => He.eqO (PySem.W.findIn K (.ref (He.ga K "Watch")) "__ne__") (some (some (.builtin "object.__ne__"))))) 84 rfl), (c.fact (f := (fun K => PySem.W.notFirst K (He.ga K "Watch") (.ref (He.ga K "Watch")))) 85 rfl)⟩
  obtain ⟨fdi, FI⟩ := iniOf (x := "Watch") (q := "Watch.__init__") (st := mWatch_Init) (c.def_ (d := dfM "Watch" "__init__" "Watch.__init__" mWatch_Init) 32 rfl)
  have mHear : AtMt K (He.ga K "Watch") "hear" "Watch.hear" mWatch_Hear := atMtOf (c.fact (f := (He.Fa.meth "Watch" "hear").ok) 71 rfl) (c.def_ (d := dfM "Watch" "hear" "Watch.hear" mWatch_Hear) 33 rfl)
  have mGo : AtMt K (He.ga K "Watch") "go_on" "Watch.go_on" mWatch_GoOn := atMtOf (c.fact (f := (He.Fa.meth "Watch" "go_on").ok) 72 rfl) (c.def_ (d := dfM "Watch" "go_on" "Watch.go_on" mWatch_GoOn) 34 rfl)
  have mEvs : AtMt K (He.ga K "Watch") "events" "Watch.events" mWatch_Events := atMtOf (c.fact (f := (He.Fa.meth "Watch" "events").ok) 73 rfl) (c.def_ (d := dfM "Watch" "events" "Watch.events" mWatch_Events) 35 rfl)
  have mSt : AtMt K (He.ga K "Watch") "state" "Watch.state" mWatch_State := atMtOf (c.fact (f := (He.Fa.meth "Watch" "state").ok) 74 rfl) (c.def_ (d := dfM "Watch" "state" "Watch.state" mWatch_State) 36 rfl)
  have mLen : AtMt K (He.ga K "Watch") "__len__" "Watch.__len__" mWatch_Len := atMtOf (c.fact (f := (He.Fa.meth "Watch" "__len__").ok) 75 rfl) (c.def_ (d := dfM "Watch" "__len__" "Watch.__len__" mWatch_Len) 37 rfl)
  have mEq : AtMt K (He.ga K "Watch") "__eq__" "Watch.__eq__" mWatch_Eq := atMtOf (c.fact (f := (He.Fa.meth "Watch" "__eq__").ok) 76 rfl) (c.def_ (d := dfM "Watch" "__eq__" "Watch.__eq__" mWatch_Eq) 38 rfl)
  have mStands : AtMt K (He.ga K "Watch") "_stands" "Watch._stands" mWatch_Stands := atMtOf (c.fact (f := (He.Fa.meth "Watch" "_stands").ok) 77 rfl) (c.def_ (d := dfM "Watch" "_stands" "Watch._stands" mWatch_Stands) 39 rfl)
  have mWait : AtMt K (He.ga K "Watch") "_wait_until" "Watch._wait_until" mWatch_WaitUntil := atMtOf (c.fact (f := (He.Fa.meth "Watch" "_wait_until").ok) 78 rfl) (c.def_ (d := dfM "Watch" "_wait_until" "Watch._wait_until" mWatch_WaitUntil) 40 rfl)
  have mTake : AtMt K (He.ga K "Watch") "_take" "Watch._take" mWatch_Take := atMtOf (c.fact (f := (He.Fa.meth "Watch" "_take").ok) 79 rfl) (c.def_ (d := dfM "Watch" "_take" "Watch._take" mWatch_Take) 41 rfl)
  have mRest : AtMt K (He.ga K "Watch") "_rest" "Watch._rest" mWatch_Rest := atMtOf (c.fact (f := (He.Fa.meth "Watch" "_rest").ok) 80 rfl) (c.def_ (d := dfM "Watch" "_rest" "Watch._rest" mWatch_Rest) 42 rfl)
  exact fin hfa T W Wq hC (He.mkr_ok (c.fact (f := (He.Fa.mkr "Watch").ok) 65 rfl)) FI ME mHear mGo mEvs mSt mLen mEq mStands mWait mTake mRest aNumber aCheck aWhole aName aTime aOneOf aTuple aCTime aLevel aRuleS aLock aBey aRst aCRule aCell aLRow aAlike aLRule aBeyond aRests aModel aRight aNew aRefused aNoW aStep aEnded aLaw
end W24

set_option maxHeartbeats 0
namespace W24
open PySem PySem.Spec PyProof.Rows L2 Pw
theorem run (w : World) : HandSHeadRun.RunEq R (PySem.W.view R.prog [48]) hk ob 30000 loose w := by
  intro os
  kernel_rfl
end W24
open PySem PySem.W PySem.Calls PyProof.Rows
theorem PySem.Challenge.cw_panelwatch_k24_watches_step_by_step_holds : PySem.Challenge.rw_panelwatch_k24_watches_step_by_step.Holds := by
  w_on; o_law
  refine HandSHeadRun.head_any (r := OpenLaw.row PySem.Challenge.rw_panelwatch_k24_watches_step_by_step) (q := view (OpenLaw.row PySem.Challenge.rw_panelwatch_k24_watches_step_by_step).prog [48]) (H := W24.hk) (ob := W24.ob) (M := 30000) (loose := W24.loose)
    (d := HandSHeadRun.topDef (OpenLaw.row PySem.Challenge.rw_panelwatch_k24_watches_step_by_step).prog 48) (kwd := []) W24.ob_eq
    (by kernel_rfl) (fun s => by kernel_rfl) W24.run (by kernel_rfl) (by kernel_rfl) (by kernel_rfl) (by rfl) (by first | assumption | decide +kernel) (by decide +kernel) ⟨rfl, rfl, rfl, rfl, rfl, by decide +kernel⟩ ?hw ?hc
  case hw => w_witness2
  case hc =>
    refine Pw.walkE (l := PySem.Challenge.rw_panelwatch_k24_watches_step_by_step) (n := 63) (k := 10) (x := "_law_script") (CX := L2.CX0) rfl (by decide) (by kernel_rfl) ⟨rfl, by decide, by decide⟩ ?F (fun _ _ _ _ z => z)
    intro w mg fa h Y G hmg0
    obtain ⟨K, KX, c⟩ := Y
    have hmg : mg ("law" : PySem.Str) = some (.ref fa) := by
      have e : (HandSHeadRun.topDef (OpenLaw.row PySem.Challenge.rw_panelwatch_k24_watches_step_by_step).prog 48).name = ("law" : PySem.Str) := by kernel_rfl
      rw [← e]
      exact hmg0
    obtain ⟨fd, hb, hF⟩ := W24.facts (P := (PySem.Challenge.rw_panelwatch_k24_watches_step_by_step).prog) (w := w) KX G hmg c
    exact ⟨K, fd, W24.spLaw K, KX, hb, fun H a ns hl _ hS => ⟨a, ns, rfl, hS, hl, fun _ => rfl⟩, hF⟩

