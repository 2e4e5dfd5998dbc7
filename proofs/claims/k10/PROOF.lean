import PyProof.Rows.All
import Wide.All
import OpenK.AllK
import Wide.FinOn
import HandS.ForSpec
import HandS.Comp
import HandS.Dict
import HandS.Iter
import HandS.Text
import HandS.IsInst
import HandS.Wide
import HandS.ExcInit
import HandS.ExcIs
import PyProof.ExcStrAll.ValueError
import PyProof.ReprRoads
import PyProof.CallFns
import HandS.Walk
import HandS.Defaults
import HandS.Zip
import HandS.DictTup
import HandS.SortInts
import HandS.IterVal
import HandS.SetBool
import HandS.SetKeys
import HandS.ForMost
import HandS.MakeKwOnly
import PySem.Challenge.RW_panelwatch_k10_signs_and_their_letters
import HandS.Codes
import HandS.DictComp
import PyProof.ExcBaseAll.LookupError
import PyProof.ExcBaseAll.ValueError
import KE.KExcInit
import HandS.MakeKw
import HandS.ExcField
import HandS.ExcValue
import HandS.TryMany
import HandS.Head0
import HandS.Head1
import HandS.Head2
import HandS.HeadEnd
import HandS.HeadHook1
import HandS.HeadHook2
import HandS.CallSlots
import HandS.WordsExc
import HandS.Star
import HandS.Rev
import HandS.Set
import PyProof.Rows.SortShellAny
import HandS.TupAny
import HandS.TupMul
import HandS.Style
import HandS.Conv
import HandS.ListItems
import KE.KDictList
import PyProof.StrLaws
set_option Elab.async false
set_option linter.all false
set_option maxRecDepth 100000
set_option maxHeartbeats 4000000
/-! The layer of defs that are called where no display is under way (nothing is being shown around them). -/
namespace Pw
open PySem PySem.Spec PyProof.Rows L2

/-- a def's promise where nothing is being shown around its call -/
structure FnG (P : Program) (w : World) (K : PySem.W.Frag) (mg : Str → Option Value)
    (base : Heap) (CX : CXT) (k : Nat) (f : Addr) (fd : FuncData) (ps : List Str) (sp : Sp) : Prop where
  len : ∀ vs H Q E, sp vs H Q E →
    vs.length = ps.length
  run : ∀ (A : Around) (out : List Env) (s : Shared) (H : Hp) (ar : Args) (us : List Value)
    (vs : List V) (Q : VK) (E : XK), A.guards = some [] → Room k A →
    Env0 P w K mg base A out s H → BindsTo s fd ar (ps.zip us) → Vals vs us → sp vs H Q E →
    codeAny (model P w) A (.call (.ref f) ar) (CR CX out P w H s Q E) s

section
variable {P : Program} {w : World} {K : PySem.W.Frag} {mg : Str → Option Value} {base : Heap}

theorem FnG.of {CX : CXT} {k : Nat} {f : Addr} {fd : FuncData} {ps : List Str} {sp : Sp}
    (F : FnOk P w K mg base CX k f fd ps sp) : FnG P w K mg base CX k f fd ps sp :=
  ⟨F.len, fun A out s H ar us vs Q E _ hr e0 hb r hs => F.run A out s H ar us vs Q E hr e0 hb r hs⟩

theorem fnG_of {CX : CXT} {k : Nat} {f : Addr} {name qual : Str} {params : Arguments}
    {body : List Stmt} {scope : Scope} {dV kV doc pm cdv ct oc : Value} {an od : Option Addr}
    {osl : Array (Option Value)} {N ps : List Str} {sp : Sp}
    (lk : K.lookup f = some ⟨oc, od, .func (PySem.W.fnOf name qual params body scope dV kV doc pm an cdv ct), osl⟩)
    (hcd : PySem.W.codeIn K cdv qual = true) (S : FnScope N ps scope)
    (len : ∀ vs H Q E, sp vs H Q E → vs.length = ps.length)
    (hb0 : ∀ (A : Around) (out : List Env) (s : Shared) (H : Hp) (vs : List V) (Q : VK) (E : XK),
      A.guards = some [] → Room k (A.deeper (envOfC qual scope s.heap.objs.size f cdv)) → sp vs H Q E →
      ∃ t, PSs (cxOf CX P w K mg base N qual scope f cdv A out s H E) body t ∧
        t { nx := fun _ H' => Q .non H', rt := Q } (start N vs) H) :
    FnG P w K mg base CX (k + 1) f (PySem.W.fnOf name qual params body scope dV kV doc pm an cdv ct) ps sp := by
  refine ⟨len, fun A out s H ar us vs Q E gd hr e0 hbn r hs0 => ?_⟩
  have hlen := len _ _ _ _ hs0
  have old : ∀ b o, base.get? b = some o → s.heap.get? b = some o := fun b o e => (e0.bs b o e).1
  have KX : K.In s.heap := e0.mod.kin.keeps old
  have lim : s.heap.NoLimit := e0.mod.nolimit.keeps old
  have kinds : ∀ y ∈ ps.zip us, scope.names.lookup y.1 = some .local ∨
      (scope.names.lookup y.1 = some .cell ∧
        ((cellsFrom (s.heap.objs.size + 1) scope.names []).lookup y.1).isSome = true) := by
    intro ⟨n, v⟩ hy
    rcases S.par n (List.of_mem_zip hy).1 with z | z
    · exact .inl z
    · exact .inr ⟨z, PySem.W.cellsFrom_some _ _ _ (.inl z)⟩
  refine codeAny_call_function hr.depth (KX _ _ lk) rfl S.co S.gen rfl
    (PySem.W.codeRec_of KX hcd) (hbn _ _ _ _ ?_)
  refine wpAny_newFunctionEnv_cells S.kind kinds fun env he s1 x => ?_
  subst he
  refine ⟨lim.keeps x.toInCall.keep, codeAny_func ?_⟩
  obtain ⟨t, T, q0⟩ := hb0 A out s H vs Q E gd (hr.deeper _) hs0
  have J0 : Inv (cxOf CX P w K mg base N qual scope f cdv A out s H E) [] (start N vs) H s1 :=
    inv_start S hr.hd e0 hlen r x
  refine wpAny_mono (T.run [] s1 (start N vs) H _ J0 q0) (fun fl s' hs => ?_) fun e s' hs => hs
  have fin : ∀ {σ' : L2.St} {H' : Hp} {v : V} {u : Value},
      Inv (cxOf CX P w K mg base N qual scope f cdv A out s H E) [] σ' H' s' →
      RelV v u → Q v H' → CE out P w H s Q u s' :=
    fun {σ' H' v u} J rv q => ⟨v, H', J.os, J.bare, J.base, J.hok, rv, q⟩
  match fl, hs with
  | .ret u, ⟨v, σ', H', J, rv, q⟩ => exact fin J rv q
  | .next, ⟨σ', H', J, q⟩ => exact fin (v := V.non) (u := Value.none) J rfl q
  | .brk, ⟨_, _, _, q⟩ => exact False.elim q
  | .cont, ⟨_, _, _, q⟩ => exact False.elim q

/-- the rule for a def, where nothing is being shown around it -/
theorem okG {x qual : Str} {st : Stmt} {f : Addr} {fd : FuncData} {N ps : List Str} {k : Nat} {sp : Sp}
    (F : Fun K x qual st f fd) (S : FnScope N ps (defScope st))
    (len : ∀ vs H Q E, sp vs H Q E → vs.length = ps.length)
    (hb0 : ∀ (cdv : Value) (A : Around) (out : List Env) (s : Shared) (H : Hp) (vs : List V) (Q : VK) (E : XK),
      A.guards = some [] →
      Room k (A.deeper (envOfC qual (defScope st) s.heap.objs.size f cdv)) → sp vs H Q E →
      ∃ t, PSs (cxOf CX0 P w K mg base N qual (defScope st) f cdv A out s H E).nox (defBody st) t ∧
        t { nx := fun _ H' => Q .non H', rt := Q } (start N vs) H) :
    FnG P w K mg base CX0 (k + 1) f fd ps sp := by
  obtain ⟨oc, od, kV, doc, pm, an, cdv, ct, osl, rfl, lk, hcd⟩ := F.ex
  refine fnG_of lk hcd S len fun A out s H vs Q E gd hr hs0 => ?_
  obtain ⟨t, h, q⟩ := hb0 cdv A out s H vs Q E gd hr hs0
  exact ⟨t, h.nox, q⟩
end

section
variable {X : Cx} {CX : CXT} {k : Nat} {f : Addr} {fd : FuncData} {ps : List Str} {sp : Sp}
  {dvs : List V} {ds : List Value} {E : XK} {x : Str} {p pos : Pos} {e : Expr} {es : List Expr} {t : TA}

theorem run_fnG {pins : List (Addr × Obj)} {σ : L2.St} {H : Hp} {s : Shared} {Q : VK} {us : List Value} {vs : List V}
    (F : FnG X.prog X.w X.K X.mg X.base CX k f fd ps sp) (gd : X.A.guards = some []) (hr : Room k X.A)
    (hb : Binds X.K fd ps ds) (hd : Vals dvs ds) (hx : Passes CX X E)
    (I : Inv X pins σ H s) (r : Vals vs us) (h : sp (vs ++ dvs) H Q E) :
    wpAny (model X.prog X.w) X.A (call (.ref f) us) (EP X pins σ Q) X.xe s := by
  have r2 : Vals (vs ++ dvs) (us ++ ds) := r.append hd
  have hlen : (us ++ ds).length = ps.length := r2.length ▸ F.len _ _ _ _ h
  refine wpAny_call (codeAny_mono (F.run X.A X.stack s H ⟨us, []⟩ (us ++ ds) (vs ++ dvs) Q E gd hr
    I.env0 (hb s us I.kIn hlen) r2 h) fun r s' hq => ?_)
  match r, hq with
  | .error e, hq => exact hx pins σ H s e s' I hq
  | .ok (.ret u), hq => exact I.after hq
  | .ok .next, hq => exact False.elim hq
  | .ok .brk, hq => exact False.elim hq
  | .ok .cont, hq => exact False.elim hq

/-- f(..), f a def whose promise stands where nothing is being shown -/
theorem pe_callG (F : FnG X.prog X.w X.K X.mg X.base CX k f fd ps sp) (gd : X.A.guards = some []) (hr : Room k X.A)
    (hg : Gl X x) (hm : X.mg x = some (.ref f)) (hk : PySem.W.keepIn X.K (.ref f) = true)
    (hb : Binds X.K fd ps ds) (hd : Vals dvs ds) (hx : Passes CX X E) (ha : PA X (e :: es) t)
    (hdb : (x == ("__debug__" : Str)) = false := by decide)
    (he : starEach (e :: es) X.env = (false, eval e X.env) :: starEach es X.env := by rfl)
    (hpl : (backTo pos (starEach es X.env)).any (·.1) = false := by rfl) :
    PE X (.Call (.Name x p) (e :: es) [] pos) (tCall sp dvs E t) :=
  ⟨fun pins s σ H Q I h => wpAny_Call_Name_kw (ld_glob I hg hm (PySem.W.callWith_K (h₀ := X.base)
    I.ok.mod.kin hk (thn (ha.run pos pins s σ H _ I h) fun us s1 ⟨vs, H1, I1, r, q⟩ =>
      ⟨I1.kIn, run_fnG F gd hr hb hd hx I1 r q⟩) he hpl) hdb)⟩
end

/-- the end: the law's promise, at the heap behind the top, nothing being shown -/
theorem law_callG {P : Program} {w : World} {K : PySem.W.Frag} {mg mb : Str → Option Value} {CX : CXT} {k : Nat}
    {fa a : Addr} {fd : FuncData} {x : Str} {sp : Sp} {s₁ : Shared} {vs : List Value} {ns : List Int}
    (KX : K.In s₁.heap) (hns : s₁.heap.Ns mainGlobals mg) (hb : s₁.heap.Ns builtinsNs mb)
    (hbb : ∀ x : Str, x ≠ "__name__" → mb x = bootBuiltins x) (hlim : s₁.heap.NoLimit) (hg : s₁.gens = #[])
    (ha : s₁.heap.get? a = some { cls := .type "list", data := .seq vs.toArray }) (hi : IntsAre vs ns)
    (hl : ns.length ≤ sizeLine) (hr : Room k callerA)
    (F : ∀ base : Heap, K.In base → base.Ns mainGlobals mg → FnG P w K mg base CX k fa fd [x] sp)
    (hbind : ∀ (s : Shared) (u : Value), BindsTo s fd ⟨[u], []⟩ [(x, u)])
    (hsp : ∀ H : Hp, Only H → SqL K H a (ns.map V.int) → sp [.ref a] H (fun v _ => v = .bl true) fun _ _ _ => False)
    (hCX : ∀ H e s', CX [] H s₁ (fun _ _ _ => False) e s' → False) :
    codeAny (model P w) callerA (.call (.ref fa) ⟨[.ref a], []⟩)
      (fun r s' => r = .ok (.ret (.bool true)) ∧ OldK s₁.heap s'.heap ∧ s'.os = s₁.os ∧ AllBare s'.gens) s₁ := by
  have rv := vals_ints hi
  have lenV := hi.length
  have core : ∀ H : Hp, Only H → SqL K H a (ns.map V.int) → HOk P w H s₁.heap → (∀ b, H b ≠ none → b = a) →
      (H a ≠ none → K.lookup a = none) → codeAny (model P w) callerA (.call (.ref fa) ⟨[.ref a], []⟩)
      (fun r s' => r = .ok (.ret (.bool true)) ∧ OldK s₁.heap s'.heap ∧ s'.os = s₁.os ∧ AllBare s'.gens) s₁ := by
    intro H hO hS hok hA hK
    have loose : ∀ {b : Addr} {o : Obj} {es : Array DictEntry} {ep : Nat}, s₁.heap.get? b = some o →
        o.data = .dict es ep → H b = none := by
      intro b o es ep e d
      cases q : H b with
      | none => rfl
      | some u =>
        obtain rfl : b = a := hA b (fun z => nomatch q.symm.trans z)
        cases ha.symm.trans e
        exact nomatch (show Data.seq vs.toArray _ = Data.dict es ep from d)
    have nsK : ∀ {b : Addr} {m : Str → Option Value}, s₁.heap.Ns b m → (hidT s₁.heap H).Ns b m :=
      fun {b m} ⟨o, es, ep, e, d, r⟩ => ⟨o, es, ep, hidT_get e (loose e d), d, r⟩
    have hKb : K.In (hidT s₁.heap H) := by
      intro b o e
      refine hidT_get (KX b o e) ?_
      cases q : H b with
      | none => rfl
      | some u =>
        obtain rfl : b = a := hA b (fun z => nomatch q.symm.trans z)
        exact nomatch (hK (fun z => nomatch q.symm.trans z)).symm.trans e
    have hM : Mod K mg (hidT s₁.heap H) :=
      ⟨hKb, nsK hns, ⟨mb, nsK hb, hbb⟩, hlim.elim fun mc h => ⟨mc, nsK h.1, h.2⟩⟩
    have e0 : Env0 P w K mg (hidT s₁.heap H) callerA [] s₁ H :=
      ⟨rfl, hM, fun b o e => of_hidT e, Nat.le_of_eq (hidT_size _ _), trivial,
        fun b hb => (nomatch (show b ∈ ([] : List Addr) from hb)), hok, .of_eq hg⟩
    refine codeAny_mono ((F _ hKb (nsK hns)).run callerA [] s₁ H ⟨[.ref a], []⟩ [.ref a] [.ref a] _ _ rfl hr e0
      (hbind s₁ (.ref a)) (.cons rfl .nil) (hsp H hO hS)) fun r s' h => ?_
    match r, h with
    | .error e, h => exact (hCX H e s' h).elim
    | .ok .next, h => exact False.elim h
    | .ok .brk, h => exact False.elim h
    | .ok .cont, h => exact False.elim h
    | .ok (.ret u), ⟨v, H', os, bare, un, hok', r', q⟩ =>
      obtain rfl : v = .bl true := q
      obtain rfl : u = Value.bool true := r'
      refine ⟨rfl, OldK.of_keep fun b o e => ?_, os, bare⟩
      cases q : H b with
      | none => exact un.keep b o e q (fun z => (nomatch (show b ∈ ([] : List Addr) from z))) (by simp)
      | some u =>
        rcases hO b with z | ⟨ob, xs, z⟩
        · exact nomatch q.symm.trans z
        · have e1 := (hok b _ z).1
          have e2 := (hok' b _ (un.frzs b ob _ z)).1
          cases e.symm.trans e1
          exact e2
  cases hk : K.lookup a with
  | some o =>
    cases ha.symm.trans (KX a o hk)
    exact core (fun _ => none) (fun _ => .inl rfl)
      (.inr ⟨_, vs.toArray, _, hk, rfl, rfl, rfl, by rw [List.size_toArray, lenV]; exact hl, by simpa using rv⟩)
      (fun b u z => nomatch (show (none : Option HO) = some u from z)) (fun b z => absurd rfl z) fun z => absurd rfl z
  | none =>
    refine core (fun b => if b = a then
        some (.frz { cls := .type "list", data := .seq vs.toArray } (.lst (ns.map V.int))) else none) (fun b => ?_)
      (.inl (.inr ⟨{ cls := .type "list", data := .seq vs.toArray }, if_pos rfl⟩)) (fun b u z => ?_) (fun b z => ?_)
      fun _ => hk
    · by_cases hba : b = a
      · exact .inr ⟨_, _, if_pos hba⟩
      · exact .inl (if_neg hba)
    · by_cases hba : b = a
      · have z' := (if_pos hba).symm.trans z
        cases z'
        subst hba
        exact ⟨ha, by rw [List.length_map]; exact hl, vs, _, rv, ha⟩
      · exact nomatch (if_neg hba).symm.trans z
    · by_cases hba : b = a
      · exact hba
      · exact absurd (if_neg hba) z

theorem walkG {l : PySem.W.OpenLaw} {n k : Nat} {q : Program} {loose : List Str}
    {XP : (Str → Option Value) → Heap → Prop} {YP : World → Heap → Prop} {d : DefRec} {K : Params → PySem.W.Frag}
    {CX : World → CXT} {sp : World → Sp} {x : Str} (hn : l.most = some n) (hn2 : n ≤ sizeLine)
    (hdf : d.params.defaults = []) (hr : Room k callerA) (hY : ∀ (w : World) (h : Heap), YP w h → (K w.params).In h)
    (F : ∀ (w : World) (mg : Str → Option Value) (fa : Addr) (h : Heap), (K w.params).In h → h.Ns mainGlobals mg →
      mg d.name = some (.ref fa) → ∃ fd : FuncData, (∀ (s : Shared) (u : Value), BindsTo s fd ⟨[u], []⟩ [(x, u)]) ∧
        ∀ base : Heap, (K w.params).In base → base.Ns mainGlobals mg →
          FnG l.prog w (K w.params) mg base (CX w) k fa fd [x] (sp w))
    (hsp : ∀ (w : World) (H : Hp) (a : Addr) (ns : List Int), ns.length ≤ n → Only H →
      SqL (K w.params) H a (ns.map V.int) → sp w [.ref a] H (fun v _ => v = .bl true) fun _ _ _ => False)
    (hCX : ∀ (w : World) (H : Hp) (s : Shared) (e : Value) (s' : Shared), CX w [] H s (fun _ _ _ => False) e s' → False) :
    PySem.W.WalkO q loose XP YP l.row.toRowW d [] (fun f vs => PySem.call f vs) := by
  refine Att.attach_call hn hdf fun w s₀ s₁ mg mb fa o pm cd doc a vs ns G Y ho hd hcd hmg hobj hints hlen hg => ?_
  have KX := hY w _ Y
  obtain ⟨fd, hbn, hF⟩ := F w mg fa _ KX G.T.g hmg
  exact law_callG KX G.T.g G.T.b G.T.builtins G.T.nolimit hg hobj hints (Nat.le_trans hlen hn2) hr hF hbn
    (fun H hO hS => hsp w H a ns hlen hO hS) fun H e s' => hCX w H s₁ e s'
end Pw

/-! Exceptions of one's own as values: made by their own __init__, which calls that of the class above it by name; their args are tracked. -/
namespace Pw
open PySem PySem.Spec PyProof.Rows L2

/-- the object of an exception: its class, its dict, where its args lie -/
abbrev exOb (C : Addr) (d : Option Addr) (t : Addr) : Obj :=
  { cls := .ref C, dict := d, data := .fields #[.ref t, .none, .none, .none, .bool false, .none] }
/-- at e: an exception of the class at C; its args are the tuple at t -/
def exq (e C : Addr) (d : Option Addr) (t : Addr) : HO := .ext fun h => h.get? e = some (exOb C d t)
theorem exq_own {e C x t : Addr} {d : Option Addr} : exq e C d t ≠ .own x := fun z => by
  have z' : HO.ext _ = HO.own x := z
  cases z'
theorem exq_tup {e C t : Addr} {d : Option Addr} {xs : List V} : exq e C d t ≠ .tup xs := fun z => by
  have z' : HO.ext _ = HO.tup xs := z
  cases z'
theorem exq_lst {e C t : Addr} {d : Option Addr} {xs : List V} : exq e C d t ≠ .lst xs := fun z => by
  have z' : HO.ext _ = HO.lst xs := z
  cases z'
theorem exq_frz {e C t : Addr} {d : Option Addr} {o : Obj} {u : HO} : exq e C d t ≠ .frz o u := fun z => by
  have z' : HO.ext _ = HO.frz o u := z
  cases z'
theorem exq_tbl {e C t : Addr} {d : Option Addr} {ps : Array Value} : exq e C d t ≠ .tbl ps := fun z => by
  have z' : HO.ext _ = HO.tbl ps := z
  cases z'
theorem exq_ok {P : Program} {w : World} {H : Hp} {h : Heap} {e C t : Addr} {d : Option Addr}
    (he : h.get? e = some (exOb C d t)) : ObjOk P w H h e (exq e C d t) :=
  ⟨he, ⟨_, he⟩, fun _ _ z k => k _ z⟩
theorem exq_at {P : Program} {w : World} {H : Hp} {h : Heap} {e C t : Addr} {d : Option Addr} (hok : HOk P w H h)
    (he : H e = some (exq e C d t)) : h.get? e = some (exOb C d t) := by
  have x : ObjOk P w H h e (.ext fun h => h.get? e = some (exOb C d t)) := hok e _ he
  exact x.1

section
variable {X : Cx} {pins : List (Addr × Obj)} {σ : L2.St} {H : Hp} {s : Shared} {a C t1 : Addr} {f : Str} {y : V}
  {u : Value} {E : Value → Shared → Prop} {A : Around}

/-- self.f = y, the first attribute -/
theorem eq_new {Q : Unit → Shared → Prop} (T : OexC X.K C) (I : Inv X pins σ H s) (e : H a = some (exq a C none t1))
    (hno : PySem.W.findIn X.K (.ref C) f = some none) (ry : RelV y u)
    (h : ∀ dx s', H dx = none → dx ≠ a →
      Inv X pins σ (upd (upd H dx (exd dx [(f, y)])) a (exq a C (some dx) t1)) s' → Q () s') :
    wpAny (model X.prog X.w) A (setAttr (.ref a) f u) Q E s := by
  obtain ⟨nm, q, N, bs, bm, sn, sub, ab, col, dd, k0, k1, k2, k3, k5, hC, hbm⟩ := T.cls
  have hcl : PySem.W.clsIn X.K C = some { name := nm, bases := bs, mro := .ref C :: bm, ns := N, qualname := q, hasDict := true, slotNames := sn, subclasses := sub, abstract := ab, collection := col, hasDel := false } := by
    unfold PySem.W.clsIn
    rw [hC] <;> rfl
  have ho := exq_at I.hok e
  obtain ⟨hp, g, d, t, os⟩ := s
  refine PySem.W.set_plain I.kIn (ox := exOb C none t1) (od := none) ⟨ho, rfl, rfl, trivial⟩ T.sa ?_
  refine PySem.HandSPX.exc_osa I.kIn ho hcl
    (show PySem.HandSPX.refsVE (.ref C :: bm) = true from hbm) rfl hno (fun h' tk' dx k dn dne hx hn => ?_)
  have hnd : H dx = none := I.hok.fresh dn
  have nd : ∀ {b : Addr} {o : Obj}, hp.get? b = some o → b ≠ dx :=
    fun {b o} q => Nat.ne_of_lt (Nat.lt_of_lt_of_le (Heap.lt_size q) dn)
  have na : ∀ {b : Addr}, H b = none → b ≠ a := fun {b} n z => by rw [z, e] at n; cases n
  have Un1 : Un X.fs [] H (upd (upd H dx (exd dx [(f, y)])) a (exq a C (some dx) t1)) hp h' := {
    keep := fun b o q n _ _ => k b o (na n) q
    slot := fun b o q n _ _ => ⟨o.slots, k b o (na n) q⟩
    free := fun b o q n _ => ((upd_ne (na n)).trans (upd_ne (nd q))).trans n
    there := fun b o q _ => by
      by_cases hb : b = a
      · exact ⟨_, hb ▸ hx⟩
      · exact ⟨o, k b o hb q⟩
    tups := fun b xs q => ((upd_ne (at_ne e q exq_tup)).trans (upd_ne (ne_of_none q hnd))).trans q
    frzs := fun b o v q => ((upd_ne (at_ne e q exq_frz)).trans (upd_ne (ne_of_none q hnd))).trans q
    tbls := fun b ps q => ⟨#[], by rw [upd_ne (at_ne e q exq_tbl), upd_ne (ne_of_none q hnd), q]; simp⟩ }
  refine h dx _ hnd dne (I.un (t' := tk') Un1 fun b o q => ?_)
  by_cases hb : b = a
  · subst hb
    cases upd_same.symm.trans q
    exact exq_ok hx
  · rw [upd_ne hb] at q
    by_cases hd : b = dx
    · subst hd
      cases upd_same.symm.trans q
      exact exd_ok hn (relO_put (fs := []) ry fun g => True.intro)
    · rw [upd_ne hd] at q
      refine (I.hok b o q).stay (fun c v hc z => k c v ?_ z)
        (fun c hc => ((upd_ne (at_ne e hc exq_own)).trans (upd_ne (ne_of_none hc hnd))).trans hc)
        (fun c xs hc => ((upd_ne (at_ne e hc exq_tup)).trans (upd_ne (ne_of_none hc hnd))).trans hc)
      rcases hc with hc | hc
      · exact hc ▸ hb
      · exact at_ne e hc exq_own

/-- ValueError.__init__(e, ..): its args are laid anew, at a place of their own -/
theorem init_args {prog : Program} {w : World} {A : Around} {R : Result → Shared → Prop} {h : Heap}
    {g : Array GenState} {d : Drawn} {t : Nat} {os : OsState} {nm q : Str} {C N : Addr} {bs bm bmB : List Value}
    {hdct : Bool} {sn : List Str} {sub : List Value} {ab : Bool} {col : Option Bool} {dd : Option Addr}
    {k0 k1 k2 k3 k5 : Option Value} {B newId initId : String} (F : ExcBaseFacts B newId initId bmB)
    (hT : ∀ X : String, bm.contains (.type X) = bmB.contains (.type X)) {e t0 : Addr} {rest : List Value}
    (hC : h.get? C = some (excClassObj nm q C N bs bm hdct sn sub ab col dd k0 k1 k2 k3 k5 newId))
    (he : h.get? e = some (exOb C none t0)) (hrest : rest.length ≤ sizeLine)
    (hq : ∀ h' t1, h.objs.size ≤ t1 → (∀ b o, b ≠ e → h.get? b = some o → h'.get? b = some o) →
      h'.get? e = some (exOb C none t1) → h'.get? t1 = some (PySem.W.kdv_tup rest) →
      R (.ok (.ret .none)) ⟨h', g, d, t, os⟩) :
    codeAny (model prog w) A (.call (.builtin initId) ⟨.ref e :: rest, []⟩) R ⟨h, g, d, t, os⟩ := by
  refine codeAny_call_builtin F.init.plain F.initEntry (PySem.HandSPX.check_init_own F hT hC he rfl ?_)
  have hes : e ≠ h.objs.size := Nat.ne_of_lt (Heap.lt_size he)
  wp_walk
  refine hq _ h.objs.size (Nat.le_refl _) (fun b o hb ho => ?_) ?_ ?_
  · exact (Heap.get?_update_other _ _ (Ne.symm hb)).trans (Heap.get?_push_of_some _ ho)
  · exact (Heap.get?_update_self _ (Heap.get?_push_of_some _ he) rfl).trans rfl
  · exact (Heap.get?_update_other _ _ hes).trans (Heap.get?_push_size _ rfl)

theorem eq_init {us : List Value} {ws : List V} {Q : Value → Shared → Prop} (T : OexC X.K C) (I : Inv X pins σ H s)
    (e : H a = some (exq a C none t1)) (hl : us.length ≤ sizeLine) (rw' : Vals ws us)
    (h : ∀ t2 s', H t2 = none → t2 ≠ a → Inv X pins σ (upd (upd H t2 (.tup ws)) a (exq a C none t2)) s' → Q .none s') :
    wpAny (model X.prog X.w) A (call (.builtin "ValueError.__init__") (.ref a :: us)) Q E s := by
  obtain ⟨nm, q, N, bs, bm, sn, sub, ab, col, dd, k0, k1, k2, k3, k5, hC, hbm⟩ := T.cls
  have ho := exq_at I.hok e
  obtain ⟨hp, g, d, t, os⟩ := s
  refine wpAny_call (init_args F.excBase_ValueError (fun Y => PySem.HandSPX.refsVE_contains Y bm hbm)
    (I.kIn _ _ hC) ho hl fun h' t2 hsz k hx ht => ?_)
  have nt : H t2 = none := I.hok.fresh hsz
  have nea : t2 ≠ a := (ne_of_none e nt).symm
  have na : ∀ {b : Addr}, H b = none → b ≠ a := fun {b} n z => by rw [z, e] at n; cases n
  have nd : ∀ {b : Addr} {o : Obj}, hp.get? b = some o → b ≠ t2 :=
    fun {b o} q => Nat.ne_of_lt (Nat.lt_of_lt_of_le (Heap.lt_size q) hsz)
  have Un1 : Un X.fs [] H (upd (upd H t2 (.tup ws)) a (exq a C none t2)) hp h' := {
    keep := fun b o q n _ _ => k b o (na n) q
    slot := fun b o q n _ _ => ⟨o.slots, k b o (na n) q⟩
    free := fun b o q n _ => ((upd_ne (na n)).trans (upd_ne (nd q))).trans n
    there := fun b o q _ => by
      by_cases hb : b = a
      · exact ⟨_, hb ▸ hx⟩
      · exact ⟨o, k b o hb q⟩
    tups := fun b xs q => ((upd_ne (at_ne e q exq_tup)).trans (upd_ne (ne_of_none q nt))).trans q
    frzs := fun b o v q => ((upd_ne (at_ne e q exq_frz)).trans (upd_ne (ne_of_none q nt))).trans q
    tbls := fun b ps q => ⟨#[], by rw [upd_ne (at_ne e q exq_tbl), upd_ne (ne_of_none q nt), q]; simp⟩ }
  refine h t2 _ nt nea (I.un (t' := t) Un1 fun b o q => ?_)
  by_cases hb : b = a
  · subst hb
    cases upd_same.symm.trans q
    exact exq_ok hx
  · rw [upd_ne hb] at q
    by_cases hd : b = t2
    · subst hd
      cases upd_same.symm.trans q
      exact ⟨by rw [Paired.length rw']; exact hl, us, rw', _, ht, rfl, _, rfl⟩
    · rw [upd_ne hd] at q
      refine (I.hok b o q).stay (fun c v hc z => k c v ?_ z)
        (fun c hc => ((upd_ne (at_ne e hc exq_own)).trans (upd_ne (ne_of_none hc nt))).trans hc)
        (fun c xs hc => ((upd_ne (at_ne e hc exq_tup)).trans (upd_ne (ne_of_none hc nt))).trans hc)
      rcases hc with hc | hc
      · exact hc ▸ hb
      · exact at_ne e hc exq_own
end

/-! ### the rules -/
/-- ValueError.__init__(self, ..) -/
def tVeq (K : PySem.W.Frag) (ta : TA) : TE := fun σ H Q => ta σ H fun vs H1 =>
  ∃ (a C t0 : Addr) (ws : List V), vs = .ref a :: ws ∧ ws.length ≤ 1000 ∧ OexC K C ∧ H1 a = some (exq a C none t0) ∧
    ∀ t2, H1 t2 = none → t2 ≠ a → Q .non (upd (upd H1 t2 (.tup ws)) a (exq a C none t2))
/-- self.f = e, the first attribute -/
def tEst (K : PySem.W.Frag) (f : Str) (to te : TE) : TS := fun D σ H => te σ H fun y H1 => to σ H1 fun x H2 =>
  ∃ a C t1 : Addr, x = .ref a ∧ OexC K C ∧ PySem.W.findIn K (.ref C) f = some none ∧ H2 a = some (exq a C none t1) ∧
    ∀ dx, H2 dx = none → dx ≠ a → D.nx σ (upd (upd H2 dx (exd dx [(f, y)])) a (exq a C (some dx) t1))
/-- C(e, ..) as a value -/
def tMkq (C : Addr) (sp : Sp) (dvs : List V) (ta : TA) : TE := fun σ H Q => ta σ H fun vs H1 => vs.length ≤ 1000 ∧
  ∀ t0 a, H1 t0 = none → H1 a = none → t0 ≠ a →
    sp (.ref a :: (vs ++ dvs)) (upd (upd H1 t0 (.tup vs)) a (exq a C none t0))
      (fun v H2 => v = .non ∧ Q (.ref a) H2) (fun _ _ _ => False)

section
variable {X : Cx} {o e : Expr} {es : List Expr} {to te : TE} {ta : TA} {f : Str} {p p' p1 p2 pos : Pos}
theorem pe_veq {pl : Sem Bool} (hg : Gl X "ValueError") (hm : X.mg "ValueError" = none)
    (vV : PySem.W.findCls X.K (.type "ValueError") (.type "type") "__init__" = some (.val (.builtin "ValueError.__init__")))
    (ha : PA X (e :: es) ta)
    (hc : eval (.Call (.Attribute (.Name "ValueError" p1) "__init__" p2) (e :: es) [] pos) X.env = (do
      let ov ← eval (.Name "ValueError" p1) X.env
      standAt p2.atName
      let (f, first) ← holding [ov] (getMethod ov "__init__" pl)
      callWith pos f first (backTo pos (starEach (e :: es) X.env)) (backToKw pos (keywordEach [] X.env))) := by rfl)
    (he : starEach (e :: es) X.env = (false, eval e X.env) :: starEach es X.env := by rfl)
    (hpl : (backTo pos (starEach es X.env)).any (·.1) = false := by rfl) :
    PE X (.Call (.Attribute (.Name "ValueError" p1) "__init__" p2) (e :: es) [] pos) (tVeq X.K ta) := by
  refine ⟨fun pins s σ H Q I h => ?_⟩
  refine PySem.W.methodCall_KW (ld_blt I hg hm PyProof.Rows.Boot.«ValueError» ?_ (by decide) (by decide)) hc
  obtain ⟨m, fr⟩ := I.fr
  refine PySem.W.method_type fr I.ok.mod.kin PySem.OEX.typ_VE (by decide +kernel) vV (by decide +kernel) ?_
  refine PyProof.Rows.callWith_method1 (first := []) (thn (ha.run pos pins _ σ H _ (I.tok _) h)
    fun us s1 ⟨vs, H1, I1, r1, a, C, t0, ws, ev, hl, T, ea, q⟩ => ?_) he hpl
  subst ev
  cases r1 with
  | @cons _ u0 _ ur ra rw' =>
    obtain rfl : u0 = Value.ref a := ra
    have hlen : ur.length ≤ sizeLine := by
      rw [← Paired.length rw', sizeLine_eq]
      omega
    exact eq_init T I1 ea hlen rw' fun t2 s' n1 n2 J => ⟨.non, _, J, rfl, q t2 n1 n2⟩

theorem ps_est (ho : PE X o to) (he : PE X e te)
    (hs : swapsWith e (some (.Attribute o f p')) pos.line X.env = pure false := by rfl) :
    PS X (.Assign [.Attribute o f p'] e pos) (tEst X.K f to te) := by
  refine ⟨fun pins s σ H D I h => ?_⟩
  refine plainObj_wpAny_Assign_Attribute (thn (he.run pins s σ H _ I h) fun v s1 ⟨y, H1, I1, r1, q1⟩ =>
    thn (ho.run pins s1 σ H1 _ I1 q1) fun u s2 ⟨x, H2, I2, r2, a, C, t1, ex, T, hno, ea, q⟩ => ?_) hs
  subst ex
  obtain rfl : u = Value.ref a := r2
  exact eq_new T I2 ea hno r1 fun dx s' n ne J => ⟨σ, _, J, q dx n ne⟩

/-- C.m(e, ..), C an own class, m a def of it: read off the class -/
theorem pe_off {x m : Str} {CX : CXT} {k : Nat} {C g : Addr} {fd : FuncData} {ps : List Str} {sp : Sp} {E : XK}
    {dvs : List V} {ds : List Value} {pl : Sem Bool} (hg : Gl X x) (hm : X.mg x = some (.ref C))
    (sg : PySem.W.specialIn X.K (.ref C) "__getattribute__" = some (some (.builtin "type.__getattribute__")))
    (rd : PySem.W.readsIn X.K C (.type "type") = true)
    (at_ : PySem.W.findCls X.K (.ref C) (.type "type") m = some (.val (.ref g)))
    (kg : PySem.W.keepIn X.K (.ref g) = true)
    (F : FnOk X.prog X.w X.K X.mg X.base CX k g fd ps sp) (hr : Room k X.A) (hb : Binds X.K fd ps ds)
    (hd : Vals dvs ds) (hx : Passes CX X E) (ha : PA X (e :: es) ta)
    (hdb : (x == ("__debug__" : Str)) = false := by decide)
    (hc : eval (.Call (.Attribute (.Name x p1) m p2) (e :: es) [] pos) X.env = (do
      let ov ← eval (.Name x p1) X.env
      standAt p2.atName
      let (f, first) ← holding [ov] (getMethod ov m pl)
      callWith pos f first (backTo pos (starEach (e :: es) X.env)) (backToKw pos (keywordEach [] X.env))) := by rfl)
    (he : starEach (e :: es) X.env = (false, eval e X.env) :: starEach es X.env := by rfl)
    (hpl : (backTo pos (starEach es X.env)).any (·.1) = false := by rfl) :
    PE X (.Call (.Attribute (.Name x p1) m p2) (e :: es) [] pos) (tCall sp dvs E ta) := by
  refine ⟨fun pins s σ H Q I h => ?_⟩
  refine PySem.W.methodCall_KW (ld_glob I hg hm ?_ hdb) hc
  refine PySem.W.method_cls I.kIn sg (PySem.W.cls_value I.kIn rd at_ rfl ?_)
  refine PySem.W.callWith_K (first := []) (h₀ := X.base) I.ok.mod.kin kg
    (thn (ha.run pos pins _ σ H _ (I.tok _) h) fun us s1 ⟨vs, H1, I1, r, q⟩ => ⟨I1.kIn, ?_⟩) he hpl
  exact run_fn F hr hb hd hx I1 r q

theorem pe_mkq {x : Str} {C fI : Addr} {k : Nat} {CX : CXT} {fd : FuncData} {ps : List Str} {sp : Sp}
    {ds : List Value} {dvs : List V} (T : OexC X.K C)
    (iC : PySem.W.findIn X.K (.ref C) "__init__" = some (some (.ref fI)))
    (tI : PySem.W.typeIn X.K (.ref fI) = some (.type "function"))
    (F1 : FnOk X.prog X.w X.K X.mg X.base CX k fI fd ps sp) (hr : Room (k + 1) X.A) (hb : Binds X.K fd ps ds)
    (hd : Vals dvs ds) (hx : Passes CX X (fun _ _ _ => False)) (hg : Gl X x) (hm : X.mg x = some (.ref C))
    (ha : PA X (e :: es) ta) (hdb : (x == ("__debug__" : Str)) = false := by decide)
    (he : starEach (e :: es) X.env = (false, eval e X.env) :: starEach es X.env := by rfl)
    (hpl : (backTo pos (starEach es X.env)).any (·.1) = false := by rfl) :
    PE X (.Call (.Name x p) (e :: es) [] pos) (tMkq C sp dvs ta) := by
  refine ⟨fun pins s σ H Q I h => ?_⟩
  obtain ⟨nm, q, N, bs, bm, sn, sub, ab, col, dd, k0, k1, k2, k3, k5, hC, hbm⟩ := T.cls
  refine wpAny_Call_Name_kw (ld_glob I hg hm ?_ hdb)
  refine PySem.W.callWith_K (h₀ := X.base) I.ok.mod.kin T.kC
    (thn (ha.run pos pins s σ H _ I h) fun us s1 ⟨vs, H1, I1, r1, hz, q1⟩ => ⟨I1.kIn, ?_⟩) he hpl
  show wpAny _ _ (call (.ref C) us) _ _ _
  obtain ⟨hp, g, dr, tk, os⟩ := s1
  have n0 : H1 hp.objs.size = none := I1.hok.fresh (Nat.le_refl _)
  have n1 : H1 (hp.objs.size + 1) = none := I1.hok.fresh (Nat.le_succ _)
  have hne : hp.objs.size ≠ hp.objs.size + 1 := Nat.ne_of_lt (Nat.lt_succ_self _)
  have hq := q1 hp.objs.size (hp.objs.size + 1) n0 n1 hne
  have hus : us.length ≤ sizeLine := by
    rw [← Paired.length r1, sizeLine_eq]
    omega
  have I2 : Inv X pins σ (upd H1 hp.objs.size (.tup vs)) ⟨hp.push (PySem.W.kdv_tup us), g, dr, tk, os⟩ :=
    I1.laid (t' := tk) (a := hp.objs.size) (o := .tup vs) (h' := hp.push (PySem.W.kdv_tup us))
      (fun b o z => Heap.get?_push_of_some _ z) (Nat.le_refl _)
      ⟨by rw [Paired.length r1]; exact hus, us, r1, _, Heap.get?_push_size _ rfl, rfl, _, rfl⟩
  have hget : ((hp.push (PySem.W.kdv_tup us)).push (exOb C none hp.objs.size)).get? (hp.objs.size + 1) =
      some (exOb C none hp.objs.size) := by heap_get
  have hsz2 : (hp.push (PySem.W.kdv_tup us)).objs.size ≤ hp.objs.size + 1 := by
    simp [Heap.push]
  have I3 : Inv X pins σ (upd (upd H1 hp.objs.size (.tup vs)) (hp.objs.size + 1) (exq (hp.objs.size + 1) C none hp.objs.size))
      ⟨(hp.push (PySem.W.kdv_tup us)).push (exOb C none hp.objs.size), g, dr, tk, os⟩ :=
    I2.laid (t' := tk) (a := hp.objs.size + 1) (o := exq (hp.objs.size + 1) C none hp.objs.size)
      (h' := (hp.push (PySem.W.kdv_tup us)).push (exOb C none hp.objs.size))
      (fun b o z => Heap.get?_push_of_some _ z) hsz2 (exq_ok hget)
  have r2 : Vals (V.ref (hp.objs.size + 1) :: (vs ++ dvs)) (Value.ref (hp.objs.size + 1) :: (us ++ ds)) :=
    .cons rfl (r1.append hd)
  have hl : (Value.ref (hp.objs.size + 1) :: us ++ ds).length = ps.length :=
    r2.length.symm.trans (F1.len _ _ _ _ hq)
  refine wpAny_call (PySem.HandSPX.call_own F.excBase_ValueError (fun Y => PySem.HandSPX.refsVE_contains Y bm hbm)
    (I1.kIn _ _ hC) (PySem.W.looks_findIn I1.kIn iC) (fun self => PySem.W.bind_fn I1.kIn self tI) hus
    (codeAny_mono (F1.run _ X.stack _ _ ⟨Value.ref (hp.objs.size + 1) :: us, []⟩
      (Value.ref (hp.objs.size + 1) :: (us ++ ds)) _ _ (fun _ _ _ => False) (hr.make C us []) (I3.env0.make C us [])
      (hb _ (Value.ref (hp.objs.size + 1) :: us) I3.kIn hl) r2 hq) fun r s' hq' => ?_))
  match r, hq' with
  | .error er, hq' => exact hx pins σ _ _ er s' I3 hq'
  | .ok (.ret u), hq' =>
    obtain ⟨v, H', I4, rv, ev, q3⟩ := I3.after hq'
    subst ev
    exact ⟨rv, ⟨V.ref (hp.objs.size + 1), H', I4, rfl, q3⟩⟩
  | .ok .next, hq' => exact False.elim hq'
  | .ok .brk, hq' => exact False.elim hq'
  | .ok .cont, hq' => exact False.elim hq'
end
end Pw

/-! What repr tells of a value: of data that are tracked, with exceptions of one's own among them. -/
namespace Pw
open PySem PySem.Spec PyProof.Rows L2
open Sem (wp)
open Builtin Builtin.Str Builtin.BaseException Builtin.Exceptions

/-- how a class's name stands in what is shown -/
def clsHead (n : Str) : Str := Str.ofString ((n.toString.cutAt '.').getLastD "")
/-- what the class of an exception must say, so that it is shown by its name and its args -/
structure ExR (K : PySem.W.Frag) (C : Addr) (nm : Str) : Prop where
  rep : PySem.W.findIn K (.ref C) "__repr__" = some (some (.builtin "BaseException.__repr__"))
  sub : PySem.W.subIn K (.ref C) (.type "BaseException") = some true
  nam : ∃ cd, PySem.W.clsIn K C = some cd ∧ cd.name = nm

mutual
/-- repr of the value is the text; the first number: how deep it is; the second: no less than the text's length -/
inductive Shw (K : PySem.W.Frag) (H : Hp) : V → Nat → Nat → Str → Prop
  | non : Shw K H .non 0 5 "None"
  | bl (b : Bool) : Shw K H (.bl b) 0 5 (if b then "True" else "False")
  | int (i : Int) (h : i.natAbs.log2 < 1920) : Shw K H (.int i) 0 1921 (toString i)
  | str (x : Str) (m : Nat) (h : (reprText x).length ≤ m) : Shw K H (.str x) 0 m (reprText x)
  | lst {a : Addr} {xs : List V} {d n : Nat} {ts : List Str} (e : H a = some (.lst xs)) (h : ShwL K H xs d n ts) :
      Shw K H (.ref a) (d + 1) (n + 2) (listText ts)
  | tup {a : Addr} {xs : List V} {d n : Nat} {ts : List Str} (e : H a = some (.tup xs)) (h : ShwL K H xs d n ts) :
      Shw K H (.ref a) (d + 1) (n + 3) (tupleText ts)
  | dct {a : Addr} {kvs : List (Key × V)} {d1 d2 n1 n2 : Nat} {ks vs : List Str} (e : H a = some (.dK kvs))
      (h1 : ShwL K H (kvs.map fun p => kV p.1) d1 n1 ks) (h2 : ShwL K H (kvs.map fun p => p.2) d2 n2 vs) :
      Shw K H (.ref a) (max d1 d2 + 1) (n1 + n2 + 2) (dictText (List.zipWith (fun k v : Str => k ++ ": " ++ v) ks vs))
  | exc {a C t : Addr} {d : Option Addr} {x nm : Str} {n1 n2 : Nat} (e : H a = some (exq a C d t))
      (et : H t = some (.tup [.str x])) (c : ExR K C nm) (l1 : (clsHead nm).length ≤ n1) (l2 : (reprText x).length ≤ n2) :
      Shw K H (.ref a) 0 (n1 + n2 + 2) (clsHead nm ++ "(" ++ reprText x ++ ")")
inductive ShwL (K : PySem.W.Frag) (H : Hp) : List V → Nat → Nat → List Str → Prop
  | nil : ShwL K H [] 0 0 []
  | cons {v : V} {vs : List V} {d e n m : Nat} {t : Str} {ts : List Str} (h : Shw K H v d n t) (hs : ShwL K H vs e m ts) :
      ShwL K H (v :: vs) (max d e) (n + 2 + m) (t :: ts)
end

theorem dK_lst {kvs : List (Key × V)} {xs : List V} : HO.dK kvs ≠ HO.lst xs := fun z => nomatch z
theorem dK_exq {kvs : List (Key × V)} {e C t : Addr} {d : Option Addr} : HO.dK kvs ≠ exq e C d t := fun z => by
  have z' : HO.dK kvs = HO.ext _ := z
  cases z'
section
variable {K : PySem.W.Frag} {H : Hp}
mutual
/-- a value is as deep as it is -/
theorem Shw.one : ∀ {v : V} {d n d' n' : Nat} {t t' : Str}, Shw K H v d n t → Shw K H v d' n' t' → d = d'
  | _, _, _, _, _, _, _, .non, .non => rfl
  | _, _, _, _, _, _, _, .bl _, .bl _ => rfl
  | _, _, _, _, _, _, _, .int _ _, .int _ _ => rfl
  | _, _, _, _, _, _, _, .str _ _ _, .str _ _ _ => rfl
  | _, _, _, _, _, _, _, .lst e h, .lst e' h' => by
    cases e.symm.trans e'
    rw [ShwL.one h h']
  | _, _, _, _, _, _, _, .lst e h, .tup e' h' => nomatch e.symm.trans e'
  | _, _, _, _, _, _, _, .lst e h, .dct e' _ _ => nomatch e.symm.trans e'
  | _, _, _, _, _, _, _, .lst e h, .exc e' _ _ _ _ => absurd (Option.some.inj (e.symm.trans e')).symm exq_lst
  | _, _, _, _, _, _, _, .tup e h, .lst e' h' => nomatch e.symm.trans e'
  | _, _, _, _, _, _, _, .tup e h, .tup e' h' => by
    cases e.symm.trans e'
    rw [ShwL.one h h']
  | _, _, _, _, _, _, _, .tup e h, .dct e' _ _ => nomatch e.symm.trans e'
  | _, _, _, _, _, _, _, .tup e h, .exc e' _ _ _ _ => absurd (Option.some.inj (e.symm.trans e')).symm exq_tup
  | _, _, _, _, _, _, _, .dct e _ _, .lst e' h' => nomatch e.symm.trans e'
  | _, _, _, _, _, _, _, .dct e _ _, .tup e' h' => nomatch e.symm.trans e'
  | _, _, _, _, _, _, _, .dct e h1 h2, .dct e' h1' h2' => by
    cases e.symm.trans e'
    rw [ShwL.one h1 h1', ShwL.one h2 h2']
  | _, _, _, _, _, _, _, .dct e _ _, .exc e' _ _ _ _ => absurd (Option.some.inj (e.symm.trans e')) dK_exq
  | _, _, _, _, _, _, _, .exc e _ _ _ _, .lst e' h' => absurd (Option.some.inj (e.symm.trans e')) exq_lst
  | _, _, _, _, _, _, _, .exc e _ _ _ _, .tup e' h' => absurd (Option.some.inj (e.symm.trans e')) exq_tup
  | _, _, _, _, _, _, _, .exc e _ _ _ _, .dct e' _ _ => absurd (Option.some.inj (e.symm.trans e')).symm dK_exq
  | _, _, _, _, _, _, _, .exc e _ _ _ _, .exc e' _ _ _ _ => rfl
theorem ShwL.one : ∀ {vs : List V} {d n d' n' : Nat} {ts ts' : List Str}, ShwL K H vs d n ts → ShwL K H vs d' n' ts' → d = d'
  | _, _, _, _, _, _, _, .nil, .nil => rfl
  | _, _, _, _, _, _, _, .cons h hs, .cons h' hs' => by rw [Shw.one h h', ShwL.one hs hs']
end

/-- the length of a join of texts, each with two signs more -/
theorem join_le (sep : Str) (hsep : sep.length = 2) : ∀ ts : List Str, (Str.join sep ts).length ≤ (ts.map fun t => t.length + 2).sum
  | [] => by
    show (Str.join sep []).length ≤ 0
    exact Nat.le_of_eq rfl
  | [x] => by
    show x.length ≤ _
    simp only [List.map_cons, List.map_nil, List.sum_cons, List.sum_nil]
    omega
  | x :: y :: r => by
    have ih := join_le sep hsep (y :: r)
    show (x ++ sep ++ Str.join sep (y :: r)).length ≤ _
    rw [strLen_append, strLen_append, hsep]
    simp only [List.map_cons, List.sum_cons] at ih ⊢
    omega
theorem textFrom_le : ∀ (ts : List Str) (i : Nat) (b : Str), (textFrom i b ts).length ≤ b.length + (ts.map fun t => t.length + 2).sum := by
  intro ts
  induction ts with
  | nil =>
    intro i b
    exact Nat.le_add_right _ _
  | cons t r ih =>
    intro i b
    have h := ih (i + 1) (b ++ Str.ofString (if 0 < i then ", " else "") ++ t)
    have e : textFrom i b (t :: r) = textFrom (i + 1) (b ++ Str.ofString (if 0 < i then ", " else "") ++ t) r := rfl
    rw [e]
    refine Nat.le_trans h ?_
    rw [strLen_append, strLen_append]
    have h2 : (Str.ofString (if 0 < i then ", " else "")).length ≤ 2 := by
      split <;> decide +kernel
    simp only [List.map_cons, List.sum_cons]
    omega
mutual
theorem Shw.len : ∀ {v : V} {d n : Nat} {t : Str}, Shw K H v d n t → t.length ≤ n
  | _, _, _, _, .non => by decide +kernel
  | _, _, _, _, .bl b => by cases b <;> decide +kernel
  | _, _, _, _, .int i h => int_text_len_1921 h
  | _, _, _, _, .str x m h => h
  | _, _, _, _, .lst (ts := ts) e h => by
    have h1 := ShwL.len h
    have h2 := textFrom_le ts 0 "["
    have e1 : ("[" : Str).length = 1 := rfl
    have e2 : (listText ts).length = (textFrom 0 "[" ts).length + 1 := by
      show (textFrom 0 "[" ts ++ "]").length = _
      rw [strLen_append]; rfl
    omega
  | _, _, _, _, .tup (ts := ts) e h => by
    have h1 := ShwL.len h
    have h2 := join_le ", " rfl ts
    unfold tupleText
    rw [strLen_append, strLen_append]
    have e1 : ("(" : Str).length = 1 := rfl
    have e2 : (Str.ofString (if (ts.length == 1) = true then ",)" else ")")).length ≤ 2 := by split <;> decide +kernel
    omega
  | _, _, _, _, .dct (ks := ks) (vs := vs) e h1 h2 => by
    have q1 := ShwL.len h1
    have q2 := ShwL.len h2
    have q3 := join_le ", " rfl (List.zipWith (fun k v : Str => k ++ ": " ++ v) ks vs)
    have q4 : ∀ (ks vs : List Str), ((List.zipWith (fun k v : Str => k ++ ": " ++ v) ks vs).map fun t => t.length + 2).sum ≤ (ks.map fun t => t.length + 2).sum + (vs.map fun t => t.length + 2).sum := by
      intro ks
      induction ks with
      | nil => intro vs; simp
      | cons k r ih =>
        intro vs
        cases vs with
        | nil => simp
        | cons v r' =>
          have i1 := ih r'
          have i2 : (k ++ (": " : Str) ++ v).length = k.length + 2 + v.length := by
            rw [strLen_append, strLen_append]; rfl
          simp only [List.zipWith_cons_cons, List.map_cons, List.sum_cons] at i1 ⊢
          omega
    have q5 := q4 ks vs
    unfold dictText
    rw [strLen_append, strLen_append]
    have e1 : ("{" : Str).length = 1 := rfl
    have e2 : ("}" : Str).length = 1 := rfl
    omega
  | _, _, _, _, .exc e et c l1 l2 => by
    rw [strLen_append, strLen_append, strLen_append]
    have e1 : ("(" : Str).length = 1 := rfl
    have e2 : (")" : Str).length = 1 := rfl
    omega
theorem ShwL.len : ∀ {vs : List V} {d n : Nat} {ts : List Str}, ShwL K H vs d n ts → (ts.map fun t => t.length + 2).sum ≤ n
  | _, _, _, _, .nil => Nat.le_refl _
  | _, _, _, _, .cons h hs => by
    have h1 := Shw.len h
    have h2 := ShwL.len hs
    simp only [List.map_cons, List.sum_cons]
    omega
end
end

/-! ### an exception of one's own is shown -/
section
variable {prog : Program} {w : World} {h₀ : Heap} {K : PySem.W.Frag} {C : Addr} {nm : Str}
theorem typ_at {M : Model} {h : Heap} {e t : Addr} {d : Option Addr} (he : h.get? e = some (exOb C d t)) :
    PySem.W.Looks M h (typeOf (.ref e)) (.ref C) := by
  intro A' Q' E' s' k q
  unfold typeOf
  exact wpAny_bind (wpAny_loadPart (k _ _ he) (wpAny_pure q))
/-- the displayed class, by name -/
theorem name_of {M : Model} {A : Around} {E : Value → Shared → Prop} {s : Shared} {e t : Addr} {d : Option Addr}
    {cd : ClassData} {Q : String → Shared → Prop} (X : K.In s.heap) (he : s.heap.get? e = some (exOb C d t))
    (hc : PySem.W.clsIn K C = some cd) (hq : Q cd.name.toString s) : wpAny M A (typeNameOfWhole (.ref e)) Q E s := by
  unfold typeNameOfWhole shownTypeOf
  have L0 : PySem.W.Looks M s.heap (typeOf (.ref e)) (.ref C) := typ_at he
  refine wpAny_bind (wpAny_bind (L0.here ?_))
  have e0 : (Value.ref C == Value.type "builtin_function_or_method") = false := rfl
  simp only [e0, Bool.false_eq_true, if_false]
  refine wpAny_pure ?_
  unfold typeNameWhole
  exact wpAny_bind ((PySem.W.looks_clsIn X hc).here (wpAny_pure hq))

theorem exc_body {A : Around} {E : Value → Shared → Prop} {s : Shared} {e t : Addr} {d : Option Addr} {cd : ClassData}
    {x : Str} {tk : Tok} {Q : Fin → Shared → Prop} (b : Nat) (X : K.In s.heap) (he : s.heap.get? e = some (exOb C d t))
    (ht : s.heap.TupAt t [.str x tk]) (hc : PySem.W.clsIn K C = some cd)
    (hq : Q (.done (.ret (.str (clsHead cd.name ++ "(" ++ reprText x ++ ")") (s.toks + 1)))) { s with toks := s.toks + 1 + 1 })
    (hsz : b + (clsHead cd.name ++ "(" ++ reprText x ++ ")").length ≤ sizeLine) :
    wpAny (model prog w) A (Builtin.bexcReprAt b ⟨[.ref e], []⟩) Q E s := by
  have e1 : b + (clsHead cd.name ++ Str.ofString "(" ++ reprText x ++ Str.ofString ")").length ≤ sizeLine := hsz
  have hsz2 : (clsHead cd.name ++ Str.ofString "(" ++ reprText x ++ Str.ofString ")").length ≤ sizeLine := by omega
  have eP : (Str.ofString "(").length = 1 := rfl
  rw [strLen_append, strLen_append, strLen_append, eP] at e1
  have hsz1 : (reprText x).length ≤ sizeLine := by omega
  have hpile : b + ((clsHead cd.name).length + 1) ≤ sizeLine := by omega
  obtain ⟨ot, k, hto, _, htd⟩ := id ht
  have args : ∀ {A' : Around} {E' : Value → Shared → Prop} {Q' : Value × List Value → Shared → Prop},
      Q' (.ref t, [.str x tk]) s → wpAny (model prog w) A' (bexcArgs (.ref e)) Q' E' s := fun {A' E' Q'} q => by
    unfold bexcArgs
    exact wpAny_bind (wpAny_field he rfl rfl (wpAny_bind (wpAny_seqItems hto htd (wpAny_pure q))))
  unfold Builtin.bexcReprAt
  unfold clsHead at hpile hsz2
  repeat (first | with_reducible refine name_of X he hc ?_ | with_reducible refine args ?_ | rw [pyReprUnder_leaf (v := .str x tk) hpile (by intro a; nofun)] | with_reducible refine wpAny_pyRepr_str ?_ | wp_step)
  exact hq

theorem ReprK.exq {e t : Addr} {d : Option Addr} {x : Str} {tk : Tok} (X : K.In h₀) (he : h₀.get? e = some (exOb C d t))
    (ht : h₀.TupAt t [.str x tk]) (R : ExR K C nm) :
    ReprK prog w [] h₀ 0 (.ref e) (clsHead nm ++ "(" ++ reprText x ++ ")") := by
  intro base hb A g E s Q hg hcl hu hk0 hQ
  obtain ⟨cd, hc, rfl⟩ := R.nam
  have X' : K.In s.heap := fun a o z => hk0 a o (X a o z)
  have he' := hk0 _ _ he
  have ht' : s.heap.TupAt t [.str x tk] := let ⟨o, k, h1, h2⟩ := ht; ⟨o, k, hk0 _ _ h1, h2⟩
  have L0 : PySem.W.Looks (model prog w) s.heap (typeOf (.ref e)) (.ref C) := typ_at he'
  have L1 := PySem.W.looks_findIn (M := model prog w) X' R.rep
  have sub : PySem.W.Looks (model prog w) s.heap (isInstance (.ref e) (.type "BaseException")) true :=
    L0.andThen (PySem.W.looks_subIn X' R.sub)
  refine wpAny_pyReprUnder_ref (by omega) ?_
  unfold pyReprObjUnder pyReprObjBy
  refine wpAny_bind (wpAny_cRoomFor (by omega) ?_)
  refine wpAny_bind (wpAny_bind (L0.here (L1.here ?_)))
  have last : wpAny (model prog w) A (call (.builtin "BaseException.__repr__.under") [.ref e, rawInt base])
      (fun v s' => ∃ y u, v = .str y u ∧ Q y s') E s := by
    refine wpAny_call (codeAny_call_builtin F.plain_bexc_repr_under F.entry_bexc_repr_under ?_)
    rw [F.check_bexc_repr_under]
    refine wpAny_pure ?_
    show wpAny _ _ (reprTwin "BaseException.__repr__" Builtin.bexcReprAt ⟨[.ref e, rawInt base], []⟩) _ _ _
    rw [reprTwin_eq]
    refine wpAny_bind (PySem.W.check_slot (i := "BaseException.__repr__") (owner := "BaseException") (n := "__repr__")
      (by decide +kernel) (by decide +kernel) sub (F.args_bexc_repr _) ?_)
    refine exc_body base X' he' ht' hc ?_ hb
    exact ⟨_, _, rfl, hQ s.heap _ fun _ _ z => z⟩
  simp only [Option.isNone_some, Bool.false_eq_true, if_false, callSpecialIfBoundBy?, bindSpecialIfBound?]
  refine wpAny_bind (wpAny_holding (wpAny_bind (wpAny_bind (wpAny_bind (L0.here (L1.here ?_))))))
  have fin : wpAny (model prog w) A (call (.builtin "BaseException.__repr__.under") [.ref e, rawInt base] >>= fun v => pure (some v))
      (fun r s' => wpAny (model prog w) A (match r with
        | some r => do
          if (← isInstance r (.type "str")) = true then pure r else
            raiseError "TypeError" s!"__repr__ returned non-string (type {← typeNameOf r})"
        | none => unsupported "repr:special-get-raises") (fun v s' => ∃ y u, v = .str y u ∧ Q y s') E s') E s :=
    wpAny_bind (wpAny_mono last (fun v s' z => by
      obtain ⟨y, u, rfl, q⟩ := z
      exact wpAny_pure (wpAny_bind (wpAny_isInstance (T := "str") (b := true) rfl isSubtype_str_str (wpAny_pure ⟨y, u, rfl, q⟩))))
      fun _ _ z => z)
  have bd : bindSpecial (.builtin "BaseException.__repr__") (.ref e) = pure (.builtin "BaseException.__repr__", [.ref e]) :=
    F.excStr_ValueError.repr.bind _
  dsimp only
  simp only [bd]
  refine wpAny_bind (wpAny_askSetting (wpAny_ite ?_))
  split
  · exact wpAny_bind (wpAny_pure (wpAny_pure fin))
  · exact wpAny_tryCatch (wpAny_bind (wpAny_pure (wpAny_pure fin)))
end
end Pw

namespace Pw
open PySem PySem.Spec PyProof.Rows L2

/-- places that are shown no deeper than that -/
def AtM (K : PySem.W.Frag) (H : Hp) (n : Nat) (bs : List Addr) : Prop :=
  ∀ b ∈ bs, ∃ d m t, Shw K H (.ref b) d m t ∧ d ≤ n
theorem AtM.mono {K : PySem.W.Frag} {H : Hp} {n m : Nat} {bs : List Addr} (h : AtM K H n bs) (l : n ≤ m) : AtM K H m bs :=
  fun b hb => let ⟨d, k, t, s, z⟩ := h b hb; ⟨d, k, t, s, Nat.le_trans z l⟩
theorem AtM.app {K : PySem.W.Frag} {H : Hp} {n : Nat} {as bs : List Addr} (h : AtM K H n as) (g : AtM K H n bs) :
    AtM K H n (as ++ bs) := fun b hb => (List.mem_append.mp hb).elim (h b) (g b)
theorem AtM.out {K : PySem.W.Frag} {H : Hp} {n d m : Nat} {a : Addr} {t : Str} {bs : List Addr} (h : AtM K H n bs)
    (s : Shw K H (.ref a) d m t) (l : n < d) : a ∉ bs := fun hm => by
  obtain ⟨d', m', t', s', z⟩ := h a hm
  have e := Shw.one s s'
  omega
theorem AtM.con {K : PySem.W.Frag} {H : Hp} {n d m : Nat} {a : Addr} {t : Str} {bs : List Addr} (h : AtM K H n bs)
    (s : Shw K H (.ref a) d m t) (l : n ≤ d) : AtM K H d (a :: bs) := fun b hb => by
  rcases List.mem_cons.mp hb with e | hb
  · subst e
    exact ⟨d, m, t, s, Nat.le_refl _⟩
  · exact (h.mono l) b hb

theorem pairs_keys {P : Program} {w : World} : ∀ {kvs : List (Key × V)} {vs : List (Key × Value)} {es : List DictEntry},
    KV kvs vs → PySem.Pairs (mixKind P w) es vs →
    Vals (kvs.map fun p => kV p.1) (es.map (·.key)) ∧ Vals (kvs.map fun p => p.2) (es.map (·.val))
  | _, _, _, .nil, .nil => ⟨.nil, .nil⟩
  | _, _, _, .cons (a := p) (b := q) h hs, .cons (e := e) hk hv ps => by
    obtain ⟨h1, h2⟩ := pairs_keys hs ps
    refine ⟨.cons ?_ h1, .cons ?_ h2⟩
    · have hk' : keyIs q.1 e.key = true := hk
      show RelV (kV p.1) e.key
      rw [h.1]
      rcases keyIs_shape hk' with ⟨i, t, e1, e2⟩ | ⟨x, t, e1, e2⟩
      · rw [e1, e2]; exact ⟨t, rfl⟩
      · rw [e1, e2]; exact ⟨t, rfl⟩
    · show RelV p.2 e.val
      rw [hv]; exact h.2

section
variable {P : Program} {w : World} {K : PySem.W.Frag} {H : Hp} {h : Heap}
mutual
theorem Shw.run (hok : HOk P w H h) (X : K.In h) : ∀ {v : V} {d n : Nat} {t : Str}, Shw K H v d n t → n ≤ sizeLine →
    ∀ u, RelV v u → ∃ bs, AtM K H d bs ∧ ReprK P w bs h d u t
  | _, _, _, _, .non, _, u, r => by
    obtain rfl : u = Value.none := r
    exact ⟨[], (fun _ z => nomatch z), .of_is ReprIs.none _ _ _⟩
  | _, _, _, _, .bl b, _, u, r => by
    obtain rfl : u = Value.bool b := r
    exact ⟨[], (fun _ z => nomatch z), .of_is (ReprIs.bool b) _ _ _⟩
  | _, _, _, _, .int i hi, _, u, r => by
    obtain ⟨t, rfl⟩ := (show ∃ t, u = Value.int i t from r)
    exact ⟨[], (fun _ z => nomatch z), .of_is (ReprIs.int t hi) _ _ _⟩
  | _, _, _, _, .str x m hm, hl, u, r => by
    obtain ⟨t, rfl⟩ := (show ∃ t, u = Value.str x t from r)
    exact ⟨[], (fun _ z => nomatch z), .of_is (ReprIs.str x t (Nat.le_trans hm hl)) _ _ _⟩
  | _, _, _, _, .lst (a := a) (xs := xs) (d := d) (ts := ts) e hs, hl, u, r => by
    obtain rfl : u = Value.ref a := r
    obtain ⟨_, its, k, rv, h1⟩ := (show ObjOk P w H h a (.lst xs) from hok a _ e)
    obtain ⟨bs, hb, hk⟩ := ShwL.run hok X hs (by omega) its rv
    have sh := Shw.lst e hs
    have hna := hb.out sh (Nat.lt_succ_self _)
    refine ⟨a :: bs, hb.con sh (Nat.le_succ _), ?_⟩
    cases its with
    | nil =>
      cases hk
      rw [listText_nil]
      exact ReprK.listEmpty h1 rfl rfl
    | cons y l => exact ReprK.list h1 rfl rfl hna (by simpa using hk.length_eq) (fun i z q => hk.item i z (by simpa using q))
  | _, _, _, _, .tup (a := a) (xs := xs) (d := d) (ts := ts) e hs, hl, u, r => by
    obtain rfl : u = Value.ref a := r
    obtain ⟨_, its, rv, o, h1, h2, k, h3⟩ := (show ObjOk P w H h a (.tup xs) from hok a _ e)
    obtain ⟨bs, hb, hk⟩ := ShwL.run hok X hs (by omega) its rv
    have sh := Shw.tup e hs
    exact ⟨a :: bs, hb.con sh (Nat.le_succ _), ReprK.tuple h1 h2 h3 (hb.out sh (Nat.lt_succ_self _)) (by simpa using hk)⟩
  | _, _, _, _, .dct (a := a) (kvs := kvs) (ks := ks) (vs := vs) e hs1 hs2, hl, u, r => by
    obtain rfl : u = Value.ref a := r
    obtain ⟨_, hsys, us, hkv, o, es, ep, h1, h2, h3, _, h4, _⟩ := (show ObjOk P w H h a (.dK kvs) from hok a _ e)
    obtain ⟨r1, r2⟩ := pairs_keys hkv h4
    obtain ⟨b1, hb1, k1⟩ := ShwL.run hok X hs1 (by omega) _ r1
    obtain ⟨b2, hb2, k2⟩ := ShwL.run hok X hs2 (by omega) _ r2
    have sh := Shw.dct e hs1 hs2
    have hb := (hb1.mono (Nat.le_max_left _ _)).app (hb2.mono (Nat.le_max_right _ _))
    exact ⟨a :: (b1 ++ b2), hb.con sh (Nat.le_succ _), ReprK.dict h1 h2.1 h3 hsys (hb.out sh (Nat.lt_succ_self _))
      (ReprEntriesK.of_two es.toList _ _ (k1.more_le (fun b z => List.mem_append_left _ z) (Nat.le_max_left _ _))
        (k2.more_le (fun b z => List.mem_append_right _ z) (Nat.le_max_right _ _)))⟩
  | _, _, _, _, .exc (a := a) (C := C) (t := t) e et c l1 l2, hl, u, r => by
    obtain rfl : u = Value.ref a := r
    obtain ⟨_, its, rv, o, h1, h2, k, h3⟩ := (show ObjOk P w H h t (.tup _) from hok t _ et)
    cases rv with
    | cons rx rr =>
      cases rr
      obtain ⟨tk, rfl⟩ := (show ∃ tk, _ = Value.str _ tk from rx)
      exact ⟨[], (fun _ z => nomatch z), ReprK.exq X (exq_at hok e) ⟨o, k, h1, h2, h3⟩ c⟩
theorem ShwL.run (hok : HOk P w H h) (X : K.In h) : ∀ {vs : List V} {d n : Nat} {ts : List Str}, ShwL K H vs d n ts → n ≤ sizeLine →
    ∀ us, Vals vs us → ∃ bs, AtM K H d bs ∧ ReprAllK P w bs h d us ts
  | _, _, _, _, .nil, _, us, r => by
    cases r
    exact ⟨[], (fun _ z => nomatch z), .nil⟩
  | _, _, _, _, .cons s ss, hl, us, r => by
    cases r with
    | cons rx rr =>
      obtain ⟨b1, hb1, k1⟩ := Shw.run hok X s (by omega) _ rx
      obtain ⟨b2, hb2, k2⟩ := ShwL.run hok X ss (by omega) _ rr
      refine ⟨b1 ++ b2, (hb1.mono (Nat.le_max_left _ _)).app (hb2.mono (Nat.le_max_right _ _)), .cons ?_ ?_⟩
      · exact (k1.more fun b z => List.mem_append_left _ z).level_le (Nat.le_max_left _ _)
      · exact k2.more_le (fun b z => List.mem_append_right _ z) (Nat.le_max_right _ _)
end
end

/-- repr(x): its text -/
def rRepr (K : PySem.W.Frag) : List V → Hp → VK → Prop := fun xs H Q => ∃ (x : V) (d n : Nat) (t : Str),
  xs = [x] ∧ Shw K H x d n t ∧ (∀ a, x = .ref a → 0 < d) ∧ n ≤ sizeLine ∧ d ≤ 60 ∧ Q (.str t) H
theorem call_repr {X : Cx} (gd : X.A.guards = some []) (hu : X.A.units + 64 < cLine) : CallR X (.builtin "repr") (rRepr X.K) := by
  intro pins s σ H xs us Q I r h
  obtain ⟨x, d, n, t, rfl, sh, hpos, hl, hd, q⟩ := h
  have hlen := Shw.len sh
  cases r with
  | cons rx rr =>
    cases rr
    rename_i u
    have hback : ∀ h' uu tk, (∀ b o, s.heap.get? b = some o → h'.get? b = some o) →
        EP X pins σ Q (.str t uu) { s with heap := h', toks := tk } := fun h' uu tk k =>
      ⟨.str t, H, I.kept k, ⟨uu, rfl⟩, q⟩
    cases sh with
    | non =>
      obtain rfl : u = Value.none := rx
      exact PySem.P.repr_of_none (hback s.heap _ _ fun _ _ z => z)
    | bl b =>
      obtain rfl : u = Value.bool b := rx
      exact PySem.P.repr_of_bool (hback s.heap _ _ fun _ _ z => z)
    | int i hi =>
      obtain ⟨tk, rfl⟩ := (show ∃ tk, u = Value.int i tk from rx)
      exact PySem.P.repr_of_int hi (hback s.heap _ _ fun _ _ z => z)
    | str z m hm =>
      obtain ⟨tk, rfl⟩ := (show ∃ tk, u = Value.str z tk from rx)
      exact PySem.P.repr_of_str (hback s.heap _ _ fun _ _ z => z) (Nat.le_trans hm hl)
    | @lst a ys d0 n0 ts e hs =>
      obtain rfl : u = Value.ref a := rx
      obtain ⟨_, its, k, rv, h1⟩ := (show ObjOk X.prog X.w H s.heap a (.lst ys) from I.hok a _ e)
      obtain ⟨bs, hb, hk⟩ := ShwL.run I.hok I.kIn hs (by omega) its rv
      have hna := hb.out (Shw.lst e hs) (Nat.lt_succ_self _)
      refine call_repr_slot (by omega) ⟨_, h1, rfl⟩ F.slot_list_repr.toG ?_
      cases its with
      | nil =>
        cases hk
        rw [listText_nil] at hback
        exact call_list_repr_empty ⟨_, h1, rfl⟩ h1 rfl ⟨_, _, rfl, hback s.heap _ _ fun _ _ z => z⟩
      | cons y l =>
        exact call_list_reprK h1 rfl rfl hna (by simpa using hk.length_eq) (fun i z q => hk.item i z (by simpa using q))
          (g := []) gd (fun b _ => Clear.nil b) (by show X.A.units + 1 + _ < _; omega) (fun _ _ z => z)
          (fun h' uu tk k => ⟨_, _, rfl, hback h' uu tk k⟩) (Nat.le_trans hlen hl)
    | @tup a ys d0 n0 ts e hs =>
      obtain rfl : u = Value.ref a := rx
      obtain ⟨_, its, rv, o, h1, h2, k, h3⟩ := (show ObjOk X.prog X.w H s.heap a (.tup ys) from I.hok a _ e)
      obtain ⟨bs, hb, hk⟩ := ShwL.run I.hok I.kIn hs (by omega) its rv
      have hna := hb.out (Shw.tup e hs) (Nat.lt_succ_self _)
      refine call_repr_slot (by omega) ⟨_, h1, h2⟩ F.slot_tuple_repr ?_
      exact call_tuple_reprK h1 h2 h3 hna (by simpa using hk)
        (g := []) gd (fun b _ => Clear.nil b) (by show X.A.units + 1 + _ < _; omega) (fun _ _ z => z)
        (fun h' uu tk k => ⟨_, _, rfl, hback h' uu tk k⟩) (Nat.le_trans hlen hl)
    | @dct a kvs d1 d2 n1 n2 ks vs e hs1 hs2 =>
      obtain rfl : u = Value.ref a := rx
      obtain ⟨_, hsys, us, hkv, o, es, ep, h1, h2, h3, _, h4, _⟩ := (show ObjOk X.prog X.w H s.heap a (.dK kvs) from I.hok a _ e)
      obtain ⟨r1, r2⟩ := pairs_keys hkv h4
      obtain ⟨b1, hb1, k1⟩ := ShwL.run I.hok I.kIn hs1 (by omega) _ r1
      obtain ⟨b2, hb2, k2⟩ := ShwL.run I.hok I.kIn hs2 (by omega) _ r2
      have hb := (hb1.mono (Nat.le_max_left d1 d2)).app (hb2.mono (Nat.le_max_right d1 d2))
      have hna := hb.out (Shw.dct e hs1 hs2) (Nat.lt_succ_self _)
      refine call_repr_slot (by omega) ⟨_, h1, h2.1⟩ F.slot_dict_repr ?_
      exact call_dict_reprK h1 h2.1 h3 hsys hna
        (ReprEntriesK.of_two es.toList _ _ (k1.more_le (fun b z => List.mem_append_left _ z) (Nat.le_max_left _ _))
          (k2.more_le (fun b z => List.mem_append_right _ z) (Nat.le_max_right _ _)))
        (g := []) gd (fun b _ => Clear.nil b) (by show X.A.units + 1 + _ < _; omega) (fun _ _ z => z)
        (fun h' uu tk k => ⟨_, _, rfl, hback h' uu tk k⟩) (Nat.le_trans hlen hl)
    | exc e et c l1 l2 => exact absurd (hpos _ rfl) (Nat.lt_irrefl 0)

/-! ### what is shown stays while what is tracked stays -/
section
variable {K : PySem.W.Frag} {H H' : Hp}
mutual
theorem Shw.same (S : Same H H') : ∀ {v : V} {d n : Nat} {t : Str}, Shw K H v d n t → Shw K H' v d n t
  | _, _, _, _, .non => .non
  | _, _, _, _, .bl b => .bl b
  | _, _, _, _, .int i h => .int i h
  | _, _, _, _, .str x m h => .str x m h
  | _, _, _, _, .lst e h => .lst (S _ _ e) (ShwL.same S h)
  | _, _, _, _, .tup e h => .tup (S _ _ e) (ShwL.same S h)
  | _, _, _, _, .dct e h1 h2 => .dct (S _ _ e) (ShwL.same S h1) (ShwL.same S h2)
  | _, _, _, _, .exc e et c l1 l2 => .exc (S _ _ e) (S _ _ et) c l1 l2
theorem ShwL.same (S : Same H H') : ∀ {vs : List V} {d n : Nat} {ts : List Str}, ShwL K H vs d n ts → ShwL K H' vs d n ts
  | _, _, _, _, .nil => .nil
  | _, _, _, _, .cons h hs => .cons (Shw.same S h) (ShwL.same S hs)
end
end
end Pw

namespace PySem.W
open PySem PySem.Calls PyProof.Rows Builtin Builtin.ObjectAttr Builtin.Getset_descriptor
section
variable {prog : Program} {w : World} {A : Around} {E : Value → Shared → Prop} {s : Shared} {K : Frag} {D x : Addr}
  {ox oD : Obj}
/-- e.__class__, e an exception of one's own that has its dict -/
theorem pw_class {Q : Option Value → Shared → Prop}
    (hga : findIn K (.ref D) "__getattribute__" = some (some (.builtin "BaseException.__getattribute__")))
    (hgt : findIn K (.ref D) "__getattr__" = some none)
    (hsub : subIn K (.ref D) (.type "BaseException") = some true)
    (hf : findObj K D (some oD) "__class__" =
      some (.bind (.builtin "getset_descriptor.__get__") (.builtin "object.__class__")))
    (hm : mroIn K D (.type "object") = some true) (X : K.In s.heap) (I : InstAt s.heap x ox D (some oD))
    (h : Q (some (.ref D)) { s with toks := s.toks + 1 }) :
    wpAny (model prog w) A (getAttr? (.ref x) "__class__") Q E s := by
  obtain ⟨hp, g, d, t, os⟩ := s
  have T0 := I.type (M := model prog w)
  have T1 := looks_findIn (M := model prog w) X hga
  have T2 := looks_findIn (M := model prog w) X hgt
  have T3 := looks_find (M := model prog w) X I hf
  have isE : Looks (model prog w) hp (isInstance (.ref x) (.type "BaseException")) true :=
    T0.andThen (looks_subIn X hsub)
  have z0 : (false && onTheHeap (Value.builtin "BaseException.__getattribute__")) = false := rfl
  have z2 : (Value.builtin "BaseException.__getattribute__" ==
    Value.builtin "object.__getattribute__") = false := by decide +kernel
  have z1 : (onTheHeap (Value.ref D) && Value.builtin "BaseException.__getattribute__" ==
    Value.builtin "object.__getattribute__") = false := by rw [z2]; rfl
  unfold getAttr? getAttrBy? getAttrBy
  refine wpAny_bind (wpAny_mkText (wpAny_bind (wpAny_attempt (wpAny_holding (wpAny_bind
    (T0.at (wpAny_bind (T1.at ?_))))))))
  show wpAny _ _ (if (onTheHeap (Value.ref D) && Value.builtin "BaseException.__getattribute__" ==
    Value.builtin "object.__getattribute__") = true then _ else _) _ _ _
  rw [z1, if_neg Bool.false_ne_true]
  unfold getAttrByItsOwn hookBefore
  refine wpAny_bind ?_
  rw [if_pos (show onTheHeap (Value.ref D) = true from rfl)]
  refine T2.at (wpAny_bind (wpAny_attempt (wpAny_holding ?_)))
  unfold callGetattribute
  rw [z0, if_neg Bool.false_ne_true]
  unfold boundAndCalled
  rw [PySem.F.excAttr_ValueError.ga.bind (.ref x)]
  refine wpAny_bind (wpAny_pure ?_)
  show wpAny _ _ (call (.builtin "BaseException.__getattribute__")
    [.ref x, .str "__class__" t]) _ _ _
  refine wpAny_call (codeAny_call_builtin PySem.F.excAttr_ValueError.ga.plain
    PySem.F.entry_bexc_ga ?_)
  refine @check_slot (model prog w) _ _ ⟨hp, g, d, t + 1, os⟩ "BaseException.__getattribute__"
    "BaseException" "__getattribute__" (.ref x) [.str "__class__" t] [] _ (by decide +kernel)
    (by decide +kernel) isE (PySem.F.args_bexc_ga (.ref x) (.str "__class__" t)) ?_
  unfold Builtin.«object.__getattribute__»
  refine wpAny_bind (wpAny_of_eq (a := ((Value.ref x : Value), [Value.str "__class__" t]))
    (by first | rfl | (simp only [slotArgs]; rfl)) ?_)
  refine wpAny_bind (wpAny_pure (wpAny_bind (T0.at (wpAny_bind (T3.at ?_)))))
  show wpAny _ _ (holding [Value.builtin "object.__class__"] (call (.builtin "getset_descriptor.__get__")
    [.builtin "object.__class__", .ref x, .ref D]) >>= ret) _ _ _
  refine wpAny_bind (wpAny_holding (wpAny_call (class_get (s := ⟨hp, g, d, t + 1, os⟩)
    (ox := ox) (od := some oD) X I hm ?_)))
  refine wpAny_pure ?_
  show wpAny _ _ (handedOut (.ref D)) _ _ _
  rw [handedOut_of (v := .ref D) rfl]
  first
    | exact wpAny_pure (wpAny_pure h)
    | exact wpAny_pure h
    | exact wpAny_pure (wpAny_bind (wpAny_pure (wpAny_pure h)))
end
end PySem.W

namespace Pw
open PySem PySem.Spec PyProof.Rows L2

theorem cls_of_dict {K : PySem.W.Frag} {D : Addr} (hd : PySem.W.hasDictIn K D = true) :
    (PySem.W.clsIn K D).isSome = true := by
  cases e : PySem.W.clsIn K D with
  | some _ => rfl
  | none =>
    unfold PySem.W.hasDictIn at hd
    rw [e] at hd
    cases hd

theorem kit_exq {K : PySem.W.Frag} {x D t dx : Addr} {oD : Obj} (C : ExcC K D) :
    PySem.W.KitX K (.ref x) (.ref D) (fun h => PySem.W.InstAt h x (exOb D (some dx) t) D (some oD)) where
  ty := fun _ _ _ I => I.type
  it := fun M h X _ => by
    obtain ⟨cd, hc⟩ := Option.isSome_iff_exists.mp (cls_of_dict C.hd)
    unfold PySem.W.clsIn at hc
    split at hc
    · rename_i ho
      intro A' Q' E' s' k q
      unfold isType loadHead
      exact wpAny_bind (wpAny_loadPart (k _ _ (X _ _ ho)) (wpAny_pure q))
    · cases hc
  ne := fun h tp dd its n sl X htp => by
    obtain ⟨cd, hc⟩ := Option.isSome_iff_exists.mp (cls_of_dict C.hd)
    refine Bool.eq_false_iff.mpr fun q => ?_
    obtain rfl : D = tp := Value.ref.inj (beq_iff_eq.mp q)
    unfold PySem.W.clsIn at hc
    split at hc
    · rename_i ho
      cases (X _ _ ho).symm.trans htp
    · cases hc
  ca := fun X I k => PySem.W.pw_class C.hg C.hk C.hs
    (PySem.W.findObj_data (cls_of_dict C.hd) C.ha C.hn C.ht) C.hm X I k

/-- a value's type, exceptions of one's own too -/
inductive TyQ (K : PySem.W.Frag) (H : Hp) : V → Value → Prop where
  | base {x : V} {t : Value} (h : TyX K H x t) : TyQ K H x t
  | exc {a D t dx : Addr} {fs : List (Str × V)} (e : H a = some (exq a D (some dx) t)) (ed : H dx = some (exd dx fs))
      (c : ExcC K D) : TyQ K H (.ref a) (.ref D)

/-- isinstance(x, c): one class -/
def rIsA (K : PySem.W.Frag) : List V → Hp → VK → Prop := fun xs H Q => ∃ (x c : V) (t u : Value) (b : Bool),
  xs = [x, c] ∧ ClsV c u ∧ TyQ K H x t ∧ PySem.W.kitOne K t u = some b ∧ Q (.bl b) H
theorem call_isa {X : Cx} : CallR X (.builtin "isinstance") (rIsA X.K) := by
  intro pins s σ H xs us Q I r h
  obtain ⟨x, c, t, u, b, rfl, k, ty, e, q⟩ := h
  cases ty with
  | base ty => exact call_isi pins s σ H _ us Q I r ⟨x, c, t, u, b, rfl, k, ty, e, q⟩
  | exc ex ed C =>
    obtain ⟨u1, u2, rfl, r1, r2⟩ := vals2 r
    obtain rfl := k.eq r2
    obtain rfl : u1 = Value.ref _ := r1
    have ha := exq_at I.hok ex
    obtain ⟨mA, ⟨oD, es, ep, hd, hr⟩, _⟩ := exd_at I.hok ed
    refine PySem.W.kia_one (kit_exq (oD := oD) C) I.kIn ⟨ha, rfl, rfl, hd⟩ e (fun z => nomatch z)
      fun tk => ⟨.bl b, H, I.tok tk, rfl, q⟩
end Pw

/-! Kinds of things, and short words for defs. -/
namespace Pw
open PySem PySem.Spec PyProof.Rows L2

/-! ### the kinds of things -/
/-- what an exception's class must say, so that it is told from the built-in kinds -/
structure ExT (K : PySem.W.Frag) (D : Addr) : Prop where
  c : ExcC K D
  int : PySem.W.kitOne K (.ref D) (.type "int") = some false
  bool : PySem.W.kitOne K (.ref D) (.type "bool") = some false
  str : PySem.W.kitOne K (.ref D) (.type "str") = some false
  tuple : PySem.W.kitOne K (.ref D) (.type "tuple") = some false
/-- a thing and its type -/
inductive Ty (K : PySem.W.Frag) (H : Hp) : V → Value → Prop where
  | non : Ty K H .non (.type "NoneType")
  | bl (b : Bool) : Ty K H (.bl b) (.type "bool")
  | int (i : Int) : Ty K H (.int i) (.type "int")
  | str (s : Str) : Ty K H (.str s) (.type "str")
  | lst {a : Addr} {xs : List V} (e : H a = some (.lst xs)) : Ty K H (.ref a) (.type "list")
  | tup {a : Addr} {xs : List V} (e : H a = some (.tup xs)) : Ty K H (.ref a) (.type "tuple")
  | dct {a : Addr} {kvs : List (Key × V)} (e : H a = some (.dK kvs)) : Ty K H (.ref a) (.type "dict")
  | exc {a D t dx : Addr} {fs : List (Str × V)} (e : H a = some (exq a D (some dx) t)) (ed : H dx = some (exd dx fs))
      (c : ExT K D) : Ty K H (.ref a) (.ref D)
theorem Ty.q {K : PySem.W.Frag} {H : Hp} {x : V} {t : Value} (h : Ty K H x t) : TyQ K H x t := by
  cases h with
  | non => exact .base (.base .non)
  | bl b => exact .base (.base (.bl b))
  | int i => exact .base (.base (.int i))
  | str s => exact .base (.base (.str s))
  | lst e => exact .base (.base (.lst e))
  | tup e => exact .base (.base (.tup e))
  | dct e => exact .base (.base (.dK e))
  | exc e ed c => exact .exc e ed c.c
theorem Ty.same {K : PySem.W.Frag} {H H' : Hp} {x : V} {t : Value} (S : Same H H') (h : Ty K H x t) : Ty K H' x t := by
  cases h with
  | non => exact .non
  | bl b => exact .bl b
  | int i => exact .int i
  | str s => exact .str s
  | lst e => exact .lst (S _ _ e)
  | tup e => exact .tup (S _ _ e)
  | dct e => exact .dct (S _ _ e)
  | exc e ed c => exact .exc (S _ _ e) (S _ _ ed) c
def numB : V → Bool
  | .int _ => true
  | _ => false
def blB : V → Bool
  | .bl _ => true
  | _ => false
def strB : V → Bool
  | .str _ => true
  | _ => false
def tupB (H : Hp) : V → Bool
  | .ref a => match H a with
    | some (.tup _) => true
    | _ => false
  | _ => false
theorem Ty.isInt {K : PySem.W.Frag} {H : Hp} {x : V} {t : Value} (h : Ty K H x t) :
    PySem.W.kitOne K t (.type "int") = some (numB x || blB x) := by
  cases h with
  | non  => exact (kit_ty (a := "NoneType") (b := "int") (r := false) (by decide +kernel) : _ = some false)
  | bl b => exact (kit_ty (a := "bool") (b := "int") (r := true) (by decide +kernel) : _ = some true)
  | int i => exact (kit_ty (a := "int") (b := "int") (r := true) (by decide +kernel) : _ = some true)
  | str s => exact (kit_ty (a := "str") (b := "int") (r := false) (by decide +kernel) : _ = some false)
  | lst e => exact (kit_ty (a := "list") (b := "int") (r := false) (by decide +kernel) : _ = some false)
  | tup e => exact (kit_ty (a := "tuple") (b := "int") (r := false) (by decide +kernel) : _ = some false)
  | dct e => exact (kit_ty (a := "dict") (b := "int") (r := false) (by decide +kernel) : _ = some false)
  | exc e ed c => exact c.int
theorem Ty.isBool {K : PySem.W.Frag} {H : Hp} {x : V} {t : Value} (h : Ty K H x t) :
    PySem.W.kitOne K t (.type "bool") = some (blB x) := by
  cases h with
  | non  => exact (kit_ty (a := "NoneType") (b := "bool") (r := false) (by decide +kernel) : _ = some false)
  | bl b => exact (kit_ty (a := "bool") (b := "bool") (r := true) (by decide +kernel) : _ = some true)
  | int i => exact (kit_ty (a := "int") (b := "bool") (r := false) (by decide +kernel) : _ = some false)
  | str s => exact (kit_ty (a := "str") (b := "bool") (r := false) (by decide +kernel) : _ = some false)
  | lst e => exact (kit_ty (a := "list") (b := "bool") (r := false) (by decide +kernel) : _ = some false)
  | tup e => exact (kit_ty (a := "tuple") (b := "bool") (r := false) (by decide +kernel) : _ = some false)
  | dct e => exact (kit_ty (a := "dict") (b := "bool") (r := false) (by decide +kernel) : _ = some false)
  | exc e ed c => exact c.bool
theorem Ty.isStr {K : PySem.W.Frag} {H : Hp} {x : V} {t : Value} (h : Ty K H x t) :
    PySem.W.kitOne K t (.type "str") = some (strB x) := by
  cases h with
  | non  => exact (kit_ty (a := "NoneType") (b := "str") (r := false) (by decide +kernel) : _ = some false)
  | bl b => exact (kit_ty (a := "bool") (b := "str") (r := false) (by decide +kernel) : _ = some false)
  | int i => exact (kit_ty (a := "int") (b := "str") (r := false) (by decide +kernel) : _ = some false)
  | str s => exact (kit_ty (a := "str") (b := "str") (r := true) (by decide +kernel) : _ = some true)
  | lst e => exact (kit_ty (a := "list") (b := "str") (r := false) (by decide +kernel) : _ = some false)
  | tup e => exact (kit_ty (a := "tuple") (b := "str") (r := false) (by decide +kernel) : _ = some false)
  | dct e => exact (kit_ty (a := "dict") (b := "str") (r := false) (by decide +kernel) : _ = some false)
  | exc e ed c => exact c.str
theorem Ty.isTuple {K : PySem.W.Frag} {H : Hp} {x : V} {t : Value} (h : Ty K H x t) :
    PySem.W.kitOne K t (.type "tuple") = some (tupB H x) := by
  cases h with
  | non  => exact (kit_ty (a := "NoneType") (b := "tuple") (r := false) (by decide +kernel) : _ = some false)
  | bl b => exact (kit_ty (a := "bool") (b := "tuple") (r := false) (by decide +kernel) : _ = some false)
  | int i => exact (kit_ty (a := "int") (b := "tuple") (r := false) (by decide +kernel) : _ = some false)
  | str s => exact (kit_ty (a := "str") (b := "tuple") (r := false) (by decide +kernel) : _ = some false)
  | @lst ad xs e =>
    have z : tupB H (.ref ad) = false := by simp only [tupB, e]
    rw [z]
    exact kit_ty (a := "list") (b := "tuple") (r := false) (by decide +kernel)
  | @tup ad xs e =>
    have z : tupB H (.ref ad) = true := by simp only [tupB, e]
    rw [z]
    exact kit_ty (a := "tuple") (b := "tuple") (r := true) (by decide +kernel)
  | @dct ad xs e =>
    have z : tupB H (.ref ad) = false := by simp only [tupB, e]
    rw [z]
    exact kit_ty (a := "dict") (b := "tuple") (r := false) (by decide +kernel)
  | @exc ad D t dx fs e ed c =>
    have z : tupB H (.ref ad) = false := by simp only [tupB, e]; rfl
    rw [z]
    exact c.tuple

/-! ### defs by name -/
section
variable (P : Program) (w : World) (K : PySem.W.Frag) (mg : Str → Option Value) (base : Heap)
/-- the def st of the text stands under its name x -/
structure At (x : Str) (st : Stmt) : Prop where
  ex : ∃ f fd, Fun K x x st f fd ∧ mg x = some (.ref f)
/-- under its name x a def stands that keeps the promise sp -/
structure Def (x : Str) (k : Nat) (ps : List Str) (sp : Sp) : Prop where
  ex : ∃ f fd, mg x = some (.ref f) ∧ PySem.W.keepIn K (.ref f) = true ∧ Binds K fd ps [] ∧
    FnOk P w K mg base CX0 k f fd ps sp
structure DefG (x : Str) (k : Nat) (ps : List Str) (sp : Sp) : Prop where
  ex : ∃ f fd, mg x = some (.ref f) ∧ PySem.W.keepIn K (.ref f) = true ∧ Binds K fd ps [] ∧
    FnG P w K mg base CX0 k f fd ps sp
end
section
variable {P : Program} {w : World} {K : PySem.W.Frag} {mg : Str → Option Value} {base : Heap}
theorem Def.mono {x : Str} {k j : Nat} {ps : List Str} {sp : Sp} (d : Def P w K mg base x k ps sp) (h : k ≤ j) :
    Def P w K mg base x j ps sp :=
  let ⟨f, fd, a, b, c, F⟩ := d.ex
  ⟨f, fd, a, b, c, F.mono h⟩
theorem mkDef {x : Str} {st : Stmt} {N ps : List Str} {k : Nat} {sp : Sp} (A : At K mg x st)
    (S : FnScope N ps (defScope st))
    (hb : ∀ (kV doc pm : Value) (an : Option Addr) (cdv ct : Value) (us : List Value), us.length = ps.length →
      bindArgs (PySem.W.fnOf x x (defArgs st) (defBody st) (defScope st) .none kV doc pm an cdv ct) ⟨us, []⟩ = pure (ps.zip us))
    (len : ∀ vs H Q E, sp vs H Q E → vs.length = ps.length)
    (body : ∀ (f : Addr) (cdv : Value) (A : Around) (out : List Env) (s : Shared) (H : Hp) (vs : List V) (Q : VK) (E : XK),
      Room k (A.deeper (envOfC x (defScope st) s.heap.objs.size f cdv)) → sp vs H Q E →
      ∃ t, PSs (cxOf CX0 P w K mg base N x (defScope st) f cdv A out s H E).nox (defBody st) t ∧
        t { nx := fun _ H' => Q .non H', rt := Q } (start N vs) H) : Def P w K mg base x (k + 1) ps sp := by
  obtain ⟨f, fd, F, m⟩ := A.ex
  exact ⟨f, fd, m, F.kp, F.binds hb, F.ok S len (body f)⟩
theorem mkDefG {x : Str} {st : Stmt} {N ps : List Str} {k : Nat} {sp : Sp} (A : At K mg x st)
    (S : FnScope N ps (defScope st))
    (hb : ∀ (kV doc pm : Value) (an : Option Addr) (cdv ct : Value) (us : List Value), us.length = ps.length →
      bindArgs (PySem.W.fnOf x x (defArgs st) (defBody st) (defScope st) .none kV doc pm an cdv ct) ⟨us, []⟩ = pure (ps.zip us))
    (len : ∀ vs H Q E, sp vs H Q E → vs.length = ps.length)
    (body : ∀ (f : Addr) (cdv : Value) (A : Around) (out : List Env) (s : Shared) (H : Hp) (vs : List V) (Q : VK) (E : XK),
      A.guards = some [] → Room k (A.deeper (envOfC x (defScope st) s.heap.objs.size f cdv)) → sp vs H Q E →
      ∃ t, PSs (cxOf CX0 P w K mg base N x (defScope st) f cdv A out s H E).nox (defBody st) t ∧
        t { nx := fun _ H' => Q .non H', rt := Q } (start N vs) H) : DefG P w K mg base x (k + 1) ps sp := by
  obtain ⟨f, fd, F, m⟩ := A.ex
  exact ⟨f, fd, m, F.kp, F.binds hb, okG F S len (body f)⟩
end
section
variable {X : Cx} {x : Str} {k j : Nat} {ps : List Str} {sp : Sp} {p pos : Pos} {e : Expr} {es : List Expr} {t : TA}
/-- x(e, ..), by the promise of the def under that name -/
theorem pe_d (D : Def X.prog X.w X.K X.mg X.base x k ps sp) (hr : Room j X.A) (hk : k ≤ j) (hg : Gl X x) (ha : PA X (e :: es) t)
    (hdb : (x == ("__debug__" : Str)) = false := by decide)
    (he : starEach (e :: es) X.env = (false, eval e X.env) :: starEach es X.env := by rfl)
    (hpl : (backTo pos (starEach es X.env)).any (·.1) = false := by rfl) :
    PE X (.Call (.Name x p) (e :: es) [] pos) (tCall sp [] E0 t) := by
  obtain ⟨f, fd, m, kp, b, F⟩ := D.ex
  exact pe_call F (hr.mono hk) hg m kp b .nil pass0 ha hdb he hpl
theorem pe_dG (D : DefG X.prog X.w X.K X.mg X.base x k ps sp) (gd : X.A.guards = some []) (hr : Room j X.A) (hk : k ≤ j) (hg : Gl X x)
    (ha : PA X (e :: es) t) (hdb : (x == ("__debug__" : Str)) = false := by decide)
    (he : starEach (e :: es) X.env = (false, eval e X.env) :: starEach es X.env := by rfl)
    (hpl : (backTo pos (starEach es X.env)).any (·.1) = false := by rfl) :
    PE X (.Call (.Name x p) (e :: es) [] pos) (tCall sp [] E0 t) := by
  obtain ⟨f, fd, m, kp, b, F⟩ := D.ex
  exact pe_callG F gd (hr.mono hk) hg m kp b .nil pass0 ha hdb he hpl
end

/-! ### heaps: all but one place stays -/
/-- the heap without one place -/
def wo (H : Hp) (p : Addr) : Hp := fun b => if b = p then none else H b
theorem wo_ne {H : Hp} {p b : Addr} (h : b ≠ p) : wo H p b = H b := if_neg h
theorem wo_same {H : Hp} {p : Addr} : Same (wo H p) H := fun b o e => by
  unfold wo at e
  split at e
  · cases e
  · exact e
theorem wo_at {H : Hp} {p b : Addr} {o : HO} (e : wo H p b = some o) : b ≠ p ∧ H b = some o := by
  unfold wo at e
  split at e
  · cases e
  · rename_i n
    exact ⟨n, e⟩
theorem wo_of {H : Hp} {p b : Addr} {o : HO} (n : b ≠ p) (e : H b = some o) : wo H p b = some o := (wo_ne n).trans e
/-- all that is tracked, but at p, stays -/
def But (p : Addr) (H H' : Hp) : Prop := Same (wo H p) (wo H' p)
theorem But.refl {p : Addr} {H : Hp} : But p H H := fun _ _ e => e
theorem But.trans {p : Addr} {H H1 H2 : Hp} (a : But p H H1) (b : But p H1 H2) : But p H H2 := fun c o h => b c o (a c o h)
theorem But.of {p : Addr} {H H' : Hp} (h : ∀ b o, b ≠ p → H b = some o → H' b = some o) : But p H H' := fun b o e =>
  let ⟨n, z⟩ := wo_at e
  wo_of n (h b o n z)
theorem But.at {p : Addr} {H H' : Hp} (h : But p H H') {b : Addr} {o : HO} (n : b ≠ p) (e : H b = some o) : H' b = some o :=
  (wo_at (h b o (wo_of n e))).2
theorem Same.but {p : Addr} {H H' : Hp} (h : Same H H') : But p H H' := But.of fun b o _ e => h b o e
theorem Same.laid {H : Hp} {q : Addr} {o : HO} (n : H q = none) : Same H (upd H q o) := fun b u e =>
  (upd_ne (ne_of_none e n)).trans e
theorem But.laid {p : Addr} {H : Hp} {q : Addr} {o : HO} (n : H q = none) : But p H (upd H q o) := Same.but (Same.laid n)
theorem But.set {p : Addr} {H : Hp} {o : HO} : But p H (upd H p o) := But.of fun b u n e => (upd_ne n).trans e
end Pw

/-! Lists of tuples; comprehensions and loops that lay a new list, all else staying. -/
namespace Pw
open PySem PySem.Spec PyProof.Rows L2

/-! ### lists of tuples -/
/-- at each place of vs the tuple that f makes of the row -/
inductive Al {α : Type} (f : α → List V) (H : Hp) : List V → List α → Prop where
  | nil : Al f H [] []
  | cons {p : Addr} {vs : List V} {r : α} {rs : List α} (e : H p = some (.tup (f r))) (t : Al f H vs rs) : Al f H (.ref p :: vs) (r :: rs)
section
variable {α : Type} {f : α → List V} {H H' : Hp}
theorem Al.same {vs : List V} {rs : List α} (h : Al f H vs rs) (S : Same H H') : Al f H' vs rs := by
  induction h with
  | nil => exact .nil
  | cons e _ ih => exact .cons (S _ _ e) ih
theorem Al.imp {vs : List V} {rs : List α} (h : Al f H vs rs) (S : ∀ p xs, H p = some (.tup xs) → H' p = some (.tup xs)) : Al f H' vs rs := by
  induction h with
  | nil => exact .nil
  | cons e _ ih => exact .cons (S _ _ e) ih
theorem Al.length {vs : List V} {rs : List α} (h : Al f H vs rs) : vs.length = rs.length := by
  induction h with
  | nil => rfl
  | cons _ _ ih => simp only [List.length_cons, ih]
theorem Al.append {vs ws : List V} {rs ss : List α} (h : Al f H vs rs) (k : Al f H ws ss) : Al f H (vs ++ ws) (rs ++ ss) := by
  induction h with
  | nil => exact k
  | cons e _ ih => exact .cons e ih
theorem Al.one {p : Addr} {r : α} (e : H p = some (.tup (f r))) : Al f H [.ref p] [r] := .cons e .nil
theorem Al.snoc {vs : List V} {rs : List α} {p : Addr} {r : α} (h : Al f H vs rs) (e : H p = some (.tup (f r))) :
    Al f H (vs ++ [.ref p]) (rs ++ [r]) := h.append (.one e)
theorem Al.get {vs : List V} {rs : List α} (h : Al f H vs rs) : ∀ {i : Nat} {v : V}, vs[i]? = some v →
    ∃ p r, v = .ref p ∧ rs[i]? = some r ∧ H p = some (.tup (f r)) := by
  induction h with
  | nil => intro i v e; simp at e
  | @cons p _ r _ e _ ih =>
    intro i v z
    cases i with
    | zero =>
      simp only [List.getElem?_cons_zero, Option.some.injEq] at z
      exact ⟨p, r, z.symm, rfl, e⟩
    | succ i =>
      simp only [List.getElem?_cons_succ] at z
      obtain ⟨q, r', h1, h2, h3⟩ := ih z
      exact ⟨q, r', h1, by simpa using h2, h3⟩
theorem Al.at {vs : List V} {rs : List α} (h : Al f H vs rs) {i : Nat} {r : α} (e : rs[i]? = some r) :
    ∃ p, vs[i]? = some (.ref p) ∧ H p = some (.tup (f r)) := by
  have hi : i < vs.length := by
    rw [h.length]
    exact (List.getElem?_eq_some_iff.mp e).1
  have hv : vs[i]? = some vs[i] := List.getElem?_eq_getElem hi
  obtain ⟨p, r', h1, h2, h3⟩ := h.get hv
  rw [e] at h2
  cases h2
  exact ⟨p, by rw [hv, h1], h3⟩
theorem Al.mem {vs : List V} {rs : List α} (h : Al f H vs rs) {v : V} (m : v ∈ vs) : ∃ p r, v = .ref p ∧ r ∈ rs ∧ H p = some (.tup (f r)) := by
  obtain ⟨i, e⟩ := List.mem_iff_getElem?.mp m
  obtain ⟨p, r, h1, h2, h3⟩ := h.get e
  exact ⟨p, r, h1, List.mem_of_getElem? h2, h3⟩
theorem Al.take {vs : List V} {rs : List α} (h : Al f H vs rs) (n : Nat) : Al f H (vs.take n) (rs.take n) := by
  induction h generalizing n with
  | nil => simp; exact .nil
  | cons e _ ih =>
    cases n with
    | zero => exact .nil
    | succ n => exact .cons e (ih n)
end
/-- at a: a list of such tuples -/
structure LT {α : Type} (f : α → List V) (H : Hp) (a : Addr) (rs : List α) : Prop where
  ex : ∃ vs, H a = some (.lst vs) ∧ Al f H vs rs
section
variable {α : Type} {f : α → List V} {H H' : Hp}
theorem LT.same {a : Addr} {rs : List α} (h : LT f H a rs) (S : Same H H') : LT f H' a rs :=
  let ⟨vs, e, k⟩ := h.ex
  ⟨vs, S _ _ e, k.same S⟩
theorem LT.mk' {a : Addr} {vs : List V} {rs : List α} (e : H a = some (.lst vs)) (k : Al f H vs rs) : LT f H a rs := ⟨vs, e, k⟩
end

/-! ### data: rows of numbers and texts -/
mutual
theorem eqv_refl_ : ∀ d : PyData, d.canLay0 = true → PyData.eqv d d = true
  | .none, _ => rfl
  | .bool b, _ => by simp [PyData.eqv]
  | .int i, _ => by simp [PyData.eqv]
  | .str x, _ => by simp [PyData.eqv]
  | .list xs, h => by rw [PyData.eqv]; exact eqvAll_refl_ xs (by simpa [PyData.canLay0] using h)
  | .tuple xs, h => by rw [PyData.eqv]; exact eqvAll_refl_ xs (by simpa [PyData.canLay0] using h)
  | .dict _, h => by simp [PyData.canLay0] at h
theorem eqvAll_refl_ : ∀ xs : List PyData, PyData.canLayAll0 xs = true → PyData.eqvAll xs xs = true
  | [], _ => rfl
  | x :: xs, h => by
    have h' : x.canLay0 = true ∧ PyData.canLayAll0 xs = true := by simpa [PyData.canLayAll0] using h
    rw [PyData.eqvAll, eqv_refl_ x h'.1, eqvAll_refl_ xs h'.2]; rfl
end
/-- what a row's things are, as data, of rows that are ok -/
structure Dat {α : Type} (f : α → List V) (g : α → List PyData) (ok : α → Prop) : Prop where
  dp : ∀ (K : PySem.W.Frag) (H : Hp) (r : α), DpAll K H (f r) (g r)
  lay : ∀ r, ok r → PyData.canLayAll0 (g r) = true
  dep : ∀ r, PyData.depthAll (g r) = 0
section
variable {α : Type} {f : α → List V} {g : α → List PyData} {ok : α → Prop} {K : PySem.W.Frag} {H : Hp}
theorem Al.dp (D : Dat f g ok) {vs : List V} {rs : List α} (h : Al f H vs rs) : DpAll K H vs (rs.map fun r => .tuple (g r)) := by
  induction h with
  | nil => exact .nil
  | cons e _ ih => exact .cons (.tup (SqT.of e) (D.dp K H _)) ih
theorem lay_rows (D : Dat f g ok) : ∀ rs : List α, (∀ r ∈ rs, ok r) → PyData.canLayAll0 (rs.map fun r => .tuple (g r)) = true
  | [], _ => by simp only [List.map_nil, PyData.canLayAll0]
  | r :: t, h => by
    simp only [List.map_cons, PyData.canLayAll0, PyData.canLay0, lay_rows D t fun r' m => h r' (List.mem_cons_of_mem _ m), D.lay r (h r List.mem_cons_self), Bool.and_self]
theorem dep_rows (D : Dat f g ok) : ∀ rs : List α, PyData.depthAll (rs.map fun r => .tuple (g r)) ≤ 1
  | [] => by simp only [List.map_nil, PyData.depthAll]; exact Nat.zero_le _
  | r :: t => by
    have := dep_rows D t
    simp only [List.map_cons, PyData.depthAll, PyData.depth, D.dep r]
    omega
theorem shaped_rows (D : Dat f g ok) (rs : List α) (ho : ∀ r ∈ rs, ok r) : SeqAt.shaped (.list (rs.map fun r => .tuple (g r))) = true := by
  unfold SeqAt.shaped
  have h := dep_rows D rs
  have e1 : PyData.canLay0 (.list (rs.map fun r => .tuple (g r))) = true := by
    simp only [PyData.canLay0]
    exact lay_rows D rs ho
  have e2 : PyData.depth (.list (rs.map fun r => .tuple (g r))) ≤ 64 := by
    simp only [PyData.depth]
    omega
  rw [e1, decide_eq_true e2]
  rfl
theorem LT.dp (D : Dat f g ok) {a : Addr} {rs : List α} (h : LT f H a rs) : Dp K H (.ref a) (.list (rs.map fun r => .tuple (g r))) :=
  let ⟨_, e, k⟩ := h.ex
  .lst (SqL.of e) (k.dp D)
theorem eqv_rows (D : Dat f g ok) (rs : List α) (ho : ∀ r ∈ rs, ok r) : PyData.eqv (.list (rs.map fun r => .tuple (g r))) (.list (rs.map fun r => .tuple (g r))) = true :=
  eqv_refl_ _ (by simp only [PyData.canLay0]; exact lay_rows D rs ho)
/-- two lists of the same rows are equal -/
theorem eq_rows {Q : VK} (D : Dat f g ok) {a b : Addr} {rs : List α} (ho : ∀ r ∈ rs, ok r) (h : LT f H a rs) (k : LT f H b rs) (q : Q (.bl true) H) :
    rEqD K (.ref a) (.ref b) H Q :=
  ⟨_, _, h.dp D, k.dp D, shaped_rows D rs ho, shaped_rows D rs ho, by rw [eqv_rows D rs ho]; exact q⟩
theorem ne_rows {Q : VK} (D : Dat f g ok) {a b : Addr} {rs : List α} (ho : ∀ r ∈ rs, ok r) (h : LT f H a rs) (k : LT f H b rs) (q : Q (.bl false) H) :
    rNeD K (.ref a) (.ref b) H Q :=
  ⟨_, _, h.dp D, k.dp D, shaped_rows D rs ho, shaped_rows D rs ho, by rw [eqv_rows D rs ho]; exact q⟩
/-- such a list held against the empty one -/
theorem eqv_nil (g : α → List PyData) (rs : List α) : PyData.eqv (.list (rs.map fun r => PyData.tuple (g r))) (.list []) = rs.isEmpty := by
  cases rs <;> simp [PyData.eqv, PyData.eqvAll]
theorem ne_empty {Q : VK} (D : Dat f g ok) {a b : Addr} {rs : List α} (ho : ∀ r ∈ rs, ok r) (h : LT f H a rs) (k : H b = some (.lst [])) (q : Q (.bl !rs.isEmpty) H) :
    rNeD K (.ref a) (.ref b) H Q :=
  ⟨_, .list [], h.dp D, .lst (xs := []) (SqL.of k) .nil, shaped_rows D rs ho, rfl, by rw [eqv_nil]; exact q⟩
theorem eq_empty {Q : VK} (D : Dat f g ok) {a b : Addr} {rs : List α} (ho : ∀ r ∈ rs, ok r) (h : LT f H a rs) (k : H b = some (.lst [])) (q : Q (.bl rs.isEmpty) H) :
    rEqD K (.ref a) (.ref b) H Q :=
  ⟨_, .list [], h.dp D, .lst (xs := []) (SqL.of k) .nil, shaped_rows D rs ho, rfl, by rw [eqv_nil]; exact q⟩
/-- lists of numbers -/
theorem dp_ints {K : PySem.W.Frag} {H : Hp} : ∀ ns : List Int, DpAll K H (ns.map V.int) (ns.map .int)
  | [] => .nil
  | i :: r => .cons (.int i) (dp_ints r)
theorem lay_ints : ∀ ns : List Int, PyData.canLayAll0 (ns.map .int) = true
  | [] => by simp only [List.map_nil, PyData.canLayAll0]
  | r :: t => by simp only [List.map_cons, PyData.canLayAll0, PyData.canLay0, lay_ints t, Bool.and_self]
theorem dep_ints : ∀ ns : List Int, PyData.depthAll (ns.map .int) = 0
  | [] => by simp only [List.map_nil, PyData.depthAll]
  | r :: t => by simp only [List.map_cons, PyData.depthAll, PyData.depth, dep_ints t, Nat.max_self]
theorem shaped_ints (ns : List Int) : SeqAt.shaped (.list (ns.map .int)) = true := by
  unfold SeqAt.shaped
  simp only [PyData.canLay0, PyData.depth, lay_ints ns, dep_ints ns]
  rfl
theorem ne_ints {Q : VK} {a b : Addr} {ns : List Int} (h : H a = some (.lst (ns.map V.int))) (k : H b = some (.lst (ns.map V.int))) (q : Q (.bl false) H) :
    rNeD K (.ref a) (.ref b) H Q :=
  ⟨_, _, .lst (SqL.of h) (dp_ints ns), .lst (SqL.of k) (dp_ints ns), shaped_ints ns, shaped_ints ns, by
    rw [eqv_refl_ _ (by simp only [PyData.canLay0]; exact lay_ints ns)]; exact q⟩
end

/-- a number that the text's top keeps under a name -/
theorem pe_gi {X : Cx} {x : Str} {p : Pos} {n : Int} (h : ∃ t, X.mg x = some (.int n t)) (hg : Gl X x := by rfl)
    (hd : (x == ("__debug__" : Str)) = false := by decide) : PE X (.Name x p) (tC (.int n)) := by
  obtain ⟨t, h⟩ := h
  exact pe_glob (v := .int n) hg h ⟨_, rfl⟩ hd
/-- len(..) of a list or a tuple -/
def rLn (K : PySem.W.Frag) : List V → Hp → VK → Prop := fun xs H Q => ∃ p ys, xs = [V.ref p] ∧ (SqL K H p ys ∨ SqT K H p ys) ∧ Q (.int (ys.length : Int)) H
theorem kit_lt_list {K : PySem.W.Frag} : PySem.W.kitAny K (.type "list") [.type "list", .type "tuple"] = some true := by
  have e : PySem.W.kitOne K (.type "list") (.type "list") = some true := kit_ty (a := "list") (b := "list") (r := true) (by decide +kernel)
  simp only [PySem.W.kitAny, e]
theorem kit_lt_tuple {K : PySem.W.Frag} : PySem.W.kitAny K (.type "tuple") [.type "list", .type "tuple"] = some true := by
  have e : PySem.W.kitOne K (.type "tuple") (.type "list") = some false := kit_ty (a := "tuple") (b := "list") (r := false) (by decide +kernel)
  have e2 : PySem.W.kitOne K (.type "tuple") (.type "tuple") = some true := kit_ty (a := "tuple") (b := "tuple") (r := true) (by decide +kernel)
  simp only [PySem.W.kitAny, e, e2]

/-! ### a comprehension that lays a new list, all else staying -/
theorem Same.wo_upd {H H' : Hp} {D : Addr} {o : HO} (S : Same H H') (n : H D = none) : Same H (upd H' D o) := fun b u e =>
  (upd_ne (ne_of_none e n)).trans (S b u e)
theorem wo_upd {H : Hp} {D : Addr} {o : HO} : wo (upd H D o) D = wo H D := by
  funext b
  unfold wo
  split
  · rfl
  · rename_i h
    exact upd_ne h
theorem Same.wo {H H' : Hp} {p : Addr} (S : Same H H') : Same (wo H p) (wo H' p) := Same.but S
theorem wo_none {H : Hp} {D : Addr} (n : H D = none) : wo H D = H := by
  funext b
  unfold wo
  split
  · rename_i e
    rw [e, n]
  · rfl
theorem lc_acc {J : It} {n : Nat} {G : Hp → Prop} {Y : Nat → Hp → V → Hp → Prop} (w : Walk J n G Y) {g : TG} {tt : TT} {te : TE} {vs : List Nat} {σ : L2.St}
    {H1 : Hp} {D : Addr} {Qd : Hp → Prop} (hD : H1 D = none) (hn : n ≤ 1000000) (R : Nat → List V → Hp → Prop) (r0 : R 0 [] H1)
    (hG : ∀ H, Same H1 H → G H)
    (hs : ∀ i x H H' acc, i < n → Same H1 H → H D = some (.lst acc) → acc.length ≤ i → R i acc (wo H D) → Y i H x H' →
      ∀ (Fy : V → Hp → Prop) (Fn : Hp → Prop), (∀ y H4, Same H H4 → R (i + 1) (acc ++ [y]) (wo H4 D) → Fy y H4) →
        (∀ H3, Same H H3 → R (i + 1) acc (wo H3 D) → Fn H3) →
      g x (wipe σ vs) H' fun σ2 H2 => wipe σ2 vs = wipe σ vs ∧ tt σ2 H2 fun b H3 => if b = true then te σ2 H3 Fy else Fn H3)
    (hd : ∀ H acc, Same H1 H → H D = some (.lst acc) → R n acc (wo H D) → Qd H) :
    ∃ W : Nat → Nat → Hp → Prop, (∃ m, W 0 m (upd H1 D (.lst []))) ∧ ∀ i m H, W i m H →
      (J.stop i H ∧ Qd H) ∨ (J.go i H ∧ ∃ Nx : Hp → Prop, (∀ H', Nx H' → ∃ m', m' < m ∧ W (i + 1) m' H') ∧ ∀ x H', J.yld i H x H' → g x (wipe σ vs) H' fun σ2 H2 => wipe σ2 vs = wipe σ vs ∧ tt σ2 H2 fun b H3 =>
        if b = true then te σ2 H3 fun y H4 => ∃ acc, H4 D = some (.lst acc) ∧ acc.length < sizeLine ∧ Nx (upd H4 D (.lst (acc ++ [y]))) else Nx H3) := by
  have line : 1000000 < sizeLine := by decide
  refine lc_it w (fun i H => Same H1 H ∧ ∃ acc, H D = some (.lst acc) ∧ acc.length ≤ i ∧ R i acc (wo H D))
    ⟨Same.laid hD, [], upd_same, Nat.le_refl _, by rw [wo_upd, wo_none hD]; exact r0⟩ (fun i H _ h => hG H h.1) ?_ ?_
  · rintro i x H H' hi ⟨S, acc, e, hl, r⟩ y
    refine hs i x H H' acc hi S e hl r y _ _ (fun y H4 S4 r4 => ?_) fun H3 S3 r3 => ?_
    · refine ⟨acc, S4 _ _ e, Nat.lt_of_le_of_lt hl (Nat.lt_of_lt_of_le hi (Nat.le_trans hn (Nat.le_of_lt line))), Same.wo_upd (S.trans S4) hD, acc ++ [y], upd_same, ?_, ?_⟩
      · rw [List.length_append, List.length_singleton]
        omega
      · rw [wo_upd]
        exact r4
    · exact ⟨S.trans S3, acc, S3 _ _ e, by omega, r3⟩
  · rintro H ⟨S, acc, e, _, r⟩
    exact hd H acc S e r
/-- a while by a measure, its end told to the test -/
theorem while_m {c : TT} {tb : TS} {D : Ends} {σ : L2.St} {H : Hp} (Pv : Nat → L2.St → Hp → Prop) (m0 : Nat) (h0 : Pv m0 σ H)
    (hs : ∀ m σ H, Pv m σ H → ∀ F : Bool → Hp → Prop,
      (∀ H1, (∀ N : L2.St → Hp → Prop, (∀ m' σ' H', m' < m → Pv m' σ' H' → N σ' H') → tb { D with nx := N, ct := N, bk := D.nx } σ H1) → F true H1) →
      (∀ H1, D.nx σ H1 → F false H1) → c σ H F) : tWhile c tb D σ H := by
  refine ⟨Pv, ⟨m0, h0⟩, fun m σ H p => hs m σ H p _ (fun H1 h => ?_) fun H1 h => ?_⟩
  · rw [if_pos rfl]
    exact ⟨fun σ' H' => ∃ m', m' < m ∧ Pv m' σ' H', fun _ _ h => h, h _ fun m' σ' H' l p => ⟨m', l, p⟩⟩
  · rw [if_neg Bool.false_ne_true]
    exact h

/-- what is laid since then -/
def fre (H G : Hp) : Hp := fun b => match H b with
  | none => G b
  | some _ => none
theorem fre_at {H G : Hp} {b : Addr} {o : HO} (e : fre H G b = some o) : H b = none ∧ G b = some o := by
  unfold fre at e
  cases q : H b with
  | none => rw [q] at e; exact ⟨rfl, e⟩
  | some u => rw [q] at e; cases e
theorem fre_of {H G : Hp} {b : Addr} {o : HO} (n : H b = none) (e : G b = some o) : fre H G b = some o := by
  unfold fre
  rw [n]
  exact e
theorem Same.no {H G : Hp} {b : Addr} (S : Same H G) (n : G b = none) : H b = none := by
  cases q : H b with
  | none => rfl
  | some o => rw [S _ _ q] at n; cases n

/-! ### dicts with number keys -/
theorem valV_none_of {kvs : List (Key × V)} {k : Key} (h : ∀ kv ∈ kvs, kv.1 ≠ k) : valV kvs k = none := by
  induction kvs with
  | nil => rfl
  | cons p r ih =>
    rw [valV_neg (h p (by simp))]
    exact ih fun kv m => h kv (by simp [m])
theorem valV_last {kvs : List (Key × V)} {k : Key} {v : V} (h : ∀ kv ∈ kvs, kv.1 ≠ k) : valV (kvs ++ [(k, v)]) k = some v := by
  rw [valV_snoc k k v kvs (valV_none_of h), if_pos rfl]

/-! ### defs with keyword-only defaults -/
section
variable (P : Program) (w : World) (K : PySem.W.Frag) (mg : Str → Option Value) (base : Heap)
structure AtD (x : Str) (st : Stmt) (kws : List (Str × V)) : Prop where
  ex : ∃ f fd, FunD K x x (defArgs st) (defBody st) (defScope st) [] kws f fd ∧ mg x = some (.ref f)
/-- under its name x a def stands that keeps the promise sp; ds fill up what is left out -/
structure DefD (x : Str) (k : Nat) (ps : List Str) (ds : List V) (sp : Sp) : Prop where
  ex : ∃ f fd us, mg x = some (.ref f) ∧ PySem.W.keepIn K (.ref f) = true ∧ Vals ds us ∧ Binds K fd ps us ∧
    FnOk P w K mg base CX0 k f fd ps sp
/-- the same, the keywords ks told behind n things -/
structure DefK (x : Str) (k : Nat) (ps : List Str) (n : Nat) (ks : List Str) (gV : List V → List V → List V) (sp : Sp) : Prop where
  ex : ∃ f fd g, mg x = some (.ref f) ∧ PySem.W.keepIn K (.ref f) = true ∧ KBn K fd ps n ks g gV ∧
    FnOk P w K mg base CX0 k f fd ps sp
end
section
variable {P : Program} {w : World} {K : PySem.W.Frag} {mg : Str → Option Value} {base : Heap}
theorem mkFnD {x : Str} {st : Stmt} {kws : List (Str × V)} {f : Addr} {fd : FuncData} {N ps : List Str} {k : Nat} {sp : Sp}
    (F : FunD K x x (defArgs st) (defBody st) (defScope st) [] kws f fd) (S : FnScope N ps (defScope st))
    (len : ∀ vs H Q E, sp vs H Q E → vs.length = ps.length)
    (body : ∀ (f : Addr) (cdv : Value) (A : Around) (out : List Env) (s : Shared) (H : Hp) (vs : List V) (Q : VK) (E : XK),
      Room k (A.deeper (envOfC x (defScope st) s.heap.objs.size f cdv)) → sp vs H Q E →
      ∃ t, PSs (cxOf CX0 P w K mg base N x (defScope st) f cdv A out s H E).nox (defBody st) t ∧
        t { nx := fun _ H' => Q .non H', rt := Q } (start N vs) H) : FnOk P w K mg base CX0 (k + 1) f fd ps sp :=
  F.ok S len fun cdv A out s H vs Q E hr hs =>
    let ⟨t, h, q⟩ := body f cdv A out s H vs Q E hr hs
    ⟨t, h.nox, q⟩
theorem mkDefD {x : Str} {st : Stmt} {kws : List (Str × V)} {N ps : List Str} {k n : Nat} {sp : Sp} (A : AtD K mg x st kws)
    (S : FnScope N ps (defScope st)) (hk : kws ≠ []) (hn : n + kws.length = ps.length)
    (hb : ∀ (D : Addr) (doc pm : Value) (an : Option Addr) (cdv ct : Value) (us ks : List Value), us.length = n → ks.length = kws.length →
      KwChain D ((kws.map (·.1)).zip ks) (bindArgs (PySem.W.fnOf x x (defArgs st) (defBody st) (defScope st) .none (.ref D) doc pm an cdv ct) ⟨us, []⟩) (ps.zip (us ++ ks)))
    (len : ∀ vs H Q E, sp vs H Q E → vs.length = ps.length)
    (body : ∀ (f : Addr) (cdv : Value) (A : Around) (out : List Env) (s : Shared) (H : Hp) (vs : List V) (Q : VK) (E : XK),
      Room k (A.deeper (envOfC x (defScope st) s.heap.objs.size f cdv)) → sp vs H Q E →
      ∃ t, PSs (cxOf CX0 P w K mg base N x (defScope st) f cdv A out s H E).nox (defBody st) t ∧
        t { nx := fun _ H' => Q .non H', rt := Q } (start N vs) H) : DefD P w K mg base x (k + 1) ps (kws.map (·.2)) sp := by
  obtain ⟨f, fd, F, m⟩ := A.ex
  obtain ⟨us, hv, b⟩ := F.binds0 n hk hn hb
  exact ⟨f, fd, us, m, F.kp, hv, b, mkFnD F S len body⟩
/-- all keyword-only ones are told -/
theorem mkDefK {x : Str} {st : Stmt} {kws : List (Str × V)} {N ps ks : List Str} {k n : Nat} {sp : Sp} {g : {α : Type} → List α → List α → List α} (A : AtD K mg x st kws)
    (S : FnScope N ps (defScope st))
    (hb : ∀ (kV doc pm : Value) (an : Option Addr) (cdv ct : Value) (us ws : List Value), us.length = n → ws.length = ks.length →
      bindArgs (PySem.W.fnOf x x (defArgs st) (defBody st) (defScope st) .none kV doc pm an cdv ct) ⟨us, ks.zip ws⟩ = pure (ps.zip (g us ws)))
    (hg : ∀ {vs : List V} {us : List Value} {zs : List V} {ws : List Value}, Vals vs us → Vals zs ws → Vals (g vs zs) (g us ws))
    (len : ∀ vs H Q E, sp vs H Q E → vs.length = ps.length)
    (body : ∀ (f : Addr) (cdv : Value) (A : Around) (out : List Env) (s : Shared) (H : Hp) (vs : List V) (Q : VK) (E : XK),
      Room k (A.deeper (envOfC x (defScope st) s.heap.objs.size f cdv)) → sp vs H Q E →
      ∃ t, PSs (cxOf CX0 P w K mg base N x (defScope st) f cdv A out s H E).nox (defBody st) t ∧
        t { nx := fun _ H' => Q .non H', rt := Q } (start N vs) H) : DefK P w K mg base x (k + 1) ps n ks g sp := by
  obtain ⟨f, fd, F, m⟩ := A.ex
  have F' := F
  obtain ⟨oc, od, dV, kV, doc, pm, an, cdv, ct, osl, rfl, lk, hcd, hD, hK⟩ := F.ex
  rcases hD with ⟨_, rfl⟩ | ⟨e, _⟩
  · exact ⟨f, _, fun us ws => g us ws, m, F'.kp, ⟨fun s us ws X l1 l2 => .of_eq (hb kV doc pm an cdv ct us ws l1 l2), hg⟩, mkFnD F' S len body⟩
  · exact absurd rfl e
end
section
variable {X : Cx} {x : Str} {k j n : Nat} {ps ks : List Str} {ds : List V} {sp : Sp} {p pos : Pos} {e : Expr} {es : List Expr} {t tk : TA} {gV : List V → List V → List V}
  {kws : List Keyword}
theorem pe_dD (D : DefD X.prog X.w X.K X.mg X.base x k ps ds sp) (hr : Room j X.A) (hk : k ≤ j) (hg : Gl X x) (ha : PA X (e :: es) t)
    (hdb : (x == ("__debug__" : Str)) = false := by decide)
    (he : starEach (e :: es) X.env = (false, eval e X.env) :: starEach es X.env := by rfl)
    (hpl : (backTo pos (starEach es X.env)).any (·.1) = false := by rfl) :
    PE X (.Call (.Name x p) (e :: es) [] pos) (tCall sp ds E0 t) := by
  obtain ⟨f, fd, us, m, kp, hv, b, F⟩ := D.ex
  exact pe_call F (hr.mono hk) hg m kp b hv pass0 ha hdb he hpl
theorem pe_dK (D : DefK X.prog X.w X.K X.mg X.base x k ps n ks gV sp) (hr : Room j X.A) (hk : k ≤ j) (hg : Gl X x) (ha : PA X (e :: es) t) (hkw : PK X kws tk)
    (hall : (backToKw pos (keywordEach kws X.env)).all (·.1.isSome) = true := by rfl) (hks : (backToKw pos (keywordEach kws X.env)).filterMap (·.1) = ks := by rfl)
    (hdb : (x == ("__debug__" : Str)) = false := by decide)
    (he : starEach (e :: es) X.env = (false, eval e X.env) :: starEach es X.env := by rfl)
    (hpl : ((backTo pos (starEach (e :: es) X.env)).any (·.1) || (backToKw pos (keywordEach kws X.env)).any (·.1.isNone)) = false := by rfl) :
    PE X (.Call (.Name x p) (e :: es) kws pos) (tCallN n ks.length sp gV E0 t tk) := by
  obtain ⟨f, fd, g, m, kp, b, F⟩ := D.ex
  exact pe_callN F (hr.mono hk) hg m kp b pass0 ha hkw hall hks hdb he hpl
end
end Pw

/-! Classes: methods by name, objects made, their fields. -/
namespace Pw
open PySem PySem.Spec PyProof.Rows L2
section
variable (P : Program) (w : World) (K : PySem.W.Frag) (mg : Str → Option Value) (base : Heap)
/-- the method m of the class at C is the def st of the text -/
structure AtMt (C : Addr) (m q : Str) (st : Stmt) : Prop where
  ex : ∃ f fd, Fun K m q st f fd ∧ Meth K C m f
/-- the method m of the class at C keeps the promise sp -/
structure DefM (C : Addr) (m : Str) (k : Nat) (ps : List Str) (sp : Sp) : Prop where
  ex : ∃ f fd, Meth K C m f ∧ Binds K fd ps [] ∧ FnOk P w K mg base CX0 k f fd ps sp
/-- C(..) is made, its __init__ keeping the promise sp -/
structure DefI (x : Str) (C : Addr) (k : Nat) (ps : List Str) (sp : Sp) : Prop where
  ex : ∃ f fd, mg x = some (.ref C) ∧ Mk K C f ∧ Binds K fd ps [] ∧ FnOk P w K mg base CX0 k f fd ps sp
end
section
variable {P : Program} {w : World} {K : PySem.W.Frag} {mg : Str → Option Value} {base : Heap}
theorem DefM.mono {C : Addr} {m : Str} {k j : Nat} {ps : List Str} {sp : Sp} (d : DefM P w K mg base C m k ps sp) (h : k ≤ j) : DefM P w K mg base C m j ps sp :=
  let ⟨f, fd, a, b, F⟩ := d.ex
  ⟨f, fd, a, b, F.mono h⟩
theorem mkDefM {C : Addr} {m q : Str} {st : Stmt} {N ps : List Str} {k : Nat} {sp : Sp} (A : AtMt K C m q st)
    (S : FnScope N ps (defScope st))
    (hb : ∀ (kV doc pm : Value) (an : Option Addr) (cdv ct : Value) (us : List Value), us.length = ps.length →
      bindArgs (PySem.W.fnOf m q (defArgs st) (defBody st) (defScope st) .none kV doc pm an cdv ct) ⟨us, []⟩ = pure (ps.zip us))
    (len : ∀ vs H Q E, sp vs H Q E → vs.length = ps.length)
    (body : ∀ (f : Addr) (cdv : Value) (A : Around) (out : List Env) (s : Shared) (H : Hp) (vs : List V) (Q : VK) (E : XK),
      Room k (A.deeper (envOfC q (defScope st) s.heap.objs.size f cdv)) → sp vs H Q E →
      ∃ t, PSs (cxOf CX0 P w K mg base N q (defScope st) f cdv A out s H E).nox (defBody st) t ∧
        t { nx := fun _ H' => Q .non H', rt := Q } (start N vs) H) : DefM P w K mg base C m (k + 1) ps sp := by
  obtain ⟨f, fd, F, M⟩ := A.ex
  exact ⟨f, fd, M, F.binds hb, F.ok S len (body f)⟩
theorem mkDefI {x : Str} {C f : Addr} {fd : FuncData} {m q : Str} {st : Stmt} {N ps : List Str} {k : Nat} {sp : Sp} (hm : mg x = some (.ref C)) (M : Mk K C f) (F : Fun K m q st f fd)
    (S : FnScope N ps (defScope st))
    (hb : ∀ (kV doc pm : Value) (an : Option Addr) (cdv ct : Value) (us : List Value), us.length = ps.length →
      bindArgs (PySem.W.fnOf m q (defArgs st) (defBody st) (defScope st) .none kV doc pm an cdv ct) ⟨us, []⟩ = pure (ps.zip us))
    (len : ∀ vs H Q E, sp vs H Q E → vs.length = ps.length)
    (body : ∀ (f : Addr) (cdv : Value) (A : Around) (out : List Env) (s : Shared) (H : Hp) (vs : List V) (Q : VK) (E : XK),
      Room k (A.deeper (envOfC q (defScope st) s.heap.objs.size f cdv)) → sp vs H Q E →
      ∃ t, PSs (cxOf CX0 P w K mg base N q (defScope st) f cdv A out s H E).nox (defBody st) t ∧
        t { nx := fun _ H' => Q .non H', rt := Q } (start N vs) H) : DefI P w K mg base x C (k + 1) ps sp :=
  ⟨f, fd, hm, M, F.binds hb, F.ok S len (body f)⟩
/-- under its name x a def stands (nothing is promised of it) -/
theorem At.any {x : Str} {st : Stmt} {ps : List Str} (A : At K mg x st)
    (hb : ∀ (kV doc pm : Value) (an : Option Addr) (cdv ct : Value) (us : List Value), us.length = ps.length →
      bindArgs (PySem.W.fnOf x x (defArgs st) (defBody st) (defScope st) .none kV doc pm an cdv ct) ⟨us, []⟩ = pure (ps.zip us))
    (k : Nat) (sp : Sp) (no : ∀ vs H Q E, ¬ sp vs H Q E) : Def P w K mg base x k ps sp := by
  obtain ⟨f, fd, F, m⟩ := A.ex
  exact ⟨f, fd, m, F.kp, F.binds hb, ⟨fun vs H Q E h => absurd h (no vs H Q E), fun A out s H ar us vs Q E _ _ _ _ h => absurd h (no vs H Q E)⟩⟩
end
section
variable {X : Cx} {x m : Str} {C : Addr} {k j : Nat} {ps : List Str} {sp : Sp} {o : Expr} {p pos apos : Pos} {e : Expr} {es : List Expr} {ta : TE} {t : TA}
theorem pe_mm {pl : Sem Bool} (he : PE X o ta) (c : Cls X.K C) (D : DefM X.prog X.w X.K X.mg X.base C m k ps sp) (hr : Room j X.A) (hk : k ≤ j) (ha : PA X (e :: es) t)
    (hst : starEach (e :: es) X.env = (false, eval e X.env) :: starEach es X.env := by rfl) (hpl : (backTo pos (starEach es X.env)).any (·.1) = false := by rfl)
    (ht : eval (.Call (.Attribute o m apos) (e :: es) [] pos) X.env = (do
      let ov ← eval o X.env
      standAt apos.atName
      let (f, first) ← holding [ov] (getMethod ov m pl)
      callWith pos f first (backTo pos (starEach (e :: es) X.env)) (backToKw pos (keywordEach [] X.env))) := by rfl) :
    PE X (.Call (.Attribute o m apos) (e :: es) [] pos) (tMeth C m sp [] E0 ta t) := by
  obtain ⟨f, fd, M, b, F⟩ := D.ex
  exact pe_meth (pl := pl) he c M F (hr.mono hk) b .nil pass0 ha hst hpl ht
theorem pe_mm0 {pl : Sem Bool} (he : PE X o ta) (c : Cls X.K C) (D : DefM X.prog X.w X.K X.mg X.base C m k ps sp) (hr : Room j X.A) (hk : k ≤ j)
    (ht : eval (.Call (.Attribute o m apos) [] [] pos) X.env = (do
      let ov ← eval o X.env
      standAt apos.atName
      let (f, first) ← holding [ov] (getMethod ov m pl)
      callWith pos f first (backTo pos (starEach [] X.env)) (backToKw pos (keywordEach [] X.env))) := by rfl) :
    PE X (.Call (.Attribute o m apos) [] [] pos) (tMeth C m sp [] E0 ta tNil) := by
  obtain ⟨f, fd, M, b, F⟩ := D.ex
  exact pe_meth0 (pl := pl) he c M F (hr.mono hk) b .nil pass0 ht
theorem pe_mi (D : DefI X.prog X.w X.K X.mg X.base x C k ps sp) (hr : Room j X.A) (hk : k + 1 ≤ j) (hg : Gl X x) (ha : PA X (e :: es) t)
    (hdb : (x == ("__debug__" : Str)) = false := by decide) (he : starEach (e :: es) X.env = (false, eval e X.env) :: starEach es X.env := by rfl) (hpl : (backTo pos (starEach es X.env)).any (·.1) = false := by rfl) :
    PE X (.Call (.Name x p) (e :: es) [] pos) (tMake C sp [] E0 t) := by
  obtain ⟨f, fd, hm, M, b, F⟩ := D.ex
  exact pe_make M F (hr.mono hk) hg hm b .nil pass0 ha hdb he hpl
end
/-! ### fields by name -/
theorem lk_eq {f : Str} {v : V} {r : List (Str × V)} : List.lookup f ((f, v) :: r) = some v := by
  simp only [List.lookup, beq_self_eq_true]
theorem lk_ne {f g : Str} {v : V} {r : List (Str × V)} (h : (f == g) = false) : List.lookup f ((g, v) :: r) = List.lookup f r := by
  simp only [List.lookup, h]
theorem put_eq {f : Str} {v x : V} {r : List (Str × V)} : putF f v ((f, x) :: r) = (f, v) :: r := by
  show (if f = f then _ else _) = _
  rw [if_pos rfl]
theorem put_ne {f g : Str} {v x : V} {r : List (Str × V)} (h : (g == f) = false) : putF f v ((g, x) :: r) = (g, x) :: putF f v r := by
  show (if g = f then _ else _) = _
  rw [if_neg (by simpa using h)]
end Pw

/-! Calls by names alone. -/
namespace Pw
open PySem PySem.Spec PyProof.Rows L2
section
variable (P : Program) (w : World) (K : PySem.W.Frag) (mg : Str → Option Value) (base : Heap)
/-- called by the names ks alone, in this order -/
structure DefK0 (x : Str) (k : Nat) (ps ks : List Str) (g : {α : Type} → List α → List α) (sp : Sp) : Prop where
  ex : ∃ f fd, mg x = some (.ref f) ∧ PySem.W.keepIn K (.ref f) = true ∧
    (∀ (s : Shared) (ws : List Value), K.In s.heap → ws.length = ks.length → BindsTo s fd ⟨[], ks.zip ws⟩ (ps.zip (g ws))) ∧ FnOk P w K mg base CX0 k f fd ps sp
end
section
variable {P : Program} {w : World} {K : PySem.W.Frag} {mg : Str → Option Value} {base : Heap}
theorem mkDefK0 {x : Str} {st : Stmt} {N ps ks : List Str} {k : Nat} {sp : Sp} {g : {α : Type} → List α → List α} (A : At K mg x st)
    (S : FnScope N ps (defScope st))
    (hb : ∀ (kV doc pm : Value) (an : Option Addr) (cdv ct : Value) (ws : List Value), ws.length = ks.length →
      bindArgs (PySem.W.fnOf x x (defArgs st) (defBody st) (defScope st) .none kV doc pm an cdv ct) ⟨[], ks.zip ws⟩ = pure (ps.zip (g ws)))
    (len : ∀ vs H Q E, sp vs H Q E → vs.length = ps.length)
    (body : ∀ (f : Addr) (cdv : Value) (A : Around) (out : List Env) (s : Shared) (H : Hp) (vs : List V) (Q : VK) (E : XK),
      Room k (A.deeper (envOfC x (defScope st) s.heap.objs.size f cdv)) → sp vs H Q E →
      ∃ t, PSs (cxOf CX0 P w K mg base N x (defScope st) f cdv A out s H E).nox (defBody st) t ∧
        t { nx := fun _ H' => Q .non H', rt := Q } (start N vs) H) : DefK0 P w K mg base x (k + 1) ps ks g sp := by
  obtain ⟨f, fd, F, m⟩ := A.ex
  have F' := F
  obtain ⟨oc, od, kV, doc, pm, an, cdv, ct, osl, rfl, lk, hcd⟩ := F.ex
  exact ⟨f, _, m, F'.kp, fun s ws _ hl => .of_eq (hb kV doc pm an cdv ct ws hl), F'.ok S len (body f)⟩
end
section
variable {X : Cx} {x : Str} {k j : Nat} {ps ks : List Str} {sp : Sp} {p pos : Pos} {tk : TA} {kws : List Keyword}
def tCallK0 (n : Nat) (g : {α : Type} → List α → List α) (sp : Sp) (tk : TA) : TE := fun σ H Q => tk σ H fun zs H2 => zs.length = n ∧ sp (g zs) H2 Q E0
theorem pe_dK0 {g : {α : Type} → List α → List α} (D : DefK0 X.prog X.w X.K X.mg X.base x k ps ks g sp) (hgv : ∀ {vs : List V} {us : List Value}, Vals vs us → Vals (g vs) (g us)) (hr : Room j X.A) (hk : k ≤ j) (hg : Gl X x) (hkw : PK X kws tk)
    (hall : (backToKw pos (keywordEach kws X.env)).all (·.1.isSome) = true := by rfl) (hks : (backToKw pos (keywordEach kws X.env)).filterMap (·.1) = ks := by rfl)
    (hdb : (x == ("__debug__" : Str)) = false := by decide)
    (hpl : ((backTo pos (starEach [] X.env)).any (·.1) || (backToKw pos (keywordEach kws X.env)).any (·.1.isNone)) = false := by rfl) :
    PE X (.Call (.Name x p) [] kws pos) (tCallK0 ks.length g sp tk) := by
  obtain ⟨f, fd, m, kp, hb, F⟩ := D.ex
  refine ⟨fun pins s σ H Q I h => ?_⟩
  refine wpAny_Call_Name_kw (ld_glob I hg m ?_ hdb)
  refine PySem.W.callWith_KW0 (h₀ := X.base) I.ok.mod.kin kp hall ?_ hpl
  refine thn (hkw.run pos pins s σ H _ I h) fun ws s2 ⟨zs, H2, I2, rz, l, q2⟩ => ⟨I2.kIn, ?_⟩
  rw [hks]
  have r2 := hgv rz
  refine wpAny_call (codeAny_mono (F.run X.A X.stack s2 H2 ⟨[], ks.zip ws⟩ (g ws) (g zs) Q E0 (hr.mono hk) I2.env0 (hb s2 ws I2.kIn (rz.length.symm.trans l)) r2 q2) fun r s' hq => ?_)
  cases r with
  | error e => exact pass0 pins σ H2 s2 e s' I2 hq
  | ok fl =>
    cases fl with
    | ret u => exact I2.after hq
    | next => exact False.elim hq
    | brk => exact False.elim hq
    | cont => exact False.elim hq
end
/-- the third ahead -/
def g201 {α : Type} : List α → List α
  | [a, b, c] => [c, a, b]
  | _ => []
/-- the first behind -/
def g120 {α : Type} : List α → List α
  | [a, b, c] => [b, c, a]
  | _ => []
theorem g201_vals {vs : List V} {us : List Value} (r : Vals vs us) : Vals (g201 vs) (g201 us) := by
  cases r with
  | nil => exact .nil
  | cons r1 r =>
    cases r with
    | nil => exact .nil
    | cons r2 r =>
      cases r with
      | nil => exact .nil
      | cons r3 r =>
        cases r with
        | nil => exact .cons r3 (.cons r1 (.cons r2 .nil))
        | cons r4 r => exact .nil
theorem g120_vals {vs : List V} {us : List Value} (r : Vals vs us) : Vals (g120 vs) (g120 us) := by
  cases r with
  | nil => exact .nil
  | cons r1 r =>
    cases r with
    | nil => exact .nil
    | cons r2 r =>
      cases r with
      | nil => exact .nil
      | cons r3 r =>
        cases r with
        | nil => exact .cons r2 (.cons r3 (.cons r1 .nil))
        | cons r4 r => exact .nil
end Pw

/-! sorted(d.items()) of a dict whose keys are numbers that rise. -/
namespace Pw
open PySem PySem.Spec PyProof.Rows L2 L2.DX

/-- the number that stands first in the tuple at v -/
def fstI (h : Heap) : Value → Int
  | .ref a => match h.get? a with
    | some o => match o.data with
      | .seq xs _ => match (xs[0]? : Option Value) with
        | some (Value.int x _) => x
        | _ => 0
      | _ => 0
    | none => 0
  | _ => 0
/-- a pair of a number and any thing -/
def PairR (h : Heap) (v : Value) (x : Int) (u : Value) : Prop := ∃ a o t n, v = .ref a ∧ h.get? a = some o ∧ o.cls = .type "tuple" ∧ o.data = .seq #[.int x t, u] n
theorem PairR.fst {h : Heap} {v u : Value} {x : Int} (p : PairR h v x u) : fstI h v = x := by
  obtain ⟨a, o, t, n, rfl, ho, hc, hd⟩ := p
  simp only [fstI, ho, hd]
  rfl
theorem PairR.keeps {h h' : Heap} {v u : Value} {x : Int} (p : PairR h v x u) (k : ∀ b o, h.get? b = some o → o.cls = .type "tuple" → h'.get? b = some o) : PairR h' v x u := by
  obtain ⟨a, o, t, n, e, ho, hc, hd⟩ := p
  exact ⟨a, o, t, n, e, k _ _ ho hc, hc, hd⟩
theorem firsts_ofR {h : Heap} : ∀ {vs : List Value}, (∀ v ∈ vs, ∃ x u, PairR h v x u) → ∃ fs : List Value, PySem.W.KatTups h vs fs ∧ fs.length = vs.length ∧ ∀ f ∈ fs, ∃ x t, f = Value.int x t
  | [], _ => ⟨[], PySem.W.KatTups.nil, rfl, fun _ hm => by simp at hm⟩
  | v :: vs, hp => by
    obtain ⟨fs, h1, h2, h3⟩ := firsts_ofR (vs := vs) fun v' hm => hp v' (List.mem_cons_of_mem _ hm)
    obtain ⟨x, u, a, o, t, n, e, ho, hc, hd⟩ := hp v (List.mem_cons_self ..)
    subst e
    refine ⟨.int x t :: fs, PySem.W.KatTups.cons ho hc hd rfl h1, by rw [List.length_cons, List.length_cons, h2], fun f hm => ?_⟩
    rcases List.mem_cons.mp hm with rfl | hm
    · exact ⟨x, t, rfl⟩
    · exact h3 f hm
theorem swo_by (k : Value → Int) : SrtO.Swo fun v u => decide (k v < k u) := by
  refine ⟨fun x y h => ?_, fun x y z h1 h2 => ?_⟩
  · have := of_decide_eq_true h
    exact decide_eq_false (by omega)
  · have a := of_decide_eq_false h1
    have b := of_decide_eq_false h2
    exact decide_eq_false (by omega)
section
variable {prog : Program} {w : World} {A : Around} {s : Shared}
theorem pairR_cmp {vs : List Value} {k : Value → Int} (hp : ∀ v ∈ vs, ∃ u, PairR s.heap v (k v) u) (hi : ∀ v ∈ vs, ∀ u ∈ vs, k v = k u → v = u) :
    SrtO.Cmp prog w A s (tuples' true) (fun p => p.1 ∈ vs) (SrtO.lt2 fun v u => decide (k v < k u)) := by
  intro p q hm hm'
  obtain ⟨y, a, o, t, n, e, ho, hc, hd⟩ := hp _ hm
  obtain ⟨y', a', o', t', n', e', ho', hc', hd'⟩ := hp _ hm'
  have hinj := hi _ hm _ hm'
  show wpAny (model prog w) A (keyLt' (tuples' true) p.1 q.1) (fun r s' => s' = s ∧ r = decide (k p.1 < k q.1)) (fun _ _ => False) s
  generalize k p.1 = x at hd hinj ⊢
  generalize k q.1 = x' at hd' hinj ⊢
  rw [e, e'] at hinj ⊢
  refine PySem.W.kat_lt ho hd ho' hd' ?_
  show PySem.W.KatLex prog w A true (decide (2 < 2)) _ [(.int x t, .int x' t'), (y, y')] 0 s
  refine PySem.W.kat_cons (SeqAt.EqAt.int_int x t x' t' prog w _ _ ?_)
  refine PySem.W.kat_go (fun e1 => ?_) (fun e1 => ?_)
  · have ex : x = x' := by simpa using e1
    have ea := hinj ex
    cases ea
    rw [ho] at ho'
    cases ho'
    rw [hd] at hd'
    injection hd' with h1 h2
    have hy : y = y' := by
      have := congrArg (fun z : Array Value => z[1]?) h1
      simpa using this
    subst hy
    refine PySem.W.kat_yes (PySem.W.kat_cons (SeqAt.EqAt.same y prog w _ _ ?_))
    refine PySem.W.kat_yes (PySem.W.kat_nil ⟨rfl, ?_⟩)
    rw [ex]
    exact (decide_eq_false (Int.lt_irrefl _)).symm
  · exact PySem.W.kat_no (oneLt_int ⟨rfl, rfl⟩)
theorem pairsR_sortable {a : Addr} {vs : List Value} {k : Value → Int} (h0 : 0 < vs.length) (hp : ∀ v ∈ vs, ∃ u, PairR s.heap v (k v) u) (hi : ∀ v ∈ vs, ∀ u ∈ vs, k v = k u → v = u)
    (ha : ∀ o, s.heap.get? a = some o → o.cls ≠ .type "tuple") : SrtO.SortableO prog w A s a vs fun v u => decide (k v < k u) := by
  intro h' keep
  have hp' : ∀ v ∈ vs, ∃ u, PairR h' v (k v) u := fun v hm => let ⟨u, z⟩ := hp v hm; ⟨u, z.keeps fun b o e c => keep b o (fun z => by subst z; exact ha o e c) e⟩
  obtain ⟨fs, h1, h2, h3⟩ := firsts_ofR fun v hm => let ⟨u, z⟩ := hp' v hm; ⟨_, u, z⟩
  refine ⟨tuples' true, fun Q E hq => ?_, pairR_cmp hp' hi⟩
  refine PySem.W.kat_kind (T := .type "int") h1 (by omega) (fun f hm => ?_) (by rfl) ?_
  · obtain ⟨x, t, rfl⟩ := h3 f hm
    exact PySem.W.Looks.now
  · have e : (Value.type "int" != Value.type "tuple") = true := by first | decide +kernel | rfl | decide
    rw [e]
    exact hq
end
theorem perm_rise {α : Type} (f : α → Int) : ∀ (l m : List α), l.Perm m → l.Pairwise (fun a b => f a ≤ f b) → m.Pairwise (fun a b => f a < f b) → l = m
  | [], m, p, _, _ => p.nil_eq
  | y :: l, [], p, _, _ => by cases p.length_eq
  | y :: l, x :: m, p, h1, h2 => by
    have hy : y ∈ x :: m := p.mem_iff.mp (List.mem_cons_self ..)
    have hx : x ∈ y :: l := p.mem_iff.mpr (List.mem_cons_self ..)
    have e : y = x := by
      rcases List.mem_cons.mp hy with e | hy
      · exact e
      · rcases List.mem_cons.mp hx with e | hx
        · exact e.symm
        · have a := (List.pairwise_cons.mp h1).1 x hx
          have b := (List.pairwise_cons.mp h2).1 y hy
          omega
    subst e
    rw [perm_rise f l m p.cons_inv (List.pairwise_cons.mp h1).2 (List.pairwise_cons.mp h2).2]

section
variable {X : Cx}
/-- d.items(), d a dict with number or text keys -/
def rItemsK : V → List V → Hp → VK → Prop := fun x xs H Q => ∃ (a : Addr) (kvs : List (Key × V)), x = .ref a ∧ xs = [] ∧ H a = some (.dK kvs) ∧ ∀ p, H p = none → Q (.ref p) (upd H p (itemsO p a))
theorem mt_itemsK : MtR X "dict.items" rItemsK := by
  intro pins s σ H x xs v us Q I rx rxs h
  obtain ⟨a, kvs, rfl, rfl, ha, q⟩ := h
  cases rx
  cases rxs
  obtain ⟨_, hsys, us, hkv, o, es, ep, h1, h2, h3, _⟩ := (show ObjOk X.prog X.w H s.heap a (.dK kvs) from I.hok a _ ha)
  refine DT.callItems (es := es) (ep := ep) hsys ⟨o, h1, h2, h3⟩ ?_
  have hf : H s.heap.objs.size = none := I.hok.fresh (Nat.le_refl _)
  exact ⟨.ref s.heap.objs.size, upd H s.heap.objs.size (itemsO s.heap.objs.size a), I.laid (t' := s.toks) (fun b u e => Heap.get?_push_of_some _ e) (Nat.le_refl _) (itemsO_ok (Heap.get?_push_size _ rfl)), rfl, q _ hf⟩

/-- sorted(d.items()): the keys are numbers that rise -/
def rSortK : List V → Hp → VK → Prop := fun xs H Q => ∃ (p a : Addr) (kvs : List (Key × V)) (ks : List Int), xs = [.ref p] ∧ H p = some (itemsO p a) ∧ H a = some (.dK kvs) ∧
  kvs.map Prod.fst = ks.map Sum.inl ∧ ks.Pairwise (· < ·) ∧ kvs.length ≤ 1000000 ∧
  ∀ (H' : Hp) (l : Addr) (as : List Addr), Same H H' → H l = none → H' l = some (.lst (as.map V.ref)) → as.length = kvs.length →
    (∀ (j : Nat) (b : Addr) (k : Int) (v : V), as[j]? = some b → kvs[j]? = some (.inl k, v) → H b = none ∧ H' b = some (.tup [.int k, v])) → Q (.ref l) H'
theorem cr_sortK (hc : X.calm = true) : CallR X (.builtin "sorted") rSortK := by
  intro pins s σ H xs us Q I r h
  obtain ⟨p, a, kvs, ks, rfl, hp, ha, hk, hri, hl, q⟩ := h
  obtain rfl := Vals.ref1 r
  have view : s.heap.IsItemsView p a := (show ObjOk X.prog X.w H s.heap p (itemsO p a) from I.hok p _ hp).1
  obtain ⟨_, hsys, ws, hkv, o, es, ep, h1, h2, h3, _, h4, _⟩ := (show ObjOk X.prog X.w H s.heap a (.dK kvs) from I.hok a _ ha)
  obtain ⟨r1, r2⟩ := pairs_keys hkv h4
  have hh : X.A.handled = none := I.ok.hd hc
  have les : es.size = kvs.length := by
    have := r2.length
    simpa using this.symm
  have lks : ks.length = kvs.length := by
    have := congrArg List.length hk
    simpa using this.symm
  have big : (1000000 : Nat) < sizeLine := by decide
  refine DT.sortedI (es := es) (ep := ep) hh view ⟨o, h1, h2, h3⟩ (by omega) fun h' tk as hk' hlt hl' hG => ?_
  have lak : as.length = kvs.length := by omega
  have nd : as.Nodup := List.Pairwise.imp (fun h => Nat.ne_of_lt h) hG.rise
  have pr : ∀ (j : Nat) (b : Addr), as[j]? = some b → ∃ (k : Int) (v : V) (t : Tok) (u : Value), kvs[j]? = some (.inl k, v) ∧ ks[j]? = some k ∧ RelV v u ∧ h'.get? b = some { cls := .type "tuple", data := .seq #[.int k t, u] } := by
    intro j b hj
    obtain ⟨en, he, hg⟩ := hG.pairs j b hj
    have hj2 : j < kvs.length := by rw [← lak]; exact (List.getElem?_eq_some_iff.mp hj).1
    have he' : es.toList[j]? = some en := by rw [Array.getElem?_toList]; exact he
    obtain ⟨u1, hu1, rv1⟩ := r1.get (i := j) (x := kV (kvs[j]).1) (by rw [List.getElem?_map, List.getElem?_eq_getElem hj2]; rfl)
    obtain ⟨u2, hu2, rv2⟩ := r2.get (i := j) (x := (kvs[j]).2) (by rw [List.getElem?_map, List.getElem?_eq_getElem hj2]; rfl)
    rw [List.getElem?_map, he'] at hu1 hu2
    have hkj : ks[j]? = some ks[j] := List.getElem?_eq_getElem (by omega)
    have ek : (kvs[j]).1 = Sum.inl ks[j] := by
      have := congrArg (fun z => z[j]?) hk
      simp only [List.getElem?_map, List.getElem?_eq_getElem hj2, hkj, Option.map_some, Option.some.injEq] at this
      exact this
    cases hu1
    cases hu2
    rw [ek] at rv1
    obtain ⟨t, et⟩ := (show ∃ t, en.key = Value.int ks[j] t from rv1)
    rw [et] at hg
    refine ⟨ks[j], (kvs[j]).2, t, en.val, ?_, hkj, rv2, hg⟩
    rw [List.getElem?_eq_getElem hj2, ← ek]
  have hob : (h'.push { cls := .type "list", data := .seq (as.map Value.ref).toArray }).get? h'.objs.size = some (seqObj "list" (as.map Value.ref).toArray 0) := Heap.get?_push_size _ rfl
  have ne0 : ∀ b o, h'.get? b = some o → b ≠ h'.objs.size := fun b o e => Nat.ne_of_lt (Heap.lt_size e)
  generalize hh2 : h'.push { cls := .type "list", data := .seq (as.map Value.ref).toArray } = h2' at hob ⊢
  have ka : ∀ b o, h'.get? b = some o → h2'.get? b = some o := fun b o e => by rw [← hh2]; exact Heap.get?_push_of_some _ e
  have kb : ∀ b o, s.heap.get? b = some o → h2'.get? b = some o := fun b o e => ka _ _ (hk' _ _ e)
  have pin : ∀ (j : Nat) (b : Addr) (k : Int), as[j]? = some b → ks[j]? = some k → ∃ u, PairR h2' (.ref b) k u := by
    intro j b k hj hkj
    obtain ⟨k', v, t, u, _, e2, _, e4⟩ := pr j b hj
    rw [hkj] at e2
    cases e2
    exact ⟨u, b, _, t, 0, rfl, ka _ _ e4, rfl, rfl⟩
  have fk : ∀ (j : Nat) (b : Addr) (k : Int), as[j]? = some b → ks[j]? = some k → fstI h2' (.ref b) = k := fun j b k hj hkj =>
    let ⟨u, z⟩ := pin j b k hj hkj
    z.fst
  have at_ : ∀ v ∈ as.map Value.ref, ∃ (j : Nat) (b : Addr) (k : Int), v = .ref b ∧ as[j]? = some b ∧ ks[j]? = some k := by
    intro v hv'
    obtain ⟨b, hb, rfl⟩ := List.mem_map.mp hv'
    obtain ⟨j, hj⟩ := List.mem_iff_getElem?.mp hb
    obtain ⟨k, _, _, _, _, e2, _⟩ := pr j b hj
    exact ⟨j, b, k, rfl, hj, e2⟩
  have fits : (as.map Value.ref).length ≤ sizeLine := by rw [List.length_map]; omega
  have ndk : ks.Nodup := List.Pairwise.imp (fun h => Int.ne_of_lt h) hri
  have rise : (as.map Value.ref).Pairwise fun v u => fstI h2' v < fstI h2' u := by
    refine List.pairwise_iff_getElem.mpr fun i j hi hj hij => ?_
    rw [List.length_map] at hi hj
    have hi' : i < ks.length := by omega
    have hj' : j < ks.length := by omega
    rw [List.getElem_map, List.getElem_map, fk i _ ks[i] (List.getElem?_eq_getElem hi) (List.getElem?_eq_getElem hi'), fk j _ ks[j] (List.getElem?_eq_getElem hj) (List.getElem?_eq_getElem hj')]
    exact List.pairwise_iff_getElem.mp hri i j hi' hj' hij
  refine wpAny_call_entry PyProof.Rows.slot_list_sort ⟨_, hob, rfl⟩ PyProof.Rows.entry_list_sort
    (SrtO.list_sort_ord (s := { s with heap := h2', toks := tk }) (swo_by (fstI h2')) hob fits (fun h2 => ?_) fun out g1 g2 => ⟨.none, rfl, ?_⟩) (PyProof.Rows.args_list_sort _)
  · refine pairsR_sortable (s := { s with heap := h2', toks := tk }) (by omega) (fun v hv' => ?_) (fun v hv' u hu' e => ?_) (fun o e => ?_)
    · obtain ⟨j, b, k, rfl, hj, hkj⟩ := at_ v hv'
      rw [fk j b k hj hkj]
      exact pin j b k hj hkj
    · obtain ⟨j, b, k, rfl, hj, hkj⟩ := at_ v hv'
      obtain ⟨j2, b2, k2, rfl, hj2, hkj2⟩ := at_ u hu'
      rw [fk j b k hj hkj, fk j2 b2 k2 hj2 hkj2] at e
      subst e
      have := (List.getElem?_inj (List.getElem?_eq_some_iff.mp hkj).1 ndk).mp (hkj.trans hkj2.symm)
      subst this
      rw [hj] at hj2
      cases hj2
      rfl
    · have e' : some o = some (seqObj "list" (as.map Value.ref).toArray 0) := e.symm.trans hob
      cases e'
      intro c
      exact absurd (Value.type.inj c) (by decide)
  · show EP X pins σ Q (.ref h'.objs.size) { s with heap := sortedHeap h2' h'.objs.size (as.map Value.ref) out.toArray, toks := tk }
    have eo : out = as.map Value.ref := by
      refine perm_rise (fstI h2') _ _ g2.perm (g1.imp fun {x y} z => ?_) rise
      have := of_decide_eq_false z
      omega
    subst eo
    have kF : ∀ b o, b ≠ h'.objs.size → h2'.get? b = some o → (sortedHeap h2' h'.objs.size (as.map Value.ref) (as.map Value.ref).toArray).get? b = some o := fun b o hb e => (PyProof.Rows.sortedHeap_old hb (Heap.lt_size e)).trans e
    have kS : ∀ b o, s.heap.get? b = some o → (sortedHeap h2' h'.objs.size (as.map Value.ref) (as.map Value.ref).toArray).get? b = some o := fun b o e => kF b o (ne0 _ _ (hk' b o e)) (kb b o e)
    obtain ⟨eF, heF⟩ := PyProof.Rows.sortedHeap_at (vs := as.map Value.ref) (out := (as.map Value.ref).toArray) hob
    generalize sortedHeap h2' h'.objs.size (as.map Value.ref) (as.map Value.ref).toArray = h5 at kF kS heF ⊢
    have I1 : Inv X pins σ H { s with heap := h5, toks := tk } := I.kept (t' := tk) kS
    have hn0 : H h'.objs.size = none := I.hok.fresh (Nat.le_of_lt hlt)
    have hlen : (as.map V.ref).length ≤ sizeLine := by rw [List.length_map]; omega
    have rv : Vals (as.map V.ref) (as.map Value.ref) := vals_maps V.ref Value.ref as fun _ _ => rfl
    have I2 : Inv X pins σ (upd H h'.objs.size (.lst (as.map V.ref))) { s with heap := h5, toks := tk } :=
      I1.take (h' := h5) (t' := tk) (fun b ob _ e => e) (I.fpOk (Nat.le_of_lt hlt) hn0) ⟨hlen, as.map Value.ref, eF, rv, by simpa using heF⟩
    obtain ⟨H2, I3, g, qt⟩ := takeT (P := fun b vs => ∃ (j : Nat) (k : Int) (v : V), as[j]? = some b ∧ kvs[j]? = some (.inl k, v) ∧ vs = [.int k, v]) I as _ I2 nd fun b hb => by
      obtain ⟨j, hj⟩ := List.mem_iff_getElem?.mp hb
      obtain ⟨k, v, t, u, e1, _, e3, e4⟩ := pr j b hj
      have hbl : s.heap.objs.size ≤ b := Nat.le_of_lt (hG.above b hb)
      refine ⟨hbl, ?_, [.int k, v], ⟨j, k, v, hj, e1, rfl⟩, fun H3 => ⟨(by show 2 ≤ sizeLine; decide), [Value.int k t, u], .cons ⟨t, rfl⟩ (.cons e3 .nil), ⟨_, kF _ _ (ne0 _ _ e4) (ka _ _ e4), rfl, 0, rfl⟩⟩⟩
      rw [upd_ne (ne0 _ _ e4)]
      exact I.hok.fresh hbl
    have gr : ∀ b o, H b = some o → H2 b = some o := fun b o e => g b o (by rw [upd_ne (ne_of_none e hn0)]; exact e)
    refine ⟨.ref h'.objs.size, H2, I3, rfl, q H2 h'.objs.size as gr hn0 (g _ _ upd_same) lak fun j b k v hj hkv' => ?_⟩
    obtain ⟨vs, ⟨i, k', v', i1, i2, ev⟩, hH⟩ := qt b (List.mem_of_getElem? hj)
    have eij : i = j := (List.getElem?_inj (List.getElem?_eq_some_iff.mp i1).1 nd).mp (i1.trans hj.symm)
    subst eij
    rw [hkv'] at i2
    cases i2
    rw [ev] at hH
    exact ⟨I.hok.fresh (Nat.le_of_lt (hG.above b (List.mem_of_getElem? hj))), hH⟩
end
end Pw

/-! Rows in a list or in a tuple; how lists of rows are shown. -/
namespace Pw
open PySem PySem.Spec PyProof.Rows L2
/-- at a a tuple of tuples -/
def TT {α : Type} (f : α → List V) (H : Hp) (a : Addr) (rs : List α) : Prop := ∃ vs, H a = some (.tup vs) ∧ Al f H vs rs
/-- at a a list or a tuple of tuples -/
def LS {α : Type} (f : α → List V) (H : Hp) (a : Addr) (rs : List α) : Prop := LT f H a rs ∨ TT f H a rs
section
variable {α : Type} {f : α → List V} {H H' : Hp} {K : PySem.W.Frag}
theorem TT.same {a : Addr} {rs : List α} (h : TT f H a rs) (S : Same H H') : TT f H' a rs := let ⟨vs, e, al⟩ := h; ⟨vs, S _ _ e, al.same S⟩
theorem LS.same {a : Addr} {rs : List α} (h : LS f H a rs) (S : Same H H') : LS f H' a rs := h.imp (fun l => l.same S) fun t => t.same S
theorem LT.ls {a : Addr} {rs : List α} (h : LT f H a rs) : LS f H a rs := .inl h
theorem TT.ls {a : Addr} {rs : List α} (h : TT f H a rs) : LS f H a rs := .inr h
/-- rows are shown by their texts, none longer than N -/
def ShR (f : α → List V) (tx : α → Str) (ok : α → Prop) (N : Nat) : Prop :=
  ∀ (K : PySem.W.Frag) (H : Hp) (p : Addr) (r : α), ok r → H p = some (.tup (f r)) → Shw K H (.ref p) 1 N (tx r)
theorem shl_rows {tx : α → Str} {ok : α → Prop} {N : Nat} (S : ShR f tx ok N) {vs : List V} {rs : List α} (h : Al f H vs rs) (ho : ∀ r ∈ rs, ok r) :
    ∃ d, d ≤ 1 ∧ ShwL K H vs d (rs.length * (N + 2)) (rs.map tx) := by
  induction h with
  | nil => exact ⟨0, by decide, by simpa using ShwL.nil⟩
  | @cons p vs r rs e t ih =>
    obtain ⟨d, hd, s⟩ := ih fun r hr => ho r (by simp [hr])
    refine ⟨max 1 d, by omega, ?_⟩
    have := ShwL.cons (S K H p r (ho r (by simp)) e) s
    have e2 : N + 2 + rs.length * (N + 2) = (r :: rs).length * (N + 2) := by
      rw [List.length_cons, Nat.succ_mul]
      omega
    rw [e2] at this
    exact this
/-- a list of rows is shown -/
theorem shw_rows {tx : α → Str} {ok : α → Prop} {N : Nat} (K : PySem.W.Frag) (S : ShR f tx ok N) {a : Addr} {rs : List α} (h : LT f H a rs) (ho : ∀ r ∈ rs, ok r)
    (hl : rs.length * (N + 2) + 2 ≤ sizeLine) : ∃ d n, Shw K H (.ref a) (d + 1) n (listText (rs.map tx)) ∧ n ≤ sizeLine ∧ d + 1 ≤ 60 := by
  obtain ⟨vs, e, al⟩ := h.ex
  obtain ⟨d, hd, s⟩ := shl_rows (K := K) S al ho
  exact ⟨d, _, .lst e s, hl, by omega⟩
theorem sm60 {i : Int} (h : -1000000000000 ≤ i) (k : i ≤ 1000000000000) : i.natAbs.log2 < 1920 := by
  by_cases hz : i.natAbs = 0
  · rw [hz]
    decide
  · rw [Nat.log2_lt hz]
    exact Nat.lt_of_lt_of_le (show i.natAbs < 2 ^ 60 by omega) (Nat.pow_le_pow_right (by decide) (by decide))
/-- what follows two ways that meet -/
theorem seq_join {A B : TS} {D : Ends} {σ : L2.St} {H : Hp} (P : L2.St → Hp → Prop) (h2 : ∀ N' : L2.St → Hp → Prop, (∀ σ' H', P σ' H' → N' σ' H') → A { D with nx := N' } σ H)
    (h1 : ∀ σ' H', P σ' H' → B D σ' H') : tSeq A B D σ H := h2 _ h1
end
end Pw

/-! A list or a tuple, whichever it is: walked along, looked at, asked for its kind. -/
namespace Pw
open PySem PySem.Spec PyProof.Rows L2
theorem Rd_same {H H' : Hp} {a : Addr} {u : HO} (S : Same H H') (r : Rd H a u) : Rd H' a u := r.imp (S _ _) fun ⟨o, e⟩ => ⟨o, S _ _ e⟩
def Sq (K : PySem.W.Frag) (H : Hp) (a : Addr) (xs : List V) : Prop := SqL K H a xs ∨ SqT K H a xs
theorem Sq.same {K : PySem.W.Frag} {H H' : Hp} {a : Addr} {xs : List V} (h : Sq K H a xs) (S : Same H H') : Sq K H' a xs := h.imp (fun z => Same.seq S z) fun z => z.imp (fun r => Rd_same S r) id
/-- what a walk over a list or a tuple asks -/
def iSq (K : PySem.W.Frag) (tl : TE) : TI := fun σ H R => tl σ H fun x H1 => ∃ a xs, x = .ref a ∧ Sq K H1 a xs ∧
  ∀ (J : It) (G : Hp → Prop), (∀ H', Same H1 H' → G H') → Walk J xs.length G (YAt xs) → R J H1
theorem pi_sq {X : Cx} {tg l : Expr} {tl : TE} (hl : PE X l tl) : PI X tg l (iSq X.K tl) := by
  refine ⟨fun pins s σ H R I h => ?_⟩
  refine thn (hl.run pins s σ H _ I h) fun v s1 hv => ?_
  obtain ⟨x, H1, I1, r1, a, xs, rfl, hs, q⟩ := hv
  obtain rfl : v = Value.ref a := r1
  rcases hs with hq | hq
  · obtain ⟨its, rv, p, hz⟩ := I1.list hq
    refine wpAny_pyIter_list (PlainL.isList p) ⟨s1.heap.objs.size, [s1.heap.objs.size], fun i h => h.IsListIter s1.heap.objs.size a i, Itl X.K a, H1, rfl, I1.kept fun b o e => Heap.get?_push_of_some _ e, turn_list a _,
      ⟨_, Heap.get?_push_size _ rfl, rfl, rfl⟩, fun b hb => ?_, q _ (fun H => SqL X.K H a xs) (fun H' S => Same.seq S hq) walk_list⟩
    rw [List.mem_singleton.mp hb]
    exact I1.fpOk (Nat.le_refl _) (HOk.fresh I1.hok (Nat.le_refl _))
  · obtain ⟨its, rv, p, hz⟩ := I1.tuple hq
    refine wpAny_pyIter_tuple p ⟨s1.heap.objs.size, [s1.heap.objs.size], fun i h => h.IsTupleIter s1.heap.objs.size a i, Itt X.K a, H1, rfl, I1.kept fun b o e => Heap.get?_push_of_some _ e, turn_tuple a _,
      ⟨_, Heap.get?_push_size _ rfl, rfl, rfl⟩, fun b hb => ?_, q _ (fun H => SqT X.K H a xs) (fun H' S => hq.imp (fun r => Rd_same S r) id) walk_tup⟩
    rw [List.mem_singleton.mp hb]
    exact I1.fpOk (Nat.le_refl _) (HOk.fresh I1.hok (Nat.le_refl _))
/-- its kind -/
theorem Sq.ty {K : PySem.W.Frag} {H : Hp} {a : Addr} {xs : List V} (h : Sq K H a xs) : ∃ t, TyX K H (.ref a) t ∧ PySem.W.kitAny K t [.type "list", .type "tuple"] = some true := by
  rcases h with h | h
  · rcases h with h | ⟨o, its, n, e, c, _⟩
    · rcases h with e | ⟨o, e⟩
      · exact ⟨_, .base (.lst e), kit_lt_list⟩
      · exact ⟨_, .base (.frz e), kit_lt_list⟩
    · exact ⟨_, .kList e c, kit_lt_list⟩
  · rcases h with h | ⟨o, its, n, e, c, _⟩
    · rcases h with e | ⟨o, e⟩
      · exact ⟨_, .base (.tup e), kit_lt_tuple⟩
      · exact ⟨_, .fTuple e, kit_lt_tuple⟩
    · exact ⟨_, .kTuple e c, kit_lt_tuple⟩
end Pw

/-! Set comprehensions of texts and numbers; len of such a set. -/
namespace Pw
open PySem PySem.Spec PyProof.Rows L2
def tScK (P : Program) (w : World) (wi : TI) (g : TG) (tt : L2.TT) (te : TE) (vs : List Nat) : TE := fun σ H Q => wi σ H fun J H1 => ∀ D, H1 D = none →
  ∃ W : Nat → Nat → Hp → Prop, (∃ m, W 0 m (upd H1 D (SetK P w D (fun _ => false) 0))) ∧ ∀ i m H, W i m H → (J.stop i H ∧ Q (.ref D) H) ∨
    (J.go i H ∧ ∃ Nx : Hp → Prop, (∀ H', Nx H' → ∃ m', m' < m ∧ W (i + 1) m' H') ∧ ∀ x H', J.yld i H x H' → g x (wipe σ vs) H' fun σ2 H2 => wipe σ2 vs = wipe σ vs ∧ tt σ2 H2 fun b H3 =>
      if b = true then te σ2 H3 fun y H4 => ∃ (k : Key) (S : Key → Bool) (n : Nat), y = kV k ∧ H4 D = some (SetK P w D S n) ∧ n + 1 < scanBound ∧
        Nx (upd H4 D (SetK P w D (fun j => S j || decide (j = k)) (if S k = true then n else n + 1))) else Nx H3)
theorem setOf_fresh {P : Program} {w : World} {h : Heap} :
    Heap.SetOf (mixKind P w) (h.push { cls := Value.type "set", data := Data.set #[] 0 (SetTable.fresh 0 0 !w.params.followText "set-order") }) h.objs.size (fun _ => false) 0 := by
  refine ⟨_, #[], 0, _, Heap.get?_push_size _ rfl, ⟨rfl, rfl, rfl⟩, rfl, ?_, ?_, ?_, ?_, rfl⟩
  · intro e h
    cases h
  · intro k
    simp
  · decide
  · cases (!w.params.followText "set-order") <;> rfl
section
variable {X : Cx} {pins : List (Addr × Obj)} {s : Shared} {σ : L2.St} {H : Hp} {Q : VK} {elt tg iter : Expr}
  {ifs : List Expr} {scope : Scope} {own : List (Str × Nat)} {pos pos' : Pos} {wi : TI} {g : TG}
  {tt : L2.TT} {te : TE} {use : Option (Value → Sem Unit)} {Qf : Value → Shared → Prop}
theorem scK_core (hc : X.calm = true) (hN : X.N.Nodup) (I : Inv X pins σ H s) (hi : PI X tg iter wi) (ok : BlkOk X.N X.env.scope scope own)
    (hg : ∀ (s : Shared) (H : Hp) (C : Addr) (cl : List (Str × Addr)) (fp : List Addr), PG (X.blk s H scope (compEnvC scope cl C X.env) fp) tg g)
    (ht : ∀ (s : Shared) (H : Hp) (C : Addr) (cl : List (Str × Addr)) (fp : List Addr), PTs (X.blk s H scope (compEnvC scope cl C X.env) fp) ifs tt)
    (he : ∀ (s : Shared) (H : Hp) (C : Addr) (cl : List (Str × Addr)) (fp : List Addr), PE (X.blk s H scope (compEnvC scope cl C X.env) fp) elt te)
    (hs : ∀ x : Value, foldedSetIterable iter X.env x = pure x) (h : tScK X.prog X.w wi g tt te (own.map (·.2)) σ H Q)
    (hRR : ∀ (D C : Addr) (s' : Shared) (m : Str → Option Value) (H' : Hp), Inv X pins σ H' s' → Q (.ref D) H' → s'.heap.Ns C m → FpOk X pins H' C →
      compPost (model X.prog X.w) X.A X.xe use Qf (.ref D) C (.ok .next) s') :
    wpAny (model X.prog X.w) X.A (comprehension (elt.SetComp [{ target := tg, iter := iter, ifs := ifs, is_async := 0 }] scope pos) scope X.env pos' (newSet (.type "set")) false (eval iter X.env) use) Qf X.xe s := by
  have hfree : ∀ y ∈ scope.names, y.2 = NameKind.free → ∃ c, List.lookup y.1 X.env.cells = some c := fun y hy e => by
    rcases ok.free y hy e with k | k
    · exact I.ok.has y.1 (Or.inl k)
    · exact I.ok.has y.1 (Or.inr k)
  refine wpAny_comprehension_free rfl hs (closure_ok hfree) ok.kind (fun y hy e => by rw [ok.uniq y hy, e]) ?_
  refine thn (hi.run pins s σ H _ I h) fun xv s1 hx => thn hx fun itv s2 h2 => ?_
  obtain ⟨it, fp, tn, J, H2, rfl, I2, T, st2, f2, q⟩ := h2
  refine PpSet.newSet_ok (newEnv_comp ?_)
  have hDn := HOk.fresh I2.hok (Nat.le_of_eq (Eq.refl s2.heap.objs.size))
  obtain ⟨W, ⟨m0, w0⟩, turn⟩ := q s2.heap.objs.size hDn
  generalize es3 : ({ heap := s2.heap.push { cls := Value.type "set", data := Data.set #[] 0 (SetTable.fresh 0 0 !X.w.params.followText "set-order") }, gens := s2.gens, drawn := s2.drawn, toks := s2.toks, os := s2.os } : Shared) = s3
  have eh3 : s3.heap = s2.heap.push { cls := Value.type "set", data := Data.set #[] 0 (SetTable.fresh 0 0 !X.w.params.followText "set-order") } := by rw [← es3]
  have I3 : Inv X pins σ (upd H2 s2.heap.objs.size (SetK X.prog X.w s2.heap.objs.size (fun _ => false) 0)) s3 := by
    rw [← es3]
    exact I2.laid (fun b o e => Heap.get?_push_of_some _ e) (Nat.le_of_eq rfl) (setK_new setOf_fresh)
  generalize hH3 : upd H2 s2.heap.objs.size (SetK X.prog X.w s2.heap.objs.size (fun _ => false) 0) = H3 at *
  have sz : ∀ b ∈ fp, b < s2.heap.objs.size := fun b hb => by
    obtain ⟨o, e, _⟩ := T.obj 0 s2.heap st2 b hb
    exact Heap.lt_size e
  have f3 : ∀ b ∈ fp, FpOk X pins H3 b ∧ b < s3.heap.objs.size := fun b hb => by
    have hlt := sz b hb
    refine ⟨⟨?_, (f2 b hb).2⟩, ?_⟩
    · rw [← hH3, upd_ne (Nat.ne_of_lt hlt)]
      exact (f2 b hb).1
    · rw [eh3, Heap.size_push]
      exact Nat.lt_succ_of_lt hlt
  have st3 : tn 0 s3.heap := T.keep 0 s2.heap s3.heap st2 fun b _ o e => by
    rw [eh3]
    exact Heap.get?_push_of_some _ e
  have I4 := block_start I3 ok hN f3
  have pg := hg s3 H3 s3.heap.objs.size (cellsFrom (s3.heap.objs.size + 1) scope.names (cloFrom X.env.cells scope.names [])) fp
  have pt := ht s3 H3 s3.heap.objs.size (cellsFrom (s3.heap.objs.size + 1) scope.names (cloFrom X.env.cells scope.names [])) fp
  have pe := he s3 H3 s3.heap.objs.size (cellsFrom (s3.heap.objs.size + 1) scope.names (cloFrom X.env.cells scope.names [])) fp
  have nfp : ∀ b ∈ fp, H3 b = none := fun b hb => (f3 b hb).1.1
  generalize eCe : cellsFrom (s3.heap.objs.size + 1) scope.names (cloFrom X.env.cells scope.names []) = ce at *
  generalize eDN : s3.heap.objs.size = DN at *
  have stat : ∀ {σ' : L2.St} {H' : Hp} {s' : Shared}, Inv (X.blk s3 H3 scope (compEnvC scope ce DN X.env) fp) [] σ' H' s' → (∀ b ∈ fp, H' b = none) → ∀ b ∈ fp, FpOk (X.blk s3 H3 scope (compEnvC scope ce DN X.env) fp) [] H' b := fun {σ' H' s'} I' hn b hb =>
    ⟨hn b hb, (I'.ok.exf b hb).1, I'.ok.exfs b hb, .inl hb, fun x c e => (I'.ok.exf b hb).2 x c e, fun p hp => absurd hp (by simp)⟩
  have st4 : tn 0 (pushCells (s3.heap.push { cls := Value.type "dict", data := Data.dict #[] }) scope.names) := T.keep 0 s3.heap _ st3 fun b _ o e => pushCells_keeps _ _ _ _ (Heap.get?_push_of_some _ e)
  have loop : codeAny (model X.prog X.w) X.A (Code.compLoop (elt.SetComp [{ target := tg, iter := iter, ifs := ifs, is_async := 0 }] scope pos) 0 (.ref it) (.ref s2.heap.objs.size) (compEnvC scope ce DN X.env))
      (compPost (model X.prog X.w) X.A X.xe use Qf (.ref s2.heap.objs.size) DN)
      { heap := pushCells (s3.heap.push { cls := Value.type "dict", data := Data.dict #[] }) scope.names, gens := s3.gens, drawn := s3.drawn, toks := s3.toks, os := s3.os } := by
    refine PpSet.compLoopS_any (fun n s' => ∃ i H', Inv (X.blk s3 H3 scope (compEnvC scope ce DN X.env) fp) [] (wipe σ (own.map (·.2))) H' s' ∧ tn i s'.heap ∧ (∀ b ∈ fp, H' b = none) ∧ W i n H') ?_ m0 ⟨0, H3, I4, st4, nfp, w0⟩
    rintro n s5 ⟨i, H5, I5, st5, n5, w5⟩
    rcases turn i n H5 w5 with ⟨stop, qq⟩ | ⟨go, Nx, hNx, step⟩
    · have td := T.done (X.blk s3 H3 scope (compEnvC scope ce DN X.env) fp) rfl rfl rfl hc i [] s5 _ H5 (fun _ _ => False) I5 (stat I5 n5) st5 stop
      refine thnF td fun r s6 h6 => ?_
      obtain ⟨rfl, I6⟩ := h6
      have I7 := Inv.call' I3 I6.os I6.base I6.hok I6.bare fun b hb => ⟨(f3 b hb).1.2.2.2.1, (f3 b hb).1.2.1, (f3 b hb).1.2.2.2.2.1, (f3 b hb).1.2.2.2.2.2⟩
      have nC : H5 DN = none := I6.free
      obtain ⟨m, hn, _⟩ := I6.loc
      exact hRR s2.heap.objs.size DN s6 m H5 I7 qq hn (I3.fpOk (Nat.le_of_eq eDN) nC)
    · have ti := T.item (X.blk s3 H3 scope (compEnvC scope ce DN X.env) fp) rfl rfl rfl hc i [] s5 _ H5 (fun _ _ => False) I5 (stat I5 n5) st5 go
      refine thnF ti fun r s6 h6 => ?_
      obtain ⟨u, rfl, h6⟩ := h6
      refine thnF h6 fun _ s7 h7 => ?_
      obtain ⟨x, H7, I7, r7, y7, st7, n7⟩ := h7
      have I7' := Inv.pinned I7 (stat I7 n7) (T.obj (i + 1) s7.heap st7)
      refine thnF (pg.run ([] ++ pinsAt fp s7.heap) s7 _ H7 x u _ I7' r7 (step x H7 y7)) fun _ s8 h8 => ?_
      obtain ⟨σ8, H8, I8, hw8, q8⟩ := h8
      have fin : ∀ {H' : Hp} {s' : Shared}, Inv (X.blk s3 H3 scope (compEnvC scope ce DN X.env) fp) ([] ++ pinsAt fp s7.heap) σ8 H' s' → Nx H' → ∃ m, m < n ∧ ∃ i H', Inv (X.blk s3 H3 scope (compEnvC scope ce DN X.env) fp) [] (wipe σ (own.map (·.2))) H' s' ∧ tn i s'.heap ∧ (∀ b ∈ fp, H' b = none) ∧ W i m H' := fun {H' s'} I' nx => by
        obtain ⟨m', hm, w'⟩ := hNx H' nx
        have z : ∀ b ∈ fp, ∀ o, s7.heap.get? b = some o → s'.heap.get? b = some o ∧ H' b = none := fun b hb o e => by
          have z := I'.pin (b, o) (List.mem_append_right _ (mem_pinsAt hb e))
          exact ⟨z.1, z.2.1⟩
        have hl : (wipe σ (own.map (·.2))).length = σ8.length := by rw [← hw8, wipe_length]
        refine ⟨m', hm, i + 1, H', Inv.weak (Inv.unpinned I') hl (fun j v e => (wipe_some (by rw [hw8]; exact e)).1), T.keep (i + 1) s7.heap s'.heap st7 (fun b hb o e => (z b hb o e).1), fun b hb => ?_, w'⟩
        obtain ⟨o, e, _⟩ := T.obj (i + 1) s7.heap st7 b hb
        exact (z b hb o e).2
      refine thnF (pt.run ([] ++ pinsAt fp s7.heap) s8 σ8 H8 _ I8 q8) fun b s9 h9 => ?_
      obtain ⟨H9, I9, q9⟩ := h9
      cases b with
      | false => exact fin I9 q9
      | true =>
        refine thnF (pe.run ([] ++ pinsAt fp s7.heap) s9 σ8 H9 _ I9 q9) fun yv s10 h10 => ?_
        obtain ⟨y, H10, I10, r10, k, S, nn, rfl, hD10, hz10, nx⟩ := h10
        have ad := mt_saddK (X := (X.blk s3 H3 scope (compEnvC scope ce DN X.env) fp)) ([] ++ pinsAt fp s7.heap) s10 σ8 H10 (.ref s2.heap.objs.size) [kV k] (.ref s2.heap.objs.size) [yv] (fun _ H' => Nx H') I10 rfl (.cons r10 .nil) ⟨_, k, S, nn, rfl, rfl, hD10, hz10, nx⟩
        refine thnF ad fun _ s11 h11 => ?_
        obtain ⟨_, H11, I11, _, nx'⟩ := h11
        exact fin I11 nx'
  subst eCe
  subst eDN
  exact PpSet.codeAny_compStart_set loop (T.self X.A 0 _ _ _ st4 loop)
theorem pe_scK (hc : X.calm = true) (hN : X.N.Nodup) (hi : PI X tg iter wi) (ok : BlkOk X.N X.env.scope scope own)
    (hg : ∀ (s : Shared) (H : Hp) (C : Addr) (cl : List (Str × Addr)) (fp : List Addr), PG (X.blk s H scope (compEnvC scope cl C X.env) fp) tg g)
    (ht : ∀ (s : Shared) (H : Hp) (C : Addr) (cl : List (Str × Addr)) (fp : List Addr), PTs (X.blk s H scope (compEnvC scope cl C X.env) fp) ifs tt)
    (he : ∀ (s : Shared) (H : Hp) (C : Addr) (cl : List (Str × Addr)) (fp : List Addr), PE (X.blk s H scope (compEnvC scope cl C X.env) fp) elt te)
    (hs : ∀ x : Value, foldedSetIterable iter X.env x = pure x := by intro x; rfl) :
    PE X (.SetComp elt [⟨tg, iter, ifs, 0⟩] scope pos) (tScK X.prog X.w wi g tt te (own.map (·.2))) := by
  refine ⟨fun pins s σ H Q I h => ?_⟩
  rw [PpSet.eval_SetComp]
  refine scK_core hc hN I hi ok hg ht he hs h fun D C s' m H' I' q hn hf => ?_
  refine ⟨m, hn, fun h' hb => ⟨.ref D, H', ?_, rfl, q⟩⟩
  exact I'.turned (it := C) (fun b o n e => (hb.2 b n).trans e) hf.1 hf.2.1 hf.2.2.2.1 hf.2.2.2.2.1 hf.2.2.2.2.2
/-- len of a set of texts or numbers -/
def rLenSK (P : Program) (w : World) : List V → Hp → VK → Prop := fun xs H Q => ∃ (a : Addr) (S : Key → Bool) (n : Nat), xs = [V.ref a] ∧ H a = some (SetK P w a S n) ∧ Q (.int (n : Int)) H
theorem call_lenSK {X : Cx} : CallR X (.builtin "len") (rLenSK X.prog X.w) := by
  intro pins s σ H xs us Q I r h
  obtain ⟨a, S, n, rfl, e, q⟩ := h
  obtain ⟨u, rfl, ru⟩ := vals1 r
  obtain rfl : u = Value.ref a := ru
  obtain ⟨o, es, ep, t, ho, hx, hd, he, hS, hsz, hf, rfl⟩ := setK_get I e
  refine call_len_set ho hx hd hf ?_ ?_
  · exact Int.lt_of_lt_of_le (Int.ofNat_lt.mpr hsz) (by decide)
  · exact ⟨.int (es.size : Int), H, I.tok _, ⟨_, rfl⟩, q⟩
end
end Pw

namespace V10
open PySem PySem.Spec PyProof.Rows L2 Pw
def top (i : Nat) : Stmt := PySem.Challenge.pw_panelwatch_k10_signs_and_their_letters.main.body.getD i (.Pass ⟨0, 0, 0, 0⟩)
abbrev sWall : Stmt := top 0
theorem scWall : FnScope ["k"] ["k"] (defScope sWall) := ⟨rfl, rfl, rfl, by decide +kernel, rfl, by decide +kernel, by decide +kernel⟩
abbrev sIsNumber : Stmt := top 25
theorem scIsNumber : FnScope ["thing"] ["thing"] (defScope sIsNumber) := ⟨rfl, rfl, rfl, by decide +kernel, rfl, by decide +kernel, by decide +kernel⟩
abbrev sCheckNumber : Stmt := top 26
theorem scCheckNumber : FnScope ["thing"] ["thing"] (defScope sCheckNumber) := ⟨rfl, rfl, rfl, by decide +kernel, rfl, by decide +kernel, by decide +kernel⟩
abbrev sIsWhole : Stmt := top 27
theorem scIsWhole : FnScope ["thing", "low", "high"] ["thing", "low", "high"] (defScope sIsWhole) := ⟨rfl, rfl, rfl, by decide +kernel, rfl, by decide +kernel, by decide +kernel⟩
abbrev sIsName : Stmt := top 28
theorem scIsName : FnScope ["thing", "sign"] ["thing"] (defScope sIsName) := ⟨rfl, rfl, rfl, by decide +kernel, rfl, by decide +kernel, by decide +kernel⟩
abbrev sIsTime : Stmt := top 29
theorem scIsTime : FnScope ["thing"] ["thing"] (defScope sIsTime) := ⟨rfl, rfl, rfl, by decide +kernel, rfl, by decide +kernel, by decide +kernel⟩
abbrev sIsMark : Stmt := top 30
theorem scIsMark : FnScope ["thing"] ["thing"] (defScope sIsMark) := ⟨rfl, rfl, rfl, by decide +kernel, rfl, by decide +kernel, by decide +kernel⟩
abbrev sIsTerm : Stmt := top 31
theorem scIsTerm : FnScope ["thing"] ["thing"] (defScope sIsTerm) := ⟨rfl, rfl, rfl, by decide +kernel, rfl, by decide +kernel, by decide +kernel⟩
abbrev sIsId : Stmt := top 32
theorem scIsId : FnScope ["thing"] ["thing"] (defScope sIsId) := ⟨rfl, rfl, rfl, by decide +kernel, rfl, by decide +kernel, by decide +kernel⟩
abbrev sIsOneOf : Stmt := top 33
theorem scIsOneOf : FnScope ["thing", "words"] ["thing", "words"] (defScope sIsOneOf) := ⟨rfl, rfl, rfl, by decide +kernel, rfl, by decide +kernel, by decide +kernel⟩
abbrev sIsTuple : Stmt := top 34
theorem scIsTuple : FnScope ["thing", "many"] ["thing", "many"] (defScope sIsTuple) := ⟨rfl, rfl, rfl, by decide +kernel, rfl, by decide +kernel, by decide +kernel⟩
abbrev sIsList : Stmt := top 35
theorem scIsList : FnScope ["thing", "least", "most"] ["thing", "least", "most"] (defScope sIsList) := ⟨rfl, rfl, rfl, by decide +kernel, rfl, by decide +kernel, by decide +kernel⟩
abbrev sIsListOf : Stmt := top 36
theorem scIsListOf : FnScope ["fits", "thing", "least", "most", "part"] ["fits", "thing", "least", "most"] (defScope sIsListOf) := ⟨rfl, rfl, rfl, by decide +kernel, rfl, by decide +kernel, by decide +kernel⟩
abbrev sIsLevel : Stmt := top 43
theorem scIsLevel : FnScope ["thing"] ["thing"] (defScope sIsLevel) := ⟨rfl, rfl, rfl, by decide +kernel, rfl, by decide +kernel, by decide +kernel⟩
abbrev sIsPointShape : Stmt := top 44
theorem scIsPointShape : FnScope ["thing", "name", "place", "kind"] ["thing"] (defScope sIsPointShape) := ⟨rfl, rfl, rfl, by decide +kernel, rfl, by decide +kernel, by decide +kernel⟩
abbrev sIsRuleShape : Stmt := top 45
theorem scIsRuleShape : FnScope ["thing", "name", "point", "word", "limit", "back", "hold", "rank"] ["thing"] (defScope sIsRuleShape) := ⟨rfl, rfl, rfl, by decide +kernel, rfl, by decide +kernel, by decide +kernel⟩
abbrev sIsCauseShape : Stmt := top 46
theorem scIsCauseShape : FnScope ["thing", "cause", "effect", "within"] ["thing"] (defScope sIsCauseShape) := ⟨rfl, rfl, rfl, by decide +kernel, rfl, by decide +kernel, by decide +kernel⟩
abbrev sIsLockShape : Stmt := top 47
theorem scIsLockShape : FnScope ["thing", "point", "word", "limit"] ["thing"] (defScope sIsLockShape) := ⟨rfl, rfl, rfl, by decide +kernel, rfl, by decide +kernel, by decide +kernel⟩
abbrev sIsCommandShape : Stmt := top 48
theorem scIsCommandShape : FnScope ["thing", "name", "point", "worth", "locks"] ["thing"] (defScope sIsCommandShape) := ⟨rfl, rfl, rfl, by decide +kernel, rfl, by decide +kernel, by decide +kernel⟩
abbrev sIsRelationShape : Stmt := top 49
theorem scIsRelationShape : FnScope ["thing", "word", "first", "rest"] ["thing"] (defScope sIsRelationShape) := ⟨rfl, rfl, rfl, by decide +kernel, rfl, by decide +kernel, by decide +kernel⟩
abbrev sPointsOfRelation : Stmt := top 50
theorem scPointsOfRelation : FnScope ["relation", "word", "first", "rest"] ["relation"] (defScope sPointsOfRelation) := ⟨rfl, rfl, rfl, by decide +kernel, rfl, by decide +kernel, by decide +kernel⟩
abbrev sByName : Stmt := top 58
theorem scByName : FnScope ["rows", "row"] ["rows"] (defScope sByName) := ⟨rfl, rfl, rfl, by decide +kernel, rfl, by decide +kernel, by decide +kernel⟩
abbrev sIsWorthOf : Stmt := top 59
theorem scIsWorthOf : FnScope ["point", "thing"] ["point", "thing"] (defScope sIsWorthOf) := ⟨rfl, rfl, rfl, by decide +kernel, rfl, by decide +kernel, by decide +kernel⟩
abbrev sCheckPoints : Stmt := top 60
theorem scCheckPoints : FnScope ["points", "many", "name", "_", "place"] ["points"] (defScope sCheckPoints) := ⟨rfl, rfl, rfl, by decide +kernel, rfl, by decide +kernel, by decide +kernel⟩
abbrev sCheckEachOnce : Stmt := top 61
theorem scCheckEachOnce : FnScope ["names", "at", "name"] ["names"] (defScope sCheckEachOnce) := ⟨rfl, rfl, rfl, by decide +kernel, rfl, by decide +kernel, by decide +kernel⟩
abbrev sCheckRules : Stmt := top 62
theorem scCheckRules : FnScope ["rules", "points", "ahead", "rule", "name", "point"] ["rules", "points"] (defScope sCheckRules) := ⟨rfl, rfl, rfl, by decide +kernel, rfl, by decide +kernel, by decide +kernel⟩
abbrev sCheckCauses : Stmt := top 63
theorem scCheckCauses : FnScope ["causes", "rules", "ahead", "cause", "effect", "_", "name"] ["causes", "rules"] (defScope sCheckCauses) := ⟨rfl, rfl, rfl, by decide +kernel, rfl, by decide +kernel, by decide +kernel⟩
abbrev sLeadsToItself : Stmt := top 64
theorem scLeadsToItself : FnScope ["name", "causes", "reached", "steps", "step", "cause", "effect", "_"] ["name", "causes"] (defScope sLeadsToItself) := ⟨rfl, rfl, rfl, by decide +kernel, rfl, by decide +kernel, by decide +kernel⟩
abbrev sCheckCommands : Stmt := top 65
theorem scCheckCommands : FnScope ["commands", "points", "ahead", "name", "point", "worth", "locks"] ["commands", "points"] (defScope sCheckCommands) := ⟨rfl, rfl, rfl, by decide +kernel, rfl, by decide +kernel, by decide +kernel⟩
abbrev sCheckLocks : Stmt := top 66
theorem scCheckLocks : FnScope ["locks", "place", "points", "point", "_"] ["locks", "place", "points"] (defScope sCheckLocks) := ⟨rfl, rfl, rfl, by decide +kernel, rfl, by decide +kernel, by decide +kernel⟩
abbrev sCheckRelations : Stmt := top 67
theorem scCheckRelations : FnScope ["relations", "points", "relation", "names", "name"] ["relations", "points"] (defScope sCheckRelations) := ⟨rfl, rfl, rfl, by decide +kernel, rfl, by decide +kernel, by decide +kernel⟩
abbrev sCheckWorks : Stmt := top 70
theorem scCheckWorks : FnScope ["thing"] ["thing"] (defScope sCheckWorks) := ⟨rfl, rfl, rfl, by decide +kernel, rfl, by decide +kernel, by decide +kernel⟩
abbrev sIsSign : Stmt := top 74
theorem scIsSign : FnScope ["works", "thing", "time", "point", "worth", "mark"] ["works", "thing"] (defScope sIsSign) := ⟨rfl, rfl, rfl, by decide +kernel, rfl, by decide +kernel, by decide +kernel⟩
abbrev sIsSigns : Stmt := top 75
theorem scIsSigns : FnScope ["works", "thing", "_", "place", "number", "time", "rows", "times", "row"] ["works", "thing"] (defScope sIsSigns) := ⟨rfl, rfl, rfl, by decide +kernel, rfl, by decide +kernel, by decide +kernel⟩
abbrev sIsSignAt : Stmt := top 76
theorem scIsSignAt : FnScope ["works", "place", "thing"] ["works", "place", "thing"] (defScope sIsSignAt) := ⟨rfl, rfl, rfl, by decide +kernel, rfl, by decide +kernel, by decide +kernel⟩
abbrev sIsOrder : Stmt := top 77
theorem scIsOrder : FnScope ["works", "thing", "word", "ident", "command", "what"] ["works", "thing"] (defScope sIsOrder) := ⟨rfl, rfl, rfl, by decide +kernel, rfl, by decide +kernel, by decide +kernel⟩
abbrev sIsLetter : Stmt := top 78
theorem scIsLetter : FnScope ["works", "thing"] ["works", "thing"] (defScope sIsLetter) := ⟨rfl, rfl, rfl, by decide +kernel, rfl, by decide +kernel, by decide +kernel⟩
abbrev sIsTerms : Stmt := top 79
theorem scIsTerms : FnScope ["works", "thing", "word", "place", "term", "time"] ["works", "thing"] (defScope sIsTerms) := ⟨rfl, rfl, rfl, by decide +kernel, rfl, by decide +kernel, by decide +kernel⟩
abbrev sIsAnswer : Stmt := top 80
theorem scIsAnswer : FnScope ["works", "thing", "_", "place", "ident", "word", "term", "time"] ["works", "thing"] (defScope sIsAnswer) := ⟨rfl, rfl, rfl, by decide +kernel, rfl, by decide +kernel, by decide +kernel⟩
abbrev sLawCell : Stmt := top 82
theorem scLawCell : FnScope ["_law_script", "_law_k"] ["_law_script", "_law_k"] (defScope sLawCell) := ⟨rfl, rfl, rfl, by decide +kernel, rfl, by decide +kernel, by decide +kernel⟩
abbrev sLawBox : Stmt := top 83
theorem scLawBox : FnScope ["_law_cell_here"] ["_law_cell_here"] (defScope sLawBox) := ⟨rfl, rfl, rfl, by decide +kernel, rfl, by decide +kernel, by decide +kernel⟩
abbrev sLawTake : Stmt := top 84
theorem scLawTake : FnScope ["_law_box_here", "_law_many", "_law_digit", "_law_turn"] ["_law_box_here", "_law_many"] (defScope sLawTake) := ⟨rfl, rfl, rfl, by decide +kernel, rfl, by decide +kernel, by decide +kernel⟩
abbrev sLawNames : Stmt := top 85
theorem scLawNames : FnScope ["_law_box_here", "_law_many", "_law_letters", "_law_names_here", "_law_k", "_law_stem", "_law_word", "_law_turn", "_law_letter_here"] ["_law_box_here", "_law_many"] (defScope sLawNames) := ⟨rfl, rfl, rfl, by decide +kernel, rfl, by decide +kernel, by decide +kernel⟩
abbrev sLawPoints : Stmt := top 86
theorem scLawPoints : FnScope ["_law_box_here", "_law_names_here", "_law_some", "_law_kinds", "_law_points_here", "_law_name"] ["_law_box_here", "_law_names_here"] (defScope sLawPoints) := ⟨rfl, rfl, rfl, by decide +kernel, rfl, by decide +kernel, by decide +kernel⟩
abbrev sLawCommands : Stmt := top 87
theorem scLawCommands : FnScope ["_law_box_here", "_law_points_here", "_law_names_here", "_law_found", "_law_name"] ["_law_box_here", "_law_points_here", "_law_names_here"] (defScope sLawCommands) := ⟨rfl, rfl, rfl, by decide +kernel, rfl, by decide +kernel, by decide +kernel⟩
abbrev sLawRows : Stmt := top 88
theorem scLawRows : FnScope ["_law_box_here", "_law_points_here", "_law_place", "_law_many", "_law_time", "_law_mine", "_law_rows_here", "_law_k", "_law_name", "_law_at", "_law_kind", "_law_worth", "_law_point"] ["_law_box_here", "_law_points_here", "_law_place", "_law_many", "_law_time"] (defScope sLawRows) := ⟨rfl, rfl, rfl, by decide +kernel, rfl, by decide +kernel, by decide +kernel⟩
abbrev sLawLetter : Stmt := top 89
theorem scLawLetter : FnScope ["_law_box_here", "_law_points_here", "_law_number", "_law_place", "_law_begin", "_law_rows_here", "_law_time"] ["_law_box_here", "_law_points_here", "_law_number"] (defScope sLawLetter) := ⟨rfl, rfl, rfl, by decide +kernel, rfl, by decide +kernel, by decide +kernel⟩
abbrev sLawWhole : Stmt := top 90
theorem scLawWhole : FnScope ["_law_thing_here", "_law_low", "_law_high"] ["_law_thing_here", "_law_low", "_law_high"] (defScope sLawWhole) := ⟨rfl, rfl, rfl, by decide +kernel, rfl, by decide +kernel, by decide +kernel⟩
abbrev sLawText : Stmt := top 91
theorem scLawText : FnScope ["_law_thing_here", "_law_words"] ["_law_thing_here", "_law_words"] (defScope sLawText) := ⟨rfl, rfl, rfl, by decide +kernel, rfl, by decide +kernel, by decide +kernel⟩
abbrev sLawSign : Stmt := top 92
theorem scLawSign : FnScope ["_law_points_here", "_law_thing_here", "_law_kinds", "_law_name", "_law_place", "_law_kind"] ["_law_points_here", "_law_thing_here"] (defScope sLawSign) := ⟨rfl, rfl, rfl, by decide +kernel, rfl, by decide +kernel, by decide +kernel⟩
abbrev sLawSigns : Stmt := top 93
theorem scLawSigns : FnScope ["_law_points_here", "_law_thing_here", "_law_word", "_law_place", "_law_number", "_law_time", "_law_rows_here", "_law_homes", "_law_last", "_law_row", "_law_name", "_law_home", "_law_kind"] ["_law_points_here", "_law_thing_here"] (defScope sLawSigns) := ⟨rfl, rfl, rfl, by decide +kernel, rfl, by decide +kernel, by decide +kernel⟩
abbrev sLawThing : Stmt := top 94
theorem scLawThing : FnScope ["_law_box_here", "_law_some"] ["_law_box_here"] (defScope sLawThing) := ⟨rfl, rfl, rfl, by decide +kernel, rfl, by decide +kernel, by decide +kernel⟩
abbrev sLawBentSign : Stmt := top 95
theorem scLawBentSign : FnScope ["_law_box_here", "_law_points_here", "_law_row", "_law_at", "_law_odd"] ["_law_box_here", "_law_points_here", "_law_row"] (defScope sLawBentSign) := ⟨rfl, rfl, rfl, by decide +kernel, rfl, by decide +kernel, by decide +kernel⟩
abbrev sLawBentLetter : Stmt := top 96
theorem scLawBentLetter : FnScope ["_law_box_here", "_law_points_here", "_law_letter_here", "_law_word", "_law_place", "_law_number", "_law_time", "_law_rows_here", "_law_at", "_law_way", "_law_some"] ["_law_box_here", "_law_points_here", "_law_letter_here"] (defScope sLawBentLetter) := ⟨rfl, rfl, rfl, by decide +kernel, rfl, by decide +kernel, by decide +kernel⟩
abbrev sLawRight : Stmt := top 97
theorem scLawRight : FnScope ["_law_works", "_law_points_here", "_law_thing_here", "_law_turn", "_law_due"] ["_law_works", "_law_points_here", "_law_thing_here"] (defScope sLawRight) := ⟨rfl, rfl, rfl, by decide +kernel, rfl, by decide +kernel, by decide +kernel⟩
abbrev sLawNoWorks : Stmt := top 98
theorem scLawNoWorks : FnScope ["_law_thing_here", "_law_door", "e"] ["_law_thing_here"] (defScope sLawNoWorks) := ⟨rfl, rfl, rfl, by decide +kernel, rfl, by decide +kernel, by decide +kernel⟩
abbrev sLaw : Stmt := top 99
theorem scLaw : FnScope ["_law_script", "_law_k", "_law_box_here", "_law_points_here", "_law_works", "_law_letter_here", "_law_bent", "_law_things", "_law_row", "_law_thing_here"] ["_law_script"] (defScope sLaw) := ⟨rfl, rfl, rfl, by decide +kernel, rfl, by decide +kernel, by decide +kernel⟩
abbrev mPanelError_Init : Stmt := inClass (top 2) 0
theorem scmPanelError_Init : FnScope ["self", "text"] ["self", "text"] (defScope mPanelError_Init) := ⟨rfl, rfl, rfl, by decide +kernel, rfl, by decide +kernel, by decide +kernel⟩
abbrev mAbsent_Init : Stmt := inClass (top 3) 0
theorem scmAbsent_Init : FnScope ["self", "text"] ["self", "text"] (defScope mAbsent_Init) := ⟨rfl, rfl, rfl, by decide +kernel, rfl, by decide +kernel, by decide +kernel⟩
abbrev mTooMany_Init : Stmt := inClass (top 4) 0
theorem scmTooMany_Init : FnScope ["self", "many"] ["self", "many"] (defScope mTooMany_Init) := ⟨rfl, rfl, rfl, by decide +kernel, rfl, by decide +kernel, by decide +kernel⟩
abbrev mNoWorth_Init : Stmt := inClass (top 5) 0
theorem scmNoWorth_Init : FnScope ["self", "found"] ["self", "found"] (defScope mNoWorth_Init) := ⟨rfl, rfl, rfl, by decide +kernel, rfl, by decide +kernel, by decide +kernel⟩
abbrev mNoNumber_Init : Stmt := inClass (top 6) 0
theorem scmNoNumber_Init : FnScope ["self", "found"] ["self", "found"] (defScope mNoNumber_Init) := ⟨rfl, rfl, rfl, by decide +kernel, rfl, by decide +kernel, by decide +kernel⟩
abbrev mNoPoints_Init : Stmt := inClass (top 7) 0
theorem scmNoPoints_Init : FnScope ["self", "found"] ["self", "found"] (defScope mNoPoints_Init) := ⟨rfl, rfl, rfl, by decide +kernel, rfl, by decide +kernel, by decide +kernel⟩
abbrev mNoRules_Init : Stmt := inClass (top 8) 0
theorem scmNoRules_Init : FnScope ["self", "found"] ["self", "found"] (defScope mNoRules_Init) := ⟨rfl, rfl, rfl, by decide +kernel, rfl, by decide +kernel, by decide +kernel⟩
abbrev mNoCauses_Init : Stmt := inClass (top 9) 0
theorem scmNoCauses_Init : FnScope ["self", "found"] ["self", "found"] (defScope mNoCauses_Init) := ⟨rfl, rfl, rfl, by decide +kernel, rfl, by decide +kernel, by decide +kernel⟩
abbrev mNoCommands_Init : Stmt := inClass (top 10) 0
theorem scmNoCommands_Init : FnScope ["self", "found"] ["self", "found"] (defScope mNoCommands_Init) := ⟨rfl, rfl, rfl, by decide +kernel, rfl, by decide +kernel, by decide +kernel⟩
abbrev mNoRelations_Init : Stmt := inClass (top 11) 0
theorem scmNoRelations_Init : FnScope ["self", "found"] ["self", "found"] (defScope mNoRelations_Init) := ⟨rfl, rfl, rfl, by decide +kernel, rfl, by decide +kernel, by decide +kernel⟩
abbrev mNoWorks_Init : Stmt := inClass (top 12) 0
theorem scmNoWorks_Init : FnScope ["self", "found"] ["self", "found"] (defScope mNoWorks_Init) := ⟨rfl, rfl, rfl, by decide +kernel, rfl, by decide +kernel, by decide +kernel⟩
abbrev mTwice_Init : Stmt := inClass (top 13) 0
theorem scmTwice_Init : FnScope ["self", "found"] ["self", "found"] (defScope mTwice_Init) := ⟨rfl, rfl, rfl, by decide +kernel, rfl, by decide +kernel, by decide +kernel⟩
abbrev mRing_Init : Stmt := inClass (top 14) 0
theorem scmRing_Init : FnScope ["self", "found"] ["self", "found"] (defScope mRing_Init) := ⟨rfl, rfl, rfl, by decide +kernel, rfl, by decide +kernel, by decide +kernel⟩
abbrev mNoPoint_Init : Stmt := inClass (top 15) 0
theorem scmNoPoint_Init : FnScope ["self", "found"] ["self", "found"] (defScope mNoPoint_Init) := ⟨rfl, rfl, rfl, by decide +kernel, rfl, by decide +kernel, by decide +kernel⟩
abbrev mNoPlace_Init : Stmt := inClass (top 16) 0
theorem scmNoPlace_Init : FnScope ["self", "found"] ["self", "found"] (defScope mNoPlace_Init) := ⟨rfl, rfl, rfl, by decide +kernel, rfl, by decide +kernel, by decide +kernel⟩
abbrev mNoRule_Init : Stmt := inClass (top 17) 0
theorem scmNoRule_Init : FnScope ["self", "found"] ["self", "found"] (defScope mNoRule_Init) := ⟨rfl, rfl, rfl, by decide +kernel, rfl, by decide +kernel, by decide +kernel⟩
abbrev mNoCommand_Init : Stmt := inClass (top 18) 0
theorem scmNoCommand_Init : FnScope ["self", "found"] ["self", "found"] (defScope mNoCommand_Init) := ⟨rfl, rfl, rfl, by decide +kernel, rfl, by decide +kernel, by decide +kernel⟩
abbrev mWorks_Init : Stmt := inClass (top 69) 0
theorem scmWorks_Init : FnScope ["self", "points", "rules", "causes", "commands", "relations"] ["self", "points", "rules", "causes", "commands", "relations"] (defScope mWorks_Init) := ⟨rfl, rfl, rfl, by decide +kernel, rfl, by decide +kernel, by decide +kernel⟩
abbrev mWorks_Eq : Stmt := inClass (top 69) 1
theorem scmWorks_Eq : FnScope ["self", "other"] ["self", "other"] (defScope mWorks_Eq) := ⟨rfl, rfl, rfl, by decide +kernel, rfl, by decide +kernel, by decide +kernel⟩
abbrev mWorks_Points : Stmt := inClass (top 69) 2
theorem scmWorks_Points : FnScope ["self"] ["self"] (defScope mWorks_Points) := ⟨rfl, rfl, rfl, by decide +kernel, rfl, by decide +kernel, by decide +kernel⟩
abbrev mWorks_Rules : Stmt := inClass (top 69) 3
theorem scmWorks_Rules : FnScope ["self"] ["self"] (defScope mWorks_Rules) := ⟨rfl, rfl, rfl, by decide +kernel, rfl, by decide +kernel, by decide +kernel⟩
abbrev mWorks_Causes : Stmt := inClass (top 69) 4
theorem scmWorks_Causes : FnScope ["self"] ["self"] (defScope mWorks_Causes) := ⟨rfl, rfl, rfl, by decide +kernel, rfl, by decide +kernel, by decide +kernel⟩
abbrev mWorks_Commands : Stmt := inClass (top 69) 5
theorem scmWorks_Commands : FnScope ["self"] ["self"] (defScope mWorks_Commands) := ⟨rfl, rfl, rfl, by decide +kernel, rfl, by decide +kernel, by decide +kernel⟩
abbrev mWorks_Relations : Stmt := inClass (top 69) 6
theorem scmWorks_Relations : FnScope ["self"] ["self"] (defScope mWorks_Relations) := ⟨rfl, rfl, rfl, by decide +kernel, rfl, by decide +kernel, by decide +kernel⟩
abbrev mWorks_Places : Stmt := inClass (top 69) 7
theorem scmWorks_Places : FnScope ["self", "_", "place"] ["self"] (defScope mWorks_Places) := ⟨rfl, rfl, rfl, by decide +kernel, rfl, by decide +kernel, by decide +kernel⟩
abbrev mWorks_Point : Stmt := inClass (top 69) 8
theorem scmWorks_Point : FnScope ["self", "name"] ["self", "name"] (defScope mWorks_Point) := ⟨rfl, rfl, rfl, by decide +kernel, rfl, by decide +kernel, by decide +kernel⟩
abbrev mWorks_Rule : Stmt := inClass (top 69) 9
theorem scmWorks_Rule : FnScope ["self", "name"] ["self", "name"] (defScope mWorks_Rule) := ⟨rfl, rfl, rfl, by decide +kernel, rfl, by decide +kernel, by decide +kernel⟩
abbrev mWorks_Command : Stmt := inClass (top 69) 10
theorem scmWorks_Command : FnScope ["self", "name"] ["self", "name"] (defScope mWorks_Command) := ⟨rfl, rfl, rfl, by decide +kernel, rfl, by decide +kernel, by decide +kernel⟩
abbrev mWorks_PointsAt : Stmt := inClass (top 69) 11
theorem scmWorks_PointsAt : FnScope ["self", "place", "name", "where", "_"] ["self", "place"] (defScope mWorks_PointsAt) := ⟨rfl, rfl, rfl, by decide +kernel, rfl, by decide +kernel, by decide +kernel⟩
abbrev mWorks_IsWorth : Stmt := inClass (top 69) 12
theorem scmWorks_IsWorth : FnScope ["self", "point", "thing"] ["self", "point", "thing"] (defScope mWorks_IsWorth) := ⟨rfl, rfl, rfl, by decide +kernel, rfl, by decide +kernel, by decide +kernel⟩
abbrev mWorks_HasPoint : Stmt := inClass (top 69) 13
theorem scmWorks_HasPoint : FnScope ["self", "thing"] ["self", "thing"] (defScope mWorks_HasPoint) := ⟨rfl, rfl, rfl, by decide +kernel, rfl, by decide +kernel, by decide +kernel⟩
abbrev mWorks_HasPlace : Stmt := inClass (top 69) 14
theorem scmWorks_HasPlace : FnScope ["self", "thing"] ["self", "thing"] (defScope mWorks_HasPlace) := ⟨rfl, rfl, rfl, by decide +kernel, rfl, by decide +kernel, by decide +kernel⟩
abbrev mWorks_HasRule : Stmt := inClass (top 69) 15
theorem scmWorks_HasRule : FnScope ["self", "thing"] ["self", "thing"] (defScope mWorks_HasRule) := ⟨rfl, rfl, rfl, by decide +kernel, rfl, by decide +kernel, by decide +kernel⟩
abbrev mWorks_HasCommand : Stmt := inClass (top 69) 16
theorem scmWorks_HasCommand : FnScope ["self", "thing"] ["self", "thing"] (defScope mWorks_HasCommand) := ⟨rfl, rfl, rfl, by decide +kernel, rfl, by decide +kernel, by decide +kernel⟩
abbrev mWorks_CausesOf : Stmt := inClass (top 69) 17
theorem scmWorks_CausesOf : FnScope ["self", "rule"] ["self", "rule"] (defScope mWorks_CausesOf) := ⟨rfl, rfl, rfl, by decide +kernel, rfl, by decide +kernel, by decide +kernel⟩
/-- the built-in names that the text calls, and its constants -/
structure Txt (mg : Str → Option Value) : Prop where
  KeyError : mg "KeyError" = none
  ValueError : mg "ValueError" = none
  all : mg "all" = none
  bool : mg "bool" = none
  dict : mg "dict" = none
  enumerate : mg "enumerate" = none
  int : mg "int" = none
  isinstance : mg "isinstance" = none
  len : mg "len" = none
  list : mg "list" = none
  max : mg "max" = none
  min : mg "min" = none
  range : mg "range" = none
  repr : mg "repr" = none
  sorted : mg "sorted" = none
  str : mg "str" = none
  tuple : mg "tuple" = none
  cMOST_TIME : ∃ t, mg "MOST_TIME" = some (.int 9999 t)
  cMOST_LEVEL : ∃ t, mg "MOST_LEVEL" = some (.int 63 t)
  cMOST_TERM : ∃ t, mg "MOST_TERM" = some (.int 999 t)
  c_MOST_NAME : ∃ t, mg "_MOST_NAME" = some (.int 8 t)
  c_MOST_ID : ∃ t, mg "_MOST_ID" = some (.int 999 t)
  c_MOST_LOCKS : ∃ t, mg "_MOST_LOCKS" = some (.int 4 t)
  c_MOST_PARTS : ∃ t, mg "_MOST_PARTS" = some (.int 3 t)
  c_MOST_HOLD : ∃ t, mg "_MOST_HOLD" = some (.int 99 t)
  c_MOST_RANK : ∃ t, mg "_MOST_RANK" = some (.int 3 t)
  c_MOST_WITHIN : ∃ t, mg "_MOST_WITHIN" = some (.int 999 t)
  c_MOST_PLACES : ∃ t, mg "_MOST_PLACES" = some (.int 3 t)
  c_MOST_POINTS : ∃ t, mg "_MOST_POINTS" = some (.int 8 t)
  c_MOST_RULES : ∃ t, mg "_MOST_RULES" = some (.int 6 t)
  c_MOST_CAUSES : ∃ t, mg "_MOST_CAUSES" = some (.int 8 t)
  c_MOST_COMMANDS : ∃ t, mg "_MOST_COMMANDS" = some (.int 4 t)
  c_MOST_RELATIONS : ∃ t, mg "_MOST_RELATIONS" = some (.int 5 t)
  c_MOST_LETTERS : ∃ t, mg "_MOST_LETTERS" = some (.int 40 t)
  c_MOST_SIGNS : ∃ t, mg "_MOST_SIGNS" = some (.int 12 t)
end V10

namespace V10
open PySem PySem.Spec PyProof.Rows L2 Pw
/-! ### what is told of a thing -/
def wholeB (x : V) (lo hi : Int) : Bool := match x with
  | .int i => decide (lo ≤ i) && decide (i ≤ hi)
  | _ => false
def oneB (x : V) (ws : List Str) : Bool := match x with
  | .str s => ws.any fun y => y == s
  | _ => false
/-- is it a tuple of so many things -/
def tupNB (H : Hp) (x : V) (n : Int) : Bool := match x with
  | .ref a => match H a with
    | some (.tup xs) => decide ((xs.length : Int) = n)
    | _ => false
  | _ => false
def nameB (x : V) : Bool := match x with
  | .str s => decide (1 ≤ s.length ∧ s.length ≤ 8) && s.cps.toList.all fun c => decide (97 ≤ c ∧ c ≤ 122)
  | _ => false
/-- texts are short, and of plain signs -/
def Short (x : V) : Prop := ∀ s, x = .str s → s.length ≤ 1000 ∧ ∀ c ∈ s.cps.toList, c < 128

theorem let_lt (c k : Nat) : (!decide ([c] < [k])) = decide (k ≤ c) := by
  by_cases h : k ≤ c
  · have n : ¬ [c] < [k] := by
      intro q
      cases q with
      | rel q => omega
      | cons q => cases q
    rw [decide_eq_true h, decide_eq_false n]
    rfl
  · have y : [c] < [k] := List.Lex.rel (by omega)
    rw [decide_eq_false h, decide_eq_true y]
    rfl

section
variable {P : Program} {w : World} {K : PySem.W.Frag} {mg : Str → Option Value} {base : Heap}
/-- isinstance(slot i, T) -/
theorem pe_is {X : Cx} {i : Nat} {x T : Str} {Tn : String} {p p1 p2 p3 : Pos} (hm : X.mg "isinstance" = none) (hg : Gl X "isinstance")
    (hx : PE X (.Name x p2) (tVar i)) (hT : X.mg T = none) (hgT : Gl X T) (hv : bootBuiltins T = some (.type Tn))
    (hn : T ≠ "__name__" := by decide) (hd : (T == ("__debug__" : Str)) = false := by decide)
    (he : starEach [.Name x p2, .Name T p3] X.env = (false, eval (.Name x p2) X.env) :: starEach [.Name T p3] X.env := by rfl)
    (he2 : starEach [.Name T p3] X.env = (false, eval (.Name T p3) X.env) :: starEach [] X.env := by rfl)
    (hpl : (backTo p (starEach [.Name T p3] X.env)).any (·.1) = false := by rfl) :
    PE X (.Call (.Name "isinstance" p1) [.Name x p2, .Name T p3] [] p)
      (tCB (rIsA X.K) (tCons (tVar i) (tCons (tC (.ty Tn)) tNil))) :=
  pe_callB call_isa hg hm PyProof.Rows.boot_isinstance
    (pa_cons hx (pa_cons (pe_bltn hgT hT hv rfl hn hd) pa_nil he2) he) (by decide) (by decide) he hpl

def spNumber (K : PySem.W.Frag) : Sp := fun vs H Q _ => ∃ x t, vs = [x] ∧ Ty K H x t ∧ Q (.bl (numB x)) H
theorem d_number (T : Txt mg) (A : At K mg "_is_number" sIsNumber) :
    Def P w K mg base "_is_number" 1 ["thing"] (spNumber K) := by
  refine mkDef A scIsNumber (fun _ _ _ _ _ _ us hl => match us, hl with | [_], _ => rfl) (fun vs H Q E h => ?_)
    (fun f cdv A out s H vs Q E hr h => ?_)
  · obtain ⟨x, t, rfl, _⟩ := h
    rfl
  · obtain ⟨x, t, rfl, ty, k⟩ := h
    refine ⟨_, pss_one (ps_ret (pe_and (pe_is T.isinstance (by rfl) (pv 0) T.int (by rfl) (Tn := "int") (by decide +kernel))
      (pe_one (pe_not (pe_is T.isinstance (by rfl) (pv 0) T.bool (by rfl) (Tn := "bool") (by decide +kernel)))))), ?_⟩
    refine ⟨_, rfl, x, .ty "int", t, .type "int", _, rfl, .ty "int", ty.q, ty.isInt, _, rfl, ?_⟩
    have e : numB x = ((numB x || blB x) && !blB x) := by cases x <;> rfl
    cases hb : numB x || blB x with
    | false =>
      refine iteF ?_
      rw [hb] at e
      rw [e] at k
      exact k
    | true =>
      refine iteT ?_
      refine ⟨_, rfl, x, .ty "bool", t, .type "bool", _, rfl, .ty "bool", ty.q, ty.isBool, _, rfl, ?_⟩
      rw [hb, Bool.true_and] at e
      rw [e] at k
      exact k

def spCheck (K : PySem.W.Frag) : Sp := fun vs H Q _ => ∃ i, vs = [.int i] ∧ Q .non H
theorem d_check (A : At K mg "_check_number" sCheckNumber) (dn : Def P w K mg base "_is_number" 1 ["thing"] (spNumber K)) :
    Def P w K mg base "_check_number" 2 ["thing"] (spCheck K) := by
  refine mkDef A scCheckNumber (fun _ _ _ _ _ _ us hl => match us, hl with | [_], _ => rfl) (fun vs H Q E h => ?_)
    (fun f cdv A out s H vs Q E hr h => ?_)
  · obtain ⟨x, rfl, _⟩ := h
    rfl
  · obtain ⟨i, rfl, k⟩ := h
    refine ⟨_, pss_one (ps_if (pt_not (pt_val (pe_d dn hr (by decide) (by rfl) (pa_cons (pv 0) pa_nil))))
      (pss_one ps_never) pss_nil), ?_⟩
    refine ⟨_, rfl, _, _, rfl, .int i, true, rfl, ?_⟩
    exact iteF k

def spWhole (K : PySem.W.Frag) : Sp := fun vs H Q _ => ∃ x t lo hi, vs = [x, .int lo, .int hi] ∧ Ty K H x t ∧
  Q (.bl (wholeB x lo hi)) H
theorem d_whole (A : At K mg "is_whole" sIsWhole) (dn : Def P w K mg base "_is_number" 1 ["thing"] (spNumber K))
    (dc : Def P w K mg base "_check_number" 2 ["thing"] (spCheck K)) :
    Def P w K mg base "is_whole" 3 ["thing", "low", "high"] (spWhole K) := by
  refine mkDef A scIsWhole (fun _ _ _ _ _ _ us hl => match us, hl with | [_, _, _], _ => rfl) (fun vs H Q E h => ?_)
    (fun f cdv A out s H vs Q E hr h => ?_)
  · obtain ⟨x, t, lo, hi, rfl, _⟩ := h
    rfl
  · obtain ⟨x, t, lo, hi, rfl, ty, k⟩ := h
    refine ⟨_, pss_cons (ps_expr (pe_d dc hr (by decide) (by rfl) (pa_cons (pv 1) pa_nil)))
      (pss_cons (ps_expr (pe_d dc hr (by decide) (by rfl) (pa_cons (pv 2) pa_nil)))
      (pss_one (ps_ret (pe_and (pe_d dn hr (by decide) (by rfl) (pa_cons (pv 0) pa_nil))
        (pe_one (pe_chain op_le op_le (pv 1) (pv 0) (pv 2))))))), ?_⟩
    refine ⟨_, rfl, lo, rfl, _, rfl, hi, rfl, _, rfl, x, t, rfl, ty, _, rfl, ?_⟩
    cases x with
    | int i =>
      refine iteT ⟨_, rfl, _, rfl, lo, i, rfl, rfl, _, rfl, ?_⟩
      by_cases hlo : lo ≤ i
      · rw [decide_eq_true hlo]
        refine iteT ⟨_, rfl, i, hi, rfl, rfl, ?_⟩
        have e : wholeB (.int i) lo hi = decide (i ≤ hi) := by
          show (decide (lo ≤ i) && decide (i ≤ hi)) = _
          rw [decide_eq_true hlo, Bool.true_and]
        rw [e] at k
        exact k
      · rw [decide_eq_false hlo]
        refine iteF ?_
        have e : wholeB (.int i) lo hi = false := by
          show (decide (lo ≤ i) && decide (i ≤ hi)) = _
          rw [decide_eq_false hlo, Bool.false_and]
        rw [e] at k
        exact k
    | _ => exact iteF k
def spRange (K : PySem.W.Frag) (lo hi : Int) : Sp := fun vs H Q _ => ∃ x t, vs = [x] ∧ Ty K H x t ∧ Q (.bl (wholeB x lo hi)) H
theorem d_time (T : Txt mg) (A : At K mg "is_time" sIsTime) (dw : Def P w K mg base "is_whole" 3 ["thing", "low", "high"] (spWhole K)) :
    Def P w K mg base "is_time" 4 ["thing"] (spRange K 0 9999) := by
  refine mkDef A scIsTime (fun _ _ _ _ _ _ us hl => match us, hl with | [_], _ => rfl) (fun vs H Q E ⟨x, t, e, _⟩ => by rw [e]; rfl)
    (fun f cdv A out s H vs Q E hr h => ?_)
  obtain ⟨x, t, rfl, ty, k⟩ := h
  exact ⟨_, pss_one (ps_ret (pe_d dw hr (by decide) (by rfl) (pa_cons (pv 0) (pa_cons pe_int
    (pa_cons (pe_gi T.cMOST_TIME) pa_nil))))), _, rfl, x, t, 0, 9999, rfl, ty, k⟩
def spOne (K : PySem.W.Frag) : Sp := fun vs H Q _ => ∃ x t p ws, vs = [x, .ref p] ∧ Ty K H x t ∧
  H p = some (.tup (ws.map V.str)) ∧ Q (.bl (oneB x ws)) H
theorem d_oneof (T : Txt mg) (A : At K mg "is_one_of" sIsOneOf) : Def P w K mg base "is_one_of" 1 ["thing", "words"] (spOne K) := by
  refine mkDef A scIsOneOf (fun _ _ _ _ _ _ us hl => match us, hl with | [_, _], _ => rfl) (fun vs H Q E ⟨x, t, p, ws, e, _⟩ => by rw [e]; rfl)
    (fun f cdv A out s H vs Q E hr h => ?_)
  obtain ⟨x, t, p, ws, rfl, ty, hp, k⟩ := h
  refine ⟨_, pss_one (ps_ret (pe_and (pe_is T.isinstance (by rfl) (pv 0) T.str (by rfl) (Tn := "str") (by decide +kernel))
    (pe_one (pe_cmpR op_in_seq (pv 0) (pv 1) (by rfl))))), ?_⟩
  refine ⟨_, rfl, x, .ty "str", t, .type "str", _, rfl, .ty "str", ty.q, ty.isStr, _, rfl, ?_⟩
  cases x with
  | str z =>
    refine iteT ?_
    refine ⟨_, rfl, _, rfl, p, ws.map V.str, rfl, .inr (SqT.of hp), rfl, ?_, ?_⟩
    · rw [List.all_eq_true]
      intro y hy
      obtain ⟨z', _, rfl⟩ := List.mem_map.mp hy
      rfl
    · have e : inV (.str z) (ws.map V.str) = oneB (.str z) ws := by
        show (ws.map V.str).any (fun y => eqV y (.str z)) = ws.any fun y => y == z
        rw [List.any_map]
        rfl
      show Q (.bl (inV (.str z) (ws.map V.str))) H
      rw [e]
      exact k
  | _ => exact iteF k

def spMark (K : PySem.W.Frag) : Sp := fun vs H Q _ => ∃ x t, vs = [x] ∧ Ty K H x t ∧ ∀ H', Same H H' → Q (.bl (oneB x ["good", "odd"])) H'
theorem d_mark (A : At K mg "is_mark" sIsMark) (d1 : Def P w K mg base "is_one_of" 1 ["thing", "words"] (spOne K)) :
    Def P w K mg base "is_mark" 2 ["thing"] (spMark K) := by
  refine mkDef A scIsMark (fun _ _ _ _ _ _ us hl => match us, hl with | [_], _ => rfl) (fun vs H Q E ⟨x, t, e, _⟩ => by rw [e]; rfl)
    (fun f cdv A out s H vs Q E hr h => ?_)
  obtain ⟨x, t, rfl, ty, k⟩ := h
  refine ⟨_, pss_one (ps_ret (pe_d d1 hr (by decide) (by rfl) (pa_cons (pv 0) (pa_cons (pe_tup (pa_cons pe_str (pa_cons pe_str pa_nil))) pa_nil)))), ?_⟩
  refine ⟨_, rfl, by show 2 ≤ sizeLine; decide, fun q hq => ?_⟩
  exact ⟨x, t, q, ["good", "odd"], rfl, ty.same (Same.laid hq), upd_same, k _ (Same.laid hq)⟩

def spTupN (K : PySem.W.Frag) : Sp := fun vs H Q _ => ∃ x t n, vs = [x, .int n] ∧ Ty K H x t ∧ Q (.bl (tupNB H x n)) H
theorem d_tuple (T : Txt mg) (A : At K mg "is_tuple" sIsTuple) : Def P w K mg base "is_tuple" 1 ["thing", "many"] (spTupN K) := by
  refine mkDef A scIsTuple (fun _ _ _ _ _ _ us hl => match us, hl with | [_, _], _ => rfl) (fun vs H Q E ⟨x, t, n, e, _⟩ => by rw [e]; rfl)
    (fun f cdv A out s H vs Q E hr h => ?_)
  obtain ⟨x, t, n, rfl, ty, k⟩ := h
  refine ⟨_, pss_one (ps_ret (pe_and (pe_is T.isinstance (by rfl) (pv 0) T.tuple (by rfl) (Tn := "tuple") (by decide +kernel))
    (pe_one (pe_cmpR op_eq (pe_callB call_len_seq (by rfl) T.len PySem.boot_len (pa_cons (pv 0) pa_nil)) (pv 1) (nomark _))))), ?_⟩
  refine ⟨_, rfl, x, .ty "tuple", t, .type "tuple", _, rfl, .ty "tuple", ty.q, ty.isTuple, _, rfl, ?_⟩
  cases ty with
  | @tup a xs e =>
    have e1 : tupB H (.ref a) = true := by simp only [tupB, e]
    have e2 : tupNB H (.ref a) n = decide ((xs.length : Int) = n) := by simp only [tupNB, e]
    rw [e1]
    rw [e2] at k
    refine iteT ?_
    refine ⟨_, rfl, a, xs, rfl, .inr (SqT.of e), _, rfl, ?_⟩
    have e3 : decide (V.int (xs.length : Int) = V.int n) = decide ((xs.length : Int) = n) :=
      decide_eq_decide.mpr ⟨V.int.inj, congrArg V.int⟩
    refine ⟨rfl, ?_⟩
    show Q (V.bl (decide (V.int (xs.length : Int) = V.int n))) H
    rw [e3]
    exact k
  | @lst a xs e =>
    have e1 : tupB H (.ref a) = false := by simp only [tupB, e]
    have e2 : tupNB H (.ref a) n = false := by simp only [tupNB, e]
    rw [e1]
    rw [e2] at k
    exact iteF k
  | @dct a xs e =>
    have e1 : tupB H (.ref a) = false := by simp only [tupB, e]
    have e2 : tupNB H (.ref a) n = false := by simp only [tupNB, e]
    rw [e1]
    rw [e2] at k
    exact iteF k
  | @exc a D t dx fs e ed c =>
    have e1 : tupB H (.ref a) = false := by simp only [tupB, e]; rfl
    have e2 : tupNB H (.ref a) n = false := by simp only [tupNB, e]; rfl
    rw [e1]
    rw [e2] at k
    exact iteF k
  | _ => exact iteF k

def spName (K : PySem.W.Frag) : Sp := fun vs H Q _ => ∃ x t, vs = [x] ∧ Ty K H x t ∧ Short x ∧
  ∀ H', Same H H' → Q (.bl (nameB x)) H'
def letB (c : Nat) : Bool := decide (97 ≤ c) && decide (c ≤ 122)
theorem d_name (T : Txt mg) (A : At K mg "is_name" sIsName) : Def P w K mg base "is_name" 1 ["thing"] (spName K) := by
  refine mkDef A scIsName (fun _ _ _ _ _ _ us hl => match us, hl with | [_], _ => rfl) (fun vs H Q E h => ?_)
    (fun f cdv A out s H vs Q E hr h => ?_)
  · obtain ⟨x, t, rfl, _⟩ := h
    rfl
  · obtain ⟨x, t, rfl, ty, sh, k⟩ := h
    obtain ⟨tk, hmn⟩ := T.c_MOST_NAME
    refine ⟨_, pss_cons (ps_if (PW.pt (pw_or (pt_not (pt_val (pe_is T.isinstance (by rfl) (pv 0) T.str (by rfl) (Tn := "str") (by decide +kernel))))
        (pw_or1 (pt_not (pt_chain op_le op_le pe_int (pe_callB call_len_str (by rfl) T.len PySem.boot_len (pa_cons (pv 0) pa_nil))
          (pe_glob (v := .int 8) (by rfl) hmn ⟨_, rfl⟩))))))
        (pss_one (ps_ret pe_bl)) pss_nil)
      (pss_one (ps_ret (pe_callB (cr_all rfl) (by rfl) T.all PyProof.Rows.boot_all (pa_cons
        (pe_lc (own := [("sign", 1)]) (g := gName 1) (tt := tYes) rfl scIsName.nd (pi_str (pv 0))
          (blkOk_by (own := [("sign", 1)]) (N := ["thing", "sign"]) (sc := defScope sIsName) (by decide +kernel))
          (fun _ _ _ _ _ => pg_name (i := 1) scIsName.nd rfl (Or.inl rfl)) (fun _ _ _ _ _ => pts_nil)
          (fun _ _ _ _ _ => pe_chain op_le_str op_le_str pe_str (pv 1) pe_str)) pa_nil)))), ?_⟩
    refine ⟨_, rfl, x, .ty "str", t, .type "str", _, rfl, .ty "str", ty.q, ty.isStr, _, rfl, ?_⟩
    cases x with
    | str z =>
      have hz := (sh z rfl).1
      have hzl : z.length ≤ sizeLine := Nat.le_trans hz (by decide)
      refine iteF ⟨_, rfl, z, rfl, hzl, 1, (z.length : Int), rfl, rfl, _, rfl, ?_⟩
      by_cases h1 : (1 : Int) ≤ (z.length : Int)
      · rw [decide_eq_true h1]
        refine iteT ⟨(z.length : Int), 8, rfl, rfl, _, rfl, ?_⟩
        by_cases h2 : (z.length : Int) ≤ 8
        · rw [decide_eq_true h2]
          refine iteF ⟨_, rfl, z, rfl, fun D hD => ?_⟩
          have nm : nameB (.str z) = ((z.cps.toList.map letB).all id) := by
            have e1 : decide (1 ≤ z.length ∧ z.length ≤ 8) = true := decide_eq_true ⟨by omega, by omega⟩
            show (decide (1 ≤ z.length ∧ z.length ≤ 8) && z.cps.toList.all fun c => decide (97 ≤ c ∧ c ≤ 122)) = _
            rw [e1, Bool.true_and, List.all_map]
            congr 1
            funext c
            show decide (97 ≤ c ∧ c ≤ 122) = (decide (97 ≤ c) && decide (c ≤ 122))
            exact Bool.decide_and _ _
          refine lc_it walk_str (fun i H' => Same H H' ∧ H' D = some (.lst (((z.cps.toList.take i).map letB).map V.bl)))
            ⟨Same.laid hD, upd_same⟩ (fun _ _ _ _ => trivial) ?_ ?_
          · rintro i v H1 H2 hi ⟨S1, e1⟩ ⟨rfl, c, hc, rfl⟩
            have hc' : z.cps.toList[i]? = some c := by rw [Array.getElem?_toList]; exact hc
            refine ⟨rfl, ?_⟩
            unfold tYes
            refine iteT ?_
            refine ⟨_, rfl, "a", ⟨#[c]⟩, rfl, rfl, !decide ([c] < [97]), rfl, ?_⟩
            have fin : ∀ b : Bool, b = letB c → ∃ acc, H2 D = some (.lst acc) ∧ acc.length < sizeLine ∧
                Same H (upd H2 D (.lst (acc ++ [V.bl b]))) ∧ upd H2 D (.lst (acc ++ [V.bl b])) D =
                  some (.lst (((z.cps.toList.take (i + 1)).map letB).map V.bl)) := by
              rintro b rfl
              refine ⟨_, e1, ?_, ?_, ?_⟩
              · have h4 : z.cps.size ≤ 1000 := hz
                simp only [List.length_map, List.length_take]
                exact Nat.lt_of_le_of_lt (Nat.min_le_left _ _) (Nat.lt_of_lt_of_le hi (Nat.le_trans h4 (by decide)))
              · exact fun b o e => (upd_ne (ne_of_none e hD)).trans (S1 b o e)
              · rw [upd_same, List.take_add_one, hc']
                simp
            rw [let_lt]
            by_cases ha : 97 ≤ c
            · rw [decide_eq_true ha]
              refine iteT ?_
              refine ⟨⟨#[c]⟩, "z", rfl, rfl, ?_⟩
              refine fin _ ?_
              show (!decide ([122] < [c])) = (decide (97 ≤ c) && decide (c ≤ 122))
              rw [decide_eq_true ha, Bool.true_and]
              have q := let_lt 122 c
              exact q
            · rw [decide_eq_false ha]
              refine iteF ?_
              refine fin false ?_
              show false = (decide (97 ≤ c) && decide (c ≤ 122))
              rw [decide_eq_false ha, Bool.false_and]
          · rintro H2 ⟨S1, e1⟩
            refine ⟨D, z.cps.toList.map letB, rfl, SqL.of ?_, ?_⟩
            · rw [e1, List.take_of_length_le (by simp)]
            · rw [← nm]
              exact k H2 S1
        · rw [decide_eq_false h2]
          refine iteT ?_
          have e1 : nameB (.str z) = false := by
            have e1 : decide (1 ≤ z.length ∧ z.length ≤ 8) = false := decide_eq_false (fun q => h2 (by omega))
            show (decide (1 ≤ z.length ∧ z.length ≤ 8) && _) = _
            rw [e1, Bool.false_and]
          rw [e1] at k
          exact k H (Same.refl H)
      · rw [decide_eq_false h1]
        refine iteF ⟨_, rfl, ?_⟩
        refine iteT ?_
        have e1 : nameB (.str z) = false := by
          have e1 : decide (1 ≤ z.length ∧ z.length ≤ 8) = false := decide_eq_false (fun q => h1 (by omega))
          show (decide (1 ≤ z.length ∧ z.length ≤ 8) && _) = _
          rw [e1, Bool.false_and]
        rw [e1] at k
        exact k H (Same.refl H)
    | _ => exact iteT (k H (Same.refl H))
end
end V10

namespace V10
open PySem PySem.Spec PyProof.Rows L2 Pw
abbrev R3 := Int × Int × Str
def f3 (r : R3) : List V := [.int r.1, .int r.2.1, .str r.2.2]
def f2 (r : Int × Int) : List V := [.int r.1, .int r.2]
structure GoodR (r : R3) : Prop where
  t0 : 0 ≤ r.1
  t1 : r.1 ≤ 9999
  w0 : 0 ≤ r.2.1
  w1 : r.2.1 ≤ 63
  m : r.2.2 = "good" ∨ r.2.2 = "odd"
structure GoodH (rs : List R3) : Prop where
  all : ∀ r ∈ rs, GoodR r
  rise : rs.Pairwise fun a b => a.1 < b.1
  len : rs.length ≤ 1000
theorem whole_in {i lo hi : Int} (h : lo ≤ i) (k : i ≤ hi) : wholeB (.int i) lo hi = true := by
  show (decide (lo ≤ i) && decide (i ≤ hi)) = true
  rw [decide_eq_true h, decide_eq_true k]
  rfl
theorem cut1 (xs : List V) : cutV xs (some 1) none = xs.drop 1 := by
  unfold cutV
  rw [HT.sIx_none, show (1 : Int) = ((1 : Nat) : Int) from rfl, HT.sIx_nat]
  cases xs with
  | nil => rfl
  | cons x r =>
    have e : min 1 (x :: r).length = 1 := by
      rw [List.length_cons]
      omega
    rw [e, List.take_of_length_le]
    rw [List.length_drop]
    exact Nat.le_refl _
theorem reps_all (n : Nat) : (List.replicate n true).all id = true := by
  rw [List.all_eq_true]
  intro x hx
  rw [List.eq_of_mem_replicate hx]
  rfl
theorem reps_succ (n : Nat) : (List.replicate n true).map V.bl ++ [V.bl true] = (List.replicate (n + 1) true).map V.bl := by
  rw [List.replicate_succ', List.map_append]
  rfl
section
variable {P : Program} {w : World} {K : PySem.W.Frag} {mg : Str → Option Value} {base : Heap}
theorem d_level (T : Txt mg) (A : At K mg "is_level" sIsLevel) (dw : Def P w K mg base "is_whole" 3 ["thing", "low", "high"] (spWhole K)) :
    Def P w K mg base "is_level" 4 ["thing"] (spRange K 0 63) := by
  refine mkDef A scIsLevel (fun _ _ _ _ _ _ us hl => match us, hl with | [_], _ => rfl) (fun vs H Q E ⟨x, t, e, _⟩ => by rw [e]; rfl)
    (fun f cdv A out s H vs Q E hr h => ?_)
  obtain ⟨x, t, rfl, ty, k⟩ := h
  exact ⟨_, pss_one (ps_ret (pe_d dw hr (by decide) (by rfl) (pa_cons (pv 0) (pa_cons pe_int (pa_cons (pe_gi T.cMOST_LEVEL) pa_nil))))),
    _, rfl, x, t, 0, 63, rfl, ty, k⟩

def spRow : Sp := fun vs H Q _ => ∃ p r, vs = [.ref p] ∧ H p = some (.tup (f3 r)) ∧ GoodR r ∧ ∀ H', Same H H' → Q (.bl true) H'
def spRis (K : PySem.W.Frag) : Sp := fun vs H Q _ => ∃ (a : Addr) (ns : List Int), vs = [.ref a] ∧ SqL K H a (ns.map V.int) ∧ ns.length ≤ 2000 ∧ ns.Pairwise (· < ·) ∧
  ∀ H', Same H H' → Q (.bl true) H'
/-- a history, as a list or a tuple -/
def Hs (H : Hp) (a : Addr) (rs : List R3) : Prop := LT f3 H a rs ∨ ∃ vs, H a = some (.tup vs) ∧ Al f3 H vs rs
theorem Hs.same {H H' : Hp} {a : Addr} {rs : List R3} (h : Hs H a rs) (S : Same H H') : Hs H' a rs := h.imp (fun l => l.same S) fun ⟨vs, e, al⟩ => ⟨vs, S _ _ e, al.same S⟩
def spHist : Sp := fun vs H Q _ => ∃ (a : Addr) (rs : List R3), vs = [.ref a] ∧ Hs H a rs ∧ GoodH rs ∧ ∀ H', Same H H' → Q (.bl true) H'
def spHistC : Sp := fun vs H Q _ => ∃ (a : Addr) (rs : List R3), vs = [.ref a] ∧ Hs H a rs ∧ GoodH rs ∧ ∀ H', Same H H' → Q .non H'
def spIn (lo hi : Int) : Sp := fun vs H Q _ => ∃ i, vs = [.int i] ∧ lo ≤ i ∧ i ≤ hi ∧ Q .non H
end
end V10

namespace V10
open PySem PySem.Spec PyProof.Rows L2 Pw
/-! ### points -/
structure Pt where
  nm : Str
  pl : Str
  sw : Bool
def kd (b : Bool) : Str := if b = true then "switch" else "level"
def fP (p : Pt) : List V := [.str p.nm, .str p.pl, .str (kd p.sw)]
structure OkName (s : Str) : Prop where
  b : nameB (.str s) = true
  sh : Short (.str s)
structure GoodP (p : Pt) : Prop where
  nm : OkName p.nm
  pl : OkName p.pl
structure GoodPs (ps : List Pt) : Prop where
  all : ∀ p ∈ ps, GoodP p
  nd : (ps.map (·.nm)).Nodup
  few : ∃ ws : List Str, ws.length ≤ 3 ∧ ∀ p ∈ ps, p.pl ∈ ws
  pos : 1 ≤ ps.length
  len : ps.length ≤ 8
theorem kd_one (b : Bool) : oneB (.str (kd b)) ["level", "switch"] = true := by cases b <;> decide +kernel
theorem kd_level (b : Bool) : decide (V.str (kd b) = V.str "level") = !b := by cases b <;> decide +kernel
theorem LS.sq {α : Type} {f : α → List V} {K : PySem.W.Frag} {H : Hp} {a : Addr} {rs : List α} (h : LS f H a rs) : ∃ vs, Sq K H a vs ∧ Al f H vs rs := by
  rcases h with h | ⟨vs, e, al⟩
  · obtain ⟨vs, e, al⟩ := h.ex
    exact ⟨vs, .inl (SqL.of e), al⟩
  · exact ⟨vs, .inr (SqT.of e), al⟩
section
variable {P : Program} {w : World} {K : PySem.W.Frag} {mg : Str → Option Value} {base : Heap}
/-- a list or a tuple of so many -/
def spList (K : PySem.W.Frag) : Sp := fun vs H Q _ => ∃ (a : Addr) (xs : List V) (lo hi : Int), vs = [.ref a, .int lo, .int hi] ∧ Sq K H a xs ∧ lo ≤ (xs.length : Int) ∧ (xs.length : Int) ≤ hi ∧
  ∀ H', Same H H' → Q (.bl true) H'
theorem d_list (T : Txt mg) (A : At K mg "is_list" sIsList) : Def P w K mg base "is_list" 1 ["thing", "least", "most"] (spList K) := by
  refine mkDef A scIsList (fun _ _ _ _ _ _ us hl => match us, hl with | [_, _, _], _ => rfl) (fun vs H Q E ⟨_, _, _, _, e, _⟩ => by rw [e]; rfl)
    (fun f cdv A out s H vs Q E hr h => ?_)
  obtain ⟨a, xs, lo, hi, rfl, hs, h1, h2, k⟩ := h
  refine ⟨_, (pss_one (ps_ret (pe_and (pe_callB call_isiT (by rfl) T.isinstance PyProof.Rows.boot_isinstance (pa_cons (pv 0) (pa_cons (pe_tup (pa_cons (pe_bltn (v := .ty "list") (u := .type "list") (by rfl) T.list (by decide +kernel) rfl) (pa_cons (pe_bltn (v := .ty "tuple") (u := .type "tuple") (by rfl) T.tuple (by decide +kernel) rfl) pa_nil))) pa_nil)))
    (pe_one (pe_chain op_le op_le (pv 1) (pe_callB call_len_seq (by rfl) T.len PySem.boot_len (pa_cons (pv 0) pa_nil)) (pv 2)))))), ?_⟩
  refine ⟨_, rfl, by show 2 ≤ sizeLine; decide, fun q hq => ?_⟩
  have S1 := Same.laid (o := HO.tup [.ty "list", .ty "tuple"]) hq
  have e1 : upd H q (.tup [.ty "list", .ty "tuple"]) q = some (.tup [.ty "list", .ty "tuple"]) := upd_same
  generalize upd H q (.tup [.ty "list", .ty "tuple"]) = H1 at *
  obtain ⟨t, ty, kit⟩ := (hs.same S1).ty
  refine ⟨.ref a, q, [.ty "list", .ty "tuple"], t, [.type "list", .type "tuple"], true, rfl, e1, .cons (.ty _) (.cons (.ty _) .nil), ty, kit, _, rfl, iteT ?_⟩
  refine ⟨_, rfl, _, rfl, a, xs, rfl, hs.same S1, lo, (xs.length : Int), rfl, rfl, _, rfl, ?_⟩
  rw [decide_eq_true h1]
  refine iteT ⟨_, rfl, (xs.length : Int), hi, rfl, rfl, ?_⟩
  show Q (.bl (decide ((xs.length : Int) ≤ hi))) H1
  rw [decide_eq_true h2]
  exact k _ S1
/-- a list or a tuple of so many things that all fit -/
def spListOf (K : PySem.W.Frag) (f0 : Addr) (spf : Sp) : Sp := fun vs H Q _ => ∃ (a : Addr) (xs : List V) (lo hi : Int), vs = [.ref f0, .ref a, .int lo, .int hi] ∧ Sq K H a xs ∧ lo ≤ (xs.length : Int) ∧ (xs.length : Int) ≤ hi ∧ xs.length ≤ 1000 ∧
  (∀ v ∈ xs, ∀ (H1 : Hp) (Q1 : VK), Same H H1 → (∀ H2, Same H1 H2 → Q1 (.bl true) H2) → spf [v] H1 Q1 E0) ∧ ∀ H', Same H H' → Q (.bl true) H'
theorem d_listOf {f0 : Addr} {spf : Sp} {kf : Nat} (T : Txt mg) (A : At K mg "is_list_of" sIsListOf) (dl : Def P w K mg base "is_list" 1 ["thing", "least", "most"] (spList K))
    (F : FnR P w K mg base CX0 kf f0 spf) (hk : PySem.W.keepIn K (.ref f0) = true) : Def P w K mg base "is_list_of" (kf + 2) ["fits", "thing", "least", "most"] (spListOf K f0 spf) := by
  refine mkDef A scIsListOf (fun _ _ _ _ _ _ us hl => match us, hl with | [_, _, _, _], _ => rfl) (fun vs H Q E ⟨_, _, _, _, e, _⟩ => by rw [e]; rfl)
    (fun f cdv A out s H vs Q E hr h => ?_)
  obtain ⟨a, xs, lo, hi, rfl, hs, h1, h2, hn, hf, k⟩ := h
  refine ⟨_, (pss_one (ps_ret (pe_and (pe_d dl hr (by omega) (by rfl) (pa_cons (pv 1) (pa_cons (pv 2) (pa_cons (pv 3) pa_nil)))) (pe_one (pe_callB (cr_all rfl) (by rfl) T.all PyProof.Rows.boot_all (pa_cons (pe_lc (own := [("part", 4)]) (g := gName 4) (tt := tYes) rfl scIsListOf.nd (pi_sq (pv 1))
        (blkOk_by (own := [("part", 4)]) (N := ["fits", "thing", "least", "most", "part"]) (sc := defScope sIsListOf) (by decide +kernel))
        (fun _ _ _ _ _ => (pg_name (i := 4) scIsListOf.nd rfl (.inl rfl))) (fun _ _ _ _ _ => pts_nil)
        (fun _ _ _ _ _ => (ItX.pe_callV (i := 0) F (hr.mono (by omega)) hk pass0 (by rfl) (by first | exact Or.inr (Or.inl rfl) | exact Or.inr (Or.inr rfl)) (pa_cons (pv 4) pa_nil)))) pa_nil)))))), ?_⟩
  refine ⟨_, rfl, _, rfl, _, rfl, a, xs, lo, hi, rfl, hs, h1, h2, fun H1 S1 => ?_⟩
  refine ⟨_, rfl, iteT ?_⟩
  refine ⟨_, rfl, a, xs, rfl, hs.same S1, fun J G hG wk D hD => ?_⟩
  refine lc_acc wk hD (by omega) (fun i acc H => acc = (List.replicate i true).map V.bl) rfl hG ?_ ?_
  · rintro i v H2 H3 acc hi S2 eD hl2 rfl ⟨rfl, hx⟩ Fy Fn hy1 _
    refine ⟨rfl, ?_⟩
    unfold tYes
    refine iteT ?_
    refine ⟨rfl, _, rfl, hf v (List.mem_of_getElem? hx) _ _ (S1.trans S2) fun H4 S4 => hy1 _ _ S4 (reps_succ i)⟩
  rintro H2 acc S2 eD rfl
  refine ⟨D, _, rfl, SqL.of eD, ?_⟩
  rw [reps_all]
  exact k _ (S1.trans S2)
end
end V10

/-! Dict and set comprehensions over any walk, all else staying. -/
namespace Pw
open PySem PySem.Spec PyProof.Rows L2
section
variable {J : It} {n : Nat} {G : Hp → Prop} {Y : Nat → Hp → V → Hp → Prop} {g : TG} {tt : L2.TT} {tk tv te : TE} {vs : List Nat} {σ : L2.St} {H1 : Hp} {D : Addr} {Qd : Hp → Prop}
theorem dc_it (w : Walk J n G Y) (Pv : Nat → Hp → Prop) (h0 : Pv 0 (upd H1 D (.dK []))) (hG : ∀ i H, i ≤ n → Pv i H → G H)
    (hs : ∀ i x H H', i < n → Pv i H → Y i H x H' → g x (wipe σ vs) H' fun σ2 H2 => wipe σ2 vs = wipe σ vs ∧ tt σ2 H2 fun b H3 => if b = true then tk σ2 H3 fun y H4 => tv σ2 H4 fun z H5 =>
      ∃ kvs k, y = kV k ∧ H5 D = some (.dK kvs) ∧ kvs.length < sizeLine ∧ Pv (i + 1) (upd H5 D (.dK (putK kvs k z))) else Pv (i + 1) H3)
    (hd : ∀ H, Pv n H → Qd H) : ∃ W : Nat → Nat → Hp → Prop, (∃ m, W 0 m (upd H1 D (.dK []))) ∧ ∀ i m H, W i m H → (J.stop i H ∧ Qd H) ∨ (J.go i H ∧ ∃ Nx : Hp → Prop, (∀ H', Nx H' → ∃ m', m' < m ∧ W (i + 1) m' H') ∧
      ∀ x H', J.yld i H x H' → g x (wipe σ vs) H' fun σ2 H2 => wipe σ2 vs = wipe σ vs ∧ tt σ2 H2 fun b H3 => if b = true then tk σ2 H3 fun y H4 => tv σ2 H4 fun z H5 =>
        ∃ kvs k, y = kV k ∧ H5 D = some (.dK kvs) ∧ kvs.length < sizeLine ∧ Nx (upd H5 D (.dK (putK kvs k z))) else Nx H3) := by
  refine ⟨fun i m H => i ≤ n ∧ m = n - i ∧ Pv i H, ⟨n, Nat.zero_le _, rfl, h0⟩, ?_⟩
  rintro i m H ⟨hi, rfl, p⟩
  by_cases h : i = n
  · subst h
    exact .inl ⟨w.stops H (hG _ _ (Nat.le_refl _) p), hd H p⟩
  · exact .inr ⟨w.goes i H (by omega) (hG i H hi p), Pv (i + 1), fun H' p' => ⟨n - (i + 1), by omega, by omega, rfl, p'⟩, fun x H' y => hs i x H H' (by omega) p (w.yields i H x H' (by omega) (hG i H hi p) y)⟩
theorem putK_len (l : List (Key × V)) (k : Key) (z : V) : (putK l k z).length ≤ l.length + 1 := by
  unfold putK
  split <;> simp
theorem dc_acc (w : Walk J n G Y) (hD : H1 D = none) (hn : n ≤ 1000000) (R : Nat → List (Key × V) → Hp → Prop) (r0 : R 0 [] H1) (hG : ∀ H, Same H1 H → G H)
    (hs : ∀ i x H H' acc, i < n → Same H1 H → H D = some (.dK acc) → acc.length ≤ i → R i acc (wo H D) → Y i H x H' → ∀ (Fy : V → V → Hp → Prop) (Fn : Hp → Prop),
      (∀ k z H5, Same H H5 → R (i + 1) (putK acc k z) (wo H5 D) → Fy (kV k) z H5) → (∀ H3, Same H H3 → R (i + 1) acc (wo H3 D) → Fn H3) →
      g x (wipe σ vs) H' fun σ2 H2 => wipe σ2 vs = wipe σ vs ∧ tt σ2 H2 fun b H3 => if b = true then tk σ2 H3 fun y H4 => tv σ2 H4 fun z H5 => Fy y z H5 else Fn H3)
    (hd : ∀ H acc, Same H1 H → H D = some (.dK acc) → R n acc (wo H D) → Qd H) :
    ∃ W : Nat → Nat → Hp → Prop, (∃ m, W 0 m (upd H1 D (.dK []))) ∧ ∀ i m H, W i m H → (J.stop i H ∧ Qd H) ∨ (J.go i H ∧ ∃ Nx : Hp → Prop, (∀ H', Nx H' → ∃ m', m' < m ∧ W (i + 1) m' H') ∧
      ∀ x H', J.yld i H x H' → g x (wipe σ vs) H' fun σ2 H2 => wipe σ2 vs = wipe σ vs ∧ tt σ2 H2 fun b H3 => if b = true then tk σ2 H3 fun y H4 => tv σ2 H4 fun z H5 =>
        ∃ kvs k, y = kV k ∧ H5 D = some (.dK kvs) ∧ kvs.length < sizeLine ∧ Nx (upd H5 D (.dK (putK kvs k z))) else Nx H3) := by
  have line : 1000000 < sizeLine := by decide
  refine dc_it w (fun i H => Same H1 H ∧ ∃ acc, H D = some (.dK acc) ∧ acc.length ≤ i ∧ R i acc (wo H D))
    ⟨Same.laid hD, [], upd_same, Nat.le_refl _, by rw [wo_upd, wo_none hD]; exact r0⟩ (fun i H _ h => hG H h.1) ?_ ?_
  · rintro i x H H' hi ⟨S, acc, e, hl, r⟩ y
    refine hs i x H H' acc hi S e hl r y (fun y z H5 => ∃ kvs k, y = kV k ∧ H5 D = some (.dK kvs) ∧ kvs.length < sizeLine ∧ (Same H1 (upd H5 D (.dK (putK kvs k z))) ∧ ∃ acc, upd H5 D (.dK (putK kvs k z)) D = some (.dK acc) ∧ acc.length ≤ i + 1 ∧ R (i + 1) acc (wo (upd H5 D (.dK (putK kvs k z))) D))) _ (fun k z H5 S5 r5 => ?_) fun H3 S3 r3 => ?_
    · refine ⟨acc, k, rfl, S5 _ _ e, Nat.lt_of_le_of_lt hl (Nat.lt_of_lt_of_le hi (Nat.le_trans hn (Nat.le_of_lt line))), Same.wo_upd (S.trans S5) hD, _, upd_same, ?_, ?_⟩
      · have := putK_len acc k z
        omega
      · rw [wo_upd]
        exact r5
    · exact ⟨S.trans S3, acc, S3 _ _ e, by omega, r3⟩
  · rintro H ⟨S, acc, e, _, r⟩
    exact hd H acc S e r
theorem sc_it {P : Program} {wd : World} (w : Walk J n G Y) (Pv : Nat → Hp → Prop) (h0 : Pv 0 (upd H1 D (SetK P wd D (fun _ => false) 0))) (hG : ∀ i H, i ≤ n → Pv i H → G H)
    (hs : ∀ i x H H', i < n → Pv i H → Y i H x H' → g x (wipe σ vs) H' fun σ2 H2 => wipe σ2 vs = wipe σ vs ∧ tt σ2 H2 fun b H3 => if b = true then te σ2 H3 fun y H4 =>
      ∃ (k : Key) (S : Key → Bool) (n : Nat), y = kV k ∧ H4 D = some (SetK P wd D S n) ∧ n + 1 < scanBound ∧ Pv (i + 1) (upd H4 D (SetK P wd D (fun j => S j || decide (j = k)) (if S k = true then n else n + 1))) else Pv (i + 1) H3)
    (hd : ∀ H, Pv n H → Qd H) : ∃ W : Nat → Nat → Hp → Prop, (∃ m, W 0 m (upd H1 D (SetK P wd D (fun _ => false) 0))) ∧ ∀ i m H, W i m H → (J.stop i H ∧ Qd H) ∨ (J.go i H ∧ ∃ Nx : Hp → Prop, (∀ H', Nx H' → ∃ m', m' < m ∧ W (i + 1) m' H') ∧
      ∀ x H', J.yld i H x H' → g x (wipe σ vs) H' fun σ2 H2 => wipe σ2 vs = wipe σ vs ∧ tt σ2 H2 fun b H3 => if b = true then te σ2 H3 fun y H4 =>
        ∃ (k : Key) (S : Key → Bool) (n : Nat), y = kV k ∧ H4 D = some (SetK P wd D S n) ∧ n + 1 < scanBound ∧ Nx (upd H4 D (SetK P wd D (fun j => S j || decide (j = k)) (if S k = true then n else n + 1))) else Nx H3) := by
  refine ⟨fun i m H => i ≤ n ∧ m = n - i ∧ Pv i H, ⟨n, Nat.zero_le _, rfl, h0⟩, ?_⟩
  rintro i m H ⟨hi, rfl, p⟩
  by_cases h : i = n
  · subst h
    exact .inl ⟨w.stops H (hG _ _ (Nat.le_refl _) p), hd H p⟩
  · exact .inr ⟨w.goes i H (by omega) (hG i H hi p), Pv (i + 1), fun H' p' => ⟨n - (i + 1), by omega, by omega, rfl, p'⟩, fun x H' y => hs i x H H' (by omega) p (w.yields i H x H' (by omega) (hG i H hi p) y)⟩
end
end Pw

namespace V10
open PySem PySem.Spec PyProof.Rows L2 Pw
theorem inV_str (x : Str) : ∀ ns : List Str, inV (.str x) (ns.map V.str) = decide (x ∈ ns)
  | [] => rfl
  | n :: ns => by
    have ih := inV_str x ns
    unfold inV at ih ⊢
    rw [List.map_cons, List.any_cons, ih]
    by_cases h : n = x
    · subst h
      simp [eqV]
    · simp [eqV, h, Ne.symm h]
theorem flat_strs (ns : List Str) : (ns.map V.str).all flatV = true := List.all_eq_true.mpr fun y hy => by
  simp only [List.mem_map] at hy
  obtain ⟨z, _, rfl⟩ := hy
  rfl
theorem cut_to (xs : List V) (i : Nat) : cutV xs none (some (i : Int)) = xs.take i := by
  unfold cutV
  have e1 : HT.sIx xs.length 0 none = 0 := rfl
  rw [e1, HT.sIx_nat, List.drop_zero, Nat.sub_zero]
  by_cases h : i ≤ xs.length
  · rw [Nat.min_eq_left h]
  · rw [Nat.min_eq_right (by omega), List.take_length, List.take_of_length_le (by omega)]
theorem nodup_take {ns : List Str} (nd : ns.Nodup) {i : Nat} {x : Str} (e : ns[i]? = some x) : x ∉ ns.take i := by
  intro h
  obtain ⟨j, hj, e'⟩ := List.getElem_of_mem h
  rw [List.getElem_take] at e'
  obtain ⟨hi, ei⟩ := List.getElem?_eq_some_iff.mp e
  rw [List.length_take] at hj
  exact (List.pairwise_iff_getElem.mp nd) j i (by omega) hi (by omega) (by rw [e', ei])
/-- the entries of a dict by name -/
def kvs {α : Type} (nm : α → Str) : List α → List V → List (Key × V)
  | r :: rs, v :: vs => (.inr (nm r), v) :: kvs nm rs vs
  | _, _ => []
theorem kvs_append {α : Type} (nm : α → Str) : ∀ {rs : List α} {vs : List V} {rs' : List α} {vs' : List V}, rs.length = vs.length → kvs nm (rs ++ rs') (vs ++ vs') = kvs nm rs vs ++ kvs nm rs' vs'
  | [], [], _, _, _ => rfl
  | [], _ :: _, _, _, h => by cases h
  | _ :: _, [], _, _, h => by cases h
  | r :: rs, v :: vs, rs', vs', h => by
    show _ :: kvs nm (rs ++ rs') (vs ++ vs') = _ :: (kvs nm rs vs ++ kvs nm rs' vs')
    rw [kvs_append nm (by simpa using h)]
theorem kvs_keys {α : Type} (nm : α → Str) : ∀ {rs : List α} {vs : List V}, rs.length = vs.length → (kvs nm rs vs).map Prod.fst = rs.map fun r => Sum.inr (nm r)
  | [], [], _ => rfl
  | [], _ :: _, h => by cases h
  | _ :: _, [], h => by cases h
  | r :: rs, v :: vs, h => by
    show _ :: (kvs nm rs vs).map Prod.fst = _ :: _
    rw [kvs_keys nm (by simpa using h)]
theorem putK_new {kvs : List (Key × V)} {k : Key} {v : V} (h : k ∉ kvs.map Prod.fst) : putK kvs k v = kvs ++ [(k, v)] := by
  unfold putK
  rw [if_neg]
  intro z
  obtain ⟨p, hp, e⟩ := List.any_eq_true.mp z
  exact h (List.mem_map.mpr ⟨p, hp, of_decide_eq_true e⟩)
section
variable {P : Program} {w : World} {K : PySem.W.Frag} {mg : Str → Option Value} {base : Heap}
def spPointS : Sp := fun vs H Q _ => ∃ p pt, vs = [.ref p] ∧ H p = some (.tup (fP pt)) ∧ GoodP pt ∧ ∀ H', Same H H' → Q (.bl true) H'
theorem d_pointS (A : At K mg "is_point_shape" sIsPointShape) (dt : Def P w K mg base "is_tuple" 1 ["thing", "many"] (spTupN K)) (dn : Def P w K mg base "is_name" 1 ["thing"] (spName K))
    (d1 : Def P w K mg base "is_one_of" 1 ["thing", "words"] (spOne K)) : Def P w K mg base "is_point_shape" 2 ["thing"] spPointS := by
  refine mkDef A scIsPointShape (fun _ _ _ _ _ _ us hl => match us, hl with | [_], _ => rfl) (fun vs H Q E ⟨_, _, e, _⟩ => by rw [e]; rfl)
    (fun f cdv A out s H vs Q E hr h => ?_)
  obtain ⟨q, pt, rfl, e, g, k⟩ := h
  refine ⟨_, (pss_cons (ps_if (pt_not (pt_val (pe_d dt hr (by decide) (by rfl) (pa_cons (pv 0) (pa_cons pe_int pa_nil)))))
      (pss_one (ps_ret pe_bl))
      pss_nil)
    (pss_cons (ps_asg (pv 0) (pg_tup (by rfl) (pgs_cons (pg_name (i := 1) scIsPointShape.nd rfl (.inl rfl)) (pgs_cons (pg_name (i := 2) scIsPointShape.nd rfl (.inl rfl)) (pgs_cons (pg_name (i := 3) scIsPointShape.nd rfl (.inl rfl)) pgs_nil)))))
    (pss_one (ps_ret (pe_and (pe_d dn hr (by decide) (by rfl) (pa_cons (pv 1) pa_nil)) (pe_and (pe_d dn hr (by decide) (by rfl) (pa_cons (pv 2) pa_nil)) (pe_one (pe_d d1 hr (by decide) (by rfl) (pa_cons (pv 3) (pa_cons (pe_tup (pa_cons pe_str (pa_cons pe_str pa_nil))) pa_nil)))))))))), ?_⟩
  have eT : tupNB H (.ref q) 3 = true := by simp only [tupNB, e]; rfl
  refine ⟨_, rfl, .ref q, _, 3, rfl, .tup e, true, congrArg V.bl eT, iteF ?_⟩
  refine ⟨_, rfl, q, _, rfl, SqT.of e, rfl, _, _, rfl, _, _, rfl, _, _, rfl, rfl, ?_⟩
  refine ⟨_, rfl, .str pt.nm, _, rfl, .str _, g.nm.sh, fun H1 S1 => ⟨true, congrArg V.bl g.nm.b, iteT ?_⟩⟩
  refine ⟨_, rfl, .str pt.pl, _, rfl, .str _, g.pl.sh, fun H2 S2 => ⟨true, congrArg V.bl g.pl.b, iteT ?_⟩⟩
  refine ⟨_, rfl, by show 2 ≤ sizeLine; decide, fun p np => ?_⟩
  refine ⟨.str (kd pt.sw), _, p, ["level", "switch"], rfl, .str _, upd_same, ?_⟩
  rw [kd_one]
  exact k _ (S1.trans (S2.trans (Same.laid np)))
/-- names, each once -/
def spOnce (K : PySem.W.Frag) : Sp := fun vs H Q _ => ∃ (a : Addr) (ns : List Str), vs = [.ref a] ∧ SqL K H a (ns.map V.str) ∧ ns.Nodup ∧ ns.length ≤ 1000 ∧ ∀ H', Same H H' → Q .non H'
theorem d_once (T : Txt mg) (A : At K mg "_check_each_once" sCheckEachOnce) : Def P w K mg base "_check_each_once" 1 ["names"] (spOnce K) := by
  refine mkDef A scCheckEachOnce (fun _ _ _ _ _ _ us hl => match us, hl with | [_], _ => rfl) (fun vs H Q E ⟨_, _, e, _⟩ => by rw [e]; rfl)
    (fun f cdv A out s H vs Q E hr h => ?_)
  obtain ⟨a, ns, rfl, hs, nd, hl, k⟩ := h
  refine ⟨_, (pss_one (ps_for PassesOwn.never rfl (pi_enum (by rfl) T.enumerate (pa_cons (pv 0) pa_nil)) (pg_tup (by rfl) (pgs_cons (pg_name (i := 1) scCheckEachOnce.nd rfl (.inl rfl)) (pgs_cons (pg_name (i := 2) scCheckEachOnce.nd rfl (.inl rfl)) pgs_nil)))
      (pss_one (ps_if (pt_cmpR op_in_seq (pv 2) (pe_slice sl_list (pv 0) po_none (po_some (pv 1))) (by rfl))
        (pss_one ps_never)
        pss_nil)))), ?_⟩
  refine ⟨_, rfl, a, _, rfl, hs, ?_⟩
  refine for_it (walk_enum (K := K) (a := a) (xs := ns.map V.str)) (fun i σ G => ∃ v1 v2 : Option V, σ = [some (.ref a), v1, v2] ∧ Same H G) ⟨none, none, rfl, Same.refl _⟩
    (fun i σ G _ ⟨_, _, _, S⟩ => Same.seq S hs) ?_ (fun σ G ⟨_, _, _, S⟩ => k G S)
  rintro i v σ G0 G hi ⟨v1, v2, rfl, S⟩ hy
  rw [List.length_map] at hi
  obtain ⟨q, x, y, rfl, nq, rfl, ex, ey⟩ := hy
  cases ex
  replace ey : (ns.map V.str)[i]? = some y := ey
  rw [List.getElem?_map] at ey
  obtain ⟨nm, en, rfl⟩ := Option.map_eq_some_iff.mp ey
  have S1 := S.trans (Same.laid (o := HO.tup [V.int (i : Int), .str nm]) nq)
  refine ⟨q, _, rfl, SqT.of upd_same, rfl, _, _, rfl, _, _, rfl, rfl, ?_⟩
  generalize upd G0 q (.tup [V.int (i : Int), .str nm]) = G at *
  refine ⟨_, rfl, _, rfl, _, rfl, (i : Int), rfl, a, _, rfl, Same.seq S1 hs, fun p np => ?_⟩
  rw [cut_to, ← List.map_take]
  refine ⟨p, _, rfl, .inl (SqL.of upd_same), rfl, flat_strs _, _, rfl, ?_⟩
  rw [inV_str, decide_eq_false (nodup_take nd en)]
  exact iteF ⟨_, _, rfl, S1.trans (Same.laid np)⟩
/-- things by their names -/
def spByName {α : Type} (K : PySem.W.Frag) (f : α → List V) (nm : α → Str) : Sp := fun vs H Q _ => ∃ (a : Addr) (xs : List V) (rs : List α), vs = [.ref a] ∧ Sq K H a xs ∧ Al f H xs rs ∧ (∀ r, ∃ tl, f r = .str (nm r) :: tl) ∧ (rs.map nm).Nodup ∧ rs.length ≤ 1000 ∧
  ∀ D H', Same H H' → H D = none → H' D = some (.dK (kvs nm rs xs)) → Q (.ref D) H'
theorem d_byName {α : Type} {f : α → List V} {nm : α → Str} (A : At K mg "by_name" sByName) : Def P w K mg base "by_name" 1 ["rows"] (spByName K f nm) := by
  refine mkDef A scByName (fun _ _ _ _ _ _ us hl => match us, hl with | [_], _ => rfl) (fun vs H Q E ⟨_, _, _, e, _⟩ => by rw [e]; rfl)
    (fun f' cdv A out s H vs Q E hr h => ?_)
  obtain ⟨a, xs, rs, rfl, hs, al, hf, nd, hl, k⟩ := h
  refine ⟨_, (pss_one (ps_ret (pe_dc (own := [("row", 1)]) (g := gName 1) (tt := tYes) rfl scByName.nd (pi_sq (pv 0))
        (blkOk_by (own := [("row", 1)]) (N := ["rows", "row"]) (sc := defScope sByName) (by decide +kernel))
        (fun _ _ _ _ _ => (pg_name (i := 1) scByName.nd rfl (.inl rfl))) (fun _ _ _ _ _ => pts_nil)
        (fun _ _ _ _ _ => (pe_ix (r := rIxT K) ix_tup (pv 1) pe_int (fun _ _ => rfl))) (fun _ _ _ _ _ => (pv 1))))), ?_⟩
  refine ⟨_, rfl, a, xs, rfl, hs, fun J G hG wk D hD => ?_⟩
  have hlen := al.length
  refine dc_acc wk hD (by omega) (fun i acc H => acc = kvs nm (rs.take i) (xs.take i)) rfl hG ?_ ?_
  · rintro i v H2 H3 acc hi S2 eD hl2 rfl ⟨rfl, hx⟩ Fy Fn hy1 _
    obtain ⟨p, r, rfl, hr', ep⟩ := (al.same S2).get hx
    refine ⟨rfl, ?_⟩
    unfold tYes
    refine iteT ?_
    obtain ⟨tl, ef⟩ := hf r
    rw [ef] at ep
    refine ⟨_, rfl, p, _, 0, .str (nm r), rfl, rfl, SqT.of ep, (by show atI _ ((0 : Nat) : Int) = _; exact atI_nat (by rfl)), ?_⟩
    refine ⟨_, rfl, hy1 (.inr (nm r)) _ _ (Same.refl _) ?_⟩
    have e1 : rs.take (i + 1) = rs.take i ++ [r] := by rw [List.take_add_one, hr']; rfl
    have e2 : xs.take (i + 1) = xs.take i ++ [.ref p] := by rw [List.take_add_one, hx]; rfl
    have e3 : (rs.take i).length = (xs.take i).length := by rw [List.length_take, List.length_take, hlen]
    rw [e1, e2, kvs_append nm e3, putK_new]
    · rfl
    · rw [kvs_keys nm e3]
      intro z
      obtain ⟨r', hr2, er⟩ := List.mem_map.mp z
      have en : (rs.map nm)[i]? = some (nm r) := by rw [List.getElem?_map, hr']; rfl
      refine nodup_take nd en ?_
      rw [← List.map_take]
      exact List.mem_map.mpr ⟨r', hr2, Sum.inr.inj er⟩
  · rintro H2 acc S2 eD rfl
    rw [List.take_of_length_le (by omega), List.take_length] at eD
    exact k D H2 S2 hD eD
end
end V10

namespace V10
open PySem PySem.Spec PyProof.Rows L2 Pw
section
variable {P : Program} {w : World} {K : PySem.W.Frag} {mg : Str → Option Value} {base : Heap}
def spPoints (K : PySem.W.Frag) : Sp := fun vs H Q _ => ∃ (a : Addr) (xs : List V) (ps : List Pt), vs = [.ref a] ∧ Sq K H a xs ∧ Al fP H xs ps ∧ GoodPs ps ∧ ∀ H', Same H H' → Q .non H'
theorem d_points (T : Txt mg) (A : At K mg "check_points" sCheckPoints) (aLO : At K mg "is_list_of" sIsListOf) (dl : Def P w K mg base "is_list" 1 ["thing", "least", "most"] (spList K))
    (dP : Def P w K mg base "is_point_shape" 2 ["thing"] spPointS) (dO : Def P w K mg base "_check_each_once" 1 ["names"] (spOnce K)) :
    Def P w K mg base "check_points" 5 ["points"] (spPoints K) := by
  obtain ⟨f0, fd0, hm0, hk0, hb0, F0⟩ := dP.ex
  have dLO := d_listOf T aLO dl (F0.raw hb0 .nil) hk0
  refine mkDef A scCheckPoints (fun _ _ _ _ _ _ us hl => match us, hl with | [_], _ => rfl) (fun vs H Q E ⟨_, _, _, e, _⟩ => by rw [e]; rfl)
    (fun f cdv A out s H vs Q E hr h => ?_)
  obtain ⟨a, xs, ps, rfl, hs, al, g, k⟩ := h
  refine ⟨_, (pss_cons (ps_if (pt_not (pt_val (pe_d dLO hr (by decide) (by rfl) (pa_cons (pe_glob (v := V.ref f0) (by rfl) hm0 rfl) (pa_cons (pv 0) (pa_cons pe_int (pa_cons (pe_gi T.c_MOST_POINTS) pa_nil)))))))
      (pss_one ps_never)
      pss_nil)
    (pss_cons (ps_expr (pe_d dO hr (by decide) (by rfl) (pa_cons (pe_lc (own := [("name", 2), ("_", 3)]) (g := (gTup K 3 (gCons (gName 2) (gCons (gName 3) (gCons (gName 3) gNil))))) (tt := tYes) rfl scCheckPoints.nd (pi_sq (pv 0))
        (blkOk_by (own := [("name", 2), ("_", 3)]) (N := ["points", "many", "name", "_", "place"]) (sc := defScope sCheckPoints) (by decide +kernel))
        (fun _ _ _ _ _ => (pg_tup (by rfl) (pgs_cons (pg_name (i := 2) scCheckPoints.nd rfl (.inl rfl)) (pgs_cons (pg_name (i := 3) scCheckPoints.nd rfl (.inl rfl)) (pgs_cons (pg_name (i := 3) scCheckPoints.nd rfl (.inl rfl)) pgs_nil))))) (fun _ _ _ _ _ => pts_nil)
        (fun _ _ _ _ _ => (pv 2))) pa_nil)))
    (pss_cons (ps_set (i := 1) scCheckPoints.nd rfl (.inl rfl) (pe_callB call_lenSK (by rfl) T.len PySem.boot_len (pa_cons (pe_scK (own := [("_", 3), ("place", 4)]) (g := (gTup K 3 (gCons (gName 3) (gCons (gName 4) (gCons (gName 3) gNil))))) (tt := tYes) rfl scCheckPoints.nd (pi_sq (pv 0))
        (blkOk_by (own := [("_", 3), ("place", 4)]) (N := ["points", "many", "name", "_", "place"]) (sc := defScope sCheckPoints) (by decide +kernel))
        (fun _ _ _ _ _ => (pg_tup (by rfl) (pgs_cons (pg_name (i := 3) scCheckPoints.nd rfl (.inl rfl)) (pgs_cons (pg_name (i := 4) scCheckPoints.nd rfl (.inl rfl)) (pgs_cons (pg_name (i := 3) scCheckPoints.nd rfl (.inl rfl)) pgs_nil))))) (fun _ _ _ _ _ => pts_nil)
        (fun _ _ _ _ _ => (pv 4))) pa_nil)))
    (pss_one (ps_if (pt_cmpR op_gt (pv 1) (pe_gi T.c_MOST_PLACES) (nomark _))
      (pss_one ps_never)
      pss_nil))))), ?_⟩
  have hlen := al.length
  have h1 := g.pos
  have h8 := g.len
  refine ⟨_, rfl, a, xs, 1, 8, rfl, hs, by omega, by omega, by omega, fun v hv H1 Q1 S1 q1 => ?_, fun H1 S1 => ?_⟩
  · obtain ⟨i, hi, ei⟩ := List.getElem_of_mem hv
    obtain ⟨p, pt, rfl, hpt, ep⟩ := (al.same S1).get (List.getElem?_eq_some_iff.mpr ⟨hi, ei⟩)
    exact ⟨p, pt, rfl, ep, g.all pt (List.mem_of_getElem? hpt), q1⟩
  refine ⟨_, rfl, iteF ?_⟩
  -- the names
  refine ⟨_, rfl, a, xs, rfl, hs.same S1, fun J G hG wk D hD => ?_⟩
  refine lc_acc wk hD (by omega) (fun i acc H => acc = ((ps.take i).map (·.nm)).map V.str) rfl hG ?_ ?_
  · rintro i v H2 H3 acc hi S2 eD hl2 rfl ⟨rfl, hx⟩ Fy Fn hy1 _
    obtain ⟨p, pt, rfl, hpt, ep⟩ := (al.same (S1.trans S2)).get hx
    refine ⟨p, _, rfl, SqT.of ep, rfl, _, _, rfl, _, _, rfl, _, _, rfl, rfl, ?_⟩
    refine ⟨rfl, ?_⟩
    unfold tYes
    refine iteT ⟨_, rfl, hy1 _ _ (Same.refl _) ?_⟩
    rw [List.take_add_one, hpt, List.map_append, List.map_append]
    rfl
  rintro H2 acc S2 eD rfl
  rw [List.take_of_length_le (by omega)] at eD
  refine ⟨D, _, rfl, SqL.of eD, g.nd, by rw [List.length_map]; omega, fun H3 S3 => ?_⟩
  have S13 := S1.trans (S2.trans S3)
  -- the places
  obtain ⟨ws, hws, hin⟩ := g.few
  refine ⟨_, rfl, a, xs, rfl, hs.same S13, fun J G hG wk D2 hD2 => ?_⟩
  refine sc_it wk (fun i H => Same H3 H ∧ ∃ (S : Key → Bool) (us : List Str), H D2 = some (SetK P w D2 S us.length) ∧ us.Nodup ∧ (∀ u, S (.inr u) = true ↔ u ∈ us) ∧ ∀ u ∈ us, u ∈ ws) ?_ (fun i H _ h => hG H h.1) ?_ ?_
  · exact ⟨Same.laid hD2, _, [], upd_same, List.nodup_nil, fun u => by simp, fun u h => by cases h⟩
  · rintro i v H4 H5 hi ⟨S4, S, us, eD2, nd, hS, hu⟩ ⟨rfl, hx⟩
    obtain ⟨p, pt, rfl, hpt, ep⟩ := (al.same (S13.trans S4)).get hx
    refine ⟨p, _, rfl, SqT.of ep, rfl, _, _, rfl, _, _, rfl, _, _, rfl, rfl, ?_⟩
    refine ⟨rfl, ?_⟩
    unfold tYes
    have hus : us.length ≤ 3 := Nat.le_trans (List.Nodup.length_le_of_subset nd hu) hws
    have hsb : us.length + 1 < scanBound := by show us.length + 1 < 4096; omega
    refine iteT ⟨_, rfl, .inr pt.pl, S, us.length, rfl, eD2, hsb, Same.wo_upd S4 hD2, (fun j => S j || decide (j = .inr pt.pl)), if S (.inr pt.pl) = true then us else us ++ [pt.pl], ?_, ?_, ?_, ?_⟩
    · have en : (if S (.inr pt.pl) = true then us.length else us.length + 1) = (if S (.inr pt.pl) = true then us else us ++ [pt.pl]).length := by split <;> simp
      rw [upd_same]
      exact congrArg (fun n => some (SetK P w D2 (fun j => S j || decide (j = .inr pt.pl)) n)) en
    · split
      · exact nd
      · rename_i hn
        have : pt.pl ∉ us := fun z => hn ((hS _).mpr z)
        exact List.nodup_append.mpr ⟨nd, by simp, fun a ha b hb => by
          rw [List.mem_singleton.mp hb]
          intro z
          rw [z] at ha
          exact this ha⟩
    · intro u
      show (S (.inr u) || decide ((Sum.inr u : Key) = .inr pt.pl)) = true ↔ _
      rw [Bool.or_eq_true, decide_eq_true_eq, hS]
      split
      · rename_i hy
        refine ⟨fun z => z.elim id fun z => ?_, .inl⟩
        rw [Sum.inr.inj z]
        exact (hS _).mp hy
      · rw [List.mem_append, List.mem_singleton]
        exact or_congr Iff.rfl ⟨fun z => Sum.inr.inj z, fun z => by rw [z]⟩
    · intro u h
      have hp := hin pt (List.mem_of_getElem? hpt)
      split at h
      · exact hu u h
      · rcases List.mem_append.mp h with z | z
        · exact hu u z
        · rw [List.mem_singleton.mp z]; exact hp
  rintro H4 ⟨S4, S, us, eD2, nd, hS, hu⟩
  refine ⟨D2, S, us.length, rfl, eD2, ?_⟩
  have hus : us.length ≤ 3 := Nat.le_trans (List.Nodup.length_le_of_subset nd hu) hws
  refine ⟨_, rfl, (us.length : Int), 3, rfl, rfl, _, rfl, ?_⟩
  rw [decide_eq_false (show ¬ (us.length : Int) > 3 by omega)]
  exact iteF (k _ (S13.trans S4))
end
end V10

/-! Exceptions over ValueError, LookupError and KeyError: as values, and raised. -/
namespace Pw
open PySem
/-- what __init__ of a built-in error must be -/
structure IniF (B initId : String) : Prop where
  split : splitId initId = some (B, "__init__")
  kind : builtinKind initId = some .slot
  row : Manifest.signature? initId =
    some ⟨.positional, "*", B, .self, [⟨"args", .varPos, false⟩]⟩
  plain : plainId initId = true
  star : (B != "*") = true
  entry : entryFor table initId = some Builtin.«BaseException.__init__»
theorem iniV : IniF "ValueError" "ValueError.__init__" :=
  ⟨F.excBase_ValueError.initSplit, F.excBase_ValueError.initKind, F.excBase_ValueError.initRow, F.excBase_ValueError.init.plain, by decide, F.excBase_ValueError.initEntry⟩
theorem iniL : IniF "LookupError" "LookupError.__init__" :=
  ⟨F.excBase_LookupError.initSplit, F.excBase_LookupError.initKind, F.excBase_LookupError.initRow, F.excBase_LookupError.init.plain, by decide, F.excBase_LookupError.initEntry⟩
theorem iniK : IniF "KeyError" "KeyError.__init__" where
  split := by kernel_rfl
  kind := by kernel_rfl
  row := by kernel_rfl
  plain := by decide +kernel
  star := by decide
  entry := entryFor_alias (id' := "BaseException.__init__") (by rw [fastTable_eq_tree]; kernel_rfl)
    (by first | rfl | decide +kernel) (by decide +kernel)
    (by rw [fastTable_eq_tree]; kernel_rfl)
abbrev veT : List Value := [.type "ValueError", .type "Exception", .type "BaseException", .type "object"]
abbrev leT : List Value := [.type "LookupError", .type "Exception", .type "BaseException", .type "object"]
abbrev keT : List Value := [.type "KeyError", .type "LookupError", .type "Exception", .type "BaseException", .type "object"]
/-- the classes behind an own one, and the maker of its instances -/
structure Fit (newId : String) (bm : List Value) : Prop where
  maker : ∃ B i bmB, ExcBaseFacts B newId i bmB ∧ bm.contains (.type B) = true
  noA : bm.contains (.type "AttributeError") = false
  noN : bm.contains (.type "NameError") = false
  obj : bm.contains (.type "object") = true
  pass : ∀ self, refuseLoop self "__setattr__" bm = pure ()
theorem fitV : Fit "ValueError.__new__" veT :=
  ⟨⟨_, _, _, F.excBase_ValueError, by decide +kernel⟩, by decide +kernel, by decide +kernel, by decide +kernel, F.store_ValueError.passes⟩
theorem fitL : Fit "LookupError.__new__" leT :=
  ⟨⟨_, _, _, F.excBase_LookupError, by decide +kernel⟩, by decide +kernel, by decide +kernel, by decide +kernel, F.store_LookupError.passes⟩
theorem fitK : Fit "LookupError.__new__" keT :=
  ⟨⟨_, _, _, F.excBase_LookupError, by decide +kernel⟩, by decide +kernel, by decide +kernel, by decide +kernel, fun self => by kernel_rfl⟩
theorem Fit.up {newId : String} {bm : List Value} (c : Addr) (h : Fit newId bm) : Fit newId (.ref c :: bm) := by
  obtain ⟨B, i, bmB, F, hB⟩ := h.maker
  have e : ∀ X : String, (Value.ref c :: bm).contains (.type X) = bm.contains (.type X) := fun X => by
    rw [List.contains_cons]; rfl
  exact ⟨⟨B, i, bmB, F, (e B).trans hB⟩, (e _).trans h.noA, (e _).trans h.noN, (e _).trans h.obj, fun self => by
    rw [refuseLoop_ref]
    exact h.pass self⟩
end Pw

namespace Pw
open PySem PySem.Spec PyProof.Rows L2

/-! ### such a class is called -/
section
variable {prog : Program} {w : World} {A : Around} {R : Result → Shared → Prop} {h : Heap} {g : Array GenState}
  {d : Drawn} {t : Nat} {os : OsState} {nm q : Str} {C N : Addr} {bs bm bmB : List Value} {hdct : Bool} {sn : List Str}
  {sub : List Value} {ab : Bool} {col : Option Bool} {dd : Option Addr} {k0 k1 k2 k3 k5 : Option Value} {B newId initId : String} {kw : List (Str × Value)}

theorem new_checkF {M : Model} {E : Value → Shared → Prop} (F : ExcBaseFacts B newId initId bmB)
    (hB : (Value.ref C :: bm).contains (.type B) = true) {rest : List Value} {Q : Unit → Shared → Prop}
    (hC : h.get? C = some (excClassObj nm q C N bs bm hdct sn sub ab col dd k0 k1 k2 k3 k5 newId)) (hq : Q () ⟨h, g, d, t, os⟩) :
    wpAny M A (checkBuiltinCall newId ⟨.ref C :: rest, kw⟩) Q E ⟨h, g, d, t, os⟩ := by
  have star := F.noStar
  simp only [checkBuiltinCall, F.newKind, F.newSplit, F.newRow]
  repeat (first
    | refine wpAny_loadPart_at hC ?_
    | (refine wpAny_isSubtype_exc hC ?_; rw [hB])
    | refine wpAny_staticBase_exc hC ?_
    | refine wpAny_madeBy_exc hC ?_
    | simp only [bne_self_eq_false, Bool.false_eq_true, if_false]
    | wp_step)
  exact hq

theorem newF (F : ExcBaseFacts B newId initId bmB) (hB : (Value.ref C :: bm).contains (.type B) = true)
    (hA : (Value.ref C :: bm).contains (.type "AttributeError") = false)
    (hN : (Value.ref C :: bm).contains (.type "NameError") = false) {rest : List Value}
    (hC : h.get? C = some (excClassObj nm q C N bs bm hdct sn sub ab col dd k0 k1 k2 k3 k5 newId))
    (hq : R (.ok (.ret (.ref (h.objs.size + 1)))) ⟨(h.push (PySem.W.kdv_tup rest)).push (exOb C none h.objs.size), g, d, t, os⟩)
    (hrest : rest.length ≤ sizeLine) :
    codeAny (model prog w) A (.builtin newId ⟨.ref C :: rest, kw⟩) R ⟨h, g, d, t, os⟩ := by
  have ends := F.ends
  refine codeAny_builtinAt F.entry ?_
  unfold Builtin.«BaseException.__new__»
  refine PySem.wpAt_bind ?_
  show PySem.wpAt _ _ _ (stack >>= _) _ _ _
  refine PySem.wpAt_bind (PySem.wpAt_stack fun p below => PySem.wpAt_of_wpAny ?_)
  wp_walk
  refine PySem.wpAt_of_wpAny ?_
  rw [F.owner]
  repeat (first
    | with_reducible refine wpAny_madeHere_exc F.canon hC ?_
    | with_reducible refine wpAny_loadPart_at hC ?_
    | (with_reducible refine wpAny_isSubtype_exc hC ?_; first | rw [hB] | rw [hA] | rw [hN])
    | wp_step)
  show R _ _
  rw [Heap.size_push]
  exact hq

theorem type_callF {E : Value → Shared → Prop} (F : ExcBaseFacts B newId initId bmB) (hB : (Value.ref C :: bm).contains (.type B) = true)
    (hA : (Value.ref C :: bm).contains (.type "AttributeError") = false)
    (hN : (Value.ref C :: bm).contains (.type "NameError") = false) {rest : List Value} {fI : Addr} {Q : Fin → Shared → Prop}
    (hC : h.get? C = some (excClassObj nm q C N bs bm hdct sn sub ab col dd k0 k1 k2 k3 k5 newId))
    (hi : PySem.W.Looks (model prog w) h (typeLookup (.ref C) "__init__") (some (.ref fI)))
    (hb : ∀ self, PySem.W.Looks (model prog w) h (bindSpecial (.ref fI) self) (.ref fI, [self])) (hrest : rest.length ≤ sizeLine)
    (hq : codeAny (model prog w) A (.call (.ref fI) ⟨.ref (h.objs.size + 1) :: rest, kw⟩)
      (fun r s' => match r with
        | .ok (.ret v) => v = .none ∧ Q (.done (.ret (.ref (h.objs.size + 1)))) s'
        | .ok _ => False
        | .error e => E e s')
      ⟨(h.push (PySem.W.kdv_tup rest)).push (exOb C none h.objs.size), g, d, t, os⟩) :
    wpAny (model prog w) A (Builtin.«type.__call__» ⟨.ref C :: rest, kw⟩) Q E ⟨h, g, d, t, os⟩ := by
  repeat (first
    | with_reducible refine wpAny_loadPart_at hC ?_
    | with_reducible refine wpAny_madeBy_exc hC ?_
    | wp_step)
  refine codeAny_call_builtin_code (Code.quiet_builtin _ F.quiet) (new_checkF F hB hC ?_)
  refine newF F hB hA hN hC ?_ hrest
  show wpAny _ _ _ _ _ _
  have k : ∀ b o, h.get? b = some o → ((h.push (PySem.W.kdv_tup rest)).push (exOb C none h.objs.size)).get? b = some o :=
    fun b o e => Heap.get?_push_of_some _ (Heap.get?_push_of_some _ e)
  have hC1 := k _ _ hC
  have hget : ((h.push (PySem.W.kdv_tup rest)).push (exOb C none h.objs.size)).get? (h.objs.size + 1) =
    some (exOb C none h.objs.size) := by heap_get
  have hcC : (Value.ref C :: bm).contains (.ref C) = true := by simp
  have i1 := hi.keeps k
  have b1 := (hb (.ref (h.objs.size + 1))).keeps k
  unfold isInstance
  repeat (first
    | with_reducible refine wpAny_loadPart_at hget ?_
    | (with_reducible refine wpAny_isSubtype_exc hC1 ?_; rw [hcC])
    | wp_step)
  show wpAny _ _ (typeLookup (.ref C) _) _ _ _
  refine i1.at (wpAny_holding (wpAny_bind (b1.at ?_)))
  refine wpAny_bind (wpAny_call (codeAny_mono hq fun r s' z => ?_))
  match r, z with
  | .error e, z => exact z
  | .ok (.ret v), ⟨hv, z⟩ =>
    subst hv
    first
      | exact wpAny_pure (wpAny_pure z)
      | (wp_walk; exact z)
  | .ok .next, z => exact z.elim
  | .ok .brk, z => exact z.elim
  | .ok .cont, z => exact z.elim

theorem call_ownF (F : ExcBaseFacts B newId initId bmB) (hB : (Value.ref C :: bm).contains (.type B) = true)
    (hA : (Value.ref C :: bm).contains (.type "AttributeError") = false)
    (hN : (Value.ref C :: bm).contains (.type "NameError") = false) {rest : List Value} {fI : Addr}
    (hC : h.get? C = some (excClassObj nm q C N bs bm hdct sn sub ab col dd k0 k1 k2 k3 k5 newId))
    (hi : PySem.W.Looks (model prog w) h (typeLookup (.ref C) "__init__") (some (.ref fI)))
    (hb : ∀ self, PySem.W.Looks (model prog w) h (bindSpecial (.ref fI) self) (.ref fI, [self])) (hrest : rest.length ≤ sizeLine)
    (hq : codeAny (model prog w) (A.under (.builtin "type.__call__" ⟨.ref C :: rest, kw⟩))
      (.call (.ref fI) ⟨.ref (h.objs.size + 1) :: rest, kw⟩) (PySem.W.InitBack (h.objs.size + 1) R)
      ⟨(h.push (PySem.W.kdv_tup rest)).push (exOb C none h.objs.size), g, d, t, os⟩) :
    codeAny (model prog w) A (.call (.ref C) ⟨rest, kw⟩) R ⟨h, g, d, t, os⟩ := by
  have f1 := tc_lookup
  have f2 := tc_bind (.ref C)
  have hTy : (⟨h, g, d, t, os⟩ : Shared).TypeIs (.ref C) "type" := ⟨_, hC, rfl⟩
  refine codeAny_of_tree ?_
  show wpAny _ _ (callAny (.ref C) _) _ _ _
  repeat (any_goals (first
    | assumption
    | with_reducible refine wpAny_loadPart_at hC ?_
    | wp_step))
  refine ⟨rfl, ?_⟩
  refine codeAny_call_builtin_at (Code.quiet_builtin _ (by decide +kernel)) entry_typeCall
    (wpAny_check_type_call_sub hC (type_callF F hB hA hN hC hi hb hrest ?_))
  refine codeAny_mono hq fun r s' z => ?_
  match r, z with
  | .error e, z => exact z
  | .ok (.ret v), z => exact z
  | .ok .next, z => exact z
  | .ok .brk, z => exact z
  | .ok .cont, z => exact z

/-- B.__init__(e, ..): the args are laid anew -/
theorem init_argsF (I : IniF B initId) (hB : (Value.ref C :: bm).contains (.type B) = true) {e t0 : Addr} {rest : List Value}
    (hC : h.get? C = some (excClassObj nm q C N bs bm hdct sn sub ab col dd k0 k1 k2 k3 k5 newId))
    (he : h.get? e = some (exOb C none t0)) (hrest : rest.length ≤ sizeLine)
    (hq : ∀ h' t1, h.objs.size ≤ t1 → (∀ b o, b ≠ e → h.get? b = some o → h'.get? b = some o) →
      h'.get? e = some (exOb C none t1) → h'.get? t1 = some (PySem.W.kdv_tup rest) →
      R (.ok (.ret .none)) ⟨h', g, d, t, os⟩) :
    codeAny (model prog w) A (.call (.builtin initId) ⟨.ref e :: rest, []⟩) R ⟨h, g, d, t, os⟩ := by
  refine codeAny_call_builtin I.plain I.entry ?_
  simp only [checkBuiltinCall, I.kind, I.split, I.row]
  have star := I.star
  repeat (first
    | with_reducible refine wpAny_loadPart_at he ?_
    | with_reducible refine wpAny_loadPart_at hC ?_
    | (with_reducible refine wpAny_isSubtype_exc hC ?_; rw [hB])
    | wp_step)
  refine wpAny_onRaise ?_
  have chk : ∀ (a b : String) (n : Nat), Bind.check ⟨.positional, "*", B, .self, [⟨"args", .varPos, false⟩]⟩ a b n
      (List.map (fun x => x.fst) ({ pos := Value.ref e :: rest } : Args).kw) = pure () :=
    fun a b n => check_star_args _ _ _ _ _ _
  rw [chk]
  refine wpAny_pure ?_
  have hes : e ≠ h.objs.size := Nat.ne_of_lt (Heap.lt_size he)
  wp_walk
  refine hq _ h.objs.size (Nat.le_refl _) (fun b o hb ho => ?_) ?_ ?_
  · exact (Heap.get?_update_other _ _ (Ne.symm hb)).trans (Heap.get?_push_of_some _ ho)
  · exact (Heap.get?_update_self _ (Heap.get?_push_of_some _ he) rfl).trans rfl
  · exact (Heap.get?_update_other _ _ hes).trans (Heap.get?_push_size _ rfl)
end
end Pw

/-! Exceptions of one's own over any of the three bases: stored in, made, read. -/
namespace Pw
open PySem PySem.Spec PyProof.Rows L2

/-- what the written part says of the class at C -/
structure OexF (K : PySem.W.Frag) (C : Addr) : Prop where
  cls : ∃ newId nm q N bs bm sn sub ab col dd k0 k1 k2 k3 k5,
    K.lookup C = some (excClassObj nm q C N bs bm true sn sub ab col dd k0 k1 k2 k3 k5 newId) ∧ Fit newId (.ref C :: bm)
  sa : PySem.W.findIn K (.ref C) "__setattr__" = some (some (.builtin "object.__setattr__"))
  exC : PySem.W.subIn K (.ref C) (.type "BaseException") = some true
  tyC : PySem.W.typeIn K (.ref C) = some (.type "type")
  kC : PySem.W.keepIn K (.ref C) = true

section
variable {prog : Program} {w : World} {A : Around} {R : Result → Shared → Prop} {hp : Heap} {g : Array GenState}
  {d : Drawn} {t : Nat} {os : OsState}
open PySem.Builtin PySem.Builtin.ObjectAttr in
/-- object.__setattr__ on an exception that has no dict yet -/
theorem osaF {K : PySem.W.Frag} {name : Str} {tk : Tok} {v : Value} {x C : Addr} {fv : Array Value} {cd : ClassData}
    (X : K.In hp) (hx : hp.get? x = some { cls := .ref C, data := .fields fv })
    (hcd : PySem.W.clsIn K C = some cd) (hne : cd.mro.isEmpty = false) (hob : cd.mro.contains (.type "object") = true)
    (hps : ∀ self, refuseLoop self "__setattr__" cd.mro = pure ()) (hh : cd.hasDict = true)
    (ha : PySem.W.findIn K (.ref C) name = some none)
    (hq : ∀ h' tk' dx, (∀ b o, b ≠ x → hp.get? b = some o → h'.get? b = some o) → hp.objs.size ≤ dx → dx ≠ x →
      h'.get? x = some { cls := .ref C, dict := some dx, data := .fields fv } →
      h'.Ns1 dx (fun y => if y = name then some v else none) → R (.ok (.ret .none)) ⟨h', g, d, tk', os⟩) :
    codeAny (model prog w) A (.call (.builtin "object.__setattr__") ⟨[.ref x, .str name tk, v], []⟩) R ⟨hp, g, d, t, os⟩ := by
  have I : PySem.W.InstAt hp x { cls := .ref C, data := .fields fv } C none := ⟨hx, rfl, rfl, trivial⟩
  have SF := F.store_object
  have hxs : x ≠ hp.objs.size := Nat.ne_of_lt (Heap.lt_size hx)
  have mo : PySem.W.mroIn K C (.type "object") = some true := by
    unfold PySem.W.mroIn
    rw [hcd, Option.bind_some, if_neg (by rw [hne]; decide), hob]
  have sub : PySem.W.Looks (model prog w) hp (isInstance (.ref x) (.type "object")) true :=
    I.type.andThen (PySem.W.looks_mroIn X mo)
  refine codeAny_call_builtin SF.slot.plain SF.entry ?_
  refine @PySem.W.check_slot (model prog w) _ _ ⟨hp, g, d, t, os⟩ "object.__setattr__" "object" "__setattr__" (.ref x)
    [.str name tk, v] [] _ SF.kind SF.split sub (SF.args (.ref x) (.str name tk) v) ?_
  have hmr : PySem.W.Looks (model prog w) hp (mroOf (.ref C)) cd.mro := (PySem.W.looks_clsIn X hcd).andThen .now
  have nt : PySem.W.Looks (model prog w) hp (storeTaker? none) none := .now
  have lc : PySem.W.Looks (model prog w) hp (classData C) cd := PySem.W.looks_clsIn X hcd
  rw [PySem.W.osa_eq, refuse_eq]
  refine wpAny_bind (wpAny_bind (I.type.at (wpAny_bind (hmr.at ?_))))
  rw [hps]
  refine wpAny_pure (wpAny_bind (I.type.at (wpAny_bind ((PySem.W.looks_findIn X ha).at (wpAny_bind (nt.at ?_))))))
  show wpAny _ _ (storeInOwnDict (.ref x) (.ref C) (.str name tk) name v false) _ _ _
  obtain ⟨nm, bs, mro, ns, qn, hd, sn, sb, ab, col, del⟩ := cd
  dsimp only at hh
  subst hh
  unfold storeInOwnDict ownDictForStores
  repeat (first
    | with_reducible refine PySem.HandSPX.store_in_new ?_ ?_
    | with_reducible refine wpAny_loadPart_at hx ?_
    | with_reducible refine lc.at ?_
    | wp_step)
  · exact ⟨_, #[], _, (Heap.get?_update_ne _ _ _ _ hxs.symm).trans (Heap.get?_push_at rfl rfl), rfl,
      fun e he => absurd he (by simp), fun _ => rfl⟩
  · intro h' tk' hn' hs
    have hx₁ : (hp.push { cls := .type "dict", data := .dict #[] }).get? x = some { cls := .ref C, data := .fields fv } :=
      Heap.get?_push_of_some _ hx
    refine hq h' tk' hp.objs.size (fun b o hb ho => ?_) (Nat.le_refl _) hxs.symm ?_ hn'
    · exact (hs.2 b (Nat.ne_of_lt (Heap.lt_size ho))).trans
        ((Heap.get?_update_ne _ _ _ _ hb).trans (Heap.get?_push_of_some _ ho))
    · exact (hs.2 x hxs).trans (Heap.get?_update_self _ hx₁ rfl)
end

section
variable {X : Cx} {pins : List (Addr × Obj)} {σ : L2.St} {H : Hp} {s : Shared} {a C t1 : Addr} {f : Str} {y : V}
  {u : Value} {E : Value → Shared → Prop} {A : Around}

/-- self.f = y, the first attribute -/
theorem eq_newF {Q : Unit → Shared → Prop} (T : OexF X.K C) (I : Inv X pins σ H s) (e : H a = some (exq a C none t1))
    (hno : PySem.W.findIn X.K (.ref C) f = some none) (ry : RelV y u)
    (h : ∀ dx s', H dx = none → dx ≠ a →
      Inv X pins σ (upd (upd H dx (exd dx [(f, y)])) a (exq a C (some dx) t1)) s' → Q () s') :
    wpAny (model X.prog X.w) A (setAttr (.ref a) f u) Q E s := by
  obtain ⟨newId, nm, q, N, bs, bm, sn, sub, ab, col, dd, k0, k1, k2, k3, k5, hC, ft⟩ := T.cls
  have hcl : PySem.W.clsIn X.K C = some { name := nm, bases := bs, mro := .ref C :: bm, ns := N, qualname := q, hasDict := true, slotNames := sn, subclasses := sub, abstract := ab, collection := col, hasDel := false } := by
    unfold PySem.W.clsIn
    rw [hC] <;> rfl
  have ho := exq_at I.hok e
  obtain ⟨hp, g, d, t, os⟩ := s
  refine PySem.W.set_plain I.kIn (ox := exOb C none t1) (od := none) ⟨ho, rfl, rfl, trivial⟩ T.sa ?_
  refine osaF I.kIn ho hcl rfl ft.obj ft.pass rfl hno (fun h' tk' dx k dn dne hx hn => ?_)
  have hnd : H dx = none := I.hok.fresh dn
  have nd : ∀ {b : Addr} {o : Obj}, hp.get? b = some o → b ≠ dx :=
    fun {b o} q => Nat.ne_of_lt (Nat.lt_of_lt_of_le (Heap.lt_size q) dn)
  have na : ∀ {b : Addr}, H b = none → b ≠ a := fun {b} n z => by rw [z, e] at n; cases n
  have Un1 : Un X.fs [] H (upd (upd H dx (exd dx [(f, y)])) a (exq a C (some dx) t1)) hp h' := {
    keep := fun b o q n _ _ => k b o (na n) q
    slot := fun b o q n _ _ => ⟨o.slots, k b o (na n) q⟩
    free := fun b o q n _ => ((upd_ne (na n)).trans (upd_ne (nd q))).trans n
    there := fun b o q _ => by
      by_cases hb : b = a
      · exact ⟨_, hb ▸ hx⟩
      · exact ⟨o, k b o hb q⟩
    tups := fun b xs q => ((upd_ne (at_ne e q exq_tup)).trans (upd_ne (ne_of_none q hnd))).trans q
    frzs := fun b o v q => ((upd_ne (at_ne e q exq_frz)).trans (upd_ne (ne_of_none q hnd))).trans q
    tbls := fun b ps q => ⟨#[], by rw [upd_ne (at_ne e q exq_tbl), upd_ne (ne_of_none q hnd), q]; simp⟩ }
  refine h dx _ hnd dne (I.un (t' := tk') Un1 fun b o q => ?_)
  by_cases hb : b = a
  · subst hb
    cases upd_same.symm.trans q
    exact exq_ok hx
  · rw [upd_ne hb] at q
    by_cases hd : b = dx
    · subst hd
      cases upd_same.symm.trans q
      exact exd_ok hn (relO_put (fs := []) ry fun g => True.intro)
    · rw [upd_ne hd] at q
      refine (I.hok b o q).stay (fun c v hc z => k c v ?_ z)
        (fun c hc => ((upd_ne (at_ne e hc exq_own)).trans (upd_ne (ne_of_none hc hnd))).trans hc)
        (fun c xs hc => ((upd_ne (at_ne e hc exq_tup)).trans (upd_ne (ne_of_none hc hnd))).trans hc)
      rcases hc with hc | hc
      · exact hc ▸ hb
      · exact at_ne e hc exq_own

/-- what the class stands above, from its own list -/
theorem has_of {K : PySem.W.Frag} {newId : String} {nm q : Str} {N : Addr} {bs bm : List Value} {sn : List Str}
    {sub : List Value} {ab : Bool} {col : Option Bool} {dd : Option Addr} {k0 k1 k2 k3 k5 : Option Value} {T : Value}
    (hC : K.lookup C = some (excClassObj nm q C N bs bm true sn sub ab col dd k0 k1 k2 k3 k5 newId))
    (m : PySem.W.mroIn K C T = some true) : (Value.ref C :: bm).contains T = true := by
  have hcl : PySem.W.clsIn K C = some { name := nm, bases := bs, mro := .ref C :: bm, ns := N, qualname := q, hasDict := true, slotNames := sn, subclasses := sub, abstract := ab, collection := col, hasDel := false } := by
    unfold PySem.W.clsIn
    rw [hC] <;> rfl
  unfold PySem.W.mroIn at m
  rw [hcl, Option.bind_some, if_neg (by show ¬ (false = true); decide)] at m
  exact Option.some.inj m

theorem eq_initF {B initId : String} {us : List Value} {ws : List V} {Q : Value → Shared → Prop} (J : IniF B initId)
    (T : OexF X.K C) (hB : PySem.W.mroIn X.K C (.type B) = some true) (I : Inv X pins σ H s)
    (e : H a = some (exq a C none t1)) (hl : us.length ≤ sizeLine) (rw' : Vals ws us)
    (h : ∀ t2 s', H t2 = none → t2 ≠ a → Inv X pins σ (upd (upd H t2 (.tup ws)) a (exq a C none t2)) s' → Q .none s') :
    wpAny (model X.prog X.w) A (call (.builtin initId) (.ref a :: us)) Q E s := by
  obtain ⟨newId, nm, q, N, bs, bm, sn, sub, ab, col, dd, k0, k1, k2, k3, k5, hC, ft⟩ := T.cls
  have ho := exq_at I.hok e
  obtain ⟨hp, g, d, t, os⟩ := s
  refine wpAny_call (init_argsF J (has_of hC hB) (I.kIn _ _ hC) ho hl fun h' t2 hsz k hx ht => ?_)
  have nt : H t2 = none := I.hok.fresh hsz
  have nea : t2 ≠ a := (ne_of_none e nt).symm
  have na : ∀ {b : Addr}, H b = none → b ≠ a := fun {b} n z => by rw [z, e] at n; cases n
  have nd : ∀ {b : Addr} {o : Obj}, hp.get? b = some o → b ≠ t2 :=
    fun {b o} q => Nat.ne_of_lt (Nat.lt_of_lt_of_le (Heap.lt_size q) hsz)
  have Un1 : Un X.fs [] H (upd (upd H t2 (.tup ws)) a (exq a C none t2)) hp h' := {
    keep := fun b o q n _ _ => k b o (na n) q
    slot := fun b o q n _ _ => ⟨o.slots, k b o (na n) q⟩
    free := fun b o q n _ => ((upd_ne (na n)).trans (upd_ne (nd q))).trans n
    there := fun b o q _ => by
      by_cases hb : b = a
      · exact ⟨_, hb ▸ hx⟩
      · exact ⟨o, k b o hb q⟩
    tups := fun b xs q => ((upd_ne (at_ne e q exq_tup)).trans (upd_ne (ne_of_none q nt))).trans q
    frzs := fun b o v q => ((upd_ne (at_ne e q exq_frz)).trans (upd_ne (ne_of_none q nt))).trans q
    tbls := fun b ps q => ⟨#[], by rw [upd_ne (at_ne e q exq_tbl), upd_ne (ne_of_none q nt), q]; simp⟩ }
  refine h t2 _ nt nea (I.un (t' := t) Un1 fun b o q => ?_)
  by_cases hb : b = a
  · subst hb
    cases upd_same.symm.trans q
    exact exq_ok hx
  · rw [upd_ne hb] at q
    by_cases hd : b = t2
    · subst hd
      cases upd_same.symm.trans q
      exact ⟨by rw [Paired.length rw']; exact hl, us, rw', _, ht, rfl, _, rfl⟩
    · rw [upd_ne hd] at q
      refine (I.hok b o q).stay (fun c v hc z => k c v ?_ z)
        (fun c hc => ((upd_ne (at_ne e hc exq_own)).trans (upd_ne (ne_of_none hc nt))).trans hc)
        (fun c xs hc => ((upd_ne (at_ne e hc exq_tup)).trans (upd_ne (ne_of_none hc nt))).trans hc)
      rcases hc with hc | hc
      · exact hc ▸ hb
      · exact at_ne e hc exq_own
end

/-! ### the rules -/
/-- B.__init__(self, ..) -/
def tBeq (K : PySem.W.Frag) (B : String) (ta : TA) : TE := fun σ H Q => ta σ H fun vs H1 =>
  ∃ (a C t0 : Addr) (ws : List V), vs = .ref a :: ws ∧ ws.length ≤ 1000 ∧ OexF K C ∧
    PySem.W.mroIn K C (.type B) = some true ∧ H1 a = some (exq a C none t0) ∧
    ∀ t2, H1 t2 = none → t2 ≠ a → Q .non (upd (upd H1 t2 (.tup ws)) a (exq a C none t2))
/-- self.f = e, the first attribute -/
def tEstF (K : PySem.W.Frag) (f : Str) (to te : TE) : TS := fun D σ H => te σ H fun y H1 => to σ H1 fun x H2 =>
  ∃ a C t1 : Addr, x = .ref a ∧ OexF K C ∧ PySem.W.findIn K (.ref C) f = some none ∧ H2 a = some (exq a C none t1) ∧
    ∀ dx, H2 dx = none → dx ≠ a → D.nx σ (upd (upd H2 dx (exd dx [(f, y)])) a (exq a C (some dx) t1))
/-- the names of the three bases as the text reads them -/
structure BaseNm (B : String) (x : Str) (initId : String) : Prop where
  ini : IniF B initId
  boot : bootBuiltins x = some (.type B)
  typ : typeOf (.type B) = pure (.type "type")
  stub : Manifest.isStub B = false
  hand : PySem.W.handedIn (.builtin initId) = true
  dbg : (x == ("__debug__" : Str)) = false
  nme : x ≠ "__name__"
theorem nmV : BaseNm "ValueError" "ValueError" "ValueError.__init__" :=
  ⟨iniV, PyProof.Rows.Boot.«ValueError», by kernel_rfl, by decide +kernel, by decide +kernel, by decide, by decide⟩
theorem nmL : BaseNm "LookupError" "LookupError" "LookupError.__init__" :=
  ⟨iniL, by kernel_rfl, by kernel_rfl, by decide +kernel, by decide +kernel, by decide, by decide⟩
theorem nmK : BaseNm "KeyError" "KeyError" "KeyError.__init__" :=
  ⟨iniK, by kernel_rfl, by kernel_rfl, by decide +kernel, by decide +kernel, by decide, by decide⟩

section
variable {X : Cx} {o e : Expr} {es : List Expr} {to te : TE} {ta : TA} {f : Str} {p p' p1 p2 pos : Pos}
theorem pe_beq {B initId : String} {x : Str} {pl : Sem Bool} (N : BaseNm B x initId) (hg : Gl X x) (hm : X.mg x = none)
    (vV : PySem.W.findCls X.K (.type B) (.type "type") "__init__" = some (.val (.builtin initId)))
    (ha : PA X (e :: es) ta)
    (hc : eval (.Call (.Attribute (.Name x p1) "__init__" p2) (e :: es) [] pos) X.env = (do
      let ov ← eval (.Name x p1) X.env
      standAt p2.atName
      let (f, first) ← holding [ov] (getMethod ov "__init__" pl)
      callWith pos f first (backTo pos (starEach (e :: es) X.env)) (backToKw pos (keywordEach [] X.env))) := by rfl)
    (he : starEach (e :: es) X.env = (false, eval e X.env) :: starEach es X.env := by rfl)
    (hpl : (backTo pos (starEach es X.env)).any (·.1) = false := by rfl) :
    PE X (.Call (.Attribute (.Name x p1) "__init__" p2) (e :: es) [] pos) (tBeq X.K B ta) := by
  refine ⟨fun pins s σ H Q I h => ?_⟩
  refine PySem.W.methodCall_KW (ld_blt I hg hm N.boot ?_ N.nme N.dbg) hc
  obtain ⟨m, fr⟩ := I.fr
  refine PySem.W.method_type fr I.ok.mod.kin N.typ N.stub vV N.hand ?_
  refine PyProof.Rows.callWith_method1 (first := []) (thn (ha.run pos pins _ σ H _ (I.tok _) h)
    fun us s1 ⟨vs, H1, I1, r1, a, C, t0, ws, ev, hl, T, hB, ea, q⟩ => ?_) he hpl
  subst ev
  cases r1 with
  | @cons _ u0 _ ur ra rw' =>
    obtain rfl : u0 = Value.ref a := ra
    have hlen : ur.length ≤ sizeLine := by
      rw [← Paired.length rw', sizeLine_eq]
      omega
    exact eq_initF N.ini T hB I1 ea hlen rw' fun t2 s' n1 n2 J => ⟨.non, _, J, rfl, q t2 n1 n2⟩

theorem ps_estF (ho : PE X o to) (he : PE X e te)
    (hs : swapsWith e (some (.Attribute o f p')) pos.line X.env = pure false := by rfl) :
    PS X (.Assign [.Attribute o f p'] e pos) (tEstF X.K f to te) := by
  refine ⟨fun pins s σ H D I h => ?_⟩
  refine plainObj_wpAny_Assign_Attribute (thn (he.run pins s σ H _ I h) fun v s1 ⟨y, H1, I1, r1, q1⟩ =>
    thn (ho.run pins s1 σ H1 _ I1 q1) fun u s2 ⟨x, H2, I2, r2, a, C, t1, ex, T, hno, ea, q⟩ => ?_) hs
  subst ex
  obtain rfl : u = Value.ref a := r2
  exact eq_newF T I2 ea hno r1 fun dx s' n ne J => ⟨σ, _, J, q dx n ne⟩

/-- the class called, its own __init__ keeping sp: us by place, kw by name; as: what its __init__ binds behind self -/
theorem own_call {pins : List (Addr × Obj)} {σ : L2.St} {H1 : Hp} {s1 : Shared} {C fI : Addr} {k : Nat} {CX : CXT} {fd : FuncData}
    {ps : List Str} {sp : Sp} {us as : List Value} {kw : List (Str × Value)} {vs avs : List V} {Q : VK} (T : OexF X.K C)
    (iC : PySem.W.findIn X.K (.ref C) "__init__" = some (some (.ref fI)))
    (tI : PySem.W.typeIn X.K (.ref fI) = some (.type "function"))
    (F1 : FnOk X.prog X.w X.K X.mg X.base CX k fI fd ps sp) (hr : Room (k + 1) X.A)
    (hb : ∀ (s : Shared) (self : Value), X.K.In s.heap → (self :: as).length = ps.length →
      BindsTo s fd ⟨self :: us, kw⟩ (ps.zip (self :: as)))
    (hx : Passes CX X (fun _ _ _ => False)) (I1 : Inv X pins σ H1 s1) (r1 : Vals vs us) (r2 : Vals avs as)
    (hz : vs.length ≤ 1000)
    (q1 : ∀ t0 a, H1 t0 = none → H1 a = none → t0 ≠ a →
      sp (.ref a :: avs) (upd (upd H1 t0 (.tup vs)) a (exq a C none t0))
        (fun v H2 => v = .non ∧ Q (.ref a) H2) (fun _ _ _ => False)) :
    wpAny (model X.prog X.w) X.A (call (.ref C) us kw) (EP X pins σ Q) X.xe s1 := by
  obtain ⟨newId, nm, q, N, bs, bm, sn, sub, ab, col, dd, k0, k1, k2, k3, k5, hC, ft⟩ := T.cls
  obtain ⟨B, i, bmB, EF, hB⟩ := ft.maker
  obtain ⟨hp, g, dr, tk, os⟩ := s1
  have n0 : H1 hp.objs.size = none := I1.hok.fresh (Nat.le_refl _)
  have n1 : H1 (hp.objs.size + 1) = none := I1.hok.fresh (Nat.le_succ _)
  have hne : hp.objs.size ≠ hp.objs.size + 1 := Nat.ne_of_lt (Nat.lt_succ_self _)
  have hq := q1 hp.objs.size (hp.objs.size + 1) n0 n1 hne
  have hus : us.length ≤ sizeLine := by
    rw [← Paired.length r1, sizeLine_eq]
    omega
  have I2 : Inv X pins σ (upd H1 hp.objs.size (.tup vs)) ⟨hp.push (PySem.W.kdv_tup us), g, dr, tk, os⟩ :=
    I1.laid (t' := tk) (a := hp.objs.size) (o := .tup vs) (h' := hp.push (PySem.W.kdv_tup us))
      (fun b o z => Heap.get?_push_of_some _ z) (Nat.le_refl _)
      ⟨by rw [Paired.length r1]; exact hus, us, r1, _, Heap.get?_push_size _ rfl, rfl, _, rfl⟩
  have hget : ((hp.push (PySem.W.kdv_tup us)).push (exOb C none hp.objs.size)).get? (hp.objs.size + 1) =
      some (exOb C none hp.objs.size) := by heap_get
  have hsz2 : (hp.push (PySem.W.kdv_tup us)).objs.size ≤ hp.objs.size + 1 := by
    simp [Heap.push]
  have I3 : Inv X pins σ (upd (upd H1 hp.objs.size (.tup vs)) (hp.objs.size + 1) (exq (hp.objs.size + 1) C none hp.objs.size))
      ⟨(hp.push (PySem.W.kdv_tup us)).push (exOb C none hp.objs.size), g, dr, tk, os⟩ :=
    I2.laid (t' := tk) (a := hp.objs.size + 1) (o := exq (hp.objs.size + 1) C none hp.objs.size)
      (h' := (hp.push (PySem.W.kdv_tup us)).push (exOb C none hp.objs.size))
      (fun b o z => Heap.get?_push_of_some _ z) hsz2 (exq_ok hget)
  have r3 : Vals (V.ref (hp.objs.size + 1) :: avs) (Value.ref (hp.objs.size + 1) :: as) := .cons rfl r2
  have hl : (Value.ref (hp.objs.size + 1) :: as).length = ps.length :=
    r3.length.symm.trans (F1.len _ _ _ _ hq)
  refine wpAny_call (call_ownF EF hB ft.noA ft.noN (I1.kIn _ _ hC) (PySem.W.looks_findIn I1.kIn iC)
    (fun self => PySem.W.bind_fn I1.kIn self tI) hus
    (codeAny_mono (F1.run _ X.stack _ _ ⟨Value.ref (hp.objs.size + 1) :: us, kw⟩
      (Value.ref (hp.objs.size + 1) :: as) _ _ (fun _ _ _ => False) (hr.make C us kw) (I3.env0.make C us kw)
      (hb _ (Value.ref (hp.objs.size + 1)) I3.kIn hl) r3 hq) fun r s' hq' => ?_))
  match r, hq' with
  | .error er, hq' => exact hx pins σ _ _ er s' I3 hq'
  | .ok (.ret u), hq' =>
    obtain ⟨v, H', I4, rv, ev, q3⟩ := I3.after hq'
    subst ev
    exact ⟨rv, ⟨V.ref (hp.objs.size + 1), H', I4, rfl, q3⟩⟩
  | .ok .next, hq' => exact False.elim hq'
  | .ok .brk, hq' => exact False.elim hq'
  | .ok .cont, hq' => exact False.elim hq'

/-- C(e, ..) -/
theorem pe_mkqF {x : Str} {C fI : Addr} {k : Nat} {CX : CXT} {fd : FuncData} {ps : List Str} {sp : Sp}
    {ds : List Value} {dvs : List V} (T : OexF X.K C)
    (iC : PySem.W.findIn X.K (.ref C) "__init__" = some (some (.ref fI)))
    (tI : PySem.W.typeIn X.K (.ref fI) = some (.type "function"))
    (F1 : FnOk X.prog X.w X.K X.mg X.base CX k fI fd ps sp) (hr : Room (k + 1) X.A) (hb : Binds X.K fd ps ds)
    (hd : Vals dvs ds) (hx : Passes CX X (fun _ _ _ => False)) (hg : Gl X x) (hm : X.mg x = some (.ref C))
    (ha : PA X (e :: es) ta) (hdb : (x == ("__debug__" : Str)) = false := by decide)
    (he : starEach (e :: es) X.env = (false, eval e X.env) :: starEach es X.env := by rfl)
    (hpl : (backTo pos (starEach es X.env)).any (·.1) = false := by rfl) :
    PE X (.Call (.Name x p) (e :: es) [] pos) (tMkq C sp dvs ta) := by
  refine ⟨fun pins s σ H Q I h => ?_⟩
  refine wpAny_Call_Name_kw (ld_glob I hg hm ?_ hdb)
  exact PySem.W.callWith_K (h₀ := X.base) I.ok.mod.kin T.kC
    (thn (ha.run pos pins s σ H _ I h) fun us s1 ⟨vs, H1, I1, r1, hz, q1⟩ =>
      ⟨I1.kIn, own_call T iC tI F1 hr (fun s self X hl => hb s (self :: us) X hl) hx I1 r1 (r1.append hd) hz q1⟩) he hpl

/-- C(f = e): by the name of its field -/
def tMkqK (C : Addr) (sp : Sp) (te : TE) : TE := fun σ H Q => tCons te tNil σ H fun zs H1 => ∃ v, zs = [v] ∧
  ∀ t0 a, H1 t0 = none → H1 a = none → t0 ≠ a →
    sp [.ref a, v] (upd (upd H1 t0 (.tup [])) a (exq a C none t0)) (fun v H2 => v = .non ∧ Q (.ref a) H2) (fun _ _ _ => False)
theorem pe_mkqK {x n self : Str} {C fI : Addr} {k : Nat} {CX : CXT} {fd : FuncData} {sp : Sp} {kp : Pos} (T : OexF X.K C)
    (iC : PySem.W.findIn X.K (.ref C) "__init__" = some (some (.ref fI)))
    (tI : PySem.W.typeIn X.K (.ref fI) = some (.type "function"))
    (F1 : FnOk X.prog X.w X.K X.mg X.base CX k fI fd [self, n] sp) (hr : Room (k + 1) X.A)
    (hb : ∀ (s : Shared) (a b : Value), X.K.In s.heap → BindsTo s fd ⟨[a], [(n, b)]⟩ [(self, a), (n, b)])
    (hx : Passes CX X (fun _ _ _ => False)) (hg : Gl X x) (hm : X.mg x = some (.ref C))
    (he : PE X e te) (hdb : (x == ("__debug__" : Str)) = false := by decide)
    (hall : (backToKw pos (keywordEach [⟨some n, e, kp⟩] X.env)).all (·.1.isSome) = true := by rfl)
    (hks : (backToKw pos (keywordEach [⟨some n, e, kp⟩] X.env)).filterMap (·.1) = [n] := by rfl)
    (hpl : ((backTo pos (starEach [] X.env)).any (·.1) || (backToKw pos (keywordEach [⟨some n, e, kp⟩] X.env)).any (·.1.isNone)) = false := by rfl) :
    PE X (.Call (.Name x p) [] [⟨some n, e, kp⟩] pos) (tMkqK C sp te) := by
  refine ⟨fun pins s σ H Q I h => ?_⟩
  refine wpAny_Call_Name_kw (ld_glob I hg hm ?_ hdb)
  refine PySem.W.callWith_KW0 (h₀ := X.base) I.ok.mod.kin T.kC hall ?_ hpl
  have P : PK X [⟨some n, e, kp⟩] (tCons te tNil) := pk_cons he pk_nil
  refine thn (P.run pos pins s σ H _ I h) fun ws s2 ⟨zs, H2, I2, rz, v, ev, q2⟩ => ⟨I2.kIn, ?_⟩
  subst ev
  obtain ⟨u, rfl, ru⟩ : ∃ u, ws = [u] ∧ RelV v u := by
    cases rz with
    | cons r1 r2 => cases r2; exact ⟨_, rfl, r1⟩
  rw [hks]
  exact own_call (us := []) (as := [u]) T iC tI F1 hr (fun s a X _ => hb s a u X) hx I2 .nil (.cons ru .nil) (Nat.zero_le _) q2

/-- e.f, the error at e with its dict -/
def tQget (K : PySem.W.Frag) (f : Str) (te : TE) : TE := fun σ H Q => te σ H fun x H1 =>
  ∃ (a C d t : Addr) (fs : List (Str × V)) (v : V), x = .ref a ∧ XfC K C ∧ PySem.W.findIn K (.ref C) f = some none ∧
    H1 a = some (exq a C (some d) t) ∧ H1 d = some (exd d fs) ∧ fs.lookup f = some v ∧ Q v H1
theorem pe_qget {te : TE} (he : PE X e te)
    (hb : attributeBase e f X.env (eval e X.env) = eval e X.env := by rfl) :
    PE X (.Attribute e f pos) (tQget X.K f te) := by
  refine ⟨fun pins s σ H Q I h => ?_⟩
  refine attr_of hb (thn (he.run pins s σ H _ I h) fun u s1 hh => ?_)
  obtain ⟨x, H1, I1, rx, a, C, dd, t, fs, v, rfl, T, hno, ea, ed, l, q⟩ := hh
  obtain rfl : u = Value.ref a := rx
  obtain ⟨mA, hns, hr⟩ := exd_at I1.hok ed
  obtain ⟨od, ho, hl⟩ := lookIn_ns hns
  obtain ⟨u, hu, ru⟩ := RelO.some_of (v := v) (o := mA f) (by rw [← l]; exact hr f)
  have J : PySem.W.InstAt s1.heap a (exOb C (some dd) t) C (some od) := ⟨exq_at I1.hok ea, rfl, rfl, ho⟩
  exact PySem.HandSPX.exc_get I1.kIn J T.ga T.gg T.exC (PySem.W.findObj_own T.hdC hno rfl (by rw [hl, hu])) (handed_of ru)
    ⟨v, H1, I1.tok _, ru, q⟩
end

/-! ### isinstance, the error may be without a dict -/
inductive TyE (K : PySem.W.Frag) (H : Hp) : V → Value → Prop where
  | base {x : V} {t : Value} (h : TyQ K H x t) : TyE K H x t
  | bare {a D t : Addr} (e : H a = some (exq a D none t)) (c : ExcC K D) : TyE K H (.ref a) (.ref D)
def rIsE2 (K : PySem.W.Frag) : List V → Hp → VK → Prop := fun xs H Q => ∃ (x c : V) (t u : Value) (b : Bool),
  xs = [x, c] ∧ ClsV c u ∧ TyE K H x t ∧ PySem.W.kitOne K t u = some b ∧ Q (.bl b) H
theorem call_ise {X : Cx} : CallR X (.builtin "isinstance") (rIsE2 X.K) := by
  intro pins s σ H xs us Q I r h
  obtain ⟨x, c, t, u, b, rfl, k, ty, e, q⟩ := h
  cases ty with
  | base ty => exact call_isa pins s σ H _ us Q I r ⟨x, c, t, u, b, rfl, k, ty, e, q⟩
  | bare ex C =>
    obtain ⟨u1, u2, rfl, r1, r2⟩ := vals2 r
    obtain rfl := k.eq r2
    obtain rfl : u1 = Value.ref _ := r1
    have ha := exq_at I.hok ex
    refine PySem.W.kia_one (PySem.W.handS_kitx_exc C.hg C.hk C.hs C.hd C.ha C.hn C.ht C.hm) I.kIn ⟨ha, rfl, rfl, trivial⟩ e (fun z => nomatch z)
      fun tk => ⟨.bl b, H, I.tok tk, rfl, q⟩
end Pw

/-! Such an error is raised: what was known of it as a value is let go, its dict stands as an error's dict. -/
namespace Pw
open PySem PySem.Spec PyProof.Rows L2
theorem exd_frz' {e : Addr} {fs : List (Str × V)} {o : Obj} {u : HO} : exd e fs ≠ .frz o u := fun z => by
  have z' : HO.ext _ = HO.frz o u := z
  cases z'
theorem exd_tbl' {e : Addr} {fs : List (Str × V)} {ps : Array Value} : exd e fs ≠ .tbl ps := fun z => by
  have z' : HO.ext _ = HO.tbl ps := z
  cases z'
section
variable {X : Cx} {pins : List (Addr × Obj)} {σ : L2.St} {H : Hp} {s : Shared}
theorem toXd {d : Addr} {fs : List (Str × V)} (I : Inv X pins σ H s) (ed : H d = some (exd d fs)) :
    Inv X pins σ (upd H d (.xd fs)) s := by
  have nd : ∀ {b : Addr}, H b = none → b ≠ d := fun {b} n z => by rw [z, ed] at n; cases n
  have U : Un X.fs [] H (upd H d (.xd fs)) s.heap s.heap := {
    keep := fun b o q n _ _ => q
    slot := fun b o q n _ _ => ⟨o.slots, q⟩
    free := fun b o q n _ => (upd_ne (nd n)).trans n
    there := fun b o q _ => ⟨o, q⟩
    tups := fun b xs q => (upd_ne (at_ne ed q exd_tup)).trans q
    frzs := fun b o v q => (upd_ne (at_ne ed q exd_frz')).trans q
    tbls := fun b ps q => ⟨#[], by rw [upd_ne (at_ne ed q exd_tbl'), q]; simp⟩ }
  have hk : HOk X.prog X.w (upd H d (.xd fs)) s.heap := fun b o q => by
    by_cases hb : b = d
    · subst hb
      cases upd_same.symm.trans q
      exact exd_at I.hok ed
    · rw [upd_ne hb] at q
      exact (I.hok b o q).stay (fun c v _ z => z) (fun c hc => (upd_ne (at_ne ed hc exd_own)).trans hc)
        (fun c xs hc => (upd_ne (at_ne ed hc exd_tup)).trans hc)
  exact I.un (t' := s.toks) U hk
/-- what is asked where such an error is raised -/
def tRq (H0 : Hp) (K0 : PySem.W.Frag) (te : TE) : L2.St → Hp → XK → Prop := fun σ H Q => te σ H fun x H1 => ∃ a C t : Addr, x = .ref a ∧ Fr0 H0 a ∧
  PySem.W.subIn K0 (.ref C) (.type "BaseException") = some true ∧ PySem.W.typeIn K0 (.ref C) = some (.type "type") ∧ ((H1 a = some (exq a C none t) ∧ Q (.ref C) none (delH H1 a)) ∨
    ∃ (d : Addr) (fs : List (Str × V)), d ≠ a ∧ H1 a = some (exq a C (some d) t) ∧ H1 d = some (exd d fs) ∧
      Q (.ref C) (some d) (upd (delH H1 a) d (.xd fs)))
theorem pmk_q {e : Expr} {te : TE} {H0 : Hp} {K0 : PySem.W.Frag} (hH : X.H_0 = H0) (hK : X.K = K0) (hx : X.ex = []) (he : PE X e te) : PMk X e (tRq H0 K0 te) := by
  subst hH
  subst hK
  intro pins s σ H Q I h
  refine wpAny_mono (he.run pins s σ H _ I h) (fun u s1 hu => ?_) fun _ _ x => x
  obtain ⟨v, H1, I1, r1, a, C, t, rfl, h0, r2, r3, q | ⟨d, fs, hda, ea, ed, q⟩⟩ := hu
  · have hr : Raises X (.ref C) := raises_own r2 r3
    obtain ⟨ea, q⟩ := q
    cases r1
    have ho := exq_at I1.hok ea
    obtain ⟨G, gs, ga, J⟩ := I1.untrack ea h0 hx
    exact ⟨a, _, _, { s1 with heap := G }, delH H1 a, .ref C, none, rfl, J, gs, ga, ho, ⟨rfl, rfl⟩, rfl, rfl, delH_same, rfl, I1.bare, hr, q⟩
  · have hr : Raises X (.ref C) := raises_own r2 r3
    cases r1
    have ho := exq_at I1.hok ea
    obtain ⟨G, gs, ga, J⟩ := I1.untrack ea h0 hx
    have J2 := toXd (d := d) (fs := fs) J ((delH_ne hda).trans ed)
    exact ⟨a, _, _, { s1 with heap := G }, upd (delH H1 a) d (.xd fs), .ref C, some d, rfl, J2, gs, ga, ho, ⟨rfl, rfl⟩, rfl, rfl,
      (upd_ne hda.symm).trans delH_same, rfl, I1.bare, hr, q⟩
end
end Pw

/-! A head of which nothing is written out: facts of one's own, each told by a truth over the part of the heap that the names reach. -/
namespace Pw
open PySem PySem.Spec PyProof.Rows L2

abbrev Fb := PySem.W.Frag → Bool
def obsB (fb : List Fb) (fn : List He.DefD) (K : PySem.W.Frag) : He.AlD := ((fb.all fun f => f K) && fn.all fun d => d.ok K, fn.map fun d => He.fnW K d.at_)
def SaysB (fb : List Fb) (fn : List He.DefD) (K : PySem.W.Frag) : Prop := obsB fb fn K = He.valD fn
/-- what an object names: a def's code and defaults; a class's names, its methods, their code -/
def kids (g : Addr → Option Obj) (a : Addr) : List Addr := match g a with
  | some ⟨_, _, .dict es _, _⟩ => es.toList.flatMap fun e => He.refV e.val
  | _ => []
def kid1 (g : Addr → Option Obj) (a : Addr) : List Addr := match g a with
  | some ⟨_, _, .func fd, _⟩ => He.refV fd.code ++ (He.refV fd.defaults ++ (He.refV fd.kwdefaults ++ (He.refV fd.kwdefaults).flatMap (kids g)))
  | _ => []
def kid2 (g : Addr → Option Obj) (a : Addr) : List Addr := match g a with
  | some ⟨_, _, .cls cd, _⟩ => cd.ns :: (kids g cd.ns).flatMap fun f => f :: kid1 g f
  | _ => kid1 g a
/-- what the module's names reach -/
def reachB (g : Addr → Option Obj) : List Addr := PySem.cStatics :: mainGlobals :: (kids g mainGlobals).flatMap fun a => a :: kid2 g a
def obsBG (n : Nat) (fb : List Fb) (fn : List He.DefD) (g : Addr → Option Obj) : He.AlD := obsB fb fn (He.frG g (reachB g))
def hookB (n : Nat) (fb : List Fb) (fn : List He.DefD) : PySem.W.Hook where
  α := He.AlD
  obs := fun s => obsBG n fb fn s.heap.get?
  val := fun _ => He.valD fn
  says := fun _ h => ∃ K : PySem.W.Frag, K.In h ∧ SaysB fb fn K
  of := fun _ _ e => ⟨_, He.frG_in, e⟩
  keeps := fun _ _ _ ⟨K, hK, c⟩ k => ⟨K, PySem.W.Frag.In.keeps hK k, c⟩
theorem obsBG_eq {n : Nat} {fb : List Fb} {fn : List He.DefD} {g : Addr → Option Obj} {s : Shared} (h : ∀ a, g a = s.heap.get? a) : obsBG n fb fn g = (hookB n fb fn).obs s := by
  have e : g = s.heap.get? := funext h
  rw [e] <;> rfl
section
variable {fb : List Fb} {fn : List He.DefD} {K : PySem.W.Frag}
theorem SaysB.fact (c : SaysB fb fn K) {f : Fb} (i : Nat) (h : fb[i]? = some f) : f K = true := by
  have c1 := (He.ba (show ((fb.all fun f => f K) && fn.all fun d => d.ok K) = true from congrArg (fun z : He.AlD => z.1) c)).1
  exact List.all_eq_true.mp c1 f (List.mem_of_getElem? h)
theorem SaysB.def_ (c : SaysB fb fn K) {d : He.DefD} (i : Nat) (h : fn[i]? = some d) : ∃ fd, FunD K d.name d.qual d.params d.body d.scope (d.dvs K) (d.kws K) (He.fAd K d.at_) fd := by
  have c2 := (He.ba (show ((fb.all fun f => f K) && fn.all fun d => d.ok K) = true from congrArg (fun z : He.AlD => z.1) c)).2
  have e : fn.map (fun d => He.fnW K d.at_) = fn.map He.DefD.val := congrArg (fun z : He.AlD => z.2) c
  have e2 : (fn.map fun d => He.fnW K d.at_)[i]? = (fn.map He.DefD.val)[i]? := by rw [e]
  rw [List.getElem?_map, List.getElem?_map, h] at e2
  exact He.DefD.funD (Option.some.inj e2) (List.all_eq_true.mp c2 d (List.mem_of_getElem? h))
end
/-- a def without defaults, as the layer has it -/
theorem funOf {K : PySem.W.Frag} {x q : Str} {st : Stmt} {f : Addr} {fd : FuncData} (F : FunD K x q (defArgs st) (defBody st) (defScope st) [] [] f fd) : Fun K x q st f fd := by
  obtain ⟨oc, od, dV, kV, doc, pm, an, cdv, ct, osl, e, lk, hcd, hD, _⟩ := F.ex
  rcases hD with ⟨_, rfl⟩ | ⟨h, _⟩
  · subst e
    exact ⟨⟨oc, od, kV, doc, pm, an, cdv, ct, osl, rfl, lk, hcd⟩, F.kp⟩
  · exact absurd rfl h
theorem atOf {K : PySem.W.Frag} {h : Heap} {mg : Str → Option Value} {x : Str} {st : Stmt} (X : K.In h) (G : h.Ns mainGlobals mg) (g : (He.Fa.glo x).ok K = true)
    (F : ∃ fd, FunD K x x (defArgs st) (defBody st) (defScope st) [] [] (He.ga K x) fd) : At K mg x st :=
  let ⟨fd, F⟩ := F
  ⟨_, fd, funOf F, He.glo_ok X G g⟩
/-- a class that is an exception, as it stands -/
def xcB (K : PySem.W.Frag) (C : Addr) (bm : List Value) (newId : String) (x : Str) : Bool := match K.lookup C with
  | some ⟨.type "type", _, .cls cd, sl⟩ => (match sl.toList with
    | [_, _, _, _, some (.builtin n), _] => decide (cd.mro = .ref C :: bm) && (decide (n = newId) && (!cd.hasDel && (cd.hasDict && decide (cd.name = x))))
    | _ => false)
  | _ => false
theorem xcB_ok {K : PySem.W.Frag} {C : Addr} {bm : List Value} {newId : String} {x : Str} (q : xcB K C bm newId x = true) :
    ∃ qn N bs sn sub ab col dd m0 m1 m2 m3 m5, K.lookup C = some (excClassObj x qn C N bs bm true sn sub ab col dd m0 m1 m2 m3 m5 newId) := by
  unfold xcB at q
  split at q
  · rename_i dd cd sl ho
    split at q
    · rename_i k0 k1 k2 k3 n k5 hs
      obtain ⟨nm, bs, mro, ns, qn, hd, sn, sub, ab, col, del⟩ := cd
      simp only [Bool.and_eq_true, decide_eq_true_eq, Bool.not_eq_true'] at q
      obtain ⟨rfl, rfl, rfl, rfl, rfl⟩ := q
      have hsl : sl = #[k0, k1, k2, k3, some (.builtin n), k5] := by
        obtain ⟨l⟩ := sl
        simp only at hs
        rw [hs]
      subst hsl
      exact ⟨qn, ns, bs, sn, sub, ab, col, dd, k0, k1, k2, k3, k5, ho⟩
    · cases q
  · cases q
/-- a law: F gives the written part, the function object, the promise over every base, where nothing is being shown -/
theorem walkE {l : PySem.W.OpenLaw} {n k : Nat} {q : Program} {loose : List Str} {XP : (Str → Option Value) → Heap → Prop} {YP : World → Heap → Prop} {d : DefRec} {CX : CXT} {x : Str}
    (hn : l.most = some n) (hn2 : n ≤ sizeLine) (hdf : d.params.defaults = []) (hr : Room k callerA)
    (F : ∀ (w : World) (mg : Str → Option Value) (fa : Addr) (h : Heap), YP w h → h.Ns mainGlobals mg → mg d.name = some (.ref fa) →
      ∃ (K : PySem.W.Frag) (fd : FuncData) (sp : Sp), K.In h ∧ (∀ (s : Shared) (u : Value), BindsTo s fd ⟨[u], []⟩ [(x, u)]) ∧
        (∀ (H : Hp) (a : Addr) (ns : List Int), ns.length ≤ n → Only H → SqL K H a (ns.map V.int) → sp [.ref a] H (fun v _ => v = .bl true) fun _ _ _ => False) ∧
        ∀ base : Heap, K.In base → base.Ns mainGlobals mg → FnG l.prog w K mg base CX k fa fd [x] sp)
    (hCX : ∀ (H : Hp) (s : Shared) (e : Value) (s' : Shared), CX [] H s (fun _ _ _ => False) e s' → False) :
    PySem.W.WalkO q loose XP YP l.row.toRowW d [] (fun f vs => PySem.call f vs) := by
  refine Att.attach_call hn hdf fun w s₀ s₁ mg mb fa o pm cd doc a vs ns G Y ho hd hcd hmg hobj hints hlen hg => ?_
  obtain ⟨K, fd, sp, KX, hb, hsp, hF⟩ := F w mg fa _ Y G.T.g hmg
  exact law_callG KX G.T.g G.T.b G.T.builtins G.T.nolimit hg hobj hints (Nat.le_trans hlen hn2) hr hF hb (fun H hO hS => hsp H a ns hlen hO hS) fun H e s' => hCX H s₁ e s'
end Pw

/-! Own errors raised, let through, and held by a suite. -/
namespace Pw
open PySem PySem.Spec PyProof.Rows L2
theorem kit_xd {K : PySem.W.Frag} {x D : Addr} {ox oD : Obj} (C : ExcC K D) :
    PySem.W.KitX K (.ref x) (.ref D) (fun h => PySem.W.InstAt h x ox D (some oD)) where
  ty := fun _ _ _ I => I.type
  it := fun M h X _ => by
    obtain ⟨cd, hc⟩ := Option.isSome_iff_exists.mp (cls_of_dict C.hd)
    unfold PySem.W.clsIn at hc
    split at hc
    · rename_i ho
      intro A' Q' E' s' k q
      unfold isType loadHead
      exact wpAny_bind (wpAny_loadPart (k _ _ (X _ _ ho)) (wpAny_pure q))
    · cases hc
  ne := fun h tp dd its n sl X htp => by
    obtain ⟨cd, hc⟩ := Option.isSome_iff_exists.mp (cls_of_dict C.hd)
    refine Bool.eq_false_iff.mpr fun q => ?_
    obtain rfl : D = tp := Value.ref.inj (beq_iff_eq.mp q)
    unfold PySem.W.clsIn at hc
    split at hc
    · rename_i ho
      cases (X _ _ ho).symm.trans htp
    · cases hc
  ca := fun X I k => PySem.W.pw_class C.hg C.hk C.hs
    (PySem.W.findObj_data (cls_of_dict C.hd) C.ha C.hn C.ht) C.hm X I k
/-- isinstance(e, c), e the error that the suite holds, with its dict -/
def rIsD (K : PySem.W.Frag) (a : Addr) (cls : Value) (d : Option Addr) : List V → Hp → VK → Prop := fun xs H Q => ∃ (D dd : Addr) (fs : List (Str × V)) (c : V) (cv : Value) (b : Bool),
  cls = .ref D ∧ d = some dd ∧ ExcC K D ∧ xs = [.ref a, c] ∧ (∀ u, RelV c u → u = cv) ∧ PySem.W.kitOne K (.ref D) cv = some b ∧ H dd = some (.xd fs) ∧ Q (.bl b) H
theorem call_isD {X : Cx} {a : Addr} {oe : Obj} {cls : Value} {d : Option Addr} {pn : List (Addr × Obj)} (hz : Zc cls d oe) (hf : ∃ vs, oe.data = .fields vs) :
    CallR (X.suite a ((a, oe) :: pn)) (.builtin "isinstance") (rIsD X.K a cls d) := by
  intro pins s σ H xs us Q I r h
  obtain ⟨D, dd, fs, c, cv, b, rfl, rfl, C, rfl, hcv, e, ed, q⟩ := h
  cases r with
  | cons rx rr =>
    cases rr with
    | cons rt rr =>
      cases rr
      cases rx
      have ec := hcv _ rt
      subst ec
      obtain ⟨hget, _⟩ := I.pin (a, oe) (List.mem_append.mpr (.inl List.mem_cons_self))
      obtain ⟨vs, hv⟩ := hf
      have hx : ObjOk X.prog X.w H s.heap dd (.xd fs) := I.hok dd _ ed
      obtain ⟨mA, hns, hr⟩ := hx
      obtain ⟨od, ho, hl⟩ := lookIn_ns hns
      have J : PySem.W.InstAt s.heap a oe D (some od) := ⟨hget, hz.1, by unfold PySem.W.notCls; rw [hv] <;> rfl, by rw [hz.2]; exact ho⟩
      exact PySem.W.kia_one (kit_xd C) I.kIn J e (fun z => nomatch z) fun tk => ⟨.bl b, H, I.kept (t' := tk) fun _ _ z => z, rfl, q⟩
/-- a family of refusals, by its name: read as a class, and made -/
structure Fam (K : PySem.W.Frag) (mg : Str → Option Value) (x : Str) (q : Str) (B : String) (st : Stmt) (C f : Addr) : Prop where
  mgC : mg x = some (.ref C)
  oex : OexF K C
  hB : PySem.W.mroIn K C (.type B) = some true
  sg : PySem.W.specialIn K (.ref C) "__getattribute__" = some (some (.builtin "type.__getattribute__"))
  rd : PySem.W.readsIn K C (.type "type") = true
  at_ : PySem.W.findCls K (.ref C) (.type "type") "__init__" = some (.val (.ref f))
  iC : PySem.W.findIn K (.ref C) "__init__" = some (some (.ref f))
  tI : PySem.W.typeIn K (.ref f) = some (.type "function")
  fn : ∃ fd, Fun K "__init__" q st f fd
/-- how a built-in base's __init__ is read -/
structure Bas (K : PySem.W.Frag) (mg : Str → Option Value) (B : String) (x : Str) (initId : String) : Prop where
  nm : BaseNm B x initId
  free : mg x = none
  vV : PySem.W.findCls K (.type B) (.type "type") "__init__" = some (.val (.builtin initId))
/-- a refusal's class as it stands -/
structure Cl (K : PySem.W.Frag) (mg : Str → Option Value) (x q field : Str) (B : String) (st : Stmt) (C : Addr) : Prop where
  mgC : mg x = some (.ref C)
  oex : OexF K C
  hB : PySem.W.mroIn K C (.type B) = some true
  nF : PySem.W.findIn K (.ref C) field = some none
  fn : ∃ f fd, PySem.W.findIn K (.ref C) "__init__" = some (some (.ref f)) ∧
    PySem.W.typeIn K (.ref f) = some (.type "function") ∧ Fun K "__init__" q st f fd

section
variable {P : Program} {w : World} {K : PySem.W.Frag} {mg : Str → Option Value} {base : Heap}
/-- a family's __init__(self, text) -/
def spFam (K : PySem.W.Frag) (B : String) : Sp := fun vs H Q _ => ∃ a C t0 x, vs = [.ref a, .str x] ∧ OexF K C ∧
  PySem.W.mroIn K C (.type B) = some true ∧ H a = some (exq a C none t0) ∧
  ∀ t2, H t2 = none → t2 ≠ a → Q .non (upd (upd H t2 (.tup [.str x])) a (exq a C none t2))
/-- a refusal's __init__(self, field): the text x0 becomes its args -/
def spX (K : PySem.W.Frag) (B : String) (field x0 : Str) : Sp := fun vs H Q _ => ∃ a C t0 y, vs = [.ref a, y] ∧ OexF K C ∧
  PySem.W.mroIn K C (.type B) = some true ∧ H a = some (exq a C none t0) ∧
  PySem.W.findIn K (.ref C) field = some none ∧
  ∀ t2 dx, H t2 = none → t2 ≠ a → H dx = none → dx ≠ a → dx ≠ t2 →
    Q .non (upd (upd (upd (upd H t2 (.tup [.str x0])) a (exq a C none t2)) dx (exd dx [(field, y)])) a (exq a C (some dx) t2))
theorem fin_x {field x0 : Str} {H : Hp} {a C : Addr} {y : V} {Q : V → Hp → Prop} {σ : L2.St}
    {D : Ends} (hD : ∀ H', Q .non H' → D.nx σ H')
    (k : ∀ t2 dx, H t2 = none → t2 ≠ a → H dx = none → dx ≠ a → dx ≠ t2 →
      Q .non (upd (upd (upd (upd H t2 (.tup [.str x0])) a (exq a C none t2)) dx (exd dx [(field, y)])) a (exq a C (some dx) t2)))
    {t2 : Addr} (n2 : H t2 = none) (ne : t2 ≠ a) {dx : Addr}
    (nx : upd (upd H t2 (.tup [.str x0])) a (exq a C none t2) dx = none) (nxa : dx ≠ a) :
    D.nx σ (upd (upd (upd (upd H t2 (.tup [.str x0])) a (exq a C none t2)) dx (exd dx [(field, y)])) a (exq a C (some dx) t2)) := by
  have e1 : dx ≠ t2 := fun z => by
    rw [z, upd_ne ne, upd_same] at nx
    cases nx
  have e2 : H dx = none := by
    rw [upd_ne nxa, upd_ne e1] at nx
    exact nx
  exact hD _ (k t2 dx n2 ne e2 nxa e1)
end
/-- the same, K told -/
theorem call_isDK {X : Cx} {K : PySem.W.Frag} {a : Addr} {oe : Obj} {cls : Value} {d : Option Addr} {pn : List (Addr × Obj)} (hK : X.K = K) (hz : Zc cls d oe) (hf : ∃ vs, oe.data = .fields vs) :
    CallR (X.suite a ((a, oe) :: pn)) (.builtin "isinstance") (rIsD K a cls d) := by
  subst hK
  exact call_isD hz hf
theorem call_reprK {X : Cx} {K : PySem.W.Frag} (hK : X.K = K) (gd : X.A.guards = some []) (hu : X.A.units + 64 < cLine) : CallR X (.builtin "repr") (rRepr K) := by
  subst hK
  exact call_repr gd hu
/-! ### defs that let errors out -/
section
variable (P : Program) (w : World) (K : PySem.W.Frag) (mg : Str → Option Value) (base : Heap)
/-- under its name x a def stands that keeps the promise sp, errors too; ds fill up what is left out -/
structure DefE (x : Str) (k : Nat) (ps : List Str) (ds : List V) (sp : Sp) : Prop where
  ex : ∃ f fd us, mg x = some (.ref f) ∧ PySem.W.keepIn K (.ref f) = true ∧ Vals ds us ∧ Binds K fd ps us ∧
    FnOk P w K mg base (L2.CX P w) k f fd ps sp
end
section
variable {P : Program} {w : World} {K : PySem.W.Frag} {mg : Str → Option Value} {base : Heap}
theorem mkDefE {x : Str} {st : Stmt} {N ps : List Str} {k : Nat} {sp : Sp} (A : At K mg x st)
    (S : FnScope N ps (defScope st))
    (hb : ∀ (kV doc pm : Value) (an : Option Addr) (cdv ct : Value) (us : List Value), us.length = ps.length →
      bindArgs (PySem.W.fnOf x x (defArgs st) (defBody st) (defScope st) .none kV doc pm an cdv ct) ⟨us, []⟩ = pure (ps.zip us))
    (len : ∀ vs H Q E, sp vs H Q E → vs.length = ps.length)
    (body : ∀ (f : Addr) (cdv : Value) (A : Around) (out : List Env) (s : Shared) (H : Hp) (vs : List V) (Q : VK) (E : XK),
      Room k (A.deeper (envOfC x (defScope st) s.heap.objs.size f cdv)) → sp vs H Q E →
      ∃ t, PSs (cxOf (L2.CX P w) P w K mg base N x (defScope st) f cdv A out s H E) (defBody st) t ∧
        t { nx := fun _ H' => Q .non H', rt := Q } (start N vs) H) : DefE P w K mg base x (k + 1) ps [] sp := by
  obtain ⟨f, fd, F, m⟩ := A.ex
  exact ⟨f, fd, [], m, F.kp, .nil, F.binds hb, F.okX S len (body f)⟩
theorem mkDefED {x : Str} {st : Stmt} {kws : List (Str × V)} {N ps : List Str} {k n : Nat} {sp : Sp} (A : AtD K mg x st kws)
    (S : FnScope N ps (defScope st)) (hk : kws ≠ []) (hn : n + kws.length = ps.length)
    (hb : ∀ (D : Addr) (doc pm : Value) (an : Option Addr) (cdv ct : Value) (us ks : List Value), us.length = n → ks.length = kws.length →
      KwChain D ((kws.map (·.1)).zip ks) (bindArgs (PySem.W.fnOf x x (defArgs st) (defBody st) (defScope st) .none (.ref D) doc pm an cdv ct) ⟨us, []⟩) (ps.zip (us ++ ks)))
    (len : ∀ vs H Q E, sp vs H Q E → vs.length = ps.length)
    (body : ∀ (f : Addr) (cdv : Value) (A : Around) (out : List Env) (s : Shared) (H : Hp) (vs : List V) (Q : VK) (E : XK),
      Room k (A.deeper (envOfC x (defScope st) s.heap.objs.size f cdv)) → sp vs H Q E →
      ∃ t, PSs (cxOf (L2.CX P w) P w K mg base N x (defScope st) f cdv A out s H E) (defBody st) t ∧
        t { nx := fun _ H' => Q .non H', rt := Q } (start N vs) H) : DefE P w K mg base x (k + 1) ps (kws.map (·.2)) sp := by
  obtain ⟨f, fd, F, m⟩ := A.ex
  obtain ⟨us, hv, b⟩ := F.binds0 n hk hn hb
  exact ⟨f, fd, us, m, F.kp, hv, b, F.ok S len fun cdv A out s H vs Q E hr hs => body f cdv A out s H vs Q E hr hs⟩
end
theorem pe_dE {X : Cx} {x : Str} {k j : Nat} {ps : List Str} {ds : List V} {sp : Sp} {W : WX} {p pos : Pos} {e : Expr} {es : List Expr} {t : TA}
    (D : DefE X.prog X.w X.K X.mg X.base x k ps ds sp) (tk : Takes X W) (hr : Room j X.A) (hk : k ≤ j) (hg : Gl X x) (ha : PA X (e :: es) t)
    (hdb : (x == ("__debug__" : Str)) = false := by decide)
    (he : starEach (e :: es) X.env = (false, eval e X.env) :: starEach es X.env := by rfl)
    (hpl : (backTo pos (starEach es X.env)).any (·.1) = false := by rfl) :
    PE X (.Call (.Name x p) (e :: es) [] pos) (tCallSD sp ds (WE W) t) := by
  obtain ⟨f, fd, us, m, kp, hv, b, F⟩ := D.ex
  exact pe_callSD F (hr.mono hk) hg m kp b hv (passAt tk) ha hdb he hpl
end Pw

/-! What a head by facts tells of own errors. -/
namespace Pw
open PySem PySem.Spec PyProof.Rows L2
/-- a class as it stands: what it stands above -/
structure Look (K : PySem.W.Frag) (C : Addr) (m : List Value) : Prop where
  cls : ∃ cd, PySem.W.clsIn K C = some cd ∧ cd.mro = .ref C :: m
  tyC : PySem.W.typeIn K (.ref C) = some (.type "type")
section
variable {K : PySem.W.Frag} {C D : Addr} {m m' : List Value}
theorem Look.mro (h : Look K C m) (v : Value) : PySem.W.mroIn K C v = some ((Value.ref C :: m).contains v) := by
  obtain ⟨cd, h1, h2⟩ := h.cls
  unfold PySem.W.mroIn
  rw [h1, Option.bind_some, h2]
  rfl
theorem Look.kit (h : Look K C m) (g : Look K D m') :
    PySem.W.kitOne K (.ref C) (.ref D) = some ((Value.ref C :: m).contains (.ref D)) := by
  obtain ⟨cd, h1, h2⟩ := g.cls
  unfold PySem.W.kitOne PySem.W.kitCls
  by_cases e : (Value.ref C == Value.ref D) = true
  · rw [if_pos e]
    obtain rfl := Value.ref.inj (beq_iff_eq.mp e)
    simp
  · rw [if_neg e]
    have e2 : ((PySem.W.clsIn K D).isSome && PySem.W.typeIn K (.ref D) == some (.type "type")) = true := by
      rw [h1, g.tyC]
      rfl
    simp only [e2, if_true]
    exact h.mro _
theorem Look.exm (h : Look K C m) (g : Look K D m') (hb : m'.contains (.type "BaseException") = true) (hne : C ≠ D) :
    PySem.W.exmOne K (.ref C) (.ref D) = some ((Value.ref C :: m).contains (.ref D)) := by
  obtain ⟨cd, h1, h2⟩ := g.cls
  have e2 : ((PySem.W.clsIn K D).isSome && PySem.W.typeIn K (.ref D) == some (.type "type")) = true := by
    rw [h1, g.tyC]
    rfl
  have e1 : PySem.W.subIn K (.ref D) (.type "BaseException") = some true := by
    show PySem.W.mroIn K D _ = _
    rw [g.mro, List.contains_cons, hb, Bool.or_true]
  unfold PySem.W.exmOne PySem.W.kitCls
  rw [e1, if_pos (by decide)]
  simp only [e2, if_true]
  exact h.mro _
theorem Look.exs (g : Look K D m') (hb : m'.contains (.type "BaseException") = true) :
    PySem.W.exmOne K (.ref D) (.ref D) = some true := by
  obtain ⟨cd, h1, h2⟩ := g.cls
  have e2 : ((PySem.W.clsIn K D).isSome && PySem.W.typeIn K (.ref D) == some (.type "type")) = true := by
    rw [h1, g.tyC]
    rfl
  have e1 : PySem.W.subIn K (.ref D) (.type "BaseException") = some true := by
    show PySem.W.mroIn K D _ = _
    rw [g.mro, List.contains_cons, hb, Bool.or_true]
  unfold PySem.W.exmOne PySem.W.kitCls
  rw [e1, if_pos (by decide)]
  simp only [e2, if_true]
  show PySem.W.mroIn K D _ = _
  rw [g.mro]
  simp
theorem Look.kitT (h : Look K C m) {T : String} (hk : PySem.W.kitMeta T = true) :
    PySem.W.kitOne K (.ref C) (.type T) = some (m.contains (.type T)) := by
  have e : (Value.ref C == Value.type T) = false := rfl
  unfold PySem.W.kitOne PySem.W.kitCls
  rw [e, if_neg Bool.false_ne_true]
  simp only [hk, if_true]
  show PySem.W.mroIn K C _ = _
  have e' : (Value.type T == Value.ref C) = false := rfl
  rw [h.mro, List.contains_cons, e', Bool.false_or]
end

section
variable {K : PySem.W.Frag} {mg : Str → Option Value} {h : Heap}
/-- what is the same of all errors -/
structure MethO (K : PySem.W.Frag) : Prop where
  hn : PySem.W.specialIn K (.builtin "object.__class__") "__get__" = some (some (.builtin "getset_descriptor.__get__"))
  ht : PySem.W.takesIn K (.builtin "object.__class__") = some true
theorem look_mk {x qn : Str} {C N : Addr} {bs bm : List Value} {sn : List Str} {sub : List Value} {ab : Bool} {col : Option Bool} {dd : Option Addr} {m0 m1 m2 m3 m5 : Option Value} {newId : String}
    (xL : K.lookup C = some (excClassObj x qn C N bs bm true sn sub ab col dd m0 m1 m2 m3 m5 newId))
    (tC : PySem.W.typeIn K (.ref C) = some (.type "type")) : Look K C bm :=
  ⟨⟨{ name := x, bases := bs, mro := .ref C :: bm, ns := N, qualname := qn, hasDict := true, slotNames := sn, subclasses := sub, abstract := ab, collection := col, hasDel := false },
    by unfold PySem.W.clsIn; rw [xL] <;> rfl, rfl⟩, tC⟩
theorem cl_mk {x q field qn : Str} {B newId : String} {st : Stmt} {C CB f N : Addr} {bs tl : List Value} {sn : List Str} {sub : List Value} {ab : Bool} {col : Option Bool} {dd : Option Addr} {m0 m1 m2 m3 m5 : Option Value}
    {oc : Value} {od an : Option Addr} {osl : Array (Option Value)} {kV doc pm cdv ct : Value} (X : K.In h) (G : h.Ns mainGlobals mg) (F : Fit newId tl) (hBt : tl.contains (.type B) = true) (hOb : tl.contains (.type "object") = true) (M : MethO K)
    (aC : PySem.W.nsIn K mainGlobals x = some (some (.ref C)))
    (xL : K.lookup C = some (excClassObj x qn C N bs (.ref CB :: tl) true sn sub ab col dd m0 m1 m2 m3 m5 newId))
    (sa : PySem.W.findIn K (.ref C) "__setattr__" = some (some (.builtin "object.__setattr__")))
    (eC : PySem.W.subIn K (.ref C) (.type "BaseException") = some true) (tC : PySem.W.typeIn K (.ref C) = some (.type "type"))
    (kC : PySem.W.keepIn K (.ref C) = true) (i1 : PySem.W.findIn K (.ref C) "__init__" = some (some (.ref f)))
    (t1 : PySem.W.typeIn K (.ref f) = some (.type "function"))
    (l1 : K.lookup f = some ⟨oc, od, .func (PySem.W.fnOf "__init__" q (defArgs st) (defBody st) (defScope st) .none kV doc pm an cdv ct), osl⟩)
    (c1 : PySem.W.codeIn K cdv q = true) (k1 : PySem.W.keepIn K (.ref f) = true)
    (hg : PySem.W.findIn K (.ref C) "__getattribute__" = some (some (.builtin "BaseException.__getattribute__")))
    (hk : PySem.W.findIn K (.ref C) "__getattr__" = some none) (hd : PySem.W.hasDictIn K C = true)
    (ha : PySem.W.findIn K (.ref C) "__class__" = some (some (.builtin "object.__class__")))
    (nF : PySem.W.findIn K (.ref C) field = some none) : Cl K mg x q field B st C ∧ Look K C (.ref CB :: tl) ∧ ExcC K C := by
  have L := look_mk xL tC
  refine ⟨⟨PySem.W.mg_of X G aC, ⟨⟨newId, x, qn, N, bs, _, sn, sub, ab, col, dd, m0, m1, m2, m3, m5, xL, (F.up CB).up C⟩, sa, eC, tC, kC⟩, ?_, nF, f, _, i1, t1, fun_mk (st := st) l1 c1 k1⟩,
    L, ⟨hg, hk, eC, hd, ha, M.hn, M.ht, ?_⟩⟩
  · rw [L.mro, List.contains_cons, List.contains_cons, hBt, Bool.or_true, Bool.or_true]
  · rw [L.mro, List.contains_cons, List.contains_cons, hOb, Bool.or_true, Bool.or_true]
theorem fam_mk {x q qn : Str} {B newId : String} {st : Stmt} {C f N : Addr} {bs tl : List Value} {sn : List Str} {sub : List Value} {ab : Bool} {col : Option Bool} {dd : Option Addr} {m0 m1 m2 m3 m5 : Option Value}
    {oc : Value} {od an : Option Addr} {osl : Array (Option Value)} {kV doc pm cdv ct : Value} (X : K.In h) (G : h.Ns mainGlobals mg) (F : Fit newId tl) (hBt : tl.contains (.type B) = true) (hOb : tl.contains (.type "object") = true) (M : MethO K)
    (aC : PySem.W.nsIn K mainGlobals x = some (some (.ref C)))
    (xL : K.lookup C = some (excClassObj x qn C N bs tl true sn sub ab col dd m0 m1 m2 m3 m5 newId))
    (sa : PySem.W.findIn K (.ref C) "__setattr__" = some (some (.builtin "object.__setattr__")))
    (eC : PySem.W.subIn K (.ref C) (.type "BaseException") = some true) (tC : PySem.W.typeIn K (.ref C) = some (.type "type"))
    (kC : PySem.W.keepIn K (.ref C) = true) (i1 : PySem.W.findIn K (.ref C) "__init__" = some (some (.ref f)))
    (t1 : PySem.W.typeIn K (.ref f) = some (.type "function"))
    (l1 : K.lookup f = some ⟨oc, od, .func (PySem.W.fnOf "__init__" q (defArgs st) (defBody st) (defScope st) .none kV doc pm an cdv ct), osl⟩)
    (c1 : PySem.W.codeIn K cdv q = true) (k1 : PySem.W.keepIn K (.ref f) = true)
    (hg : PySem.W.findIn K (.ref C) "__getattribute__" = some (some (.builtin "BaseException.__getattribute__")))
    (hk : PySem.W.findIn K (.ref C) "__getattr__" = some none) (hd : PySem.W.hasDictIn K C = true)
    (ha : PySem.W.findIn K (.ref C) "__class__" = some (some (.builtin "object.__class__")))
    (sg : PySem.W.specialIn K (.ref C) "__getattribute__" = some (some (.builtin "type.__getattribute__")))
    (rd : PySem.W.readsIn K C (.type "type") = true)
    (at_ : PySem.W.findCls K (.ref C) (.type "type") "__init__" = some (.val (.ref f))) : Fam K mg x q B st C f ∧ Look K C tl ∧ ExcC K C := by
  have L := look_mk xL tC
  refine ⟨⟨PySem.W.mg_of X G aC, ⟨⟨newId, x, qn, N, bs, _, sn, sub, ab, col, dd, m0, m1, m2, m3, m5, xL, F.up C⟩, sa, eC, tC, kC⟩, ?_, sg, rd, at_, i1, t1, _, fun_mk (st := st) l1 c1 k1⟩,
    L, ⟨hg, hk, eC, hd, ha, M.hn, M.ht, ?_⟩⟩
  · rw [L.mro, List.contains_cons, hBt, Bool.or_true]
  · rw [L.mro, List.contains_cons, hOb, Bool.or_true]
end
def iniB (B initId : String) : Fb := fun K => match PySem.W.findCls K (.type B) (.type "type") "__init__" with
  | some (.val v) => decide (v = .builtin initId)
  | _ => false
def hnB : Fb := fun K => He.eqO (PySem.W.specialIn K (.builtin "object.__class__") "__get__") (some (some (.builtin "getset_descriptor.__get__")))
def htB : Fb := fun K => decide (PySem.W.takesIn K (.builtin "object.__class__") = some true)
def clC (x : Str) : Fb := fun K => He.eqO (PySem.W.findIn K (.ref (He.ga K x)) "__setattr__") (some (some (.builtin "object.__setattr__"))) &&
  (decide (PySem.W.subIn K (.ref (He.ga K x)) (.type "BaseException") = some true) && (decide (PySem.W.typeIn K (.ref (He.ga K x)) = some (.type "type")) && (PySem.W.keepIn K (.ref (He.ga K x)) &&
  (He.eqO (PySem.W.findIn K (.ref (He.ga K x)) "__init__") (some (some (.ref (He.ma K (He.ga K x) "__init__")))) && (decide (PySem.W.typeIn K (.ref (He.ma K (He.ga K x) "__init__")) = some (.type "function")) &&
  (He.eqO (PySem.W.findIn K (.ref (He.ga K x)) "__getattribute__") (some (some (.builtin "BaseException.__getattribute__"))) && (He.eqO (PySem.W.findIn K (.ref (He.ga K x)) "__getattr__") (some none) &&
  (PySem.W.hasDictIn K (He.ga K x) && He.eqO (PySem.W.findIn K (.ref (He.ga K x)) "__class__") (some (some (.builtin "object.__class__")))))))))))
def clB (x fam field : Str) (tl : List Value) (newId : String) : Fb := fun K => (He.Fa.glo x).ok K && (xcB K (He.ga K x) (.ref (He.ga K fam) :: tl) newId x && (clC x K &&
  He.eqO (PySem.W.findIn K (.ref (He.ga K x)) field) (some none)))
def fmB (x : Str) (tl : List Value) (newId : String) : Fb := fun K => (He.Fa.glo x).ok K && (xcB K (He.ga K x) tl newId x && (clC x K &&
  (He.eqO (PySem.W.specialIn K (.ref (He.ga K x)) "__getattribute__") (some (some (.builtin "type.__getattribute__"))) && (PySem.W.readsIn K (He.ga K x) (.type "type") &&
  (match PySem.W.findCls K (.ref (He.ga K x)) (.type "type") "__init__" with
  | some (.val v) => decide (v = .ref (He.ma K (He.ga K x) "__init__"))
  | _ => false)))))
abbrev dfN (x : Str) (st : Stmt) : He.DefD := ⟨(x, none), x, x, defArgs st, defBody st, defScope st, [], []⟩
abbrev dfI (x q : Str) (st : Stmt) : He.DefD := ⟨(x, some "__init__"), "__init__", q, defArgs st, defBody st, defScope st, [], []⟩
section
variable {K : PySem.W.Frag} {h : Heap} {mg : Str → Option Value}
theorem iniB_ok {B initId : String} (c : iniB B initId K = true) : PySem.W.findCls K (.type B) (.type "type") "__init__" = some (.val (.builtin initId)) := by
  unfold iniB at c
  split at c
  · rename_i v e
    rw [e, of_decide_eq_true c]
  · cases c
theorem clB_ok {x q field fam : Str} {B newId : String} {st : Stmt} {tl : List Value} (X : K.In h) (G : h.Ns mainGlobals mg) (F : Fit newId tl) (hBt : tl.contains (.type B) = true) (hOb : tl.contains (.type "object") = true) (M : MethO K)
    (c : clB x fam field tl newId K = true) (D : ∃ fd, FunD K "__init__" q (defArgs st) (defBody st) (defScope st) [] [] (He.ma K (He.ga K x) "__init__") fd) :
    Cl K mg x q field B st (He.ga K x) ∧ Look K (He.ga K x) (.ref (He.ga K fam) :: tl) ∧ ExcC K (He.ga K x) := by
  obtain ⟨c1, c⟩ := He.ba c
  obtain ⟨c2, c⟩ := He.ba c
  obtain ⟨c3, c4⟩ := He.ba c
  obtain ⟨e1, c3⟩ := He.ba c3
  obtain ⟨e2, c3⟩ := He.ba c3
  obtain ⟨e3, c3⟩ := He.ba c3
  obtain ⟨e4, c3⟩ := He.ba c3
  obtain ⟨e5, c3⟩ := He.ba c3
  obtain ⟨e6, c3⟩ := He.ba c3
  obtain ⟨e7, c3⟩ := He.ba c3
  obtain ⟨e8, c3⟩ := He.ba c3
  obtain ⟨e9, e10⟩ := He.ba c3
  obtain ⟨qn, N, bs, sn, sub, ab, col, dd, m0, m1, m2, m3, m5, xL⟩ := xcB_ok c2
  obtain ⟨fd, DF⟩ := D
  obtain ⟨oc, od, dV, kV, doc, pm, an, cdv, ct, osl, rfl, lk, hcd, hD, _⟩ := DF.ex
  rcases hD with ⟨_, rfl⟩ | ⟨z, _⟩
  · exact cl_mk X G F hBt hOb M (He.eqO_ok c1) xL (He.eqO_ok e1) (of_decide_eq_true e2) (of_decide_eq_true e3) e4 (He.eqO_ok e5) (of_decide_eq_true e6) lk hcd DF.kp (He.eqO_ok e7) (He.eqO_ok e8) e9 (He.eqO_ok e10) (He.eqO_ok c4)
  · exact absurd rfl z
theorem fmB_ok {x q : Str} {B newId : String} {st : Stmt} {tl : List Value} (X : K.In h) (G : h.Ns mainGlobals mg) (F : Fit newId tl) (hBt : tl.contains (.type B) = true) (hOb : tl.contains (.type "object") = true) (M : MethO K)
    (c : fmB x tl newId K = true) (D : ∃ fd, FunD K "__init__" q (defArgs st) (defBody st) (defScope st) [] [] (He.ma K (He.ga K x) "__init__") fd) :
    Fam K mg x q B st (He.ga K x) (He.ma K (He.ga K x) "__init__") ∧ Look K (He.ga K x) tl ∧ ExcC K (He.ga K x) := by
  obtain ⟨c1, c⟩ := He.ba c
  obtain ⟨c2, c⟩ := He.ba c
  obtain ⟨c3, c⟩ := He.ba c
  obtain ⟨s1, c⟩ := He.ba c
  obtain ⟨s2, s3⟩ := He.ba c
  obtain ⟨e1, c3⟩ := He.ba c3
  obtain ⟨e2, c3⟩ := He.ba c3
  obtain ⟨e3, c3⟩ := He.ba c3
  obtain ⟨e4, c3⟩ := He.ba c3
  obtain ⟨e5, c3⟩ := He.ba c3
  obtain ⟨e6, c3⟩ := He.ba c3
  obtain ⟨e7, c3⟩ := He.ba c3
  obtain ⟨e8, c3⟩ := He.ba c3
  obtain ⟨e9, e10⟩ := He.ba c3
  obtain ⟨qn, N, bs, sn, sub, ab, col, dd, m0, m1, m2, m3, m5, xL⟩ := xcB_ok c2
  obtain ⟨fd, DF⟩ := D
  obtain ⟨oc, od, dV, kV, doc, pm, an, cdv, ct, osl, rfl, lk, hcd, hD, _⟩ := DF.ex
  have at_ : PySem.W.findCls K (.ref (He.ga K x)) (.type "type") "__init__" = some (.val (.ref (He.ma K (He.ga K x) "__init__"))) := by
    split at s3
    · rename_i v e
      rw [e, of_decide_eq_true s3]
    · cases s3
  rcases hD with ⟨_, rfl⟩ | ⟨z, _⟩
  · exact fam_mk X G F hBt hOb M (He.eqO_ok c1) xL (He.eqO_ok e1) (of_decide_eq_true e2) (of_decide_eq_true e3) e4 (He.eqO_ok e5) (of_decide_eq_true e6) lk hcd DF.kp (He.eqO_ok e7) (He.eqO_ok e8) e9 (He.eqO_ok e10) (He.eqO_ok s1) s2 at_
  · exact absurd rfl z
end
theorem typ_of_cl {x fam field : Str} {tl : List Value} {newId : String} {K : PySem.W.Frag} (c : clB x fam field tl newId K = true) : PySem.W.typeIn K (.ref (He.ga K x)) = some (.type "type") := by
  obtain ⟨_, c⟩ := He.ba c
  obtain ⟨_, c⟩ := He.ba c
  obtain ⟨c3, _⟩ := He.ba c
  obtain ⟨_, c3⟩ := He.ba c3
  obtain ⟨_, c3⟩ := He.ba c3
  obtain ⟨e3, _⟩ := He.ba c3
  exact of_decide_eq_true e3
/-- what the head finds of a def with keyword-only defaults -/
theorem atDOf {K : PySem.W.Frag} {h : Heap} {mg : Str → Option Value} {x : Str} {st : Stmt} {kws : List (Str × V)} (X : K.In h) (G : h.Ns mainGlobals mg) (g : (He.Fa.glo x).ok K = true)
    (F : ∃ fd, FunD K x x (defArgs st) (defBody st) (defScope st) [] kws (He.ga K x) fd) : AtD K mg x st kws :=
  let ⟨fd, F⟩ := F
  ⟨_, fd, F, He.glo_ok X G g⟩
end Pw

/-! Methods that let own errors out. -/
namespace Pw
open PySem PySem.Spec PyProof.Rows L2
section
variable (P : Program) (w : World) (K : PySem.W.Frag) (mg : Str → Option Value) (base : Heap)
/-- the method m of the class at C keeps the promise sp, errors too -/
structure DefME (C : Addr) (m : Str) (k : Nat) (ps : List Str) (sp : Sp) : Prop where
  ex : ∃ f fd, Meth K C m f ∧ Binds K fd ps [] ∧ FnOk P w K mg base (L2.CX P w) k f fd ps sp
end
section
variable {P : Program} {w : World} {K : PySem.W.Frag} {mg : Str → Option Value} {base : Heap}
theorem mkDefME {C : Addr} {m q : Str} {st : Stmt} {N ps : List Str} {k : Nat} {sp : Sp} (A : AtMt K C m q st) (S : FnScope N ps (defScope st))
    (hb : ∀ (kV doc pm : Value) (an : Option Addr) (cdv ct : Value) (us : List Value), us.length = ps.length →
      bindArgs (PySem.W.fnOf m q (defArgs st) (defBody st) (defScope st) .none kV doc pm an cdv ct) ⟨us, []⟩ = pure (ps.zip us))
    (len : ∀ vs H Q E, sp vs H Q E → vs.length = ps.length)
    (body : ∀ (f : Addr) (cdv : Value) (A : Around) (out : List Env) (s : Shared) (H : Hp) (vs : List V) (Q : VK) (E : XK),
      Room k (A.deeper (envOfC q (defScope st) s.heap.objs.size f cdv)) → sp vs H Q E →
      ∃ t, PSs (cxOf (L2.CX P w) P w K mg base N q (defScope st) f cdv A out s H E) (defBody st) t ∧
        t { nx := fun _ H' => Q .non H', rt := Q } (start N vs) H) : DefME P w K mg base C m (k + 1) ps sp := by
  obtain ⟨f, fd, F, M⟩ := A.ex
  exact ⟨f, fd, M, F.binds hb, F.okX S len (body f)⟩
end
section
variable {X : Cx} {m : Str} {C : Addr} {k j : Nat} {ps : List Str} {sp : Sp} {W : WX} {o : Expr} {pos apos : Pos} {e : Expr} {es : List Expr} {ta : TE} {t : TA}
/-- x.m(..), errors let out -/
def tMethE (C : Addr) (m : Str) (sp : Sp) (W : WX) (ta : TE) (t : TA) : TE := fun σ H Q => ta σ H fun x H1 => ∃ a dx fs, x = .ref a ∧ H1 a = some (.ins C dx fs) ∧ fs.lookup m = none ∧
  t σ H1 fun vs H2 => sp (x :: vs) H2 Q (WE W σ)
theorem pe_mmE {pl : Sem Bool} (he : PE X o ta) (c : Cls X.K C) (D : DefME X.prog X.w X.K X.mg X.base C m k ps sp) (tk : Takes X W) (hr : Room j X.A) (hk : k ≤ j) (ha : PA X (e :: es) t)
    (hst : starEach (e :: es) X.env = (false, eval e X.env) :: starEach es X.env := by rfl) (hpl : (backTo pos (starEach es X.env)).any (·.1) = false := by rfl)
    (ht : eval (.Call (.Attribute o m apos) (e :: es) [] pos) X.env = (do
      let ov ← eval o X.env
      standAt apos.atName
      let (f, first) ← holding [ov] (getMethod ov m pl)
      callWith pos f first (backTo pos (starEach (e :: es) X.env)) (backToKw pos (keywordEach [] X.env))) := by rfl) :
    PE X (.Call (.Attribute o m apos) (e :: es) [] pos) (tMethE C m sp W ta t) := by
  obtain ⟨f, fd, M, b, F⟩ := D.ex
  refine ⟨fun pins s σ H Q I h => PySem.W.methodCall_KW (pl := pl) (thn (he.run pins s σ H _ I h) fun u s1 ⟨x, H1, I1, rx, a, dx, fs, ex, ea, l, q⟩ => ?_) ht⟩
  subst ex
  obtain rfl : u = Value.ref a := rx
  exact getmeth_ok I1 ea c M l (PySem.W.callWith_K (first := [.ref a]) (h₀ := X.base) I.ok.mod.kin M.kp
    (thn (ha.run pos pins s1 σ H1 _ I1 q) fun us s2 ⟨vs, H2, I2, r, q2⟩ => ⟨I2.kIn, run_fnSD (us := .ref a :: us) (vs := .ref a :: vs) F (hr.mono hk) b .nil (passAt tk σ) I2 (.cons rfl r) (by
      rw [List.append_nil]
      exact q2)⟩) hst hpl)
end
end Pw

/-! What the head finds of a class's methods. -/
namespace Pw
open PySem PySem.Spec PyProof.Rows L2
section
variable {K : PySem.W.Frag}
theorem atMtOf {x m q : Str} {st : Stmt} (g : (He.Fa.meth x m).ok K = true) (F : ∃ fd, FunD K m q (defArgs st) (defBody st) (defScope st) [] [] (He.ma K (He.ga K x) m) fd) : AtMt K (He.ga K x) m q st :=
  let ⟨fd, F⟩ := F
  ⟨_, fd, funOf F, He.meth_ok g⟩
theorem iniOf {x q : Str} {st : Stmt} (F : ∃ fd, FunD K "__init__" q (defArgs st) (defBody st) (defScope st) [] [] (He.ma K (He.ga K x) "__init__") fd) : ∃ fd, Fun K "__init__" q st (He.ma K (He.ga K x) "__init__") fd :=
  let ⟨fd, F⟩ := F
  ⟨fd, funOf F⟩
end
end Pw

/-! Making an instance by an own __init__ with keyword-only defaults: some told, the rest left out. -/
namespace Pw
open PySem PySem.Spec PyProof.Rows L2
theorem kw_vals {K : PySem.W.Frag} {D : Addr} : ∀ {ms : List (Str × V)}, (∀ q ∈ ms, ∃ u, PySem.W.nsIn K D q.1 = some (some u) ∧ RelV q.2 u) →
    ∃ mv, Vals (ms.map (·.2)) mv ∧ mv.length = ms.length ∧ ∀ q ∈ (ms.map (·.1)).zip mv, PySem.W.nsIn K D q.1 = some (some q.2)
  | [], _ => ⟨[], .nil, rfl, fun q h => by cases h⟩
  | m :: ms, h => by
    obtain ⟨u, e, r⟩ := h m (by simp)
    obtain ⟨mv, v, l, k⟩ := kw_vals (ms := ms) fun q hq => h q (by simp [hq])
    refine ⟨u :: mv, .cons r v, by simp [l], fun q hq => ?_⟩
    simp only [List.map_cons, List.zip_cons_cons, List.mem_cons] at hq
    rcases hq with rfl | hq
    · exact e
    · exact k q hq
theorem kbn_of {K : PySem.W.Frag} {x qual : Str} {params : Arguments} {body : List Stmt} {scope : Scope} {kws ms : List (Str × V)} {f : Addr} {fd : FuncData} {ps ks : List Str} {n : Nat}
    (F : FunD K x qual params body scope [] kws f fd) (g : {α : Type} → List α → List α → List α → List α) (hk : kws ≠ []) (hms : ∀ q ∈ ms, q ∈ kws)
    (hg : ∀ {vs mz zs : List V} {us mv ws : List Value}, Vals vs us → Vals mz mv → Vals zs ws → Vals (g vs mz zs) (g us mv ws))
    (hb : ∀ (D : Addr) (doc pm : Value) (an : Option Addr) (cdv ct : Value) (us mv ws : List Value), us.length = n → mv.length = ms.length → ws.length = ks.length →
      KwChain D ((ms.map (·.1)).zip mv) (bindArgs (PySem.W.fnOf x qual params body scope .none (.ref D) doc pm an cdv ct) ⟨us, ks.zip ws⟩) (ps.zip (g us mv ws))) :
    ∃ mv, KBn K fd ps n ks (fun us ws => g us mv ws) (fun vs zs => g vs (ms.map (·.2)) zs) := by
  obtain ⟨oc, od, dV, kV, doc, pm, an, cdv, ct, osl, rfl, lk, hcd, hD, hK⟩ := F.ex
  rcases hD with ⟨_, rfl⟩ | ⟨e, _⟩
  · rcases hK with e | ⟨D, rfl, hK⟩
    · exact absurd e hk
    · obtain ⟨mv, v, l, h⟩ := kw_vals (K := K) (D := D) (ms := ms) fun q hq => hK q (hms q hq)
      refine ⟨mv, ⟨fun s us ws X l1 l2 => ?_, fun hv hz => hg hv v hz⟩⟩
      intro M A E Q q
      exact KwChain.looks X (fun q hq => h q hq) (hb D doc pm an cdv ct us mv ws l1 l l2) A Q E s (fun _ _ e => e) q
  · exact absurd rfl e
section
variable (P : Program) (w : World) (K : PySem.W.Frag) (mg : Str → Option Value) (base : Heap)
/-- under its name x the class at C stands; made of n things and the keywords ks by an __init__ that keeps sp -/
structure MadeK (x : Str) (C : Addr) (k : Nat) (ps : List Str) (n : Nat) (ks : List Str) (gV : List V → List V → List V) (sp : Sp) : Prop where
  ex : ∃ f fd g, mg x = some (.ref C) ∧ Mk K C f ∧ KBn K fd ps (n + 1) ks g gV ∧ FnOk P w K mg base CX0 k f fd ps sp
end
section
variable {P : Program} {w : World} {K : PySem.W.Frag} {mg : Str → Option Value} {base : Heap}
theorem mkFnI {m q : Str} {st : Stmt} {kws : List (Str × V)} {f : Addr} {fd : FuncData} {N ps : List Str} {k : Nat} {sp : Sp}
    (F : FunD K m q (defArgs st) (defBody st) (defScope st) [] kws f fd) (S : FnScope N ps (defScope st))
    (len : ∀ vs H Q E, sp vs H Q E → vs.length = ps.length)
    (body : ∀ (f : Addr) (cdv : Value) (A : Around) (out : List Env) (s : Shared) (H : Hp) (vs : List V) (Q : VK) (E : XK),
      Room k (A.deeper (envOfC q (defScope st) s.heap.objs.size f cdv)) → sp vs H Q E →
      ∃ t, PSs (cxOf CX0 P w K mg base N q (defScope st) f cdv A out s H E).nox (defBody st) t ∧
        t { nx := fun _ H' => Q .non H', rt := Q } (start N vs) H) : FnOk P w K mg base CX0 (k + 1) f fd ps sp :=
  F.ok S len fun cdv A out s H vs Q E hr hs =>
    let ⟨t, h, q⟩ := body f cdv A out s H vs Q E hr hs
    ⟨t, h.nox, q⟩
end
section
variable {X : Cx} {x : Str} {C : Addr} {k j n : Nat} {ps ks : List Str} {sp : Sp} {p pos : Pos} {e : Expr} {es : List Expr} {t tk : TA} {gV : List V → List V → List V} {kws : List Keyword}
theorem pe_mk (D : MadeK X.prog X.w X.K X.mg X.base x C k ps n ks gV sp) (hr : Room j X.A) (hk : k + 1 ≤ j) (hg : Gl X x) (ha : PA X (e :: es) t) (hkw : PK X kws tk)
    (hall : (backToKw pos (keywordEach kws X.env)).all (·.1.isSome) = true := by rfl) (hks : (backToKw pos (keywordEach kws X.env)).filterMap (·.1) = ks := by rfl)
    (hdb : (x == ("__debug__" : Str)) = false := by decide)
    (he : starEach (e :: es) X.env = (false, eval e X.env) :: starEach es X.env := by rfl)
    (hpl : ((backTo pos (starEach (e :: es) X.env)).any (·.1) || (backToKw pos (keywordEach kws X.env)).any (·.1.isNone)) = false := by rfl) :
    PE X (.Call (.Name x p) (e :: es) kws pos) (tMakeK C n ks.length sp gV E0 t tk) := by
  obtain ⟨f, fd, g, m, M, b, F⟩ := D.ex
  exact pe_makeK M F (hr.mono hk) hg m b pass0 ha hkw hall hks hdb he hpl
end
end Pw

namespace V10
open PySem PySem.Spec PyProof.Rows L2 Pw
/-- a walk over nothing -/
theorem for_none {J : It} {n : Nat} {G : Hp → Prop} {Y : Nat → Hp → V → Hp → Prop} (w : Walk J n G Y) (hn : n = 0) {g : TG} {tb : TS} {D : Ends} {σ : L2.St} {H : Hp} (hG : G H) (k : D.nx σ H) :
    ∃ W : Nat → Nat → L2.St → Hp → Prop, (∃ m, W 0 m σ H) ∧ ∀ i m σ H, W i m σ H → J.stop i H ∧ D.nx σ H ∨ J.go i H ∧ ∃ N : L2.St → Hp → Prop, (∀ σ' H', N σ' H' → ∃ m', m' < m ∧ W (i + 1) m' σ' H') ∧
      ∀ x H', J.yld i H x H' → g x σ H' fun σ2 H2 => tb { nx := N, rt := D.rt, bk := D.nx, ct := N } σ2 H2 := by
  subst hn
  refine for_it w (fun i σ' H' => σ' = σ ∧ H' = H) ⟨rfl, rfl⟩ (fun i σ' H' _ h => h.2 ▸ hG) (fun i x σ' H' H'' hi => absurd hi (by omega)) fun σ' H' h => ?_
  rw [h.1, h.2]
  exact k
section
variable {P : Program} {w : World} {K : PySem.W.Frag} {mg : Str → Option Value} {base : Heap}
def no : Sp := fun _ _ _ _ => False
theorem At.fnr {x : Str} {st : Stmt} (A : At K mg x st) : ∃ f, mg x = some (.ref f) ∧ PySem.W.keepIn K (.ref f) = true ∧ FnR P w K mg base CX0 1 f no := by
  obtain ⟨f, fd, F, m⟩ := A.ex
  exact ⟨f, m, F.kp, fun A out s H us vs Q E _ _ _ h => h.elim⟩
/-- nothing at all, and something else -/
def spNone (K : PySem.W.Frag) : Sp := fun vs H Q _ => ∃ (a : Addr) (x : V), vs = [.ref a, x] ∧ Sq K H a [] ∧ ∀ H', Same H H' → Q .non H'
def spNone2 (K : PySem.W.Frag) : Sp := fun vs H Q _ => ∃ (a d : Addr), vs = [.ref a, .ref d] ∧ Sq K H a [] ∧ H d = some (.dK []) ∧ ∀ H', Same H H' → Q .non H'
theorem d_rules0 (T : Txt mg) (A : At K mg "check_rules" sCheckRules) (aS : At K mg "is_rule_shape" sIsRuleShape) (aLO : At K mg "is_list_of" sIsListOf) (dl : Def P w K mg base "is_list" 1 ["thing", "least", "most"] (spList K)) :
    Def P w K mg base "check_rules" 5 ["rules", "points"] (spNone K) := by
  obtain ⟨f0, hm0, hk0, F0⟩ := At.fnr (P := P) (w := w) (base := base) aS
  have dLO := d_listOf T aLO dl F0 hk0
  refine mkDef A scCheckRules (fun _ _ _ _ _ _ us hl => match us, hl with | [_, _], _ => rfl) (fun vs H Q E ⟨_, _, e, _⟩ => by rw [e]; rfl)
    (fun f cdv A out s H vs Q E hr h => ?_)
  obtain ⟨a, x, rfl, hs, k⟩ := h
  have hu : (A.deeper (envOfC "check_rules" (defScope sCheckRules) s.heap.objs.size f cdv)).units + 1 < cLine := hu_of hr
  refine ⟨_, (pss_cons (ps_if (pt_not (pt_val (pe_d dLO hr (by decide) (by rfl) (pa_cons (pe_glob (v := V.ref f0) (by rfl) hm0 rfl) (pa_cons (pv 0) (pa_cons pe_int (pa_cons (pe_gi T.c_MOST_RULES) pa_nil)))))))
      (pss_one ps_never)
      pss_nil)
    (pss_cons (ps_set (i := 2) scCheckRules.nd rfl (.inl rfl) (pe_lst pa_nil))
    (pss_one (ps_for PassesOwn.never rfl (pi_sq (pv 0)) (pg_name (i := 3) scCheckRules.nd rfl (.inl rfl))
      (pss_cons (ps_par (i := 4) (j := 5) rfl scCheckRules.nd rfl rfl (by decide) rfl rfl (pa_cons (pe_ix (r := rIxT K) ix_tup (pv 3) pe_int (fun _ _ => rfl)) (pa_cons (pe_ix (r := rIxT K) ix_tup (pv 3) pe_int (fun _ _ => rfl)) pa_nil)) rfl)
      (pss_cons (ps_if (pt_cmpR op_in_seq (pv 4) (pv 2) (by rfl))
        (pss_one ps_never)
        pss_nil)
      (pss_cons (ps_if (pt_cmp (pc_dnotin hu (pv 5) (pv 1)))
        (pss_one ps_never)
        pss_nil)
      (pss_one (ps_expr (pe_bm PySem.F.plainAttrs_list PySem.F.slot_list_append PySem.F.type_list_append mt_append (pv 2) (pa_cons (pv 4) pa_nil))))))))))), ?_⟩
  refine ⟨_, rfl, a, [], 0, 6, rfl, hs, by decide, by decide, by decide, (fun v hv => by cases hv), fun H1 S1 => ?_⟩
  refine ⟨_, rfl, iteF ?_⟩
  refine ⟨by show 0 ≤ sizeLine; decide, fun L nL => ?_⟩
  have S2 := S1.trans (Same.laid (o := HO.lst []) nL)
  generalize upd H1 L (.lst []) = H2 at *
  refine ⟨_, rfl, a, [], rfl, hs.same S2, fun J G hG wk => ?_⟩
  exact for_none wk rfl (hG _ (Same.refl _)) (k _ S2)
theorem d_causes0 (T : Txt mg) (A : At K mg "check_causes" sCheckCauses) (aS : At K mg "is_cause_shape" sIsCauseShape) (aL : At K mg "_leads_to_itself" sLeadsToItself) (aLO : At K mg "is_list_of" sIsListOf) (dl : Def P w K mg base "is_list" 1 ["thing", "least", "most"] (spList K)) :
    Def P w K mg base "check_causes" 5 ["causes", "rules"] (spNone2 K) := by
  obtain ⟨f0, hm0, hk0, F0⟩ := At.fnr (P := P) (w := w) (base := base) aS
  have dLO := d_listOf T aLO dl F0 hk0
  have dLd : Def P w K mg base "_leads_to_itself" 1 ["name", "causes"] no := At.any aL (fun _ _ _ _ _ _ us hl => match us, hl with | [_, _], _ => rfl) 1 no fun _ _ _ _ h => h
  refine mkDef A scCheckCauses (fun _ _ _ _ _ _ us hl => match us, hl with | [_, _], _ => rfl) (fun vs H Q E ⟨_, _, e, _⟩ => by rw [e]; rfl)
    (fun f cdv A out s H vs Q E hr h => ?_)
  obtain ⟨a, d, rfl, hs, ed, k⟩ := h
  have hu : (A.deeper (envOfC "check_causes" (defScope sCheckCauses) s.heap.objs.size f cdv)).units + 1 < cLine := hu_of hr
  refine ⟨_, (pss_cons (ps_if (pt_not (pt_val (pe_d dLO hr (by decide) (by rfl) (pa_cons (pe_glob (v := V.ref f0) (by rfl) hm0 rfl) (pa_cons (pv 0) (pa_cons pe_int (pa_cons (pe_gi T.c_MOST_CAUSES) pa_nil)))))))
      (pss_one ps_never)
      pss_nil)
    (pss_cons (ps_set (i := 2) scCheckCauses.nd rfl (.inl rfl) (pe_lst pa_nil))
    (pss_cons (ps_for PassesOwn.never rfl (pi_sq (pv 0)) (pg_tup (by rfl) (pgs_cons (pg_name (i := 3) scCheckCauses.nd rfl (.inl rfl)) (pgs_cons (pg_name (i := 4) scCheckCauses.nd rfl (.inl rfl)) (pgs_cons (pg_name (i := 5) scCheckCauses.nd rfl (.inl rfl)) pgs_nil))))
      (pss_cons (ps_for PassesOwn.never rfl (pi_tup (pe_tup (pa_cons (pv 3) (pa_cons (pv 4) pa_nil)))) (pg_name (i := 6) scCheckCauses.nd rfl (.inl rfl))
        (pss_one (ps_if (pt_cmp (pc_dnotin hu (pv 6) (pv 1)))
          (pss_one ps_never)
          pss_nil)))
      (pss_cons (ps_if (pt_cmpR op_in_seq (pe_tup (pa_cons (pv 3) (pa_cons (pv 4) pa_nil))) (pv 2) (by rfl))
        (pss_one ps_never)
        pss_nil)
      (pss_one (ps_expr (pe_bm PySem.F.plainAttrs_list PySem.F.slot_list_append PySem.F.type_list_append mt_append (pv 2) (pa_cons (pe_tup (pa_cons (pv 3) (pa_cons (pv 4) pa_nil))) pa_nil)))))))
    (pss_one (ps_lock (ps_for PassesOwn.never rfl (pi_keys (pv 1)) (pg_name (i := 6) scCheckCauses.nd rfl (.inl rfl))
      (pss_one (ps_if (pt_val (pe_d dLd hr (by decide) (by rfl) (pa_cons (pv 6) (pa_cons (pv 0) pa_nil))))
        (pss_one ps_never)
        pss_nil)))))))), ?_⟩
  refine ⟨_, rfl, a, [], 0, 8, rfl, hs, by decide, by decide, by decide, (fun v hv => by cases hv), fun H1 S1 => ?_⟩
  refine ⟨_, rfl, iteF ?_⟩
  refine ⟨by show 0 ≤ sizeLine; decide, fun L nL => ?_⟩
  have S2 := S1.trans (Same.laid (o := HO.lst []) nL)
  generalize upd H1 L (.lst []) = H2 at *
  refine ⟨_, rfl, a, [], rfl, hs.same S2, fun J G hG wk => ?_⟩
  refine for_none wk rfl (hG _ (Same.refl _)) ?_
  dsimp only [gName]
  have ed2 := S2 _ _ ed
  refine ⟨d, _, ed2, trivial, fun od => ?_⟩
  have ed3 : upd H2 d (.frz od (.dK [])) d = some (.frz od (.dK [])) := upd_same
  have Sr : ∀ G, G = upd H2 d (.frz od (.dK [])) → Same H (upd G d (.dK [])) := by
    rintro G rfl
    rw [upd_upd]
    intro c o e
    by_cases hc : c = d
    · subst hc
      rw [upd_same]
      have := S2 _ _ e
      rw [ed2] at this
      exact this
    · rw [upd_ne hc]
      exact S2 _ _ e
  generalize eH3 : upd H2 d (.frz od (.dK [])) = H3 at *
  refine ⟨_, rfl, d, od, rfl, .inl ⟨[], ed3, ?_⟩⟩
  exact for_none walk_keys rfl ed3 ⟨ed3, k _ (Sr _ rfl)⟩
theorem d_commands0 (T : Txt mg) (A : At K mg "check_commands" sCheckCommands) (aS : At K mg "is_command_shape" sIsCommandShape) (aW : At K mg "is_worth_of" sIsWorthOf) (aC : At K mg "_check_locks" sCheckLocks) (aLO : At K mg "is_list_of" sIsListOf) (dl : Def P w K mg base "is_list" 1 ["thing", "least", "most"] (spList K)) :
    Def P w K mg base "check_commands" 5 ["commands", "points"] (spNone K) := by
  obtain ⟨f0, hm0, hk0, F0⟩ := At.fnr (P := P) (w := w) (base := base) aS
  have dLO := d_listOf T aLO dl F0 hk0
  have dWo : Def P w K mg base "is_worth_of" 1 ["point", "thing"] no := At.any aW (fun _ _ _ _ _ _ us hl => match us, hl with | [_, _], _ => rfl) 1 no fun _ _ _ _ h => h
  have dCl : Def P w K mg base "_check_locks" 1 ["locks", "place", "points"] no := At.any aC (fun _ _ _ _ _ _ us hl => match us, hl with | [_, _, _], _ => rfl) 1 no fun _ _ _ _ h => h
  refine mkDef A scCheckCommands (fun _ _ _ _ _ _ us hl => match us, hl with | [_, _], _ => rfl) (fun vs H Q E ⟨_, _, e, _⟩ => by rw [e]; rfl)
    (fun f cdv A out s H vs Q E hr h => ?_)
  obtain ⟨a, x, rfl, hs, k⟩ := h
  have hu : (A.deeper (envOfC "check_commands" (defScope sCheckCommands) s.heap.objs.size f cdv)).units + 1 < cLine := hu_of hr
  refine ⟨_, (pss_cons (ps_if (pt_not (pt_val (pe_d dLO hr (by decide) (by rfl) (pa_cons (pe_glob (v := V.ref f0) (by rfl) hm0 rfl) (pa_cons (pv 0) (pa_cons pe_int (pa_cons (pe_gi T.c_MOST_COMMANDS) pa_nil)))))))
      (pss_one ps_never)
      pss_nil)
    (pss_cons (ps_set (i := 2) scCheckCommands.nd rfl (.inl rfl) (pe_lst pa_nil))
    (pss_one (ps_for PassesOwn.never rfl (pi_sq (pv 0)) (pg_tup (by rfl) (pgs_cons (pg_name (i := 3) scCheckCommands.nd rfl (.inl rfl)) (pgs_cons (pg_name (i := 4) scCheckCommands.nd rfl (.inl rfl)) (pgs_cons (pg_name (i := 5) scCheckCommands.nd rfl (.inl rfl)) (pgs_cons (pg_name (i := 6) scCheckCommands.nd rfl (.inl rfl)) pgs_nil)))))
      (pss_cons (ps_if (pt_cmpR op_in_seq (pv 3) (pv 2) (by rfl))
        (pss_one ps_never)
        pss_nil)
      (pss_cons (ps_if (pt_cmp (pc_dnotin hu (pv 4) (pv 1)))
        (pss_one ps_never)
        pss_nil)
      (pss_cons (ps_if (pt_not (pt_val (pe_d dWo hr (by decide) (by rfl) (pa_cons (pe_dget hu (pv 1) (pv 4) (fun _ _ => rfl)) (pa_cons (pv 5) pa_nil)))))
        (pss_one ps_never)
        pss_nil)
      (pss_cons (ps_expr (pe_d dCl hr (by decide) (by rfl) (pa_cons (pv 6) (pa_cons (pe_ix (r := rIxT K) ix_tup (pe_dget hu (pv 1) (pv 4) (fun _ _ => rfl)) pe_int (fun _ _ => rfl)) (pa_cons (pv 1) pa_nil)))))
      (pss_one (ps_expr (pe_bm PySem.F.plainAttrs_list PySem.F.slot_list_append PySem.F.type_list_append mt_append (pv 2) (pa_cons (pv 3) pa_nil)))))))))))), ?_⟩
  refine ⟨_, rfl, a, [], 0, 4, rfl, hs, by decide, by decide, by decide, (fun v hv => by cases hv), fun H1 S1 => ?_⟩
  refine ⟨_, rfl, iteF ?_⟩
  refine ⟨by show 0 ≤ sizeLine; decide, fun L nL => ?_⟩
  have S2 := S1.trans (Same.laid (o := HO.lst []) nL)
  generalize upd H1 L (.lst []) = H2 at *
  refine ⟨_, rfl, a, [], rfl, hs.same S2, fun J G hG wk => ?_⟩
  exact for_none wk rfl (hG _ (Same.refl _)) (k _ S2)
theorem d_relations0 (T : Txt mg) (A : At K mg "check_relations" sCheckRelations) (aS : At K mg "is_relation_shape" sIsRelationShape) (aR : At K mg "points_of_relation" sPointsOfRelation) (aO : At K mg "_check_each_once" sCheckEachOnce) (aLO : At K mg "is_list_of" sIsListOf) (dl : Def P w K mg base "is_list" 1 ["thing", "least", "most"] (spList K)) :
    Def P w K mg base "check_relations" 5 ["relations", "points"] (spNone K) := by
  obtain ⟨f0, hm0, hk0, F0⟩ := At.fnr (P := P) (w := w) (base := base) aS
  have dLO := d_listOf T aLO dl F0 hk0
  have dPr : Def P w K mg base "points_of_relation" 1 ["relation"] no := At.any aR (fun _ _ _ _ _ _ us hl => match us, hl with | [_], _ => rfl) 1 no fun _ _ _ _ h => h
  have dO : Def P w K mg base "_check_each_once" 1 ["names"] no := At.any aO (fun _ _ _ _ _ _ us hl => match us, hl with | [_], _ => rfl) 1 no fun _ _ _ _ h => h
  refine mkDef A scCheckRelations (fun _ _ _ _ _ _ us hl => match us, hl with | [_, _], _ => rfl) (fun vs H Q E ⟨_, _, e, _⟩ => by rw [e]; rfl)
    (fun f cdv A out s H vs Q E hr h => ?_)
  obtain ⟨a, x, rfl, hs, k⟩ := h
  have hu : (A.deeper (envOfC "check_relations" (defScope sCheckRelations) s.heap.objs.size f cdv)).units + 1 < cLine := hu_of hr
  refine ⟨_, (pss_cons (ps_if (pt_not (pt_val (pe_d dLO hr (by decide) (by rfl) (pa_cons (pe_glob (v := V.ref f0) (by rfl) hm0 rfl) (pa_cons (pv 0) (pa_cons pe_int (pa_cons (pe_gi T.c_MOST_RELATIONS) pa_nil)))))))
      (pss_one ps_never)
      pss_nil)
    (pss_one (ps_for PassesOwn.never rfl (pi_sq (pv 0)) (pg_name (i := 2) scCheckRelations.nd rfl (.inl rfl))
      (pss_cons (ps_set (i := 3) scCheckRelations.nd rfl (.inl rfl) (pe_d dPr hr (by decide) (by rfl) (pa_cons (pv 2) pa_nil)))
      (pss_cons (ps_for PassesOwn.never rfl (pi_list (pv 3)) (pg_name (i := 4) scCheckRelations.nd rfl (.inl rfl))
        (pss_one (ps_if (pt_cmp (pc_dnotin hu (pv 4) (pv 1)))
          (pss_one ps_never)
          pss_nil)))
      (pss_cons (ps_expr (pe_d dO hr (by decide) (by rfl) (pa_cons (pv 3) pa_nil)))
      (pss_one (ps_if (PW.pt (pw_and (pt_cmpR op_eq (pe_ix (r := rIxT K) ix_tup (pv 2) pe_int (fun _ _ => rfl)) pe_str (nomark _)) (pw_and1 (pt_cmpR op_ne (pe_ix (r := rIxT K) ix_tup (pe_dget hu (pv 1) (pe_ix ix_list (pv 3) pe_int (fun _ _ => rfl)) (fun _ _ => rfl)) pe_int (fun _ _ => rfl)) pe_str (nomark _)))))
        (pss_one ps_never)
        pss_nil)))))))), ?_⟩
  refine ⟨_, rfl, a, [], 0, 5, rfl, hs, by decide, by decide, by decide, (fun v hv => by cases hv), fun H1 S1 => ?_⟩
  refine ⟨_, rfl, iteF ?_⟩
  refine ⟨_, rfl, a, [], rfl, hs.same S1, fun J G hG wk => ?_⟩
  exact for_none wk rfl (hG _ (Same.refl _)) (k _ S1)
end
end V10

namespace V10
open PySem PySem.Spec PyProof.Rows L2 Pw
/-- all stays but at p -/
def FrX (p : Addr) (H H' : Hp) : Prop := ∀ b o, b ≠ p → H b = some o → H' b = some o
section
variable {p : Addr} {H H' H2 : Hp} {C dx : Addr} {fs : List (Str × V)} {K : PySem.W.Frag} {a : Addr} {xs : List V}
theorem FrX.refl : FrX p H H := fun _ _ _ e => e
theorem FrX.of (S : Same H H') : FrX p H H' := fun b o _ e => S b o e
theorem FrX.trans (a : FrX p H H') (b : FrX p H' H2) : FrX p H H2 := fun c o n e => b c o n (a c o n e)
theorem FrX.put {o : HO} : FrX p H (upd H p o) := fun b u n e => (upd_ne n).trans e
theorem FrX.rd (F : FrX p H H') (ep : H p = some (.ins C dx fs)) {u : HO} (hu : ∀ o, u ≠ .ins C dx fs ∧ (HO.frz o u) ≠ .ins C dx fs) (h : Rd H a u) : Rd H' a u := by
  rcases h with e | ⟨o, e⟩
  · exact .inl (F a _ (fun z => by rw [z, ep] at e; exact (hu ⟨.none, .none, .dict #[] , #[]⟩).1 (Option.some.inj e).symm) e)
  · exact .inr ⟨o, F a _ (fun z => by rw [z, ep] at e; exact (hu o).2 (Option.some.inj e).symm) e⟩
theorem FrX.sqT (F : FrX p H H') (ep : H p = some (.ins C dx fs)) (h : SqT K H a xs) : SqT K H' a xs :=
  h.imp (fun r => F.rd ep (fun o => ⟨(fun z => by cases z), (fun z => by cases z)⟩) r) id
theorem FrX.sqL (F : FrX p H H') (ep : H p = some (.ins C dx fs)) (h : SqL K H a xs) : SqL K H' a xs :=
  h.imp (fun r => F.rd ep (fun o => ⟨(fun z => by cases z), (fun z => by cases z)⟩) r) id
theorem FrX.sq (F : FrX p H H') (ep : H p = some (.ins C dx fs)) (h : Sq K H a xs) : Sq K H' a xs := h.imp (F.sqL ep) (F.sqT ep)
theorem FrX.al {α : Type} {f : α → List V} {rs : List α} (F : FrX p H H') (ep : H p = some (.ins C dx fs)) (h : Al f H xs rs) : Al f H' xs rs :=
  h.imp fun q ys e => F q _ (fun z => by rw [z, ep] at e; cases e) e
theorem FrX.dk (F : FrX p H H') (ep : H p = some (.ins C dx fs)) {d : Addr} {kvs : List (Key × V)} (h : H d = some (.dK kvs)) : H' d = some (.dK kvs) :=
  F d _ (fun z => by rw [z, ep] at h; cases h) h
end
/-- tuple() of a list or a tuple -/
theorem tup_of {K : PySem.W.Frag} {H : Hp} {a : Addr} {xs : List V} {Q : VK} (h : Sq K H a xs) (k : ∀ t H', Same H H' → SqT K H' t xs → Q (.ref t) H') :
    ∃ p ys, [V.ref a] = [V.ref p] ∧ ((SqL K H p ys ∧ ∀ l, H l = none → Q (.ref l) (upd H l (.tup ys))) ∨ (SqT K H p ys ∧ Q (.ref p) H)) := by
  rcases h with h | h
  · exact ⟨a, xs, rfl, .inl ⟨h, fun l nl => k l _ (Same.laid nl) (SqT.of upd_same)⟩⟩
  · exact ⟨a, xs, rfl, .inr ⟨h, k a _ (Same.refl _) h⟩⟩
def rTupOf (K : PySem.W.Frag) : List V → Hp → VK → Prop := fun xs H Q => ∃ a ys, xs = [V.ref a] ∧ Sq K H a ys ∧ ∀ t H', Same H H' → SqT K H' t ys → Q (.ref t) H'
theorem call_tupOf {X : Cx} : CallR X (.type "tuple") (rTupOf X.K) := by
  intro pins s σ H xs us Q I r h
  obtain ⟨a, ys, rfl, h, k⟩ := h
  exact call_tuple_of pins s σ H _ us Q I r (tup_of (Q := Q) h k)
def wof (tp dp tr dr tc tm dm tl : Addr) : List (Str × V) := [("_points", .ref tp), ("_point_by_name", .ref dp), ("_rules", .ref tr), ("_rule_by_name", .ref dr), ("_causes", .ref tc), ("_commands", .ref tm), ("_command_by_name", .ref dm), ("_relations", .ref tl)]
/-- works: what they are made of -/
structure Wks where
  xs : List V
  ks : List (Key × V)
  xr : List V
  kr : List (Key × V)
  xc : List V
  xm : List V
  km : List (Key × V)
  xl : List V
structure WoAt (K : PySem.W.Frag) (C : Addr) (H : Hp) (p : Addr) (W : Wks) : Prop where
  ex : ∃ dx tp dp tr dr tc tm dm tl, H p = some (.ins C dx (wof tp dp tr dr tc tm dm tl)) ∧ SqT K H tp W.xs ∧ H dp = some (.dK W.ks) ∧ SqT K H tr W.xr ∧ H dr = some (.dK W.kr) ∧
    SqT K H tc W.xc ∧ SqT K H tm W.xm ∧ H dm = some (.dK W.km) ∧ SqT K H tl W.xl
theorem WoAt.same {K : PySem.W.Frag} {C : Addr} {H H' : Hp} {p : Addr} {W : Wks} (h : WoAt K C H p W) (S : Same H H') : WoAt K C H' p W :=
  let ⟨dx, tp, dp, tr, dr, tc, tm, dm, tl, e0, e1, e2, e3, e4, e5, e6, e7, e8⟩ := h.ex
  have sq : ∀ {a xs}, SqT K H a xs → SqT K H' a xs := fun h => h.imp (fun r => Rd_same S r) id
  ⟨dx, tp, dp, tr, dr, tc, tm, dm, tl, S _ _ e0, sq e1, S _ _ e2, sq e3, S _ _ e4, sq e5, sq e6, S _ _ e7, sq e8⟩
/-- of the class -/
structure WoC (K : PySem.W.Frag) (C : Addr) : Prop where
  cl : Cls K C
  nPo : NoAttr K C "_points"
  nPd : NoAttr K C "_point_by_name"
  nRu : NoAttr K C "_rules"
  nRd : NoAttr K C "_rule_by_name"
  nCa : NoAttr K C "_causes"
  nCo : NoAttr K C "_commands"
  nCd : NoAttr K C "_command_by_name"
  nRe : NoAttr K C "_relations"
section
variable {P : Program} {w : World} {K : PySem.W.Frag} {mg : Str → Option Value} {base : Heap} {C : Addr}
/-- a check asked of a and d at any heap behind H -/
def Chk (p : Addr) (H : Hp) (sp : Sp) (a : Addr) (ks : List (Key × V)) : Prop := ∀ (d : Addr) (H1 : Hp) (Q1 : VK), FrX p H H1 → H1 d = some (.dK ks) → (∀ H2, Same H1 H2 → Q1 .non H2) → sp [.ref a, .ref d] H1 Q1 E0
def spInitW {αR αM : Type} (K : PySem.W.Frag) (C : Addr) (fR : αR → List V) (nR : αR → Str) (fM : αM → List V) (nM : αM → Str) (spR spC spM spL : Sp) : Sp := fun vs H Q _ =>
  ∃ (p a r c m l dx : Addr) (xs xr xc xm xl : List V) (ps : List Pt) (rr : List αR) (rm : List αM), vs = [.ref p, .ref a, .ref r, .ref c, .ref m, .ref l] ∧ H p = some (.ins C dx []) ∧
  Sq K H a xs ∧ Al fP H xs ps ∧ GoodPs ps ∧ Sq K H r xr ∧ Al fR H xr rr ∧ (rr.map nR).Nodup ∧ rr.length ≤ 1000 ∧ Sq K H c xc ∧ Sq K H m xm ∧ Al fM H xm rm ∧ (rm.map nM).Nodup ∧ rm.length ≤ 1000 ∧ Sq K H l xl ∧
  Chk p H spR r (kvs Pt.nm ps xs) ∧ Chk p H spC c (kvs nR rr xr) ∧ Chk p H spM m (kvs Pt.nm ps xs) ∧ Chk p H spL l (kvs Pt.nm ps xs) ∧
  ∀ H', WoAt K C H' p ⟨xs, kvs Pt.nm ps xs, xr, kvs nR rr xr, xc, xm, kvs nM rm xm, xl⟩ → FrX p H H' → Q .non H'
end
end V10

set_option maxHeartbeats 8000000
namespace V10
open PySem PySem.Spec PyProof.Rows L2 Pw
section
variable {P : Program} {w : World} {K : PySem.W.Frag} {mg : Str → Option Value} {base : Heap} {C : Addr}
theorem ok_initW {αR αM : Type} {fR : αR → List V} {nR : αR → Str} {fM : αM → List V} {nM : αM → Str} {spR spC spM spL : Sp} {f0 : Addr} {fd : FuncData} {kws : List (Str × V)} (T : Txt mg) (W : WoC K C)
    (F : FunD K "__init__" "Works.__init__" (defArgs mWorks_Init) (defBody mWorks_Init) (defScope mWorks_Init) [] kws f0 fd)
    (dP : Def P w K mg base "check_points" 5 ["points"] (spPoints K)) (dN : ∀ {α : Type} (f : α → List V) (nm : α → Str), Def P w K mg base "by_name" 1 ["rows"] (spByName K f nm))
    (dR : Def P w K mg base "check_rules" 5 ["rules", "points"] spR) (dC : Def P w K mg base "check_causes" 5 ["causes", "rules"] spC)
    {km : Nat} (hkm : km ≤ 13) (dM : Def P w K mg base "check_commands" km ["commands", "points"] spM) {kl : Nat} (hkl : kl ≤ 13) (dL : Def P w K mg base "check_relations" kl ["relations", "points"] spL)
    (hR : ∀ r, ∃ tl, fR r = .str (nR r) :: tl) (hM : ∀ r, ∃ tl, fM r = .str (nM r) :: tl) :
    FnOk P w K mg base CX0 14 f0 fd ["self", "points", "rules", "causes", "commands", "relations"] (spInitW K C fR nR fM nM spR spC spM spL) := by
  refine mkFnI F scmWorks_Init (fun vs H Q E ⟨_, _, _, _, _, _, _, _, _, _, _, _, _, _, _, e, _⟩ => by rw [e]; rfl)
    (fun f cdv A out s H vs Q E hr h => ?_)
  obtain ⟨p, a, r, c, m, l, dx, xs, xr, xc, xm, xl, ps, rr, rm, rfl, ep, hs, al, g, hr1, alr, ndr, lnr, hc, hm, alm, ndm, lnm, hl, cR, cC, cM, cL, k⟩ := h
  refine ⟨_, (pss_cons (ps_expr (pe_d dP hr (by decide) (by rfl) (pa_cons (pv 1) pa_nil)))
    (pss_cons (ps_fld (pv 0) (pe_callTy call_tupOf (by rfl) T.tuple (by decide +kernel) (pa_cons (pv 1) pa_nil)) rfl)
    (pss_cons (ps_fld (pv 0) (pe_d (dN fP Pt.nm) hr (by decide) (by rfl) (pa_cons (pv 1) pa_nil)) rfl)
    (pss_cons (ps_expr (pe_d dR hr (by decide) (by rfl) (pa_cons (pv 2) (pa_cons (pe_fld (pv 0) rfl) pa_nil))))
    (pss_cons (ps_fld (pv 0) (pe_callTy call_tupOf (by rfl) T.tuple (by decide +kernel) (pa_cons (pv 2) pa_nil)) rfl)
    (pss_cons (ps_fld (pv 0) (pe_d (dN fR nR) hr (by decide) (by rfl) (pa_cons (pv 2) pa_nil)) rfl)
    (pss_cons (ps_expr (pe_d dC hr (by decide) (by rfl) (pa_cons (pv 3) (pa_cons (pe_fld (pv 0) rfl) pa_nil))))
    (pss_cons (ps_fld (pv 0) (pe_callTy call_tupOf (by rfl) T.tuple (by decide +kernel) (pa_cons (pv 3) pa_nil)) rfl)
    (pss_cons (ps_expr (pe_d dM hr hkm (by rfl) (pa_cons (pv 4) (pa_cons (pe_fld (pv 0) rfl) pa_nil))))
    (pss_cons (ps_fld (pv 0) (pe_callTy call_tupOf (by rfl) T.tuple (by decide +kernel) (pa_cons (pv 4) pa_nil)) rfl)
    (pss_cons (ps_fld (pv 0) (pe_d (dN fM nM) hr (by decide) (by rfl) (pa_cons (pv 4) pa_nil)) rfl)
    (pss_cons (ps_expr (pe_d dL hr hkl (by rfl) (pa_cons (pv 5) (pa_cons (pe_fld (pv 0) rfl) pa_nil))))
    (pss_one (ps_fld (pv 0) (pe_callTy call_tupOf (by rfl) T.tuple (by decide +kernel) (pa_cons (pv 5) pa_nil)) rfl)))))))))))))), ?_⟩
  -- a store
  have put : ∀ {G : Hp} {fs fs' : List (Str × V)} {y : Str} {v : V}, G p = some (.ins C dx fs) → putF y v fs = fs' → ∀ G', G' = upd G p (.ins C dx (putF y v fs)) → G' p = some (.ins C dx fs') ∧ FrX p G G' := by
    rintro G fs fs' y v e e2 G' rfl
    exact ⟨by rw [upd_same, e2], FrX.put⟩
  refine ⟨_, rfl, a, xs, ps, rfl, hs, al, g, fun G1 S1 => ?_⟩
  have E1 := S1 _ _ ep
  have F1 : FrX p H G1 := .of S1
  -- _points
  refine ⟨_, rfl, a, xs, rfl, F1.sq ep hs, fun tp G2 S2 h1 => ?_⟩
  have E2 := S2 _ _ E1
  refine ⟨_, rfl, p, C, dx, _, rfl, E2, W.cl, W.nPo, by show 0 < 1000; decide, ?_⟩
  obtain ⟨E3, X3⟩ := put E2 (y := "_points") (v := .ref tp) (fs' := [("_points", .ref tp)]) rfl _ rfl
  generalize upd G2 p (.ins C dx (putF "_points" (.ref tp) [])) = G3 at *
  have F3 : FrX p H G3 := F1.trans ((FrX.of S2).trans X3)
  have h1 := X3.sqT E2 h1
  -- _point_by_name
  refine ⟨_, rfl, a, xs, ps, rfl, F3.sq ep hs, F3.al ep al, (fun r => ⟨_, rfl⟩), g.nd, (by have := g.len; omega), fun dp G4 S4 _ h2 => ?_⟩
  have E4 := S4 _ _ E3
  refine ⟨_, rfl, p, C, dx, _, rfl, E4, W.cl, W.nPd, by show 1 < 1000; decide, ?_⟩
  obtain ⟨E5, X5⟩ := put E4 (y := "_point_by_name") (v := .ref dp) (fs' := [("_points", .ref tp), ("_point_by_name", .ref dp)]) (by rw [put_ne (by decide +kernel)]; rfl) _ rfl
  generalize upd G4 p (.ins C dx (putF "_point_by_name" (.ref dp) [("_points", .ref tp)])) = G5 at *
  have Y5 : FrX p G3 G5 := (FrX.of S4).trans X5
  have F5 := F3.trans Y5
  have h1 := Y5.sqT E3 h1
  have h2 := X5.dk E4 h2
  -- rules
  refine ⟨_, rfl, _, rfl, p, C, dx, _, _, rfl, E5, W.cl, W.nPd, (lk_ne (by decide +kernel)).trans lk_eq, ?_⟩
  refine cR dp G5 _ F5 h2 fun G6 S6 => ?_
  have E6 := S6 _ _ E5
  have F6 := F5.trans (FrX.of S6)
  refine ⟨_, rfl, r, xr, rfl, F6.sq ep hr1, fun tr G7 S7 h3 => ?_⟩
  have E7 := S7 _ _ E6
  refine ⟨_, rfl, p, C, dx, _, rfl, E7, W.cl, W.nRu, by show 2 < 1000; decide, ?_⟩
  obtain ⟨E8, X8⟩ := put E7 (y := "_rules") (v := .ref tr) (fs' := [("_points", .ref tp), ("_point_by_name", .ref dp), ("_rules", .ref tr)]) (by rw [put_ne (by decide +kernel), put_ne (by decide +kernel)]; rfl) _ rfl
  generalize upd G7 p (.ins C dx (putF "_rules" (.ref tr) [("_points", .ref tp), ("_point_by_name", .ref dp)])) = G8 at *
  have Y8 : FrX p G5 G8 := (FrX.of (S6.trans S7)).trans X8
  have F8 := F5.trans Y8
  have h1 := Y8.sqT E5 h1
  have h2 := Y8.dk E5 h2
  have h3 := X8.sqT E7 h3
  refine ⟨_, rfl, r, xr, rr, rfl, F8.sq ep hr1, F8.al ep alr, hR, ndr, lnr, fun dr G9 S9 _ h4 => ?_⟩
  have E9 := S9 _ _ E8
  refine ⟨_, rfl, p, C, dx, _, rfl, E9, W.cl, W.nRd, by show 3 < 1000; decide, ?_⟩
  obtain ⟨E10, X10⟩ := put E9 (y := "_rule_by_name") (v := .ref dr) (fs' := [("_points", .ref tp), ("_point_by_name", .ref dp), ("_rules", .ref tr), ("_rule_by_name", .ref dr)]) (by rw [put_ne (by decide +kernel), put_ne (by decide +kernel), put_ne (by decide +kernel)]; rfl) _ rfl
  generalize upd G9 p (.ins C dx (putF "_rule_by_name" (.ref dr) [("_points", .ref tp), ("_point_by_name", .ref dp), ("_rules", .ref tr)])) = G10 at *
  have Y10 : FrX p G8 G10 := (FrX.of S9).trans X10
  have F10 := F8.trans Y10
  have h1 := Y10.sqT E8 h1
  have h2 := Y10.dk E8 h2
  have h3 := Y10.sqT E8 h3
  have h4 := X10.dk E9 h4
  -- causes
  refine ⟨_, rfl, _, rfl, p, C, dx, _, _, rfl, E10, W.cl, W.nRd, (lk_ne (by decide +kernel)).trans ((lk_ne (by decide +kernel)).trans ((lk_ne (by decide +kernel)).trans lk_eq)), ?_⟩
  refine cC dr G10 _ F10 h4 fun G11 S11 => ?_
  have E11 := S11 _ _ E10
  have F11 := F10.trans (FrX.of S11)
  refine ⟨_, rfl, c, xc, rfl, F11.sq ep hc, fun tc G12 S12 h5 => ?_⟩
  have E12 := S12 _ _ E11
  refine ⟨_, rfl, p, C, dx, _, rfl, E12, W.cl, W.nCa, by show 4 < 1000; decide, ?_⟩
  obtain ⟨E13, X13⟩ := put E12 (y := "_causes") (v := .ref tc) (fs' := [("_points", .ref tp), ("_point_by_name", .ref dp), ("_rules", .ref tr), ("_rule_by_name", .ref dr), ("_causes", .ref tc)]) (by rw [put_ne (by decide +kernel), put_ne (by decide +kernel), put_ne (by decide +kernel), put_ne (by decide +kernel)]; rfl) _ rfl
  generalize upd G12 p (.ins C dx (putF "_causes" (.ref tc) [("_points", .ref tp), ("_point_by_name", .ref dp), ("_rules", .ref tr), ("_rule_by_name", .ref dr)])) = G13 at *
  have Y13 : FrX p G10 G13 := (FrX.of (S11.trans S12)).trans X13
  have F13 := F10.trans Y13
  have h1 := Y13.sqT E10 h1
  have h2 := Y13.dk E10 h2
  have h3 := Y13.sqT E10 h3
  have h4 := Y13.dk E10 h4
  have h5 := X13.sqT E12 h5
  -- commands
  refine ⟨_, rfl, _, rfl, p, C, dx, _, _, rfl, E13, W.cl, W.nPd, (lk_ne (by decide +kernel)).trans lk_eq, ?_⟩
  refine cM dp G13 _ F13 h2 fun G14 S14 => ?_
  have E14 := S14 _ _ E13
  have F14 := F13.trans (FrX.of S14)
  refine ⟨_, rfl, m, xm, rfl, F14.sq ep hm, fun tm G15 S15 h6 => ?_⟩
  have E15 := S15 _ _ E14
  refine ⟨_, rfl, p, C, dx, _, rfl, E15, W.cl, W.nCo, by show 5 < 1000; decide, ?_⟩
  obtain ⟨E16, X16⟩ := put E15 (y := "_commands") (v := .ref tm) (fs' := [("_points", .ref tp), ("_point_by_name", .ref dp), ("_rules", .ref tr), ("_rule_by_name", .ref dr), ("_causes", .ref tc), ("_commands", .ref tm)]) (by rw [put_ne (by decide +kernel), put_ne (by decide +kernel), put_ne (by decide +kernel), put_ne (by decide +kernel), put_ne (by decide +kernel)]; rfl) _ rfl
  generalize upd G15 p (.ins C dx (putF "_commands" (.ref tm) [("_points", .ref tp), ("_point_by_name", .ref dp), ("_rules", .ref tr), ("_rule_by_name", .ref dr), ("_causes", .ref tc)])) = G16 at *
  have Y16 : FrX p G13 G16 := (FrX.of (S14.trans S15)).trans X16
  have F16 := F13.trans Y16
  have h1 := Y16.sqT E13 h1
  have h2 := Y16.dk E13 h2
  have h3 := Y16.sqT E13 h3
  have h4 := Y16.dk E13 h4
  have h5 := Y16.sqT E13 h5
  have h6 := X16.sqT E15 h6
  refine ⟨_, rfl, m, xm, rm, rfl, F16.sq ep hm, F16.al ep alm, hM, ndm, lnm, fun dm G17 S17 _ h7 => ?_⟩
  have E17 := S17 _ _ E16
  refine ⟨_, rfl, p, C, dx, _, rfl, E17, W.cl, W.nCd, by show 6 < 1000; decide, ?_⟩
  obtain ⟨E18, X18⟩ := put E17 (y := "_command_by_name") (v := .ref dm) (fs' := [("_points", .ref tp), ("_point_by_name", .ref dp), ("_rules", .ref tr), ("_rule_by_name", .ref dr), ("_causes", .ref tc), ("_commands", .ref tm), ("_command_by_name", .ref dm)]) (by rw [put_ne (by decide +kernel), put_ne (by decide +kernel), put_ne (by decide +kernel), put_ne (by decide +kernel), put_ne (by decide +kernel), put_ne (by decide +kernel)]; rfl) _ rfl
  generalize upd G17 p (.ins C dx (putF "_command_by_name" (.ref dm) [("_points", .ref tp), ("_point_by_name", .ref dp), ("_rules", .ref tr), ("_rule_by_name", .ref dr), ("_causes", .ref tc), ("_commands", .ref tm)])) = G18 at *
  have Y18 : FrX p G16 G18 := (FrX.of S17).trans X18
  have F18 := F16.trans Y18
  have h1 := Y18.sqT E16 h1
  have h2 := Y18.dk E16 h2
  have h3 := Y18.sqT E16 h3
  have h4 := Y18.dk E16 h4
  have h5 := Y18.sqT E16 h5
  have h6 := Y18.sqT E16 h6
  have h7 := X18.dk E17 h7
  -- relations
  refine ⟨_, rfl, _, rfl, p, C, dx, _, _, rfl, E18, W.cl, W.nPd, (lk_ne (by decide +kernel)).trans lk_eq, ?_⟩
  refine cL dp G18 _ F18 h2 fun G19 S19 => ?_
  have E19 := S19 _ _ E18
  have F19 := F18.trans (FrX.of S19)
  refine ⟨_, rfl, l, xl, rfl, F19.sq ep hl, fun tl G20 S20 h8 => ?_⟩
  have E20 := S20 _ _ E19
  refine ⟨_, rfl, p, C, dx, _, rfl, E20, W.cl, W.nRe, by show 7 < 1000; decide, ?_⟩
  obtain ⟨E21, X21⟩ := put E20 (y := "_relations") (v := .ref tl) (fs' := wof tp dp tr dr tc tm dm tl) (by rw [put_ne (by decide +kernel), put_ne (by decide +kernel), put_ne (by decide +kernel), put_ne (by decide +kernel), put_ne (by decide +kernel), put_ne (by decide +kernel), put_ne (by decide +kernel)]; rfl) _ rfl
  generalize upd G20 p _ = G21 at *
  have Y21 : FrX p G18 G21 := (FrX.of (S19.trans S20)).trans X21
  have F21 := F18.trans Y21
  exact k _ ⟨dx, tp, dp, tr, dr, tc, tm, dm, tl, E21, Y21.sqT E18 h1, Y21.dk E18 h2, Y21.sqT E18 h3, Y21.dk E18 h4, Y21.sqT E18 h5, Y21.sqT E18 h6, Y21.dk E18 h7, X21.sqT E20 h8⟩ F21
end
end V10

namespace V10
open PySem PySem.Spec PyProof.Rows L2 Pw
theorem kvs_get {α : Type} (nm : α → Str) : ∀ {rs : List α} {vs : List V} {i : Nat} {r : α} {v : V}, (rs.map nm).Nodup → rs[i]? = some r → vs[i]? = some v → valV (kvs nm rs vs) (.inr (nm r)) = some v
  | [], _, _, _, _, _, h, _ => by simp at h
  | _ :: _, [], _, _, _, _, _, h => by simp at h
  | a :: rs, x :: vs, 0, r, v, nd, h1, h2 => by
    simp only [List.getElem?_cons_zero, Option.some.injEq] at h1 h2
    subst h1 h2
    show valV ((Sum.inr (nm a), x) :: kvs nm rs vs) _ = _
    unfold valV
    rw [List.find?_cons, decide_eq_true rfl]
    rfl
  | a :: rs, x :: vs, i + 1, r, v, nd, h1, h2 => by
    simp only [List.getElem?_cons_succ] at h1 h2
    have nd' := List.nodup_cons.mp nd
    have ne : (Sum.inr (nm a) : Key) ≠ .inr (nm r) := fun z => nd'.1 (by rw [Sum.inr.inj z]; exact List.mem_map.mpr ⟨r, List.mem_of_getElem? h1, rfl⟩)
    have ih := kvs_get nm nd'.2 h1 h2
    show valV ((Sum.inr (nm a), x) :: kvs nm rs vs) _ = _
    unfold valV at ih ⊢
    rw [List.find?_cons, decide_eq_false ne]
    exact ih
theorem kvs_no {α : Type} (nm : α → Str) {rs : List α} {vs : List V} {x : Str} (hl : rs.length = vs.length) (h : x ∉ rs.map nm) : valV (kvs nm rs vs) (.inr x) = none := by
  unfold valV
  rw [Option.map_eq_none_iff, List.find?_eq_none]
  intro p hp e
  have e' : p.1 = .inr x := of_decide_eq_true e
  have : p.1 ∈ (kvs nm rs vs).map Prod.fst := List.mem_map.mpr ⟨p, hp, rfl⟩
  rw [kvs_keys nm hl, e'] at this
  obtain ⟨r, hr, er⟩ := List.mem_map.mp this
  exact h (List.mem_map.mpr ⟨r, hr, Sum.inr.inj er⟩)
theorem wof_no {m : Str} {tp dp tr dr tc tm dm tl : Addr} (h1 : (m == ("_points" : Str)) = false) (h2 : (m == ("_point_by_name" : Str)) = false) (h3 : (m == ("_rules" : Str)) = false) (h4 : (m == ("_rule_by_name" : Str)) = false)
    (h5 : (m == ("_causes" : Str)) = false) (h6 : (m == ("_commands" : Str)) = false) (h7 : (m == ("_command_by_name" : Str)) = false) (h8 : (m == ("_relations" : Str)) = false) : (wof tp dp tr dr tc tm dm tl).lookup m = none := by
  unfold wof
  rw [lk_ne h1, lk_ne h2, lk_ne h3, lk_ne h4, lk_ne h5, lk_ne h6, lk_ne h7, lk_ne h8]
  rfl
/-- works of such points -/
structure WoP (K : PySem.W.Frag) (C : Addr) (H : Hp) (p : Addr) (W : Wks) (ps : List Pt) : Prop where
  wo : WoAt K C H p W
  ks : W.ks = kvs Pt.nm ps W.xs
  al : Al fP H W.xs ps
  g : GoodPs ps
theorem WoP.same {K : PySem.W.Frag} {C : Addr} {H H' : Hp} {p : Addr} {W : Wks} {ps : List Pt} (h : WoP K C H p W ps) (S : Same H H') : WoP K C H' p W ps := ⟨h.wo.same S, h.ks, h.al.same S, h.g⟩
/-- of the class: what isinstance asks -/
structure WoQ (K : PySem.W.Frag) (C : Addr) : Prop where
  c1 : PySem.W.findIn K (.ref C) "__class__" = some (some (.builtin "object.__class__"))
  c2 : PySem.W.specialIn K (.builtin "object.__class__") "__get__" = some (some (.builtin "getset_descriptor.__get__"))
  c3 : PySem.W.takesIn K (.builtin "object.__class__") = some true
  mo : PySem.W.mroIn K C (.type "object") = some true
  kit : PySem.W.kitOne K (.ref C) (.ref C) = some true
def hiP (pt : Pt) : Int := if pt.sw = true then 1 else 63
section
variable {P : Program} {w : World} {K : PySem.W.Frag} {mg : Str → Option Value} {base : Heap} {C : Addr}
def spWorthOf (K : PySem.W.Frag) : Sp := fun vs H Q _ => ∃ (q : Addr) (pt : Pt) (x : V) (t : Value), vs = [.ref q, x] ∧ H q = some (.tup (fP pt)) ∧ Ty K H x t ∧ Q (.bl (wholeB x 0 (hiP pt))) H
theorem d_worthOf (T : Txt mg) (A : At K mg "is_worth_of" sIsWorthOf) (dw : Def P w K mg base "is_whole" 3 ["thing", "low", "high"] (spWhole K)) : Def P w K mg base "is_worth_of" 4 ["point", "thing"] (spWorthOf K) := by
  refine mkDef A scIsWorthOf (fun _ _ _ _ _ _ us hl => match us, hl with | [_, _], _ => rfl) (fun vs H Q E ⟨_, _, _, _, e, _⟩ => by rw [e]; rfl)
    (fun f cdv A out s H vs Q E hr h => ?_)
  obtain ⟨q, pt, x, t, rfl, e, ty, k⟩ := h
  refine ⟨_, (pss_one (ps_ret (pe_d dw hr (by decide) (by rfl) (pa_cons (pv 1) (pa_cons pe_int (pa_cons (pe_ifExp (pt_cmpR op_eq (pe_ix (r := rIxT K) ix_tup (pv 0) pe_int (fun _ _ => rfl)) pe_str (nomark _)) (pe_gi T.cMOST_LEVEL) pe_int) pa_nil)))))), ?_⟩
  refine ⟨_, rfl, _, rfl, q, _, 2, .str (kd pt.sw), rfl, rfl, SqT.of e, rfl, rfl, _, rfl, ?_⟩
  rw [kd_level]
  unfold hiP at k
  cases hsw : pt.sw with
  | true =>
    rw [hsw] at k
    exact iteF ⟨x, t, 0, 1, rfl, ty, k⟩
  | false =>
    rw [hsw] at k
    exact iteT ⟨x, t, 0, 63, rfl, ty, k⟩
def spPts (C : Addr) (K : PySem.W.Frag) : Sp := fun vs H Q _ => ∃ p W ps, vs = [.ref p] ∧ WoP K C H p W ps ∧ ∀ l H', Same H H' → H l = none → H' l = some (.lst W.xs) → Q (.ref l) H'
theorem d_pts (T : Txt mg) (Wc : WoC K C) (A : AtMt K C "points" "Works.points" mWorks_Points) : DefM P w K mg base C "points" 1 ["self"] (spPts C K) := by
  refine mkDefM A scmWorks_Points (fun _ _ _ _ _ _ us hl => match us, hl with | [_], _ => rfl) (fun vs H Q E ⟨_, _, _, e, _⟩ => by rw [e]; rfl)
    (fun f cdv A out s H vs Q E hr h => ?_)
  obtain ⟨p, W, ps, rfl, hw, k⟩ := h
  obtain ⟨dx, tp, dp, tr, dr, tc, tm, dm, tl, e0, e1, e2, _⟩ := hw.wo.ex
  refine ⟨_, (pss_one (ps_ret (pe_callTy call_list_of (by rfl) T.list (by decide +kernel) (pa_cons (pe_fld (pv 0) rfl) pa_nil)))), ?_⟩
  refine ⟨_, rfl, p, C, dx, _, _, rfl, e0, Wc.cl, Wc.nPo, lk_eq, tp, W.xs, rfl, .inr e1, fun l nl => ?_⟩
  exact k l _ (Same.laid nl) nl upd_same
def spHasP (C : Addr) (K : PySem.W.Frag) : Sp := fun vs H Q _ => ∃ p W ps nm, vs = [.ref p, .str nm] ∧ WoP K C H p W ps ∧ OkName nm ∧ ∀ H', Same H H' → Q (.bl (decide (nm ∈ ps.map Pt.nm))) H'
theorem d_hasP (Wc : WoC K C) (A : AtMt K C "has_point" "Works.has_point" mWorks_HasPoint) (dn : Def P w K mg base "is_name" 1 ["thing"] (spName K)) :
    DefM P w K mg base C "has_point" 2 ["self", "thing"] (spHasP C K) := by
  refine mkDefM A scmWorks_HasPoint (fun _ _ _ _ _ _ us hl => match us, hl with | [_, _], _ => rfl) (fun vs H Q E ⟨_, _, _, _, e, _⟩ => by rw [e]; rfl)
    (fun f cdv A out s H vs Q E hr h => ?_)
  obtain ⟨p, W, ps, nm, rfl, hw, on, k⟩ := h
  have hu : (A.deeper (envOfC "Works.has_point" (defScope mWorks_HasPoint) s.heap.objs.size f cdv)).units + 1 < cLine := hu_of hr
  refine ⟨_, (pss_one (ps_ret (pe_and (pe_d dn hr (by decide) (by rfl) (pa_cons (pv 1) pa_nil)) (pe_one (pe_cmp (pc_din hu (pv 1) (pe_fld (pv 0) rfl)) rfl))))), ?_⟩
  refine ⟨_, rfl, .str nm, _, rfl, .str _, on.sh, fun H1 S1 => ⟨true, congrArg V.bl on.b, iteT ?_⟩⟩
  have hw1 := hw.same S1
  obtain ⟨dx, tp, dp, tr, dr, tc, tm, dm, tl, e0, e1, e2, _⟩ := hw1.wo.ex
  have hl := hw.al.length.symm
  rw [hw.ks] at e2
  refine ⟨_, rfl, _, rfl, p, C, dx, _, _, rfl, e0, Wc.cl, Wc.nPd, (lk_ne (by decide +kernel)).trans lk_eq, dp, _, rfl, .inl ⟨_, .inr nm, .inl e2, rfl, rfl⟩, ?_⟩
  by_cases hm : nm ∈ ps.map Pt.nm
  · obtain ⟨pt, hpt, rfl⟩ := List.mem_map.mp hm
    obtain ⟨i, hi, ei⟩ := List.getElem_of_mem hpt
    obtain ⟨q, hq, _⟩ := hw1.al.at (List.getElem?_eq_some_iff.mpr ⟨hi, ei⟩)
    rw [kvs_get Pt.nm hw.g.nd (List.getElem?_eq_some_iff.mpr ⟨hi, ei⟩) hq]
    rw [decide_eq_true hm] at k
    exact k _ S1
  · rw [kvs_no Pt.nm hl hm]
    rw [decide_eq_false hm] at k
    exact k _ S1
def spPoint (C : Addr) (K : PySem.W.Frag) : Sp := fun vs H Q _ => ∃ p W ps pt, vs = [.ref p, .str (Pt.nm pt)] ∧ WoP K C H p W ps ∧ pt ∈ ps ∧ ∀ q H', Same H H' → H' q = some (.tup (fP pt)) → Q (.ref q) H'
theorem d_point (Wc : WoC K C) (A : AtMt K C "point" "Works.point" mWorks_Point) (dh : DefM P w K mg base C "has_point" 2 ["self", "thing"] (spHasP C K)) :
    DefM P w K mg base C "point" 3 ["self", "name"] (spPoint C K) := by
  refine mkDefM A scmWorks_Point (fun _ _ _ _ _ _ us hl => match us, hl with | [_, _], _ => rfl) (fun vs H Q E ⟨_, _, _, _, e, _⟩ => by rw [e]; rfl)
    (fun f cdv A out s H vs Q E hr h => ?_)
  obtain ⟨p, W, ps, pt, rfl, hw, hpt, k⟩ := h
  have hu : (A.deeper (envOfC "Works.point" (defScope mWorks_Point) s.heap.objs.size f cdv)).units + 1 < cLine := hu_of hr
  refine ⟨_, (pss_cons (ps_if (pt_not (pt_val (pe_mm (pv 0) Wc.cl dh hr (by decide) (pa_cons (pv 1) pa_nil))))
      (pss_one ps_never)
      pss_nil)
    (pss_one (ps_ret (pe_dget hu (pe_fld (pv 0) rfl) (pv 1) (fun _ _ => rfl))))), ?_⟩
  obtain ⟨dx, tp, dp, tr, dr, tc, tm, dm, tl, e0, _⟩ := hw.wo.ex
  refine ⟨_, rfl, p, dx, _, rfl, e0, wof_no (by decide +kernel) (by decide +kernel) (by decide +kernel) (by decide +kernel) (by decide +kernel) (by decide +kernel) (by decide +kernel) (by decide +kernel), _, rfl, p, W, ps, pt.nm, rfl, hw, (hw.g.all pt hpt).nm, fun H1 S1 => ?_⟩
  rw [decide_eq_true (List.mem_map.mpr ⟨pt, hpt, rfl⟩)]
  refine ⟨_, rfl, iteF ?_⟩
  have hw1 := hw.same S1
  obtain ⟨dx, tp, dp, tr, dr, tc, tm, dm, tl, e0, e1, e2, _⟩ := hw1.wo.ex
  rw [hw.ks] at e2
  obtain ⟨i, hi, ei⟩ := List.getElem_of_mem hpt
  have ei' := List.getElem?_eq_some_iff.mpr ⟨hi, ei⟩
  obtain ⟨q, hq, eq⟩ := hw1.al.at ei'
  refine ⟨_, rfl, p, C, dx, _, _, rfl, e0, Wc.cl, Wc.nPd, (lk_ne (by decide +kernel)).trans lk_eq, _, rfl, dp, .ref q, rfl, .inl ⟨_, .inr pt.nm, .inl e2, rfl, (kvs_get Pt.nm hw.g.nd ei' hq).symm⟩, ?_⟩
  exact k q _ S1 eq
def spIsWorth (C : Addr) (K : PySem.W.Frag) : Sp := fun vs H Q _ => ∃ p W ps pt x t, vs = [.ref p, .str (Pt.nm pt), x] ∧ WoP K C H p W ps ∧ pt ∈ ps ∧ (∀ H', Ty K H' x t) ∧ ∀ H', Same H H' → Q (.bl (wholeB x 0 (hiP pt))) H'
theorem d_isWorth (Wc : WoC K C) (A : AtMt K C "is_worth" "Works.is_worth" mWorks_IsWorth) (dp : DefM P w K mg base C "point" 3 ["self", "name"] (spPoint C K)) (dw : Def P w K mg base "is_worth_of" 4 ["point", "thing"] (spWorthOf K)) :
    DefM P w K mg base C "is_worth" 5 ["self", "point", "thing"] (spIsWorth C K) := by
  refine mkDefM A scmWorks_IsWorth (fun _ _ _ _ _ _ us hl => match us, hl with | [_, _, _], _ => rfl) (fun vs H Q E ⟨_, _, _, _, _, _, e, _⟩ => by rw [e]; rfl)
    (fun f cdv A out s H vs Q E hr h => ?_)
  obtain ⟨p, W, ps, pt, x, t, rfl, hw, hpt, ty, k⟩ := h
  refine ⟨_, (pss_one (ps_ret (pe_d dw hr (by decide) (by rfl) (pa_cons (pe_mm (pv 0) Wc.cl dp hr (by decide) (pa_cons (pv 1) pa_nil)) (pa_cons (pv 2) pa_nil))))), ?_⟩
  obtain ⟨dx, tp, dp', tr, dr, tc, tm, dm, tl, e0, _⟩ := hw.wo.ex
  refine ⟨_, rfl, p, dx, _, rfl, e0, wof_no (by decide +kernel) (by decide +kernel) (by decide +kernel) (by decide +kernel) (by decide +kernel) (by decide +kernel) (by decide +kernel) (by decide +kernel), _, rfl, p, W, ps, pt, rfl, hw, hpt, fun q H1 S1 eq => ?_⟩
  exact ⟨_, rfl, q, pt, x, t, rfl, eq, ty H1, k H1 S1⟩
def spWorksC (C : Addr) (K : PySem.W.Frag) : Sp := fun vs H Q _ => ∃ p W, vs = [.ref p] ∧ WoAt K C H p W ∧ Q .non H
theorem d_worksC (T : Txt mg) (Wc : WoC K C) (Wq : WoQ K C) (hC : mg "Works" = some (.ref C)) (A : At K mg "check_works" sCheckWorks) : Def P w K mg base "check_works" 1 ["thing"] (spWorksC C K) := by
  refine mkDef A scCheckWorks (fun _ _ _ _ _ _ us hl => match us, hl with | [_], _ => rfl) (fun vs H Q E ⟨_, _, e, _⟩ => by rw [e]; rfl)
    (fun f cdv A out s H vs Q E hr h => ?_)
  obtain ⟨p, W, rfl, hw, k⟩ := h
  obtain ⟨dx, tp, dp, tr, dr, tc, tm, dm, tl, e0, _⟩ := hw.ex
  refine ⟨_, (pss_one (ps_if (pt_not (pt_val (pe_callB call_isa (by rfl) T.isinstance PyProof.Rows.boot_isinstance (pa_cons (pv 0) (pa_cons (pe_glob (v := V.ref C) (by rfl) hC rfl) pa_nil)))))
      (pss_one ps_never)
      pss_nil)), ?_⟩
  exact ⟨_, rfl, .ref p, .ref C, .ref C, .ref C, true, rfl, .own C, .base (.base (.ins e0 Wc.cl Wq.c1 Wq.c2 Wq.c3 Wq.mo)), Wq.kit, _, rfl, iteF k⟩
end
end V10

namespace Pw
open PySem PySem.Spec PyProof.Rows L2
/-- a list or a tuple, by a word of one's own that keeps it -/
def iSqG (K : PySem.W.Frag) (tl : TE) : TI := fun σ H R => tl σ H fun x H1 => ∃ a xs, ∃ g : Hp → Prop, x = .ref a ∧ g H1 ∧ ((∀ H', g H' → SqL K H' a xs) ∨ (∀ H', g H' → SqT K H' a xs)) ∧
  ∀ (J : It) (G : Hp → Prop), (∀ H', g H' → G H') → Walk J xs.length G (YAt xs) → R J H1
theorem pi_sqG {X : Cx} {tg l : Expr} {tl : TE} (hl : PE X l tl) : PI X tg l (iSqG X.K tl) := by
  refine ⟨fun pins s σ H R I h => ?_⟩
  refine thn (hl.run pins s σ H _ I h) fun v s1 hv => ?_
  obtain ⟨x, H1, I1, r1, a, xs, g, rfl, g1, hs, q⟩ := hv
  obtain rfl : v = Value.ref a := r1
  rcases hs with hq | hq
  · obtain ⟨its, rv, p, hz⟩ := I1.list (hq _ g1)
    refine wpAny_pyIter_list (PlainL.isList p) ⟨s1.heap.objs.size, [s1.heap.objs.size], fun i h => h.IsListIter s1.heap.objs.size a i, Itl X.K a, H1, rfl, I1.kept fun b o e => Heap.get?_push_of_some _ e, turn_list a _,
      ⟨_, Heap.get?_push_size _ rfl, rfl, rfl⟩, fun b hb => ?_, q _ (fun H => SqL X.K H a xs) hq walk_list⟩
    rw [List.mem_singleton.mp hb]
    exact I1.fpOk (Nat.le_refl _) (HOk.fresh I1.hok (Nat.le_refl _))
  · obtain ⟨its, rv, p, hz⟩ := I1.tuple (hq _ g1)
    refine wpAny_pyIter_tuple p ⟨s1.heap.objs.size, [s1.heap.objs.size], fun i h => h.IsTupleIter s1.heap.objs.size a i, Itt X.K a, H1, rfl, I1.kept fun b o e => Heap.get?_push_of_some _ e, turn_tuple a _,
      ⟨_, Heap.get?_push_size _ rfl, rfl, rfl⟩, fun b hb => ?_, q _ (fun H => SqT X.K H a xs) hq walk_tup⟩
    rw [List.mem_singleton.mp hb]
    exact I1.fpOk (Nat.le_refl _) (HOk.fresh I1.hok (Nat.le_refl _))
theorem Sq.ok {K : PySem.W.Frag} {H : Hp} {a : Addr} {xs : List V} (h : Sq K H a xs) : (∀ H', Same H H' → SqL K H' a xs) ∨ (∀ H', Same H H' → SqT K H' a xs) :=
  h.imp (fun z H' S => Same.seq S z) fun z H' S => z.imp (fun r => Rd_same S r) id
end Pw

set_option maxHeartbeats 8000000
namespace V10
open PySem PySem.Spec PyProof.Rows L2 Pw
theorem pt_in {K : PySem.W.Frag} {H : Hp} {d : Addr} {xp : List V} {ps : List Pt} {nm : Str} (ed : H d = some (.dK (kvs Pt.nm ps xp))) (al : Al fP H xp ps) (nd : (ps.map Pt.nm).Nodup) (h : nm ∈ ps.map Pt.nm) :
    ∃ pt q, pt ∈ ps ∧ pt.nm = nm ∧ H q = some (.tup (fP pt)) ∧ valV (kvs Pt.nm ps xp) (.inr nm) = some (.ref q) := by
  obtain ⟨pt, hpt, rfl⟩ := List.mem_map.mp h
  obtain ⟨i, hi, ei⟩ := List.getElem_of_mem hpt
  have ei' := List.getElem?_eq_some_iff.mpr ⟨hi, ei⟩
  obtain ⟨q, hq, eq⟩ := al.at ei'
  exact ⟨pt, q, hpt, rfl, eq, kvs_get Pt.nm nd ei' hq⟩
theorem name_one {ps : List Pt} (nd : (ps.map Pt.nm).Nodup) {p q : Pt} (hp : p ∈ ps) (hq : q ∈ ps) (e : p.nm = q.nm) : p = q := by
  obtain ⟨i, hi, rfl⟩ := List.getElem_of_mem hp
  obtain ⟨j, hj, rfl⟩ := List.getElem_of_mem hq
  have : i = j := by
    rcases Nat.lt_trichotomy i j with h | h | h
    · have := (List.pairwise_iff_getElem.mp nd) i j (by simpa using hi) (by simpa using hj) h
      simp only [List.getElem_map] at this
      exact absurd e this
    · exact h
    · have := (List.pairwise_iff_getElem.mp nd) j i (by simpa using hj) (by simpa using hi) h
      simp only [List.getElem_map] at this
      exact absurd e.symm this
  subst this
  rfl
/-! ### locks and commands -/
structure Lk where
  pt : Str
  up : Bool
  lim : Int
def ud (b : Bool) : Str := if b = true then "above" else "below"
def fL (l : Lk) : List V := [.str l.pt, .str (ud l.up), .int l.lim]
structure Cm where
  nm : Str
  pt : Str
  wo : Int
  lks : List Lk
  t : Addr
def fC (c : Cm) : List V := [.str c.nm, .str c.pt, .int c.wo, .ref c.t]
def LkT (H : Hp) (c : Cm) : Prop := ∃ vs, H c.t = some (.tup vs) ∧ Al fL H vs c.lks
theorem LkT.same {H H' : Hp} {c : Cm} (h : LkT H c) (S : Same H H') : LkT H' c := let ⟨vs, e, al⟩ := h; ⟨vs, S _ _ e, al.same S⟩
structure GoodL (ps : List Pt) (pl : Str) (l : Lk) : Prop where
  inn : ∃ pt ∈ ps, pt.nm = l.pt ∧ pt.pl = pl
  l0 : 0 ≤ l.lim
  l1 : l.lim ≤ 63
structure GoodC (ps : List Pt) (c : Cm) : Prop where
  nm : OkName c.nm
  few : c.lks.length ≤ 4
  inn : ∃ pt ∈ ps, pt.nm = c.pt ∧ 0 ≤ c.wo ∧ c.wo ≤ hiP pt ∧ ∀ l ∈ c.lks, GoodL ps pt.pl l
theorem GoodL.ok {ps : List Pt} {pl : Str} {l : Lk} (g : GoodL ps pl l) (gp : GoodPs ps) : OkName l.pt := by
  obtain ⟨pt, h, e, _⟩ := g.inn
  exact e ▸ (gp.all pt h).nm
theorem ud_one (b : Bool) : oneB (.str (ud b)) ["above", "below"] = true := by cases b <;> decide +kernel
theorem ud_above (b : Bool) : decide (V.str (ud b) = V.str "above") = b := by cases b <;> decide +kernel
theorem hiP_le (pt : Pt) : hiP pt ≤ 63 := by unfold hiP; split <;> decide
section
variable {P : Program} {w : World} {K : PySem.W.Frag} {mg : Str → Option Value} {base : Heap} {C : Addr}
def spLockS : Sp := fun vs H Q _ => ∃ q l ps pl, vs = [.ref q] ∧ H q = some (.tup (fL l)) ∧ GoodL ps pl l ∧ GoodPs ps ∧ ∀ H', Same H H' → Q (.bl true) H'
theorem d_lockS (A : At K mg "is_lock_shape" sIsLockShape) (dt : Def P w K mg base "is_tuple" 1 ["thing", "many"] (spTupN K)) (dn : Def P w K mg base "is_name" 1 ["thing"] (spName K))
    (d1 : Def P w K mg base "is_one_of" 1 ["thing", "words"] (spOne K)) (dl : Def P w K mg base "is_level" 4 ["thing"] (spRange K 0 63)) : Def P w K mg base "is_lock_shape" 5 ["thing"] spLockS := by
  refine mkDef A scIsLockShape (fun _ _ _ _ _ _ us hl => match us, hl with | [_], _ => rfl) (fun vs H Q E ⟨_, _, _, _, e, _⟩ => by rw [e]; rfl)
    (fun f cdv A out s H vs Q E hr h => ?_)
  obtain ⟨q, l, ps, pl, rfl, e, g, gp, k⟩ := h
  refine ⟨_, (pss_cons (ps_if (pt_not (pt_val (pe_d dt hr (by decide) (by rfl) (pa_cons (pv 0) (pa_cons pe_int pa_nil)))))
      (pss_one (ps_ret pe_bl))
      pss_nil)
    (pss_cons (ps_asg (pv 0) (pg_tup (by rfl) (pgs_cons (pg_name (i := 1) scIsLockShape.nd rfl (.inl rfl)) (pgs_cons (pg_name (i := 2) scIsLockShape.nd rfl (.inl rfl)) (pgs_cons (pg_name (i := 3) scIsLockShape.nd rfl (.inl rfl)) pgs_nil)))))
    (pss_one (ps_ret (pe_and (pe_d dn hr (by decide) (by rfl) (pa_cons (pv 1) pa_nil)) (pe_and (pe_d d1 hr (by decide) (by rfl) (pa_cons (pv 2) (pa_cons (pe_tup (pa_cons pe_str (pa_cons pe_str pa_nil))) pa_nil))) (pe_one (pe_d dl hr (by decide) (by rfl) (pa_cons (pv 3) pa_nil))))))))), ?_⟩
  have on := g.ok gp
  have eT : tupNB H (.ref q) 3 = true := by simp only [tupNB, e]; rfl
  refine ⟨_, rfl, .ref q, _, 3, rfl, .tup e, true, congrArg V.bl eT, iteF ?_⟩
  refine ⟨_, rfl, q, _, rfl, SqT.of e, rfl, _, _, rfl, _, _, rfl, _, _, rfl, rfl, ?_⟩
  refine ⟨_, rfl, .str l.pt, _, rfl, .str _, on.sh, fun H1 S1 => ⟨true, congrArg V.bl on.b, iteT ?_⟩⟩
  refine ⟨_, rfl, by show 2 ≤ sizeLine; decide, fun p np => ?_⟩
  refine ⟨.str (ud l.up), _, p, ["above", "below"], rfl, .str _, upd_same, ?_⟩
  refine ⟨true, congrArg V.bl (ud_one _), iteT ?_⟩
  refine ⟨_, rfl, .int l.lim, _, rfl, .int _, ?_⟩
  rw [whole_in g.l0 g.l1]
  exact k _ (S1.trans (Same.laid np))
def spCmdS : Sp := fun vs H Q _ => ∃ q c ps, vs = [.ref q] ∧ H q = some (.tup (fC c)) ∧ LkT H c ∧ GoodC ps c ∧ GoodPs ps ∧ ∀ H', Same H H' → Q (.bl true) H'
theorem d_cmdS (T : Txt mg) (A : At K mg "is_command_shape" sIsCommandShape) (dt : Def P w K mg base "is_tuple" 1 ["thing", "many"] (spTupN K)) (dn : Def P w K mg base "is_name" 1 ["thing"] (spName K))
    (dl : Def P w K mg base "is_level" 4 ["thing"] (spRange K 0 63)) (aLO : At K mg "is_list_of" sIsListOf) (dli : Def P w K mg base "is_list" 1 ["thing", "least", "most"] (spList K)) (dS : Def P w K mg base "is_lock_shape" 5 ["thing"] spLockS) :
    Def P w K mg base "is_command_shape" 8 ["thing"] spCmdS := by
  obtain ⟨f0, fd0, hm0, hk0, hb0, F0⟩ := dS.ex
  have dLO := d_listOf T aLO dli (F0.raw hb0 .nil) hk0
  refine mkDef A scIsCommandShape (fun _ _ _ _ _ _ us hl => match us, hl with | [_], _ => rfl) (fun vs H Q E ⟨_, _, _, e, _⟩ => by rw [e]; rfl)
    (fun f cdv A out s H vs Q E hr h => ?_)
  obtain ⟨q, c, ps, rfl, e, ht, g, gp, k⟩ := h
  refine ⟨_, (pss_cons (ps_if (pt_not (pt_val (pe_d dt hr (by decide) (by rfl) (pa_cons (pv 0) (pa_cons pe_int pa_nil)))))
      (pss_one (ps_ret pe_bl))
      pss_nil)
    (pss_cons (ps_asg (pv 0) (pg_tup (by rfl) (pgs_cons (pg_name (i := 1) scIsCommandShape.nd rfl (.inl rfl)) (pgs_cons (pg_name (i := 2) scIsCommandShape.nd rfl (.inl rfl)) (pgs_cons (pg_name (i := 3) scIsCommandShape.nd rfl (.inl rfl)) (pgs_cons (pg_name (i := 4) scIsCommandShape.nd rfl (.inl rfl)) pgs_nil))))))
    (pss_cons (ps_if (pt_not (PW.pt (pw_and (pt_val (pe_d dn hr (by decide) (by rfl) (pa_cons (pv 1) pa_nil))) (pw_and (pt_val (pe_d dn hr (by decide) (by rfl) (pa_cons (pv 2) pa_nil))) (pw_and1 (pt_val (pe_d dl hr (by decide) (by rfl) (pa_cons (pv 3) pa_nil))))))))
      (pss_one (ps_ret pe_bl))
      pss_nil)
    (pss_one (ps_ret (pe_and (pe_is T.isinstance (by rfl) (pv 4) T.tuple (by rfl) (Tn := "tuple") (by decide +kernel)) (pe_one (pe_d dLO hr (by decide) (by rfl) (pa_cons (pe_glob (v := V.ref f0) (by rfl) hm0 rfl) (pa_cons (pv 4) (pa_cons pe_int (pa_cons (pe_gi T.c_MOST_LOCKS) pa_nil)))))))))))), ?_⟩
  obtain ⟨pt, hpt, en, w0, w1, gl⟩ := g.inn
  have op : OkName c.pt := en ▸ (gp.all pt hpt).nm
  have eT : tupNB H (.ref q) 4 = true := by simp only [tupNB, e]; rfl
  obtain ⟨lv, et, al⟩ := ht
  have hlen := al.length
  have few := g.few
  refine ⟨_, rfl, .ref q, _, 4, rfl, .tup e, true, congrArg V.bl eT, iteF ?_⟩
  refine ⟨_, rfl, q, _, rfl, SqT.of e, rfl, _, _, rfl, _, _, rfl, _, _, rfl, _, _, rfl, rfl, ?_⟩
  refine ⟨_, rfl, .str c.nm, _, rfl, .str _, g.nm.sh, fun H1 S1 => ⟨true, congrArg V.bl g.nm.b, iteT ?_⟩⟩
  refine ⟨_, rfl, .str c.pt, _, rfl, .str _, op.sh, fun H2 S2 => ⟨true, congrArg V.bl op.b, iteT ?_⟩⟩
  refine ⟨_, rfl, .int c.wo, _, rfl, .int _, true, congrArg V.bl (whole_in w0 (Int.le_trans w1 (hiP_le pt))), iteF ?_⟩
  have S12 := S1.trans S2
  have et2 := S12 _ _ et
  refine ⟨_, rfl, .ref c.t, .ty "tuple", .type "tuple", .type "tuple", true, rfl, .ty _, .base (.base (.tup et2)), kit_ty (by decide +kernel), true, rfl, iteT ?_⟩
  refine ⟨_, rfl, c.t, lv, 0, 4, rfl, .inr (SqT.of et2), by omega, by omega, by omega, fun v hv H3 Q1 S3 q1 => ?_, fun H3 S3 => k _ (S12.trans S3)⟩
  obtain ⟨i, hi, ei⟩ := List.getElem_of_mem hv
  obtain ⟨q2, l, rfl, hl, eq⟩ := (al.same (S12.trans S3)).get (List.getElem?_eq_some_iff.mpr ⟨hi, ei⟩)
  exact ⟨q2, l, ps, pt.pl, rfl, eq, gl l (List.mem_of_getElem? hl), gp, q1⟩
def spCLocks (K : PySem.W.Frag) : Sp := fun vs H Q _ => ∃ a pl d xs ls ps xp, vs = [.ref a, .str pl, .ref d] ∧ SqT K H a xs ∧ Al fL H xs ls ∧ (∀ l ∈ ls, GoodL ps pl l) ∧ GoodPs ps ∧ ls.length ≤ 4 ∧ H d = some (.dK (kvs Pt.nm ps xp)) ∧ Al fP H xp ps ∧ Q .non H
theorem d_cLocks (T : Txt mg) (A : At K mg "_check_locks" sCheckLocks) : Def P w K mg base "_check_locks" 1 ["locks", "place", "points"] (spCLocks K) := by
  refine mkDef A scCheckLocks (fun _ _ _ _ _ _ us hl => match us, hl with | [_, _, _], _ => rfl) (fun vs H Q E ⟨_, _, _, _, _, _, _, e, _⟩ => by rw [e]; rfl)
    (fun f cdv A out s H vs Q E hr h => ?_)
  obtain ⟨a, pl, d, xs, ls, ps, xp, rfl, hs, al, g, gp, l4, ed, alp, k⟩ := h
  have hu : (A.deeper (envOfC "_check_locks" (defScope sCheckLocks) s.heap.objs.size f cdv)).units + 1 < cLine := hu_of hr
  refine ⟨_, (pss_one (ps_for PassesOwn.never rfl (pi_sq (pv 0)) (pg_tup (by rfl) (pgs_cons (pg_name (i := 3) scCheckLocks.nd rfl (.inl rfl)) (pgs_cons (pg_name (i := 4) scCheckLocks.nd rfl (.inl rfl)) (pgs_cons (pg_name (i := 4) scCheckLocks.nd rfl (.inl rfl)) pgs_nil))))
      (pss_one (ps_if (PW.pt (pw_or (pt_cmp (pc_dnotin hu (pv 3) (pv 2)) rfl) (pw_or1 (pt_cmpR op_ne (pe_ix (r := rIxT K) ix_tup (pe_dget hu (pv 2) (pv 3) (fun _ _ => rfl)) pe_int (fun _ _ => rfl)) (pv 1) (nomark _)))))
        (pss_one ps_never)
        pss_nil)))), ?_⟩
  refine ⟨_, rfl, a, xs, rfl, .inr hs, fun J Gd hG wk => ?_⟩
  refine for_it wk (fun i σ G => (∃ v3 v4 : Option V, σ = [some (.ref a), some (.str pl), some (.ref d), v3, v4]) ∧ G = H) ⟨⟨_, _, rfl⟩, rfl⟩ (fun i σ G _ h => by rw [h.2]; exact hG _ (Same.refl _)) ?_ (fun σ G h => by rw [h.2]; exact k)
  rintro i v σ G0 G hi ⟨⟨v3, v4, rfl⟩, rfl⟩ ⟨rfl, hx⟩
  obtain ⟨q, l, rfl, hl, eq⟩ := al.get hx
  have gl := g l (List.mem_of_getElem? hl)
  obtain ⟨pt0, hp0, e0, e1⟩ := gl.inn
  obtain ⟨pt, q2, hpt, en, ept, ev⟩ := pt_in (K := K) ed alp gp.nd (List.mem_map.mpr ⟨pt0, hp0, e0⟩)
  obtain rfl : pt = pt0 := name_one gp.nd hpt hp0 (en.trans e0.symm)
  refine ⟨q, _, rfl, SqT.of eq, rfl, _, _, rfl, _, _, rfl, _, _, rfl, rfl, ?_⟩
  refine ⟨_, rfl, _, rfl, d, some (.ref q2), rfl, .inl ⟨_, .inr l.pt, .inl ed, rfl, ev.symm⟩, _, rfl, iteF ?_⟩
  refine ⟨_, rfl, _, rfl, d, .ref q2, rfl, .inl ⟨_, .inr l.pt, .inl ed, rfl, ev.symm⟩, q2, _, 1, .str pt.pl, rfl, rfl, SqT.of ept, rfl, _, rfl, rfl, _, rfl, ?_⟩
  rw [e1, decide_eq_true rfl]
  exact iteF ⟨⟨_, _, rfl⟩, rfl⟩
def spCmds (K : PySem.W.Frag) : Sp := fun vs H Q _ => ∃ a d xs cs ps xp, vs = [.ref a, .ref d] ∧ Sq K H a xs ∧ Al fC H xs cs ∧ (∀ c ∈ cs, LkT H c) ∧ (∀ c ∈ cs, GoodC ps c) ∧ (cs.map Cm.nm).Nodup ∧ GoodPs ps ∧ cs.length ≤ 4 ∧ H d = some (.dK (kvs Pt.nm ps xp)) ∧ Al fP H xp ps ∧
  ∀ H', Same H H' → Q .non H'
theorem d_cmds (T : Txt mg) (A : At K mg "check_commands" sCheckCommands) (aLO : At K mg "is_list_of" sIsListOf) (dl : Def P w K mg base "is_list" 1 ["thing", "least", "most"] (spList K))
    (dS : Def P w K mg base "is_command_shape" 8 ["thing"] spCmdS) (dw : Def P w K mg base "is_worth_of" 4 ["point", "thing"] (spWorthOf K)) (dC : Def P w K mg base "_check_locks" 1 ["locks", "place", "points"] (spCLocks K)) :
    Def P w K mg base "check_commands" 11 ["commands", "points"] (spCmds K) := by
  obtain ⟨f0, fd0, hm0, hk0, hb0, F0⟩ := dS.ex
  have dLO := d_listOf T aLO dl (F0.raw hb0 .nil) hk0
  refine mkDef A scCheckCommands (fun _ _ _ _ _ _ us hl => match us, hl with | [_, _], _ => rfl) (fun vs H Q E ⟨_, _, _, _, _, _, e, _⟩ => by rw [e]; rfl)
    (fun f cdv A out s H vs Q E hr h => ?_)
  obtain ⟨a, d, xs, cs, ps, xp, rfl, hs, al, ht, g, nd, gp, l4, ed, alp, k⟩ := h
  have hu : (A.deeper (envOfC "check_commands" (defScope sCheckCommands) s.heap.objs.size f cdv)).units + 1 < cLine := hu_of hr
  refine ⟨_, (pss_cons (ps_if (pt_not (pt_val (pe_d dLO hr (by decide) (by rfl) (pa_cons (pe_glob (v := V.ref f0) (by rfl) hm0 rfl) (pa_cons (pv 0) (pa_cons pe_int (pa_cons (pe_gi T.c_MOST_COMMANDS) pa_nil)))))))
      (pss_one ps_never)
      pss_nil)
    (pss_cons (ps_set (i := 2) scCheckCommands.nd rfl (.inl rfl) (pe_lst pa_nil))
    (pss_one (ps_for PassesOwn.never rfl (pi_sqG (pv 0)) (pg_tup (by rfl) (pgs_cons (pg_name (i := 3) scCheckCommands.nd rfl (.inl rfl)) (pgs_cons (pg_name (i := 4) scCheckCommands.nd rfl (.inl rfl)) (pgs_cons (pg_name (i := 5) scCheckCommands.nd rfl (.inl rfl)) (pgs_cons (pg_name (i := 6) scCheckCommands.nd rfl (.inl rfl)) pgs_nil)))))
      (pss_cons (ps_if (pt_cmpR op_in_seq (pv 3) (pv 2) (by rfl))
        (pss_one ps_never)
        pss_nil)
      (pss_cons (ps_if (pt_cmp (pc_dnotin hu (pv 4) (pv 1)) rfl)
        (pss_one ps_never)
        pss_nil)
      (pss_cons (ps_if (pt_not (pt_val (pe_d dw hr (by decide) (by rfl) (pa_cons (pe_dget hu (pv 1) (pv 4) (fun _ _ => rfl)) (pa_cons (pv 5) pa_nil)))))
        (pss_one ps_never)
        pss_nil)
      (pss_cons (ps_expr (pe_d dC hr (by decide) (by rfl) (pa_cons (pv 6) (pa_cons (pe_ix (r := rIxT K) ix_tup (pe_dget hu (pv 1) (pv 4) (fun _ _ => rfl)) pe_int (fun _ _ => rfl)) (pa_cons (pv 1) pa_nil)))))
      (pss_one (ps_expr (pe_bm PySem.F.plainAttrs_list PySem.F.slot_list_append PySem.F.type_list_append mt_append (pv 2) (pa_cons (pv 3) pa_nil)))))))))))), ?_⟩
  have hlen := al.length
  refine ⟨_, rfl, a, xs, 0, 4, rfl, hs, by omega, by omega, by omega, fun v hv H1 Q1 S1 q1 => ?_, fun H1 S1 => ?_⟩
  · obtain ⟨i, hi, ei⟩ := List.getElem_of_mem hv
    obtain ⟨q, c, rfl, hc, eq⟩ := (al.same S1).get (List.getElem?_eq_some_iff.mpr ⟨hi, ei⟩)
    have hm := List.mem_of_getElem? hc
    exact ⟨q, c, ps, rfl, eq, (ht c hm).same S1, g c hm, gp, q1⟩
  refine ⟨_, rfl, iteF ?_⟩
  refine ⟨by show 0 ≤ sizeLine; decide, fun L nL => ?_⟩
  have nLH : H L = none := Same.no S1 nL
  have eL : upd H1 L (.lst []) L = some (.lst []) := upd_same
  have S2 : Same H (upd H1 L (.lst [])) := Same.wo_upd S1 nLH
  generalize upd H1 L (.lst []) = H2 at *
  dsimp only [gName]
  refine ⟨_, rfl, a, xs, fun H' => Same H H', rfl, S2, hs.ok, fun J Gd hG wk => ?_⟩
  have nmE : ∀ i, (cs.map Cm.nm).take i = ((cs.take i).map Cm.nm) := fun i => (List.map_take ..).symm
  refine for_it wk (fun i σ G => (∃ v3 v4 v5 v6 : Option V, σ = [some (.ref a), some (.ref d), some (.ref L), v3, v4, v5, v6]) ∧ Same H G ∧ G L = some (.lst (((cs.take i).map Cm.nm).map V.str))) ⟨⟨_, _, _, _, rfl⟩, S2, eL⟩ (fun i σ G _ h => hG _ h.2.1) ?_ (fun σ G h => k G h.2.1)
  rintro i v σ G0 G hi ⟨⟨v3, v4, v5, v6, rfl⟩, S, eG⟩ ⟨rfl, hx⟩
  have SG := S
  obtain ⟨q, c, rfl, hc, eq⟩ := (al.same SG).get hx
  have hm := List.mem_of_getElem? hc
  have gc := g c hm
  obtain ⟨lv, et, all⟩ := (ht c hm).same SG
  obtain ⟨pt0, hp0, e0, w0, w1, gl⟩ := gc.inn
  have ed' := SG _ _ ed
  obtain ⟨pt, q2, hpt, en, ept, ev⟩ := pt_in (K := K) ed' (alp.same SG) gp.nd (List.mem_map.mpr ⟨pt0, hp0, e0⟩)
  obtain rfl : pt = pt0 := name_one gp.nd hpt hp0 (en.trans e0.symm)
  have get : DGet G d (.str c.pt) (some (.ref q2)) := .inl ⟨_, .inr c.pt, .inl ed', rfl, ev.symm⟩
  refine ⟨q, _, rfl, SqT.of eq, rfl, _, _, rfl, _, _, rfl, _, _, rfl, _, _, rfl, rfl, ?_⟩
  refine ⟨_, rfl, _, rfl, L, _, rfl, .inl (SqL.of eG), rfl, flat_strs _, _, rfl, ?_⟩
  have en1 : (cs.map Cm.nm)[i]? = some c.nm := by rw [List.getElem?_map, hc]; rfl
  have nin : c.nm ∉ (cs.take i).map Cm.nm := by rw [List.map_take]; exact nodup_take nd en1
  rw [inV_str, decide_eq_false nin]
  refine iteF ?_
  refine ⟨_, rfl, _, rfl, d, some (.ref q2), rfl, get, _, rfl, iteF ?_⟩
  refine ⟨_, rfl, _, rfl, d, .ref q2, rfl, get, _, rfl, q2, pt, .int c.wo, _, rfl, ept, .int _, true, congrArg V.bl (whole_in w0 w1), iteF ?_⟩
  refine ⟨_, rfl, _, rfl, _, rfl, d, .ref q2, rfl, get, q2, _, 1, .str pt.pl, rfl, rfl, SqT.of ept, rfl, _, rfl, c.t, pt.pl, d, lv, c.lks, ps, xp, rfl, SqT.of et, all, gl, gp, gc.few, ed', alp.same SG, ?_⟩
  refine ⟨_, rfl, .inl ⟨rfl, _, SqL.of eG⟩, _, rfl, L, _, .str c.nm, rfl, rfl, eG, ?_, ⟨⟨_, _, _, _, rfl⟩, ?_, ?_⟩⟩
  · rw [List.length_map, List.length_map, List.length_take]
    exact Nat.lt_of_le_of_lt (show min i cs.length ≤ 4 by omega) (by decide)
  · exact Same.wo_upd S nLH
  · rw [upd_same, List.take_add_one, hc, List.map_append, List.map_append]
    rfl
def spCm (C : Addr) (K : PySem.W.Frag) : Sp := fun vs H Q _ => ∃ p W, vs = [.ref p] ∧ WoAt K C H p W ∧ ∀ l H', Same H H' → H l = none → H' l = some (.lst W.xm) → Q (.ref l) H'
theorem d_cm (T : Txt mg) (Wc : WoC K C) (A : AtMt K C "commands" "Works.commands" mWorks_Commands) : DefM P w K mg base C "commands" 1 ["self"] (spCm C K) := by
  refine mkDefM A scmWorks_Commands (fun _ _ _ _ _ _ us hl => match us, hl with | [_], _ => rfl) (fun vs H Q E ⟨_, _, e, _⟩ => by rw [e]; rfl)
    (fun f cdv A out s H vs Q E hr h => ?_)
  obtain ⟨p, W, rfl, hw, k⟩ := h
  obtain ⟨dx, tp, dp, tr, dr, tc, tm, dm, tl, e0, e1, e2, e3, e4, e5, e6, e7, e8⟩ := hw.ex
  refine ⟨_, (pss_one (ps_ret (pe_callTy call_list_of (by rfl) T.list (by decide +kernel) (pa_cons (pe_fld (pv 0) rfl) pa_nil)))), ?_⟩
  refine ⟨_, rfl, p, C, dx, _, _, rfl, e0, Wc.cl, Wc.nCo, (lk_ne (by decide +kernel)).trans ((lk_ne (by decide +kernel)).trans ((lk_ne (by decide +kernel)).trans ((lk_ne (by decide +kernel)).trans ((lk_ne (by decide +kernel)).trans lk_eq)))), tm, W.xm, rfl, .inr e6, fun l nl => ?_⟩
  exact k l _ (Same.laid nl) nl upd_same
end
end V10

namespace V10
open PySem PySem.Spec PyProof.Rows L2 Pw
/-- a box of draws -/
def BoxAt (H : Hp) (p : Addr) (n : Nat) : Prop := ∃ b0 b1 b2 : Int, H p = some (.lst [.int b0, .int b1, .int b2]) ∧
  0 ≤ b1 ∧ b1 < 2147483563 ∧ 0 ≤ b2 ∧ b2 ≤ n
theorem BoxAt.up {H : Hp} {p : Addr} {n m : Nat} (h : BoxAt H p n) (l : n ≤ m) : BoxAt H p m := by
  obtain ⟨b0, b1, b2, e, h1, h2, h3, h4⟩ := h
  exact ⟨b0, b1, b2, e, h1, h2, h3, by omega⟩
theorem BoxAt.keep {H H' : Hp} {p : Addr} {n : Nat} (h : BoxAt H p n) (S : Same H H') : BoxAt H' p n := by
  obtain ⟨b0, b1, b2, e, r⟩ := h
  exact ⟨b0, b1, b2, S _ _ e, r⟩
theorem BoxAt.laid {H : Hp} {p q : Addr} {n : Nat} {o : HO} (h : BoxAt H p n) (nq : H q = none) : BoxAt (upd H q o) p n := h.keep (Same.laid nq)
theorem BoxAt.ne {H : Hp} {p q : Addr} {n : Nat} (h : BoxAt H p n) (nq : H q = none) : q ≠ p := by
  obtain ⟨b0, b1, b2, e, r⟩ := h
  exact (ne_of_none e nq).symm
theorem menu {xs : List V} {i : Int} (h0 : 0 ≤ i) (h1 : i < (xs.length : Int)) : ∃ v, v ∈ xs ∧ atI xs i = some v := by
  obtain ⟨j, rfl⟩ := Int.eq_ofNat_of_zero_le h0
  have hj : j < xs.length := by omega
  exact ⟨xs[j], List.getElem_mem hj, atI_nat (by simp [hj])⟩

section
variable {P : Program} {w : World} {K : PySem.W.Frag} {mg : Str → Option Value} {base : Heap}
def spCell (K : PySem.W.Frag) : Sp := fun vs H Q _ => ∃ (a : Addr) (ns : List Int) (k : Int), vs = [.ref a, .int k] ∧ SqL K H a (ns.map V.int) ∧ ns.length ≤ 63 ∧
  0 ≤ k ∧ k ≤ 100 ∧ ∀ c, Q (.int c) H
theorem d_cell (T : Txt mg) (A : At K mg "_law_cell" sLawCell) : Def P w K mg base "_law_cell" 1 ["_law_script", "_law_k"] (spCell K) := by
  refine mkDef A scLawCell (fun _ _ _ _ _ _ us hl => match us, hl with | [_, _], _ => rfl) (fun vs H Q E ⟨a, ns, k, e, _⟩ => by rw [e]; rfl)
    (fun f cdv A out s H vs Q E hr h => ?_)
  obtain ⟨a, ns, i, rfl, hS, hl, h0, h1, k⟩ := h
  refine ⟨_, (pss_cons (ps_if (pt_cmpR op_lt (pv 1) (pe_callB call_len_seq (by rfl) T.len PySem.boot_len (pa_cons (pv 0) pa_nil)) (nomark _))
      (pss_one (ps_ret (pe_ix ix_list (pv 0) (pv 1) (fun _ _ => rfl))))
      pss_nil)
    (pss_one (ps_ret (pe_op op_add (pe_op op_mul pe_int (pv 1)) pe_int)))), ?_⟩
  refine ⟨_, rfl, _, rfl, a, ns.map V.int, rfl, .inl hS, i, _, rfl, rfl, _, rfl, ?_⟩
  refine ite2 (fun hlt => ?_) (fun _ => ?_)
  · have hlt' : i < ((ns.map V.int).length : Int) := of_decide_eq_true hlt
    rw [List.length_map] at hlt'
    obtain ⟨j, rfl⟩ := Int.eq_ofNat_of_zero_le h0
    have hj : j < ns.length := by omega
    refine ⟨_, rfl, _, rfl, a, ns.map V.int, (j : Int), .int ns[j], rfl, rfl, hS, ?_, k _⟩
    exact atI_nat (by simp [hj])
  · exact ⟨_, rfl, _, _, rfl, rfl, .inl ⟨by decide, by decide⟩, _, _, rfl, rfl, k _⟩

def spBox (K : PySem.W.Frag) : Sp := fun vs H Q _ => ∃ c, vs = [.int c] ∧
  ∀ p H', H p = none → Same H H' → BoxAt H' p 0 → Q (.ref p) H'
theorem d_box (T : Txt mg) (A : At K mg "_law_box" sLawBox) : Def P w K mg base "_law_box" 1 ["_law_cell_here"] (spBox K) := by
  refine mkDef A scLawBox (fun _ _ _ _ _ _ us hl => match us, hl with | [_], _ => rfl) (fun vs H Q E ⟨c, e, _⟩ => by rw [e]; rfl)
    (fun f cdv A out s H vs Q E hr h => ?_)
  obtain ⟨c, rfl, k⟩ := h
  refine ⟨_, (pss_one (ps_ret (pe_lst (pa_cons (pe_callB (call_max2 rfl) (by rfl) T.max PyProof.Rows.boot_max (pa_cons pe_int (pa_cons (pe_op op_sub (pv 0) (pe_op op_pow pe_int pe_int)) pa_nil))) (pa_cons (pe_op op_mod (pv 0) pe_int) (pa_cons pe_int pa_nil)))))), ?_⟩
  refine ⟨_, rfl, 10, 18, rfl, rfl, ⟨by decide, by decide, by decide⟩, _, _, rfl, rfl, 0, _, rfl, _, rfl, _, _, rfl, rfl, (by decide : (0 : Int) < 2147483563), (by show 3 ≤ sizeLine; decide), fun p hp => ?_⟩
  refine k p _ hp (Same.laid hp) ⟨_, _, _, upd_same, ?_, ?_, by decide, by decide⟩
  · exact Int.emod_nonneg _ (by decide)
  · have := Int.emod_lt_of_pos c (by decide : (0 : Int) < 2147483563)
    omega

def spTake (K : PySem.W.Frag) : Sp := fun vs H Q _ => ∃ p m n, vs = [.ref p, .int m] ∧ BoxAt H p n ∧ n ≤ 1000000 ∧ 0 < m ∧ m < 2 ^ 200 ∧
  ∀ i H', 0 ≤ i → i < m → BoxAt H' p (n + 1) → But p H H' → Q (.int i) H'
theorem d_take (A : At K mg "_law_take" sLawTake) : Def P w K mg base "_law_take" 1 ["_law_box_here", "_law_many"] (spTake K) := by
  refine mkDef A scLawTake (fun _ _ _ _ _ _ us hl => match us, hl with | [_, _], _ => rfl) (fun vs H Q E ⟨p, m, n, e, _⟩ => by rw [e]; rfl)
    (fun f cdv A out s H vs Q E hr h => ?_)
  obtain ⟨p, m, n, rfl, ⟨b0, b1, b2, hp, h1, h2, h3, h4⟩, hn, m0, mb, k⟩ := h
  have mb' : m.natAbs < 2 ^ 200 := by omega
  have at0 : atI [V.int b0, .int b1, .int b2] 0 = some (.int b0) := rfl
  have at1 : atI [V.int b0, .int b1, .int b2] 1 = some (.int b1) := rfl
  have at2 : atI [V.int b0, .int b1, .int b2] 2 = some (.int b2) := rfl
  refine ⟨_, (pss_cons (ps_if (pt_cmpR op_gt (pe_ix ix_list (pv 0) pe_int (fun _ _ => rfl)) pe_int (nomark _))
      (pss_cons (ps_set (i := 2) scLawTake.nd rfl (.inl rfl) (pe_op op_mod (pe_ix ix_list (pv 0) pe_int (fun _ _ => rfl)) (pv 1)))
      (pss_cons (ps_asg (pe_op op_fdivW (pe_ix ix_list (pv 0) pe_int (fun _ _ => rfl)) (pv 1)) (pg_sub (pv 0) pe_int set_list))
      (pss_one (ps_ret (pv 2)))))
      pss_nil)
    (pss_cons (ps_asg (pe_op op_add (pe_ix ix_list (pv 0) pe_int (fun _ _ => rfl)) pe_int) (pg_sub (pv 0) pe_int set_list))
    (pss_cons (ps_set (i := 3) scLawTake.nd rfl (.inl rfl) (pe_op op_mod (pe_op op_pow (pe_op op_add (pe_op op_add (pe_ix ix_list (pv 0) pe_int (fun _ _ => rfl)) (pe_op op_mul pe_int (pe_ix ix_list (pv 0) pe_int (fun _ _ => rfl)))) pe_int) pe_int) pe_int))
    (pss_cons (ps_set (i := 3) scLawTake.nd rfl (.inl rfl) (pe_op op_mod (pe_op op_pow (pe_op op_add (pv 3) (pe_op op_mul pe_int (pe_ix ix_list (pv 0) pe_int (fun _ _ => rfl)))) pe_int) pe_int))
    (pss_one (ps_ret (pe_op op_mod (pe_op op_fdiv (pv 3) pe_int) (pv 1)))))))), ?_⟩
  refine ⟨_, rfl, p, _, 0, _, rfl, rfl, SqL.of hp, at0, b0, 0, rfl, rfl, _, rfl, ?_⟩
  refine ite2 (fun hgt => ?_) (fun _ => ?_)
  · refine ⟨_, rfl, p, _, 0, _, rfl, rfl, SqL.of hp, at0, _, rfl, b0, m, rfl, rfl, m0, ?_⟩
    refine ⟨_, rfl, p, _, 0, _, rfl, rfl, SqL.of hp, at0, _, rfl, b0, m, rfl, rfl, wide_div m0 mb' (by decide) (by decide), ?_⟩
    refine ⟨_, rfl, p, _, 0, 0, rfl, rfl, hp, rfl, ?_⟩
    refine ⟨_, rfl, ?_⟩
    exact k _ _ (Int.emod_nonneg _ (by omega)) (Int.emod_lt_of_pos _ m0) ⟨_, b1, b2, upd_same, h1, h2, h3, by omega⟩ But.set
  · refine ⟨_, rfl, p, _, 2, _, rfl, rfl, SqL.of hp, at2, _, _, rfl, rfl, ?_⟩
    refine ⟨_, rfl, p, _, 2, 2, rfl, rfl, hp, rfl, ?_⟩
    have hp2 : upd H p (.lst [V.int b0, .int b1, .int (b2 + 1)]) p = some (.lst [V.int b0, .int b1, .int (b2 + 1)]) := upd_same
    have bt1 : atI [V.int b0, .int b1, .int (b2 + 1)] 1 = some (.int b1) := rfl
    have bt2 : atI [V.int b0, .int b1, .int (b2 + 1)] 2 = some (.int (b2 + 1)) := rfl
    refine ⟨_, rfl, p, _, 1, _, rfl, rfl, SqL.of hp2, bt1, _, rfl, p, _, 2, _, rfl, rfl, SqL.of hp2, bt2, _, _, rfl, rfl, .inl ⟨by decide, by decide⟩, _, _, rfl, rfl, _, _, rfl, rfl, 
      _, _, rfl, rfl, ⟨by decide, by decide, by omega⟩, _, _, rfl, rfl, (by decide : (0 : Int) < 2147483647), ?_⟩
    have e1 := Int.emod_nonneg ((b1 + 60013 * (b2 + 1) + 5) ^ (5 : Int).toNat) (by decide : (2147483647 : Int) ≠ 0)
    have e2 := Int.emod_lt_of_pos ((b1 + 60013 * (b2 + 1) + 5) ^ (5 : Int).toNat) (by decide : (0 : Int) < 2147483647)
    refine ⟨_, rfl, _, rfl, p, _, 2, _, rfl, rfl, SqL.of hp2, bt2, _, _, rfl, rfl, .inl ⟨by decide, by decide⟩, _, _, rfl, rfl, 
      _, _, rfl, rfl, ⟨by decide, by decide, ?_⟩, _, _, rfl, rfl, (by decide : (0 : Int) < 2147483629), ?_⟩
    · generalize (b1 + 60013 * (b2 + 1) + 5) ^ (5 : Int).toNat % 2147483647 = z at e1 e2
      omega
    · refine ⟨_, rfl, _, _, rfl, rfl, ⟨by decide, by decide⟩, _, rfl, _, _, rfl, rfl, m0, ?_⟩
      exact k _ _ (Int.emod_nonneg _ (by omega)) (Int.emod_lt_of_pos _ m0) ⟨b0, b1, b2 + 1, upd_same, h1, h2, by omega, by omega⟩ But.set
end
end V10

/-! Sets of texts and numbers that can be gone through: made by a comprehension, sorted. -/
namespace Pw
open PySem PySem.Spec PyProof.Rows L2
def keyM : Value → Key
  | .int i _ => .inl i
  | .str x _ => .inr x
  | _ => .inl 0
def keysM (l : List (Int × Value)) : List Key := l.map fun e => keyM e.2
/-- what a table tells: each key once, its places rise, it is led -/
structure TabOk (w : World) (l : List (Int × Value)) (t : SetTable) : Prop where
  nd : (keysM l).Nodup
  ri : Ris t.place.toList
  le : w.params.followText "set-order" = true ∨ t.led = true
def SetQ (P : Program) (w : World) (h : Heap) (a : Addr) (S : Key → Bool) (n : Nat) : Prop :=
  ∃ o es ep t, h.get? a = some o ∧ o.ExactSet ∧ o.data = .set es ep t ∧ ElemsOf (mixKind P w) es.toList ∧ (∀ k, S k = true ↔ k ∈ keysM es.toList) ∧ es.size < scanBound ∧ t.fits es.size = true ∧ es.size = n ∧ TabOk w es.toList t
section
variable {P : Program} {w : World} {h h' : Heap} {a : Addr} {S : Key → Bool} {n : Nat}
theorem keyM_is {k : Key} {v : Value} (h : (mixKind P w).is k v = true) : keyM v = k := by
  rcases keyIs_shape h with ⟨i, t, rfl, rfl⟩ | ⟨x, t, rfl, rfl⟩ <;> rfl
theorem is_keyM {l : List (Int × Value)} (g : ElemsOf (mixKind P w) l) {e : Int × Value} (he : e ∈ l) {k : Key} : (mixKind P w).is k e.2 = true ↔ keyM e.2 = k := by
  refine ⟨keyM_is, fun q => ?_⟩
  obtain ⟨⟨k', h1, _⟩, _⟩ := g e he
  have := keyM_is h1
  rw [← q, this]
  exact h1
theorem mem_keysM {l : List (Int × Value)} (g : ElemsOf (mixKind P w) l) (k : Key) : k ∈ keysM l ↔ ∃ e ∈ l, (mixKind P w).is k e.2 = true := by
  unfold keysM
  rw [List.mem_map]
  exact ⟨fun ⟨e, he, q⟩ => ⟨e, he, (is_keyM g he).mpr q⟩, fun ⟨e, he, q⟩ => ⟨e, he, (is_keyM g he).mp q⟩⟩
theorem SetQ.of (R : SetQ P w h a S n) : h.SetOf (mixKind P w) a S n := by
  obtain ⟨o, es, ep, t, c1, c2, c3, c4, c5, c6, c7, c8, _⟩ := R
  exact ⟨o, es, ep, t, c1, c2, c3, c4, fun k => (c5 k).trans (mem_keysM c4 k), c6, c7, c8⟩
theorem SetQ.keep (R : SetQ P w h a S n) (k : ∀ o, h.get? a = some o → h'.get? a = some o) : SetQ P w h' a S n := by
  obtain ⟨o, es, ep, t, c1, r⟩ := R
  exact ⟨o, es, ep, t, k o c1, r⟩
theorem TabOk.move {l l' : List (Int × Value)} {t t' : SetTable} (T : TabOk w l t) (p : List.Perm l' l) (r : Ris t'.place.toList) (e : t'.led = t.led) : TabOk w l' t' :=
  ⟨(p.map fun e : Int × Value => keyM e.2).nodup_iff.mpr T.nd, r, T.le.imp id fun z => e.trans z⟩
theorem setQ_fresh {P : Program} {h : Heap} : SetQ P w (h.push { cls := Value.type "set", data := Data.set #[] 0 (SetTable.fresh 0 0 !w.params.followText "set-order") }) h.objs.size (fun _ => false) 0 := by
  refine ⟨_, #[], 0, _, Heap.get?_push_size _ rfl, ⟨rfl, rfl, rfl⟩, rfl, (fun e he => by cases he), (fun k => by simp [keysM]), by decide, ?_, rfl, ⟨List.nodup_nil, List.Pairwise.nil, ?_⟩⟩
  · cases (!w.params.followText "set-order") <;> rfl
  · show _ ∨ (!w.params.followText "set-order") = true
    cases w.params.followText "set-order" <;> simp
end
section
variable {P : Program} {w : World} {A : Around} {E : Value → Shared → Prop} {s : Shared} {a : Addr} {S : Key → Bool} {n : Nat}
/-- a table stored, laid anew where it is too full -/
theorem tail_setQ {gv : Bool → Sem Unit} (hg : ∀ (b : Bool) (z : Shared) (Qu : Unit → Shared → Prop), Qu () z → wpAny (model P w) A (gv b) Qu E z) {o : Obj} {es es1 : Array (Int × Value)} {ep : Nat} {t t2 : SetTable} {S' : Key → Bool} {wd : Bool} {R : Option Bool → Shared → Prop}
    (at0 : s.heap.get? a = some o) (xs : o.ExactSet) (dt : o.data = .set es ep t) (el : ElemsOf (mixKind P w) es1.toList) (mm : ∀ k, S' k = true ↔ k ∈ keysM es1.toList) (sz : es1.size < scanBound) (ft : t2.fits es1.size = true) (T : TabOk w es1.toList t2)
    (kk : ∀ h', Heap.SameBut a s.heap h' → SetQ P w h' a S' es1.size → R (some true) { s with heap := h' }) :
    wpAny (model P w) A (storeSet a es1 t2 >>= fun _ => if (!wd && t2.tooFull) = true then (gv (relayAll t2 es1 (SetTable.grown es1.size)).2.2 >>= fun _ => storeSet a (relayAll t2 es1 (SetTable.grown es1.size)).1 (relayAll t2 es1 (SetTable.grown es1.size)).2.1 >>= fun _ => pure (some true)) else pure (some true)) R E s := by
  have at1 := store_at (es' := es1) (t' := t2) at0 dt
  have b1 := Heap.SameBut.update s.heap a (Obj.putSet es1 t2)
  refine wpAny_bind (wpAny_storeSet_of at0 dt ?_ (fits_of_scanBound sz))
  by_cases tf : (!wd && t2.tooFull) = true
  · rw [if_pos tf]
    have q1 := relayAll_perm t2 es1 (SetTable.grown es1.size)
    have q2 := relayAll_fits t2 es1 (SetTable.grown es1.size)
    have q3 := T.move q1 (relayAll_ris t2 es1 (SetTable.grown es1.size)) (relayAll_led t2 es1 (SetTable.grown es1.size))
    generalize relayAll t2 es1 (SetTable.grown es1.size) = Y at q1 q2 q3 ⊢
    obtain ⟨es2, t3, gave⟩ := Y
    dsimp only at q1 q2 q3 ⊢
    have z2 : es2.size = es1.size := by rw [← Array.length_toList, q1.length_eq, Array.length_toList]
    refine wpAny_bind (hg _ _ _ (wpAny_bind (wpAny_storeSet_of at1 rfl ?_ (fits_of_scanBound (z2 ▸ sz)))))
    refine wpAny_pure (kk _ (b1.trans (Heap.SameBut.update _ a _)) ⟨_, es2, _, t3, store_at (es' := es2) (t' := t3) at1 rfl, xs, rfl, el.perm q1, fun k => (mm k).trans (q1.map fun e : Int × Value => keyM e.2).mem_iff.symm, z2 ▸ sz, q2, z2, q3⟩)
  · rw [if_neg tf]
    exact wpAny_pure (kk _ b1 ⟨_, es1, _, t2, at1, xs, rfl, el, mm, sz, ft, rfl, T⟩)
theorem hashed_setQ {k : Key} {x : Value} {Q : Bool → Shared → Prop} (hk : (mixKind P w).is k x = true) (hx : x.scannable = true) (R : SetQ P w s.heap a S n) (room : n + 1 < scanBound)
    (kk : ∀ h', Heap.SameBut a s.heap h' → SetQ P w h' a (fun j => S j || decide (j = k)) (if S k = true then n else n + 1) → Q (!S k) { s with heap := h' }) :
    wpAny (model P w) A (setAddHashed a x ((mixKind P w).hash k)) Q E s := by
  obtain ⟨o, es, ep, t, at0, xs, dt, el, mm, sz, ft, rfl, T⟩ := R
  unfold setAddHashed setAddHashedIn
  refine wpAny_holding (wpAny_bind (wpAny_setState_of at0 dt ft ?_))
  dsimp only
  rw [byScan_of hx sz el, if_pos rfl]
  unfold setAddByScan
  refine wpAny_bind (wpAny_bind (wpAny_rule (wpAny_bind (wpAny_setScan_of hk at0 dt ft el ?_))))
  cases fi : List.findIdx? (fun e => (mixKind P w).is k e.2) es.toList with
  | some j =>
    obtain ⟨jl, jp, _⟩ := List.findIdx?_eq_some_iff_getElem.mp fi
    have sk : S k = true := (mm k).mpr ((mem_keysM el k).mpr ⟨_, List.getElem_mem jl, jp⟩)
    have fin := kk s.heap (.refl a s.heap) ⟨o, es, ep, t, at0, xs, dt, el, fun i => by
      rw [Bool.or_eq_true, decide_eq_true_eq, ← mm i]
      exact ⟨fun z => z.elim id fun e => e ▸ sk, .inl⟩, sz, ft, by rw [if_pos sk], T⟩
    rw [sk] at fin
    exact wpAny_pure (wpAny_pure fin)
  | none =>
    dsimp only
    have nk : k ∉ keysM es.toList := fun z => by
      obtain ⟨e, he, q⟩ := (mem_keysM el k).mp z
      exact absurd q (by rw [List.findIdx?_eq_none_iff.mp fi e he]; decide)
    have sk : S k = false := by
      cases q : S k with
      | false => rfl
      | true => exact absurd ((mm k).mp q) nk
    have p1 := layNew_perm t es ((mixKind P w).hash k) x
    have p2 := layNew_fits t es ((mixKind P w).hash k) x
    have p3 := layNew_ris t es ((mixKind P w).hash k) x T.ri
    have p4 := layNew_led t es ((mixKind P w).hash k) x
    generalize layNew t es ((mixKind P w).hash k) x = Y at p1 p2 p3 p4 ⊢
    obtain ⟨es1, t1, wd, gave⟩ := Y
    dsimp only at p1 p2 p3 p4 ⊢
    rw [Array.toList_push] at p1
    have pc : (keysM es1.toList).Perm (k :: keysM es.toList) := by
      have q := (p1.trans (List.perm_append_singleton _ _)).map fun e : Int × Value => keyM e.2
      rw [List.map_cons, keyM_is hk] at q
      exact q
    have el1 : ElemsOf (mixKind P w) es1.toList := (el.push hk hx).perm p1
    have T1 : ∀ t', t'.place = t1.place → t'.led = t1.led → TabOk w es1.toList t' := fun t' e1 e2 => ⟨pc.nodup_iff.mpr (List.nodup_cons.mpr ⟨nk, T.nd⟩), by rw [e1]; exact p3, T.le.imp id fun z => by rw [e2, p4]; exact z⟩
    have m1 : ∀ i, (S i || decide (i = k)) = true ↔ i ∈ keysM es1.toList := fun i => by
      rw [Bool.or_eq_true, decide_eq_true_eq, mm i, pc.mem_iff, List.mem_cons]
      exact Or.comm
    have z1 : es1.size = es.size + 1 := by rw [← Array.length_toList, p1.length_eq, List.length_append, Array.length_toList]; rfl
    have fin : ∀ h', Heap.SameBut a s.heap h' → SetQ P w h' a (fun j => S j || decide (j = k)) es1.size → Q true { s with heap := h' } := fun h' sb r => by
      have q := kk h' sb
      rw [sk, if_neg (by decide), ← z1] at q
      exact q r
    have gw : ∀ (b : Bool) (Qu : Unit → Shared → Prop), Qu () s → wpAny (model P w) A (match b with | true => rule "set.scan.the-table-gave-way" | false => pure ()) Qu E s := fun b Qu q => by
      cases b
      · exact wpAny_pure q
      · exact wpAny_rule q
    refine wpAny_bind (gw gave _ ?_)
    · split
      · refine wpAny_bind ?_
        rw [hashByValue_scannable 8 hx]
        refine wpAny_pure (tail_setQ (fun b z Qu q => by cases b <;> first | exact wpAny_pure q | exact wpAny_rule q) at0 xs dt el1 m1 (z1 ▸ room) ?_ ?_ fun h' sb r => wpAny_pure (fin h' sb r))
        · split
          · exact p2
          · exact SetTable.fits_plain_off p2
        · split
          · exact T1 _ rfl rfl
          · exact T1 _ rfl rfl
      · refine wpAny_bind (wpAny_pure ?_)
        rw [if_pos rfl]
        exact tail_setQ (fun b z Qu q => by cases b <;> first | exact wpAny_pure q | exact wpAny_rule q) at0 xs dt el1 m1 (z1 ▸ room) p2 (T1 _ rfl rfl) fun h' sb r => wpAny_pure (fin h' sb r)
end
/-! ### the set as it stands in the tracked part -/
def SetQO (P : Program) (w : World) (a : Addr) (S : Key → Bool) (n : Nat) : HO := .ext fun h => SetQ P w h a S n
theorem setQ_new {w : World} {P : Program} {H : Hp} {h : Heap} {a : Addr} {S : Key → Bool} {n : Nat} (R : SetQ P w h a S n) : ObjOk P w H h a (SetQO P w a S n) := by
  have ⟨o, _, _, _, ho, _⟩ := R
  exact ⟨R, ⟨o, ho⟩, fun h1 h2 p k => SetQ.keep p k⟩
theorem setQ_get {X : Cx} {pins : List (Addr × Obj)} {σ : L2.St} {H : Hp} {s : Shared} {a : Addr} {S : Key → Bool} {n : Nat} (I : Inv X pins σ H s) (ha : H a = some (SetQO X.prog X.w a S n)) : SetQ X.prog X.w s.heap a S n := (I.hok a _ ha).1
def rSAddQ (P : Program) (w : World) : V → List V → Hp → VK → Prop := fun x xs H Q => ∃ (a : Addr) (k : Key) (S : Key → Bool) (n : Nat), x = V.ref a ∧ xs = [kV k] ∧ H a = some (SetQO P w a S n) ∧ n + 1 < scanBound ∧
  Q .non (upd H a (SetQO P w a (fun j => S j || decide (j = k)) (if S k = true then n else n + 1)))
theorem mt_saddQ {X : Cx} : MtR X "set.add" (rSAddQ X.prog X.w) := by
  intro pins s σ H x xs v us Q I rx rxs h
  obtain ⟨a, k, S, n, rfl, rfl, ha, room, q⟩ := h
  cases rx
  cases rxs with
  | cons ry rt =>
    rename_i y _
    cases rt
    have R := setQ_get I ha
    refine wpAny_call_entry F.slot_set_add R.of.typeIs F.entry_set_add ?_ (F.args_set_add_2 _ _)
    unfold Builtin.«set.add» Builtin.Frozenset.oneOther
    simp only [List.isEmpty_nil, bind_assoc]
    unfold Builtin.Frozenset.addrOf setAdd
    refine wpAny_bind (wpAny_pure ?_)
    try dsimp only
    refine wpAny_bind (wpAny_pure ?_)
    try dsimp only
    refine wpAny_bind (wpAny_holding (wpAny_bind ((mixKind X.prog X.w).pyHash (kV_is ry) ?_)))
    refine hashed_setQ (s := { s with toks := s.toks + 1 }) (kV_is ry) (key_scan ry) R room fun h' sb new => ?_
    have he : ∃ u, h'.get? a = some u := by
      have ⟨o, _, _, _, ho, _⟩ := new
      exact ⟨o, ho⟩
    show wpAny _ _ (ret Value.none) _ _ _
    exact wpAny_pure ⟨_, rfl, .non, upd H a (SetQO X.prog X.w a (fun j => S j || decide (j = k)) (if S k = true then n else n + 1)), I.write (e := a) (t' := s.toks + 1) (by rw [ha]; trivial) (.inl rfl) (fun b u hb hu => (sb.2 b hb).trans hu) he (setQ_new new), rfl, q⟩
def tScQ (P : Program) (w : World) (wi : TI) (g : TG) (tt : L2.TT) (te : TE) (vs : List Nat) : TE := fun σ H Q => wi σ H fun J H1 => ∀ D, H1 D = none →
  ∃ W : Nat → Nat → Hp → Prop, (∃ m, W 0 m (upd H1 D (SetQO P w D (fun _ => false) 0))) ∧ ∀ i m H, W i m H → (J.stop i H ∧ Q (.ref D) H) ∨
    (J.go i H ∧ ∃ Nx : Hp → Prop, (∀ H', Nx H' → ∃ m', m' < m ∧ W (i + 1) m' H') ∧ ∀ x H', J.yld i H x H' → g x (wipe σ vs) H' fun σ2 H2 => wipe σ2 vs = wipe σ vs ∧ tt σ2 H2 fun b H3 =>
      if b = true then te σ2 H3 fun y H4 => ∃ (k : Key) (S : Key → Bool) (n : Nat), y = kV k ∧ H4 D = some (SetQO P w D S n) ∧ n + 1 < scanBound ∧
        Nx (upd H4 D (SetQO P w D (fun j => S j || decide (j = k)) (if S k = true then n else n + 1))) else Nx H3)
section
variable {X : Cx} {pins : List (Addr × Obj)} {s : Shared} {σ : L2.St} {H : Hp} {Q : VK} {elt tg iter : Expr}
  {ifs : List Expr} {scope : Scope} {own : List (Str × Nat)} {pos pos' : Pos} {wi : TI} {g : TG}
  {tt : L2.TT} {te : TE} {use : Option (Value → Sem Unit)} {Qf : Value → Shared → Prop}
theorem scQ_core (hc : X.calm = true) (hN : X.N.Nodup) (I : Inv X pins σ H s) (hi : PI X tg iter wi) (ok : BlkOk X.N X.env.scope scope own)
    (hg : ∀ (s : Shared) (H : Hp) (C : Addr) (cl : List (Str × Addr)) (fp : List Addr), PG (X.blk s H scope (compEnvC scope cl C X.env) fp) tg g)
    (ht : ∀ (s : Shared) (H : Hp) (C : Addr) (cl : List (Str × Addr)) (fp : List Addr), PTs (X.blk s H scope (compEnvC scope cl C X.env) fp) ifs tt)
    (he : ∀ (s : Shared) (H : Hp) (C : Addr) (cl : List (Str × Addr)) (fp : List Addr), PE (X.blk s H scope (compEnvC scope cl C X.env) fp) elt te)
    (hs : ∀ x : Value, foldedSetIterable iter X.env x = pure x) (h : tScQ X.prog X.w wi g tt te (own.map (·.2)) σ H Q)
    (hRR : ∀ (D C : Addr) (s' : Shared) (m : Str → Option Value) (H' : Hp), Inv X pins σ H' s' → Q (.ref D) H' → s'.heap.Ns C m → FpOk X pins H' C →
      compPost (model X.prog X.w) X.A X.xe use Qf (.ref D) C (.ok .next) s') :
    wpAny (model X.prog X.w) X.A (comprehension (elt.SetComp [{ target := tg, iter := iter, ifs := ifs, is_async := 0 }] scope pos) scope X.env pos' (newSet (.type "set")) false (eval iter X.env) use) Qf X.xe s := by
  have hfree : ∀ y ∈ scope.names, y.2 = NameKind.free → ∃ c, List.lookup y.1 X.env.cells = some c := fun y hy e => by
    rcases ok.free y hy e with k | k
    · exact I.ok.has y.1 (Or.inl k)
    · exact I.ok.has y.1 (Or.inr k)
  refine wpAny_comprehension_free rfl hs (closure_ok hfree) ok.kind (fun y hy e => by rw [ok.uniq y hy, e]) ?_
  refine thn (hi.run pins s σ H _ I h) fun xv s1 hx => thn hx fun itv s2 h2 => ?_
  obtain ⟨it, fp, tn, J, H2, rfl, I2, T, st2, f2, q⟩ := h2
  refine PpSet.newSet_ok (newEnv_comp ?_)
  have hDn := HOk.fresh I2.hok (Nat.le_of_eq (Eq.refl s2.heap.objs.size))
  obtain ⟨W, ⟨m0, w0⟩, turn⟩ := q s2.heap.objs.size hDn
  generalize es3 : ({ heap := s2.heap.push { cls := Value.type "set", data := Data.set #[] 0 (SetTable.fresh 0 0 !X.w.params.followText "set-order") }, gens := s2.gens, drawn := s2.drawn, toks := s2.toks, os := s2.os } : Shared) = s3
  have eh3 : s3.heap = s2.heap.push { cls := Value.type "set", data := Data.set #[] 0 (SetTable.fresh 0 0 !X.w.params.followText "set-order") } := by rw [← es3]
  have I3 : Inv X pins σ (upd H2 s2.heap.objs.size (SetQO X.prog X.w s2.heap.objs.size (fun _ => false) 0)) s3 := by
    rw [← es3]
    exact I2.laid (fun b o e => Heap.get?_push_of_some _ e) (Nat.le_of_eq rfl) (setQ_new setQ_fresh)
  generalize hH3 : upd H2 s2.heap.objs.size (SetQO X.prog X.w s2.heap.objs.size (fun _ => false) 0) = H3 at *
  have sz : ∀ b ∈ fp, b < s2.heap.objs.size := fun b hb => by
    obtain ⟨o, e, _⟩ := T.obj 0 s2.heap st2 b hb
    exact Heap.lt_size e
  have f3 : ∀ b ∈ fp, FpOk X pins H3 b ∧ b < s3.heap.objs.size := fun b hb => by
    have hlt := sz b hb
    refine ⟨⟨?_, (f2 b hb).2⟩, ?_⟩
    · rw [← hH3, upd_ne (Nat.ne_of_lt hlt)]
      exact (f2 b hb).1
    · rw [eh3, Heap.size_push]
      exact Nat.lt_succ_of_lt hlt
  have st3 : tn 0 s3.heap := T.keep 0 s2.heap s3.heap st2 fun b _ o e => by
    rw [eh3]
    exact Heap.get?_push_of_some _ e
  have I4 := block_start I3 ok hN f3
  have pg := hg s3 H3 s3.heap.objs.size (cellsFrom (s3.heap.objs.size + 1) scope.names (cloFrom X.env.cells scope.names [])) fp
  have pt := ht s3 H3 s3.heap.objs.size (cellsFrom (s3.heap.objs.size + 1) scope.names (cloFrom X.env.cells scope.names [])) fp
  have pe := he s3 H3 s3.heap.objs.size (cellsFrom (s3.heap.objs.size + 1) scope.names (cloFrom X.env.cells scope.names [])) fp
  have nfp : ∀ b ∈ fp, H3 b = none := fun b hb => (f3 b hb).1.1
  generalize eCe : cellsFrom (s3.heap.objs.size + 1) scope.names (cloFrom X.env.cells scope.names []) = ce at *
  generalize eDN : s3.heap.objs.size = DN at *
  have stat : ∀ {σ' : L2.St} {H' : Hp} {s' : Shared}, Inv (X.blk s3 H3 scope (compEnvC scope ce DN X.env) fp) [] σ' H' s' → (∀ b ∈ fp, H' b = none) → ∀ b ∈ fp, FpOk (X.blk s3 H3 scope (compEnvC scope ce DN X.env) fp) [] H' b := fun {σ' H' s'} I' hn b hb =>
    ⟨hn b hb, (I'.ok.exf b hb).1, I'.ok.exfs b hb, .inl hb, fun x c e => (I'.ok.exf b hb).2 x c e, fun p hp => absurd hp (by simp)⟩
  have st4 : tn 0 (pushCells (s3.heap.push { cls := Value.type "dict", data := Data.dict #[] }) scope.names) := T.keep 0 s3.heap _ st3 fun b _ o e => pushCells_keeps _ _ _ _ (Heap.get?_push_of_some _ e)
  have loop : codeAny (model X.prog X.w) X.A (Code.compLoop (elt.SetComp [{ target := tg, iter := iter, ifs := ifs, is_async := 0 }] scope pos) 0 (.ref it) (.ref s2.heap.objs.size) (compEnvC scope ce DN X.env))
      (compPost (model X.prog X.w) X.A X.xe use Qf (.ref s2.heap.objs.size) DN)
      { heap := pushCells (s3.heap.push { cls := Value.type "dict", data := Data.dict #[] }) scope.names, gens := s3.gens, drawn := s3.drawn, toks := s3.toks, os := s3.os } := by
    refine PpSet.compLoopS_any (fun n s' => ∃ i H', Inv (X.blk s3 H3 scope (compEnvC scope ce DN X.env) fp) [] (wipe σ (own.map (·.2))) H' s' ∧ tn i s'.heap ∧ (∀ b ∈ fp, H' b = none) ∧ W i n H') ?_ m0 ⟨0, H3, I4, st4, nfp, w0⟩
    rintro n s5 ⟨i, H5, I5, st5, n5, w5⟩
    rcases turn i n H5 w5 with ⟨stop, qq⟩ | ⟨go, Nx, hNx, step⟩
    · have td := T.done (X.blk s3 H3 scope (compEnvC scope ce DN X.env) fp) rfl rfl rfl hc i [] s5 _ H5 (fun _ _ => False) I5 (stat I5 n5) st5 stop
      refine thnF td fun r s6 h6 => ?_
      obtain ⟨rfl, I6⟩ := h6
      have I7 := Inv.call' I3 I6.os I6.base I6.hok I6.bare fun b hb => ⟨(f3 b hb).1.2.2.2.1, (f3 b hb).1.2.1, (f3 b hb).1.2.2.2.2.1, (f3 b hb).1.2.2.2.2.2⟩
      have nC : H5 DN = none := I6.free
      obtain ⟨m, hn, _⟩ := I6.loc
      exact hRR s2.heap.objs.size DN s6 m H5 I7 qq hn (I3.fpOk (Nat.le_of_eq eDN) nC)
    · have ti := T.item (X.blk s3 H3 scope (compEnvC scope ce DN X.env) fp) rfl rfl rfl hc i [] s5 _ H5 (fun _ _ => False) I5 (stat I5 n5) st5 go
      refine thnF ti fun r s6 h6 => ?_
      obtain ⟨u, rfl, h6⟩ := h6
      refine thnF h6 fun _ s7 h7 => ?_
      obtain ⟨x, H7, I7, r7, y7, st7, n7⟩ := h7
      have I7' := Inv.pinned I7 (stat I7 n7) (T.obj (i + 1) s7.heap st7)
      refine thnF (pg.run ([] ++ pinsAt fp s7.heap) s7 _ H7 x u _ I7' r7 (step x H7 y7)) fun _ s8 h8 => ?_
      obtain ⟨σ8, H8, I8, hw8, q8⟩ := h8
      have fin : ∀ {H' : Hp} {s' : Shared}, Inv (X.blk s3 H3 scope (compEnvC scope ce DN X.env) fp) ([] ++ pinsAt fp s7.heap) σ8 H' s' → Nx H' → ∃ m, m < n ∧ ∃ i H', Inv (X.blk s3 H3 scope (compEnvC scope ce DN X.env) fp) [] (wipe σ (own.map (·.2))) H' s' ∧ tn i s'.heap ∧ (∀ b ∈ fp, H' b = none) ∧ W i m H' := fun {H' s'} I' nx => by
        obtain ⟨m', hm, w'⟩ := hNx H' nx
        have z : ∀ b ∈ fp, ∀ o, s7.heap.get? b = some o → s'.heap.get? b = some o ∧ H' b = none := fun b hb o e => by
          have z := I'.pin (b, o) (List.mem_append_right _ (mem_pinsAt hb e))
          exact ⟨z.1, z.2.1⟩
        have hl : (wipe σ (own.map (·.2))).length = σ8.length := by rw [← hw8, wipe_length]
        refine ⟨m', hm, i + 1, H', Inv.weak (Inv.unpinned I') hl (fun j v e => (wipe_some (by rw [hw8]; exact e)).1), T.keep (i + 1) s7.heap s'.heap st7 (fun b hb o e => (z b hb o e).1), fun b hb => ?_, w'⟩
        obtain ⟨o, e, _⟩ := T.obj (i + 1) s7.heap st7 b hb
        exact (z b hb o e).2
      refine thnF (pt.run ([] ++ pinsAt fp s7.heap) s8 σ8 H8 _ I8 q8) fun b s9 h9 => ?_
      obtain ⟨H9, I9, q9⟩ := h9
      cases b with
      | false => exact fin I9 q9
      | true =>
        refine thnF (pe.run ([] ++ pinsAt fp s7.heap) s9 σ8 H9 _ I9 q9) fun yv s10 h10 => ?_
        obtain ⟨y, H10, I10, r10, k, S, nn, rfl, hD10, hz10, nx⟩ := h10
        have ad := mt_saddQ (X := (X.blk s3 H3 scope (compEnvC scope ce DN X.env) fp)) ([] ++ pinsAt fp s7.heap) s10 σ8 H10 (.ref s2.heap.objs.size) [kV k] (.ref s2.heap.objs.size) [yv] (fun _ H' => Nx H') I10 rfl (.cons r10 .nil) ⟨_, k, S, nn, rfl, rfl, hD10, hz10, nx⟩
        refine thnF ad fun _ s11 h11 => ?_
        obtain ⟨_, H11, I11, _, nx'⟩ := h11
        exact fin I11 nx'
  subst eCe
  subst eDN
  exact PpSet.codeAny_compStart_set loop (T.self X.A 0 _ _ _ st4 loop)
theorem pe_scQ (hc : X.calm = true) (hN : X.N.Nodup) (hi : PI X tg iter wi) (ok : BlkOk X.N X.env.scope scope own)
    (hg : ∀ (s : Shared) (H : Hp) (C : Addr) (cl : List (Str × Addr)) (fp : List Addr), PG (X.blk s H scope (compEnvC scope cl C X.env) fp) tg g)
    (ht : ∀ (s : Shared) (H : Hp) (C : Addr) (cl : List (Str × Addr)) (fp : List Addr), PTs (X.blk s H scope (compEnvC scope cl C X.env) fp) ifs tt)
    (he : ∀ (s : Shared) (H : Hp) (C : Addr) (cl : List (Str × Addr)) (fp : List Addr), PE (X.blk s H scope (compEnvC scope cl C X.env) fp) elt te)
    (hs : ∀ x : Value, foldedSetIterable iter X.env x = pure x := by intro x; rfl) :
    PE X (.SetComp elt [⟨tg, iter, ifs, 0⟩] scope pos) (tScQ X.prog X.w wi g tt te (own.map (·.2))) := by
  refine ⟨fun pins s σ H Q I h => ?_⟩
  rw [PpSet.eval_SetComp]
  refine scQ_core hc hN I hi ok hg ht he hs h fun D C s' m H' I' q hn hf => ?_
  refine ⟨m, hn, fun h' hb => ⟨.ref D, H', ?_, rfl, q⟩⟩
  exact I'.turned (it := C) (fun b o n e => (hb.2 b n).trans e) hf.1 hf.2.1 hf.2.2.2.1 hf.2.2.2.2.1 hf.2.2.2.2.2
end
/-! ### sorted -/
def strM : Value → Str
  | .str x _ => x
  | _ => ""
def intM : Value → Int
  | .int i _ => i
  | _ => 0
theorem strs_all : ∀ l : List Value, (∀ v ∈ l, ∃ x t, v = Value.str x t) → StrsAre l (l.map strM)
  | [], _ => .nil
  | v :: l, h => by
    obtain ⟨x, t, rfl⟩ := h v List.mem_cons_self
    exact .cons x t (strs_all l fun u hu => h u (List.mem_cons_of_mem _ hu))
theorem ints_all : ∀ l : List Value, (∀ v ∈ l, ∃ x t, v = Value.int x t) → IntsAre l (l.map intM)
  | [], _ => .nil
  | v :: l, h => by
    obtain ⟨x, t, rfl⟩ := h v List.mem_cons_self
    exact .cons x t (ints_all l fun u hu => h u (List.mem_cons_of_mem _ hu))
section
variable {P : Program} {w : World} {A : Around} {E : Value → Shared → Prop} {s : Shared} {a : Addr} {S : Key → Bool} {n : Nat}
/-- the members gathered into a list that is sorted: what the sort may leave is told by Ok -/
theorem sort_setQ {Q : Value → Shared → Prop} (Ok : List Value → List Value → Prop) (R : SetQ P w s.heap a S n) (calm : A.handled = none)
    (srt : ∀ (z : Shared) (l : Addr) (vs : List Value) (Qz : PySem.Fin → Shared → Prop), z.heap.get? l = some (seqObj "list" vs.toArray 0) → (∀ v ∈ vs, ∃ k, (mixKind P w).is k v = true ∧ S k = true) → vs.length ≤ sizeLine →
      (∀ out : Array Value, Ok vs out.toList → Qz (.done (.ret .none)) { z with heap := sortedHeap z.heap l vs out }) → wpAny (model P w) A.in1.in1 (Builtin.«list.sort» ⟨[.ref l], []⟩) Qz E z)
    (kk : ∀ s' p (vs : List Value) (out : Array Value) (c : Nat), (∀ b o, s.heap.get? b = some o → s'.heap.get? b = some o) → s'.gens = s.gens → s'.os = s.os → s.heap.objs.size ≤ p → s'.heap.get? p = some (seqObj "list" out c) →
      (∀ v ∈ vs, ∃ k, (mixKind P w).is k v = true ∧ S k = true) → (vs.map keyM).Nodup → (∀ k, S k = true ↔ k ∈ vs.map keyM) → vs.length = n → Ok vs out.toList → Q (.ref p) s') :
    wpAny (model P w) A (call (.builtin "sorted") [.ref a]) Q E s := by
  obtain ⟨o, es, ep, t, at0, xs, dt, el, mm, sz, ft, rfl, T⟩ := R
  refine Calls.call_function_entry kind_sorted plain_sorted entry_sorted (args_sorted1 _) ?_
  unfold Builtin.«sorted»
  refine wpAny_bind (m := checkCount "sorted" 1 1 _) (wpAny_pure ?_)
  refine wpAny_bind (collect_set (A := A.in1) calm ⟨o, at0, xs.1, dt⟩ ft sz T.ri T.le fun s1 vs k1 hz g1 o1 pm => ?_)
  have vl : vs.length = es.size := by rw [pm.length_eq, List.length_map, Array.length_toList]
  have pk : (vs.map keyM).Perm (keysM es.toList) := by
    have q := pm.map keyM
    rw [List.map_map] at q
    exact q
  have mk : ∀ k, S k = true ↔ k ∈ vs.map keyM := fun k => (mm k).trans pk.mem_iff.symm
  have each : ∀ v ∈ vs, ∃ k, (mixKind P w).is k v = true ∧ S k = true := fun v hv => by
    obtain ⟨e, he, q⟩ := List.mem_map.mp (pm.mem_iff.mp hv)
    obtain ⟨⟨k, h1, _⟩, _⟩ := el e he
    exact ⟨k, q ▸ h1, (mm k).mpr ((mem_keysM el k).mpr ⟨e, he, h1⟩)⟩
  have big : vs.length ≤ sizeLine := by rw [vl]; exact fits_of_scanBound sz
  refine wpAny_bind (wpAny_newList ?_ (by exact big))
  have atL : (s1.heap.push (seqObj "list" vs.toArray 0)).get? s1.heap.objs.size = some (seqObj "list" vs.toArray 0) := Heap.get?_push_size _ rfl
  refine wpAny_bind (wpAny_holding (wpAny_call_entry slot_list_sort ⟨_, atL, rfl⟩ entry_list_sort (srt _ _ _ _ atL each big fun out ok => ⟨_, rfl, ?_⟩) (args_list_sort _)))
  obtain ⟨c, hc⟩ := sortedHeap_at (vs := vs) (out := out) atL
  refine wpAny_pure ⟨_, rfl, kk _ s1.heap.objs.size vs out c (fun b u e => ?_) g1 o1 hz hc each (pk.nodup_iff.mpr T.nd) mk vl ok⟩
  have q := k1 b u e
  have lt := Heap.lt_size q
  exact (sortedHeap_old (Nat.ne_of_lt lt) (by rw [size_push']; exact Nat.lt_succ_of_lt lt)).trans (Heap.get?_push_of_some _ q)
end
/-- sorted(a set of texts) -/
def rSortedQS (P : Program) (w : World) : List V → Hp → VK → Prop := fun xs H Q => ∃ (a : Addr) (S : Key → Bool) (n : Nat), xs = [V.ref a] ∧ H a = some (SetQO P w a S n) ∧ (∀ i, S (.inl i) = false) ∧
  ∀ (ys : List Str) (p : Addr), ys.Nodup → (∀ x, x ∈ ys ↔ S (.inr x) = true) → ys.length = n → sortedS ys = true → H p = none → Q (.ref p) (upd H p (.lst (ys.map V.str)))
/-- sorted(a set of numbers) -/
def rSortedQI (P : Program) (w : World) : List V → Hp → VK → Prop := fun xs H Q => ∃ (a : Addr) (S : Key → Bool) (n : Nat), xs = [V.ref a] ∧ H a = some (SetQO P w a S n) ∧ (∀ x, S (.inr x) = false) ∧
  ∀ (ns : List Int) (p : Addr), ns.Pairwise (· < ·) → (∀ i, i ∈ ns ↔ S (.inl i) = true) → ns.length = n → H p = none → Q (.ref p) (upd H p (.lst (ns.map V.int)))
theorem cr_sortedQS {X : Cx} (hc : X.calm = true) : CallR X (.builtin "sorted") (rSortedQS X.prog X.w) := by
  intro pins s σ H vs us Q I r h
  obtain ⟨a, S, n, rfl, ha, hS, q⟩ := h
  rw [Vals.ref1 r]
  have allS : ∀ ws : List Value, (∀ v ∈ ws, ∃ k, (mixKind X.prog X.w).is k v = true ∧ S k = true) → StrsAre ws (ws.map strM) := fun ws h => strs_all ws fun v hv => by
    obtain ⟨k, h1, h2⟩ := h v hv
    rcases keyIs_shape h1 with ⟨i, t, rfl, rfl⟩ | ⟨x, t, rfl, rfl⟩
    · rw [hS] at h2; cases h2
    · exact ⟨x, t, rfl⟩
  refine sort_setQ (fun ws out => ∃ ss', StrsAre out ss' ∧ ss'.Perm (ws.map strM) ∧ sortedS ss' = true) (setQ_get I ha) (I.ok.hd hc) (fun z l ws Qz hl each big fin => ?_) fun s' p ws out c k g o hp hg each nd mk wl ok => ?_
  · have A1 := allS ws each
    refine list_sort_treeKAny strKind_oneLt hl A1.keysOf (fun v₁ v₂ rest e => keyKind_strs (by rw [← e]; exact A1)) big fun st' h1 h2 => ?_
    exact fin _ (sorted_out_str A1 h1 h2)
  obtain ⟨ss', b1, b2, b3⟩ := ok
  have A1 := allS ws each
  have km : ws.map keyM = (ws.map strM).map Sum.inr := by
    rw [List.map_map]
    refine List.map_congr_left fun v hv => ?_
    obtain ⟨k', h1, h2⟩ := each v hv
    rcases keyIs_shape h1 with ⟨i, t, rfl, rfl⟩ | ⟨x, t, rfl, rfl⟩
    · rw [hS] at h2; cases h2
    · rfl
  have n1 : (ws.map strM).Nodup := by
    rw [km] at nd
    exact (List.pairwise_map.mp nd).imp fun z e => z (congrArg Sum.inr e)
  have len : (ss'.map V.str).length ≤ sizeLine := by
    rw [List.length_map, b2.length_eq, List.length_map, wl]
    obtain ⟨_, _, _, _, _, _, _, _, _, sz, _, rfl, _⟩ := setQ_get I ha
    exact fits_of_scanBound sz
  have hn : H p = none := I.hok.fresh hp
  have J : Inv X pins σ (upd H p (.lst (ss'.map V.str))) { s with heap := s'.heap, gens := s'.gens, drawn := s'.drawn, toks := s'.toks } :=
    I.call (ch := []) (Un.laid k hp hn) (I.hok.laid k hp ⟨len, out.toList, c, vals_of_strs b1, hg⟩) (by rw [g]; exact I.bare) (fun _ z => nomatch z)
  have e : s' = { s with heap := s'.heap, gens := s'.gens, drawn := s'.drawn, toks := s'.toks } := by
    cases s'; cases s; cases o; rfl
  rw [e]
  refine ⟨.ref p, _, J, rfl, q ss' p (b2.nodup_iff.mpr n1) (fun x => ?_) (by rw [b2.length_eq, List.length_map, wl]) b3 hn⟩
  rw [b2.mem_iff, mk (.inr x), km]
  exact ⟨fun z => List.mem_map.mpr ⟨x, z, rfl⟩, fun z => by
    obtain ⟨y, hy, e⟩ := List.mem_map.mp z
    exact Sum.inr.inj e ▸ hy⟩
theorem cr_sortedQI {X : Cx} (hc : X.calm = true) : CallR X (.builtin "sorted") (rSortedQI X.prog X.w) := by
  intro pins s σ H vs us Q I r h
  obtain ⟨a, S, n, rfl, ha, hS, q⟩ := h
  rw [Vals.ref1 r]
  have allI : ∀ ws : List Value, (∀ v ∈ ws, ∃ k, (mixKind X.prog X.w).is k v = true ∧ S k = true) → IntsAre ws (ws.map intM) := fun ws h => ints_all ws fun v hv => by
    obtain ⟨k, h1, h2⟩ := h v hv
    rcases keyIs_shape h1 with ⟨i, t, rfl, rfl⟩ | ⟨x, t, rfl, rfl⟩
    · exact ⟨i, t, rfl⟩
    · rw [hS] at h2; cases h2
  refine sort_setQ (fun ws out => ∃ ns', IntsAre out ns' ∧ ns'.Perm (ws.map intM) ∧ ns'.Pairwise (· ≤ ·)) (setQ_get I ha) (I.ok.hd hc) (fun z l ws Qz hl each big fin => ?_) fun s' p ws out c k g o hp hg each nd mk wl ok => ?_
  · exact list_sort_treeAny hl (allI ws each) big fun out ns' h1 h2 h3 => fin _ ⟨ns', h1, h2, h3⟩
  obtain ⟨ns', b1, b2, b3⟩ := ok
  have km : ws.map keyM = (ws.map intM).map Sum.inl := by
    rw [List.map_map]
    refine List.map_congr_left fun v hv => ?_
    obtain ⟨k', h1, h2⟩ := each v hv
    rcases keyIs_shape h1 with ⟨i, t, rfl, rfl⟩ | ⟨x, t, rfl, rfl⟩
    · rfl
    · rw [hS] at h2; cases h2
  have n1 : (ws.map intM).Nodup := by
    rw [km] at nd
    exact (List.pairwise_map.mp nd).imp fun z e => z (congrArg Sum.inl e)
  have len : (ns'.map V.int).length ≤ sizeLine := by
    rw [List.length_map, b2.length_eq, List.length_map, wl]
    obtain ⟨_, _, _, _, _, _, _, _, _, sz, _, rfl, _⟩ := setQ_get I ha
    exact fits_of_scanBound sz
  have hn : H p = none := I.hok.fresh hp
  have J : Inv X pins σ (upd H p (.lst (ns'.map V.int))) { s with heap := s'.heap, gens := s'.gens, drawn := s'.drawn, toks := s'.toks } :=
    I.call (ch := []) (Un.laid k hp hn) (I.hok.laid k hp ⟨len, out.toList, c, vals_of_ints b1, hg⟩) (by rw [g]; exact I.bare) (fun _ z => nomatch z)
  have e : s' = { s with heap := s'.heap, gens := s'.gens, drawn := s'.drawn, toks := s'.toks } := by
    cases s'; cases s; cases o; rfl
  rw [e]
  have nd2 := b2.nodup_iff.mpr n1
  refine ⟨.ref p, _, J, rfl, q ns' p (lt_of_le_nodup ns' b3 nd2) (fun x => ?_) (by rw [b2.length_eq, List.length_map, wl]) hn⟩
  rw [b2.mem_iff, mk (.inl x), km]
  exact ⟨fun z => List.mem_map.mpr ⟨x, z, rfl⟩, fun z => by
    obtain ⟨y, hy, e⟩ := List.mem_map.mp z
    exact Sum.inl.inj e ▸ hy⟩
end Pw

namespace Pw
open PySem PySem.Spec PyProof.Rows L2
section
variable {J : It} {n : Nat} {G : Hp → Prop} {Y : Nat → Hp → V → Hp → Prop} {g : TG} {tt : L2.TT} {tk tv te : TE} {vs : List Nat} {σ : L2.St} {H1 : Hp} {D : Addr} {Qd : Hp → Prop}
theorem sq_it {P : Program} {wd : World} (w : Walk J n G Y) (Pv : Nat → Hp → Prop) (h0 : Pv 0 (upd H1 D (SetQO P wd D (fun _ => false) 0))) (hG : ∀ i H, i ≤ n → Pv i H → G H)
    (hs : ∀ i x H H', i < n → Pv i H → Y i H x H' → g x (wipe σ vs) H' fun σ2 H2 => wipe σ2 vs = wipe σ vs ∧ tt σ2 H2 fun b H3 => if b = true then te σ2 H3 fun y H4 =>
      ∃ (k : Key) (S : Key → Bool) (n : Nat), y = kV k ∧ H4 D = some (SetQO P wd D S n) ∧ n + 1 < scanBound ∧ Pv (i + 1) (upd H4 D (SetQO P wd D (fun j => S j || decide (j = k)) (if S k = true then n else n + 1))) else Pv (i + 1) H3)
    (hd : ∀ H, Pv n H → Qd H) : ∃ W : Nat → Nat → Hp → Prop, (∃ m, W 0 m (upd H1 D (SetQO P wd D (fun _ => false) 0))) ∧ ∀ i m H, W i m H → (J.stop i H ∧ Qd H) ∨ (J.go i H ∧ ∃ Nx : Hp → Prop, (∀ H', Nx H' → ∃ m', m' < m ∧ W (i + 1) m' H') ∧
      ∀ x H', J.yld i H x H' → g x (wipe σ vs) H' fun σ2 H2 => wipe σ2 vs = wipe σ vs ∧ tt σ2 H2 fun b H3 => if b = true then te σ2 H3 fun y H4 =>
        ∃ (k : Key) (S : Key → Bool) (n : Nat), y = kV k ∧ H4 D = some (SetQO P wd D S n) ∧ n + 1 < scanBound ∧ Nx (upd H4 D (SetQO P wd D (fun j => S j || decide (j = k)) (if S k = true then n else n + 1))) else Nx H3) := by
  refine ⟨fun i m H => i ≤ n ∧ m = n - i ∧ Pv i H, ⟨n, Nat.zero_le _, rfl, h0⟩, ?_⟩
  rintro i m H ⟨hi, rfl, p⟩
  by_cases h : i = n
  · subst h
    exact .inl ⟨w.stops H (hG _ _ (Nat.le_refl _) p), hd H p⟩
  · exact .inr ⟨w.goes i H (by omega) (hG i H hi p), Pv (i + 1), fun H' p' => ⟨n - (i + 1), by omega, by omega, rfl, p'⟩, fun x H' y => hs i x H H' (by omega) p (w.yields i H x H' (by omega) (hG i H hi p) y)⟩
end
end Pw

set_option maxHeartbeats 8000000
namespace V10
open PySem PySem.Spec PyProof.Rows L2 Pw
theorem str_dec (a b : Str) : decide (V.str a = V.str b) = decide (a = b) := by
  by_cases h : a = b
  · rw [decide_eq_true h, decide_eq_true (congrArg V.str h)]
  · rw [decide_eq_false h, decide_eq_false fun z => h (V.str.inj z)]
/-! ### the places of works -/
section
variable {P : Program} {w : World} {K : PySem.W.Frag} {mg : Str → Option Value} {base : Heap} {C : Addr}
def spPlaces (C : Addr) (K : PySem.W.Frag) : Sp := fun vs H Q _ => ∃ p W ps, vs = [.ref p] ∧ WoP K C H p W ps ∧ ∀ (ys : List Str) l H', Same H H' → H l = none → H' l = some (.lst (ys.map V.str)) → (∀ x, x ∈ ys ↔ x ∈ ps.map Pt.pl) → Q (.ref l) H'
theorem d_places (T : Txt mg) (Wc : WoC K C) (A : AtMt K C "places" "Works.places" mWorks_Places) : DefM P w K mg base C "places" 1 ["self"] (spPlaces C K) := by
  refine mkDefM A scmWorks_Places (fun _ _ _ _ _ _ us hl => match us, hl with | [_], _ => rfl) (fun vs H Q E ⟨_, _, _, e, _⟩ => by rw [e]; rfl)
    (fun f cdv A out s H vs Q E hr h => ?_)
  obtain ⟨p, W, ps, rfl, hw, k⟩ := h
  obtain ⟨dx, tp, dp, tr, dr, tc, tm, dm, tl, e0, e1, _⟩ := hw.wo.ex
  refine ⟨_, (pss_one (ps_ret (pe_callB (cr_sortedQS rfl) (by rfl) T.sorted (by decide +kernel) (pa_cons (pe_scQ (own := [("_", 1), ("place", 2)]) (g := (gTup K 3 (gCons (gName 1) (gCons (gName 2) (gCons (gName 1) gNil))))) (tt := tYes) rfl scmWorks_Places.nd (pi_sq (pe_fld (pv 0) rfl))
        (blkOk_by (own := [("_", 1), ("place", 2)]) (N := ["self", "_", "place"]) (sc := defScope mWorks_Places) (by decide +kernel))
        (fun _ _ _ _ _ => (pg_tup (by rfl) (pgs_cons (pg_name (i := 1) scmWorks_Places.nd rfl (.inl rfl)) (pgs_cons (pg_name (i := 2) scmWorks_Places.nd rfl (.inl rfl)) (pgs_cons (pg_name (i := 1) scmWorks_Places.nd rfl (.inl rfl)) pgs_nil))))) (fun _ _ _ _ _ => pts_nil)
        (fun _ _ _ _ _ => (pv 2))) pa_nil)))), ?_⟩
  refine ⟨_, rfl, p, C, dx, _, _, rfl, e0, Wc.cl, Wc.nPo, lk_eq, tp, W.xs, rfl, .inr e1, fun J G hG wk D nD => ?_⟩
  have p8 := hw.g.len
  have hlen := hw.al.length
  refine sq_it wk (fun i X => Same H X ∧ ∃ (S : Key → Bool) (n : Nat), X D = some (SetQO P w D S n) ∧ n ≤ i ∧ (∀ j, S (.inl j) = false) ∧ ∀ u, S (.inr u) = true ↔ u ∈ (ps.take i).map Pt.pl) ?_ (fun i X _ h => hG X h.1) ?_ ?_
  · exact ⟨Same.laid nD, _, 0, upd_same, Nat.le_refl _, fun _ => rfl, fun u => by simp⟩
  · rintro i v H4 H5 hi ⟨S4, S, n, eD, nl, h1, h2⟩ ⟨rfl, hx⟩
    obtain ⟨q, pt, rfl, hpt, ep⟩ := (hw.al.same S4).get hx
    refine ⟨q, _, rfl, SqT.of ep, rfl, _, _, rfl, _, _, rfl, _, _, rfl, rfl, ?_⟩
    refine ⟨rfl, ?_⟩
    unfold tYes
    refine iteT ⟨_, rfl, .inr pt.pl, S, n, rfl, eD, Nat.lt_of_le_of_lt (show n + 1 ≤ 9 by omega) (by decide), Same.wo_upd S4 nD, _, _, upd_same, by split <;> omega, fun j => ?_, fun u => ?_⟩
    · show (S (.inl j) || decide ((Sum.inl j : Key) = .inr pt.pl)) = false
      rw [h1, decide_eq_false (fun z => nomatch z)]
      rfl
    · show (S (.inr u) || decide ((Sum.inr u : Key) = .inr pt.pl)) = true ↔ _
      rw [List.take_add_one, hpt, List.map_append, List.mem_append, Bool.or_eq_true, decide_eq_true_eq, h2]
      refine or_congr Iff.rfl ⟨fun z => ?_, fun z => ?_⟩
      · rw [Sum.inr.inj z]; simp
      · simp at z; rw [z]
  rintro H4 ⟨S4, S, n, eD, nl, h1, h2⟩
  refine ⟨D, S, n, rfl, eD, h1, fun ys l nd hm _ _ nl' => ?_⟩
  rw [List.take_of_length_le (by omega)] at h2
  exact k ys l _ (S4.trans (Same.laid nl')) (Same.no S4 nl') upd_same fun x => (hm x).trans (h2 x)
def spHasPl (C : Addr) (K : PySem.W.Frag) : Sp := fun vs H Q _ => ∃ p W ps s, vs = [.ref p, .str s] ∧ WoP K C H p W ps ∧ OkName s ∧ ∀ H', Same H H' → Q (.bl (decide (s ∈ ps.map Pt.pl))) H'
theorem d_hasPl (Wc : WoC K C) (A : AtMt K C "has_place" "Works.has_place" mWorks_HasPlace) (dn : Def P w K mg base "is_name" 1 ["thing"] (spName K)) (dp : DefM P w K mg base C "places" 1 ["self"] (spPlaces C K)) :
    DefM P w K mg base C "has_place" 2 ["self", "thing"] (spHasPl C K) := by
  refine mkDefM A scmWorks_HasPlace (fun _ _ _ _ _ _ us hl => match us, hl with | [_, _], _ => rfl) (fun vs H Q E ⟨_, _, _, _, e, _⟩ => by rw [e]; rfl)
    (fun f cdv A out s H vs Q E hr h => ?_)
  obtain ⟨p, W, ps, s0, rfl, hw, on, k⟩ := h
  refine ⟨_, (pss_one (ps_ret (pe_and (pe_d dn hr (by decide) (by rfl) (pa_cons (pv 1) pa_nil)) (pe_one (pe_cmpR op_in_seq (pv 1) (pe_mm0 (pv 0) Wc.cl dp hr (by decide)) (by rfl)))))), ?_⟩
  refine ⟨_, rfl, .str s0, _, rfl, .str _, on.sh, fun H1 S1 => ⟨true, congrArg V.bl on.b, iteT ?_⟩⟩
  have hw1 := hw.same S1
  obtain ⟨dx, tp, dp', tr, dr, tc, tm, dm, tl, e0, _⟩ := hw1.wo.ex
  refine ⟨_, rfl, _, rfl, p, dx, _, rfl, e0, wof_no (by decide +kernel) (by decide +kernel) (by decide +kernel) (by decide +kernel) (by decide +kernel) (by decide +kernel) (by decide +kernel) (by decide +kernel), p, W, ps, rfl, hw1, fun ys l H2 S2 nl el hm => ?_⟩
  refine ⟨l, _, rfl, .inl (SqL.of el), rfl, flat_strs _, ?_⟩
  rw [inV_str]
  have : decide (s0 ∈ ys) = decide (s0 ∈ ps.map Pt.pl) := by
    by_cases h : s0 ∈ ps.map Pt.pl
    · rw [decide_eq_true h, decide_eq_true ((hm s0).mpr h)]
    · rw [decide_eq_false h, decide_eq_false fun z => h ((hm s0).mp z)]
  rw [this]
  exact k _ (S1.trans S2)
def spPtsAt (C : Addr) (K : PySem.W.Frag) : Sp := fun vs H Q _ => ∃ p W ps s, vs = [.ref p, .str s] ∧ WoP K C H p W ps ∧ s ∈ ps.map Pt.pl ∧ ∀ l H', Same H H' → H l = none → H' l = some (.lst (((ps.filter fun x => decide (x.pl = s)).map Pt.nm).map V.str)) → Q (.ref l) H'
theorem d_ptsAt (Wc : WoC K C) (A : AtMt K C "points_at" "Works.points_at" mWorks_PointsAt) (dh : DefM P w K mg base C "has_place" 2 ["self", "thing"] (spHasPl C K)) :
    DefM P w K mg base C "points_at" 3 ["self", "place"] (spPtsAt C K) := by
  refine mkDefM A scmWorks_PointsAt (fun _ _ _ _ _ _ us hl => match us, hl with | [_, _], _ => rfl) (fun vs H Q E ⟨_, _, _, _, e, _⟩ => by rw [e]; rfl)
    (fun f cdv A out s H vs Q E hr h => ?_)
  obtain ⟨p, W, ps, s0, rfl, hw, hin, k⟩ := h
  refine ⟨_, (pss_cons (ps_if (pt_not (pt_val (pe_mm (pv 0) Wc.cl dh hr (by decide) (pa_cons (pv 1) pa_nil))))
      (pss_one ps_never)
      pss_nil)
    (pss_one (ps_ret (pe_lc (own := [("name", 2), ("where", 3), ("_", 4)]) (g := (gTup K 3 (gCons (gName 2) (gCons (gName 3) (gCons (gName 4) gNil))))) rfl scmWorks_PointsAt.nd (pi_sq (pe_fld (pv 0) rfl))
        (blkOk_by (own := [("name", 2), ("where", 3), ("_", 4)]) (N := ["self", "place", "name", "where", "_"]) (sc := defScope mWorks_PointsAt) (by decide +kernel))
        (fun _ _ _ _ _ => (pg_tup (by rfl) (pgs_cons (pg_name (i := 2) scmWorks_PointsAt.nd rfl (.inl rfl)) (pgs_cons (pg_name (i := 3) scmWorks_PointsAt.nd rfl (.inl rfl)) (pgs_cons (pg_name (i := 4) scmWorks_PointsAt.nd rfl (.inl rfl)) pgs_nil))))) (fun _ _ _ _ _ => (pts_one (pt_cmpR op_eq (pv 3) (pv 1) (nomark _))))
        (fun _ _ _ _ _ => (pv 2)))))), ?_⟩
  obtain ⟨pt0, hpt0, rfl⟩ := List.mem_map.mp hin
  obtain ⟨dx, tp, dp', tr, dr, tc, tm, dm, tl, e0, _⟩ := hw.wo.ex
  refine ⟨_, rfl, p, dx, _, rfl, e0, wof_no (by decide +kernel) (by decide +kernel) (by decide +kernel) (by decide +kernel) (by decide +kernel) (by decide +kernel) (by decide +kernel) (by decide +kernel), _, rfl, p, W, ps, pt0.pl, rfl, hw, (hw.g.all pt0 hpt0).pl, fun H1 S1 => ?_⟩
  rw [decide_eq_true hin]
  refine ⟨_, rfl, iteF ?_⟩
  have hw1 := hw.same S1
  obtain ⟨dx, tp, dp', tr, dr, tc, tm, dm, tl, e0, e1, _⟩ := hw1.wo.ex
  have p8 := hw.g.len
  have hlen := hw.al.length
  refine ⟨_, rfl, p, C, dx, _, _, rfl, e0, Wc.cl, Wc.nPo, lk_eq, tp, W.xs, rfl, .inr e1, fun J G hG wk D nD => ?_⟩
  refine lc_acc wk nD (by omega) (fun i acc _ => acc = (((ps.take i).filter fun x => decide (x.pl = pt0.pl)).map Pt.nm).map V.str) rfl hG ?_ ?_
  · rintro i v G0 G acc hi S eD hl rfl ⟨rfl, hx⟩ Fy Fn hy1 hy2
    obtain ⟨q, x, rfl, hx', eq⟩ := (hw1.al.same S).get hx
    have et : ps.take (i + 1) = ps.take i ++ [x] := by rw [List.take_add_one, hx']; rfl
    rw [et, List.filter_append, List.map_append, List.map_append] at hy1 hy2
    refine ⟨q, _, rfl, SqT.of eq, rfl, _, _, rfl, _, _, rfl, _, _, rfl, rfl, ?_⟩
    refine ⟨rfl, ?_⟩
    refine ⟨_, rfl, _, rfl, rfl, _, rfl, ?_⟩
    rw [str_dec]
    by_cases h : x.pl = pt0.pl
    · rw [decide_eq_true h]
      refine iteT ⟨_, rfl, hy1 _ _ (Same.refl _) ?_⟩
      simp [h]
    · rw [decide_eq_false h]
      refine iteF (hy2 _ (Same.refl _) ?_)
      simp [h]
  rintro X acc S eD rfl
  rw [List.take_of_length_le (by omega)] at eD
  exact k D X (S1.trans S) (Same.no S1 nD) eD
end
/-! ### signs and letters -/
structure Sg where
  t : Int
  nm : Str
  w : Int
  m : Str
def f4 (r : Sg) : List V := [.int r.t, .str r.nm, .int r.w, .str r.m]
structure GoodS (ps : List Pt) (pl : Str) (r : Sg) : Prop where
  t0 : 0 ≤ r.t
  t1 : r.t ≤ 9999
  inn : ∃ pt ∈ ps, pt.nm = r.nm ∧ pt.pl = pl ∧ 0 ≤ r.w ∧ r.w ≤ hiP pt
  m : r.m = "good" ∨ r.m = "odd"
structure Lt where
  pl : Str
  no : Int
  tm : Int
  rs : List Sg
structure GoodLt (ps : List Pt) (L : Lt) : Prop where
  pl : L.pl ∈ ps.map Pt.pl
  n0 : 1 ≤ L.no
  n1 : L.no ≤ 40
  t0 : 0 ≤ L.tm
  t1 : L.tm ≤ 9999
  few : L.rs.length ≤ 12
  all : ∀ r ∈ L.rs, GoodS ps L.pl r
  up : (L.rs.map Sg.t ++ [L.tm]).Pairwise (· ≤ ·)
def LtAt (H : Hp) (q : Addr) (L : Lt) : Prop := ∃ rt vs, H q = some (.tup [.str "signs", .str L.pl, .int L.no, .int L.tm, .ref rt]) ∧ H rt = some (.tup vs) ∧ Al f4 H vs L.rs
theorem LtAt.same {H H' : Hp} {q : Addr} {L : Lt} (h : LtAt H q L) (S : Same H H') : LtAt H' q L := let ⟨rt, vs, e, et, al⟩ := h; ⟨rt, vs, S _ _ e, S _ _ et, al.same S⟩
theorem mark_one {s : Str} (h : s = "good" ∨ s = "odd") : oneB (.str s) ["good", "odd"] = true := by rcases h with rfl | rfl <;> decide +kernel
section
variable {P : Program} {w : World} {K : PySem.W.Frag} {mg : Str → Option Value} {base : Heap} {C : Addr}
def spSign (C : Addr) (K : PySem.W.Frag) : Sp := fun vs H Q _ => ∃ p q W ps pl r, vs = [.ref p, .ref q] ∧ WoP K C H p W ps ∧ H q = some (.tup (f4 r)) ∧ GoodS ps pl r ∧ ∀ H', Same H H' → Q (.bl true) H'
theorem d_sign (Wc : WoC K C) (A : At K mg "is_sign" sIsSign) (dc : Def P w K mg base "check_works" 1 ["thing"] (spWorksC C K)) (dt : Def P w K mg base "is_tuple" 1 ["thing", "many"] (spTupN K)) (dti : Def P w K mg base "is_time" 4 ["thing"] (spRange K 0 9999))
    (dh : DefM P w K mg base C "has_point" 2 ["self", "thing"] (spHasP C K)) (dw : DefM P w K mg base C "is_worth" 5 ["self", "point", "thing"] (spIsWorth C K)) (dm : Def P w K mg base "is_mark" 2 ["thing"] (spMark K)) :
    Def P w K mg base "is_sign" 6 ["works", "thing"] (spSign C K) := by
  refine mkDef A scIsSign (fun _ _ _ _ _ _ us hl => match us, hl with | [_, _], _ => rfl) (fun vs H Q E ⟨_, _, _, _, _, _, e, _⟩ => by rw [e]; rfl)
    (fun f cdv A out s H vs Q E hr h => ?_)
  obtain ⟨p, q, W, ps, pl, r, rfl, hw, eq, g, k⟩ := h
  refine ⟨_, (pss_cons (ps_expr (pe_d dc hr (by decide) (by rfl) (pa_cons (pv 0) pa_nil)))
    (pss_cons (ps_if (pt_not (pt_val (pe_d dt hr (by decide) (by rfl) (pa_cons (pv 1) (pa_cons pe_int pa_nil)))))
      (pss_one (ps_ret pe_bl))
      pss_nil)
    (pss_cons (ps_asg (pv 1) (pg_tup (by rfl) (pgs_cons (pg_name (i := 2) scIsSign.nd rfl (.inl rfl)) (pgs_cons (pg_name (i := 3) scIsSign.nd rfl (.inl rfl)) (pgs_cons (pg_name (i := 4) scIsSign.nd rfl (.inl rfl)) (pgs_cons (pg_name (i := 5) scIsSign.nd rfl (.inl rfl)) pgs_nil))))))
    (pss_one (ps_ret (pe_and (pe_d dti hr (by decide) (by rfl) (pa_cons (pv 2) pa_nil)) (pe_and (pe_mm (pv 0) Wc.cl dh hr (by decide) (pa_cons (pv 3) pa_nil)) (pe_and (pe_mm (pv 0) Wc.cl dw hr (by decide) (pa_cons (pv 3) (pa_cons (pv 4) pa_nil))) (pe_one (pe_d dm hr (by decide) (by rfl) (pa_cons (pv 5) pa_nil))))))))))), ?_⟩
  obtain ⟨pt, hpt, en, epl, w0, w1⟩ := g.inn
  have eT : tupNB H (.ref q) 4 = true := by simp only [tupNB, eq]; rfl
  obtain ⟨dx, tp, dp', tr, dr, tc, tm, dm', tl, e0, _⟩ := hw.wo.ex
  refine ⟨_, rfl, p, W, rfl, hw.wo, ?_⟩
  refine ⟨_, rfl, .ref q, _, 4, rfl, .tup eq, true, congrArg V.bl eT, iteF ?_⟩
  refine ⟨_, rfl, q, _, rfl, SqT.of eq, rfl, _, _, rfl, _, _, rfl, _, _, rfl, _, _, rfl, rfl, ?_⟩
  refine ⟨_, rfl, .int r.t, _, rfl, .int _, true, congrArg V.bl (whole_in g.t0 g.t1), iteT ?_⟩
  refine ⟨_, rfl, p, dx, _, rfl, e0, wof_no (by decide +kernel) (by decide +kernel) (by decide +kernel) (by decide +kernel) (by decide +kernel) (by decide +kernel) (by decide +kernel) (by decide +kernel), _, rfl, p, W, ps, r.nm, rfl, hw, en ▸ (hw.g.all pt hpt).nm, fun H1 S1 => ?_⟩
  rw [decide_eq_true (List.mem_map.mpr ⟨pt, hpt, en⟩)]
  refine ⟨_, rfl, iteT ?_⟩
  have hw1 := hw.same S1
  obtain ⟨dx, tp, dp', tr, dr, tc, tm, dm', tl, e0, _⟩ := hw1.wo.ex
  refine ⟨_, rfl, p, dx, _, rfl, e0, wof_no (by decide +kernel) (by decide +kernel) (by decide +kernel) (by decide +kernel) (by decide +kernel) (by decide +kernel) (by decide +kernel) (by decide +kernel), _, rfl, _, rfl, p, W, ps, pt, .int r.w, _, (by rw [en]; rfl), hw1, hpt, fun H' => .int _, fun H2 S2 => ?_⟩
  refine ⟨true, congrArg V.bl (whole_in w0 w1), iteT ?_⟩
  refine ⟨_, rfl, .str r.m, _, rfl, .str _, fun H3 S3 => ?_⟩
  rw [mark_one g.m]
  exact k _ (S1.trans (S2.trans S3))
def spSignAt (C : Addr) (K : PySem.W.Frag) : Sp := fun vs H Q _ => ∃ p q W ps pl r, vs = [.ref p, .str pl, .ref q] ∧ WoP K C H p W ps ∧ H q = some (.tup (f4 r)) ∧ GoodS ps pl r ∧ ∀ H', Same H H' → Q (.bl true) H'
theorem d_signAt (Wc : WoC K C) (A : At K mg "_is_sign_at" sIsSignAt) (ds : Def P w K mg base "is_sign" 6 ["works", "thing"] (spSign C K)) (dp : DefM P w K mg base C "points_at" 3 ["self", "place"] (spPtsAt C K)) :
    Def P w K mg base "_is_sign_at" 7 ["works", "place", "thing"] (spSignAt C K) := by
  refine mkDef A scIsSignAt (fun _ _ _ _ _ _ us hl => match us, hl with | [_, _, _], _ => rfl) (fun vs H Q E ⟨_, _, _, _, _, _, e, _⟩ => by rw [e]; rfl)
    (fun f cdv A out s H vs Q E hr h => ?_)
  obtain ⟨p, q, W, ps, pl, r, rfl, hw, eq, g, k⟩ := h
  refine ⟨_, (pss_one (ps_ret (pe_and (pe_d ds hr (by decide) (by rfl) (pa_cons (pv 0) (pa_cons (pv 2) pa_nil))) (pe_one (pe_cmpR op_in_seq (pe_ix (r := rIxT K) ix_tup (pv 2) pe_int (fun _ _ => rfl)) (pe_mm (pv 0) Wc.cl dp hr (by decide) (pa_cons (pv 1) pa_nil)) (by rfl)))))), ?_⟩
  obtain ⟨pt, hpt, en, epl, _⟩ := g.inn
  refine ⟨_, rfl, _, rfl, p, q, W, ps, pl, r, rfl, hw, eq, g, fun H1 S1 => ⟨_, rfl, iteT ?_⟩⟩
  have hw1 := hw.same S1
  obtain ⟨dx, tp, dp', tr, dr, tc, tm, dm', tl, e0, _⟩ := hw1.wo.ex
  refine ⟨_, rfl, q, _, 1, .str r.nm, rfl, rfl, SqT.of (S1 _ _ eq), rfl, _, rfl, p, dx, _, rfl, e0, wof_no (by decide +kernel) (by decide +kernel) (by decide +kernel) (by decide +kernel) (by decide +kernel) (by decide +kernel) (by decide +kernel) (by decide +kernel), _, rfl, p, W, ps, pl, rfl, hw1, List.mem_map.mpr ⟨pt, hpt, epl⟩, fun l H2 S2 nl el => ?_⟩
  refine ⟨l, _, rfl, .inl (SqL.of el), rfl, flat_strs _, ?_⟩
  rw [inV_str, decide_eq_true (List.mem_map.mpr ⟨pt, List.mem_filter.mpr ⟨hpt, decide_eq_true epl⟩, en⟩)]
  exact k _ (S1.trans S2)
end
theorem sorted_eq : ∀ {xs ys : List Int}, xs.Perm ys → xs.Pairwise (· ≤ ·) → ys.Pairwise (· ≤ ·) → xs = ys
  | [], ys, p, _, _ => (List.Perm.nil_eq p)
  | x :: xs, [], p, _, _ => by have := p.length_eq; simp at this
  | x :: xs, y :: ys, p, h1, h2 => by
    obtain ⟨a1, a2⟩ := List.pairwise_cons.mp h1
    obtain ⟨b1, b2⟩ := List.pairwise_cons.mp h2
    have e : x = y := by
      have m1 : x ∈ y :: ys := p.mem_iff.mp List.mem_cons_self
      have m2 : y ∈ x :: xs := p.mem_iff.mpr List.mem_cons_self
      rcases List.mem_cons.mp m1 with h | h
      · exact h
      · rcases List.mem_cons.mp m2 with h' | h'
        · exact h'.symm
        · have := b1 x h; have := a1 y h'; omega
    subst e
    rw [sorted_eq ((List.perm_cons x).mp p) a2 b2]
theorem dp_intsL {K : PySem.W.Frag} {H : Hp} : ∀ ys : List Int, DpAll K H (ys.map V.int) (ys.map .int)
  | [] => .nil
  | y :: r => .cons (.int y) (dp_intsL r)
theorem eqvAll_ints : ∀ ys : List Int, PyData.eqvAll (ys.map .int) (ys.map .int) = true
  | [] => by simp only [List.map_nil, PyData.eqvAll]
  | y :: r => by simp [PyData.eqvAll, PyData.eqv, eqvAll_ints r]
theorem shaped_ints (ys : List Int) : SeqAt.shaped (.list (ys.map .int)) = true := by
  have h1 : ∀ ys : List Int, PyData.canLayAll0 (ys.map .int) = true := fun ys => by
    induction ys with
    | nil => simp only [List.map_nil, PyData.canLayAll0]
    | cons y r ih => simp only [List.map_cons, PyData.canLayAll0, PyData.canLay0, ih, Bool.and_self]
  have h2 : ∀ ys : List Int, PyData.depthAll (ys.map .int) = 0 := fun ys => by
    induction ys with
    | nil => simp only [List.map_nil, PyData.depthAll]
    | cons y r ih => simp only [List.map_cons, PyData.depthAll, PyData.depth, ih, Nat.max_self]
  unfold SeqAt.shaped
  simp only [PyData.canLay0, PyData.depth, h1, h2]
  rfl
section
variable {P : Program} {w : World} {K : PySem.W.Frag} {mg : Str → Option Value} {base : Heap} {C : Addr}
def spSigns (C : Addr) (K : PySem.W.Frag) : Sp := fun vs H Q _ => ∃ p q W ps L, vs = [.ref p, .ref q] ∧ WoP K C H p W ps ∧ LtAt H q L ∧ GoodLt ps L ∧ ∀ H', Same H H' → Q (.bl true) H'
theorem d_signs (T : Txt mg) (Wc : WoC K C) (A : At K mg "is_signs" sIsSigns) (dc : Def P w K mg base "check_works" 1 ["thing"] (spWorksC C K)) (dt : Def P w K mg base "is_tuple" 1 ["thing", "many"] (spTupN K)) (dh : DefM P w K mg base C "has_place" 2 ["self", "thing"] (spHasPl C K))
    (dwh : Def P w K mg base "is_whole" 3 ["thing", "low", "high"] (spWhole K)) (dti : Def P w K mg base "is_time" 4 ["thing"] (spRange K 0 9999)) (dsa : Def P w K mg base "_is_sign_at" 7 ["works", "place", "thing"] (spSignAt C K)) :
    Def P w K mg base "is_signs" 8 ["works", "thing"] (spSigns C K) := by
  refine mkDef A scIsSigns (fun _ _ _ _ _ _ us hl => match us, hl with | [_, _], _ => rfl) (fun vs H Q E ⟨_, _, _, _, _, e, _⟩ => by rw [e]; rfl)
    (fun f cdv A out s H vs Q E hr h => ?_)
  obtain ⟨p, q, W, ps, L, rfl, hw, hq, g, k⟩ := h
  refine ⟨_, (pss_cons (ps_expr (pe_d dc hr (by decide) (by rfl) (pa_cons (pv 0) pa_nil)))
    (pss_cons (ps_if (PW.pt (pw_or (pt_not (pt_val (pe_d dt hr (by decide) (by rfl) (pa_cons (pv 1) (pa_cons pe_int pa_nil))))) (pw_or1 (pt_cmpR op_ne (pe_ix (r := rIxT K) ix_tup (pv 1) pe_int (fun _ _ => rfl)) pe_str (nomark _)))))
      (pss_one (ps_ret pe_bl))
      pss_nil)
    (pss_cons (ps_asg (pv 1) (pg_tup (by rfl) (pgs_cons (pg_name (i := 2) scIsSigns.nd rfl (.inl rfl)) (pgs_cons (pg_name (i := 3) scIsSigns.nd rfl (.inr rfl)) (pgs_cons (pg_name (i := 4) scIsSigns.nd rfl (.inl rfl)) (pgs_cons (pg_name (i := 5) scIsSigns.nd rfl (.inl rfl)) (pgs_cons (pg_name (i := 6) scIsSigns.nd rfl (.inl rfl)) pgs_nil)))))))
    (pss_cons (ps_if (pt_not (PW.pt (pw_and (pt_val (pe_mm (pv 0) Wc.cl dh hr (by decide) (pa_cons (pv 3) pa_nil))) (pw_and (pt_val (pe_d dwh hr (by decide) (by rfl) (pa_cons (pv 4) (pa_cons pe_int (pa_cons (pe_gi T.c_MOST_LETTERS) pa_nil))))) (pw_and1 (pt_val (pe_d dti hr (by decide) (by rfl) (pa_cons (pv 5) pa_nil))))))))
      (pss_one (ps_ret pe_bl))
      pss_nil)
    (pss_cons (ps_if (PW.pt (pw_or (pt_not (pt_val (pe_is T.isinstance (by rfl) (pv 6) T.tuple (by rfl) (Tn := "tuple") (by decide +kernel)))) (pw_or1 (pt_cmpR op_gt (pe_callB call_len_seq (by rfl) T.len PySem.boot_len (pa_cons (pv 6) pa_nil)) (pe_gi T.c_MOST_SIGNS) (nomark _)))))
      (pss_one (ps_ret pe_bl))
      pss_nil)
    (pss_cons (ps_if (pt_not (pt_val (pe_callB (cr_all rfl) (by rfl) T.all PyProof.Rows.boot_all (pa_cons (pe_lc (own := [("row", 8)]) (g := gName 8) (tt := tYes) rfl scIsSigns.nd (pi_sq (pv 6))
        (blkOk_by (own := [("row", 8)]) (N := ["works", "thing", "_", "place", "number", "time", "rows", "times", "row"]) (sc := defScope sIsSigns) (by decide +kernel))
        (fun _ _ _ _ _ => (pg_name (i := 8) scIsSigns.nd rfl (.inl rfl))) (fun _ _ _ _ _ => pts_nil)
        (fun _ _ _ _ _ => (pe_d dsa hr (by decide) (by rfl) (pa_cons (pv 0) (pa_cons (pv 3) (pa_cons (pv 8) pa_nil)))))) pa_nil))))
      (pss_one (ps_ret pe_bl))
      pss_nil)
    (pss_cons (ps_set (i := 7) scIsSigns.nd rfl (.inl rfl) (pe_op op_cat (pe_lc (own := [("row", 8)]) (g := gName 8) (tt := tYes) rfl scIsSigns.nd (pi_sq (pv 6))
        (blkOk_by (own := [("row", 8)]) (N := ["works", "thing", "_", "place", "number", "time", "rows", "times", "row"]) (sc := defScope sIsSigns) (by decide +kernel))
        (fun _ _ _ _ _ => (pg_name (i := 8) scIsSigns.nd rfl (.inl rfl))) (fun _ _ _ _ _ => pts_nil)
        (fun _ _ _ _ _ => (pe_ix (r := rIxT K) ix_tup (pv 8) pe_int (fun _ _ => rfl)))) (pe_lst (pa_cons (pv 5) pa_nil))))
    (pss_one (ps_ret (pe_cmpR (op_eqD hr.units) (pv 7) (pe_callB cr_sortedI (by rfl) T.sorted (by decide +kernel) (pa_cons (pv 7) pa_nil)) (nomark _))))))))))), ?_⟩
  obtain ⟨rt, vs, eq, et, al⟩ := hq
  have few := g.few
  have hlen := al.length
  obtain ⟨pt0, hpt0, epl0⟩ := List.mem_map.mp g.pl
  have opl : OkName L.pl := epl0 ▸ (hw.g.all pt0 hpt0).pl
  have eT : tupNB H (.ref q) 5 = true := by simp only [tupNB, eq]; rfl
  obtain ⟨dx, tp, dp', tr, dr, tc, tm, dm', tl, e0, _⟩ := hw.wo.ex
  refine ⟨_, rfl, p, W, rfl, hw.wo, ?_⟩
  refine ⟨_, rfl, .ref q, _, 5, rfl, .tup eq, true, congrArg V.bl eT, iteF ?_⟩
  refine ⟨_, rfl, q, _, 0, .str "signs", rfl, rfl, SqT.of eq, rfl, rfl, _, rfl, ?_⟩
  rw [decide_eq_true rfl]
  refine iteF ?_
  refine ⟨_, rfl, q, _, rfl, SqT.of eq, rfl, _, _, rfl, _, _, rfl, _, _, rfl, _, _, rfl, _, _, rfl, rfl, ?_⟩
  refine ⟨_, rfl, p, dx, _, rfl, e0, wof_no (by decide +kernel) (by decide +kernel) (by decide +kernel) (by decide +kernel) (by decide +kernel) (by decide +kernel) (by decide +kernel) (by decide +kernel), _, rfl, p, W, ps, L.pl, rfl, hw, opl, fun H1 S1 => ?_⟩
  rw [decide_eq_true g.pl]
  refine ⟨_, rfl, iteT ?_⟩
  refine ⟨_, rfl, .int L.no, _, 1, 40, rfl, .int _, true, congrArg V.bl (whole_in g.n0 g.n1), iteT ?_⟩
  refine ⟨_, rfl, .int L.tm, _, rfl, .int _, true, congrArg V.bl (whole_in g.t0 g.t1), iteF ?_⟩
  have et1 := S1 _ _ et
  refine ⟨_, rfl, .ref rt, .ty "tuple", .type "tuple", .type "tuple", true, rfl, .ty _, .base (.base (.tup et1)), kit_ty (by decide +kernel), true, rfl, iteF ?_⟩
  refine ⟨_, rfl, rt, vs, rfl, .inr (SqT.of et1), (vs.length : Int), 12, rfl, rfl, _, rfl, ?_⟩
  rw [decide_eq_false (show ¬ ((vs.length : Int) > 12) by omega)]
  refine iteF ?_
  have hw1 := hw.same S1
  have al1 := al.same S1
  -- each a sign
  refine ⟨_, rfl, rt, vs, rfl, .inr (SqT.of et1), fun J G hG wk D nD => ?_⟩
  refine lc_acc wk nD (by omega) (fun i acc _ => acc = (List.replicate i true).map V.bl) rfl hG ?_ ?_
  · rintro i v G0 G acc hi S eD hl rfl ⟨rfl, hx⟩ Fy Fn hy1 _
    obtain ⟨q2, r, rfl, hr', eq2⟩ := (al1.same S).get hx
    refine ⟨rfl, ?_⟩
    unfold tYes
    refine iteT ?_
    refine ⟨_, rfl, _, rfl, _, rfl, p, q2, W, ps, L.pl, r, rfl, hw1.same S, eq2, g.all r (List.mem_of_getElem? hr'), fun H4 S4 => hy1 _ _ S4 (reps_succ i)⟩
  rintro H2 acc S2 eD rfl
  refine ⟨D, _, rfl, SqL.of eD, ?_⟩
  rw [reps_all]
  refine ⟨_, rfl, iteF ?_⟩
  -- the times
  have et2 := S2 _ _ et1
  have al2 := al1.same S2
  refine ⟨_, rfl, rt, vs, rfl, .inr (SqT.of et2), fun J G hG wk D2 nD2 => ?_⟩
  refine lc_acc wk nD2 (by omega) (fun i acc _ => acc = ((L.rs.take i).map Sg.t).map V.int) rfl hG ?_ ?_
  · rintro i v G0 G acc hi S eD hl rfl ⟨rfl, hx⟩ Fy Fn hy1 _
    obtain ⟨q2, r, rfl, hr', eq2⟩ := (al2.same S).get hx
    refine ⟨rfl, ?_⟩
    unfold tYes
    refine iteT ?_
    refine ⟨_, rfl, q2, _, 0, .int r.t, rfl, rfl, SqT.of eq2, rfl, ?_⟩
    refine hy1 _ _ (Same.refl _) ?_
    rw [List.take_add_one, hr', List.map_append, List.map_append]
    rfl
  rintro H3 acc S3 eD2 rfl
  rw [List.take_of_length_le (by omega)] at eD2
  refine ⟨_, rfl, by show 1 ≤ sizeLine; decide, fun l nl => ?_⟩
  have U1 := Same.laid (o := HO.lst [.int L.tm]) nl
  have el : upd H3 l (.lst [.int L.tm]) l = some (.lst [.int L.tm]) := upd_same
  generalize upd H3 l (.lst [.int L.tm]) = H4 at *
  refine ⟨D2, l, _, _, rfl, rfl, U1 _ _ eD2, el, by rw [List.length_map, List.length_map]; exact Nat.le_trans (show L.rs.length + 1 ≤ 13 by omega) (by decide), fun M nM => ?_⟩
  have eM : upd H4 M (.lst ((L.rs.map Sg.t).map V.int ++ [.int L.tm])) M = some (.lst ((L.rs.map Sg.t ++ [L.tm]).map V.int)) := by rw [upd_same, List.map_append]; rfl
  have U2 := Same.laid (o := HO.lst ((L.rs.map Sg.t).map V.int ++ [.int L.tm])) nM
  generalize upd H4 M (.lst ((L.rs.map Sg.t).map V.int ++ [.int L.tm])) = H5 at *
  dsimp only [gName]
  refine ⟨_, rfl, _, rfl, M, _, rfl, SqL.of eM, fun ns' o hp hs no => ?_⟩
  obtain rfl := sorted_eq hp hs g.up
  have U3 := Same.laid (o := HO.lst ((L.rs.map Sg.t ++ [L.tm]).map V.int)) no
  refine ⟨.list ((L.rs.map Sg.t ++ [L.tm]).map .int), .list ((L.rs.map Sg.t ++ [L.tm]).map .int), .lst (SqL.of (U3 _ _ eM)) (dp_intsL _), .lst (SqL.of upd_same) (dp_intsL _), shaped_ints _, shaped_ints _, ?_⟩
  have ev : PyData.eqv (.list ((L.rs.map Sg.t ++ [L.tm]).map .int)) (.list ((L.rs.map Sg.t ++ [L.tm]).map .int)) = true := by
    simp only [PyData.eqv]
    exact eqvAll_ints _
  rw [ev]
  exact k _ (S1.trans (S2.trans (S3.trans (U1.trans (U2.trans U3)))))
/-- the rows of a point -/
def f3s (r : Sg) : List V := [.int r.t, .int r.w, .str r.m]
def rowsM (L : Lt) (nm : Str) : List Sg := L.rs.filter fun r => decide (r.nm = nm)
def spRowsIn : Sp := fun vs H Q _ => ∃ q L nm, vs = [.ref q, .str nm] ∧ LtAt H q L ∧ L.rs.length ≤ 12 ∧ ∀ l vs' H', Same H H' → H l = none → H' l = some (.lst vs') → Al f3s H' vs' (rowsM L nm) → Q (.ref l) H'
end
end V10

/-! Texts by the list of their signs. -/
namespace Pw
open PySem PySem.Spec PyProof.Rows L2
def tx (cs : List Nat) : Str := ⟨cs.toArray⟩
theorem tx_cps (cs : List Nat) : (tx cs).cps.toList = cs := by simp [tx]
theorem tx_inj {a b : List Nat} (h : tx a = tx b) : a = b := by
  have := congrArg (fun s : Str => s.cps.toList) h
  simpa [tx] using this
theorem tx_of (s : Str) : s = tx s.cps.toList := by
  cases s
  simp [tx]
theorem tx_len (cs : List Nat) : (tx cs).length = cs.length := by
  show cs.toArray.size = _
  simp
theorem tx_add (a b : List Nat) : tx a ++ tx b = tx (a ++ b) := by
  show Str.mk (a.toArray ++ b.toArray) = Str.mk (a ++ b).toArray
  simp
theorem cut_tx (cs : List Nat) (lo hi : Option Int) : cutS (tx cs) lo hi = tx ((cs.drop (HT.sIx cs.length 0 lo)).take (HT.sIx cs.length cs.length hi - HT.sIx cs.length 0 lo)) := by
  unfold cutS
  rw [tx_len, tx_cps]
  rfl
theorem cut_tx_to (cs : List Nat) (i : Nat) : cutS (tx cs) none (some (i : Int)) = tx (cs.take i) := by
  rw [cut_tx]
  have e1 : HT.sIx cs.length 0 none = 0 := rfl
  rw [e1, HT.sIx_nat, List.drop_zero, Nat.sub_zero]
  by_cases h : i ≤ cs.length
  · rw [Nat.min_eq_left h]
  · rw [Nat.min_eq_right (by omega), List.take_length, List.take_of_length_le (by omega)]
theorem cut_tx_in (cs : List Nat) (i j : Nat) (hi : i ≤ cs.length) : cutS (tx cs) (some (i : Int)) (some (j : Int)) = tx ((cs.take j).drop i) := by
  rw [cut_tx, HT.sIx_nat, HT.sIx_nat, Nat.min_eq_left hi]
  congr 1
  rw [List.drop_take]
  by_cases h : j ≤ cs.length
  · rw [Nat.min_eq_left h]
  · rw [Nat.min_eq_right (by omega), List.take_of_length_le (by rw [List.length_drop]; omega), List.take_of_length_le (by rw [List.length_drop]; omega)]
theorem join_go : ∀ (css : List (List Nat)) (acc : Array Nat), List.foldl (fun (acc : Array Nat) (p : Str) => acc ++ (tx []).cps ++ p.cps) acc (css.map tx) = acc ++ css.flatten.toArray
  | [], acc => by simp
  | c :: css, acc => by
    rw [List.map_cons, List.foldl_cons, join_go css]
    simp [tx]
theorem join_tx (css : List (List Nat)) : Txt.join (tx []) (css.map tx) = tx css.flatten := by
  show Str.mk _ = Str.mk _
  cases css with
  | nil => rfl
  | cons c css =>
    show Str.mk (List.foldl _ (tx c).cps (css.map tx)) = _
    rw [join_go css]
    simp [tx]
theorem flat_ones : ∀ cs : List Nat, (cs.map fun c => [c]).flatten = cs
  | [] => rfl
  | c :: cs => by rw [List.map_cons, List.flatten_cons, flat_ones cs]; rfl
theorem join_ones (cs : List Nat) : Txt.join (tx []) (cs.map fun c => tx [c]) = tx cs := by
  rw [show (cs.map fun c => tx [c]) = (cs.map fun c => [c]).map tx by rw [List.map_map]; rfl, join_tx, flat_ones]
theorem sum_ones (cs : List Nat) : ((cs.map fun c => tx [c]).map fun s : Str => s.length).sum = cs.length := by
  induction cs with
  | nil => rfl
  | cons c cs ih =>
    simp only [List.map_cons, List.sum_cons, ih, tx_len, List.length_cons, List.length_nil]
    omega
def GoodN (cs : List Nat) : Prop := (1 ≤ cs.length ∧ cs.length ≤ 8) ∧ ∀ c ∈ cs, 97 ≤ c ∧ c ≤ 122
theorem nodup_map_range {α : Type} {m : Nat} {g : Nat → α} (h : ∀ i j, i < j → j < m → g i ≠ g j) : ((List.range m).map g).Nodup := by
  refine List.pairwise_map.mpr ?_
  have h2 : (List.range m).Pairwise (fun a b => a < b ∧ b < m) := by
    refine List.Pairwise.imp_of_mem (fun {a b} ha hb hab => ⟨hab, List.mem_range.mp hb⟩) List.pairwise_lt_range
  exact h2.imp fun {a b} h' => h a b h'.1 h'.2
theorem take_range_succ {α : Type} (g : Nat → α) (i : Nat) : (List.range (i + 1)).map g = (List.range i).map g ++ [g i] := by
  rw [List.range_succ, List.map_append]
  rfl
end Pw

set_option maxHeartbeats 8000000
namespace V10
open PySem PySem.Spec PyProof.Rows L2 Pw
def abc : Str := "abcdefghijklmnopqrstuvwxyz"
theorem abc_at : ∀ i : Nat, i < 26 → abc.cps[i]? = some (97 + i) := by decide +kernel
theorem abc_len : abc.length = 26 := by decide +kernel
theorem emp : ("" : Str) = tx [] := by decide +kernel
theorem okN {cs : List Nat} (h : GoodN cs) : OkName (tx cs) := by
  refine ⟨?_, fun z e => ?_⟩
  · show (decide (1 ≤ (tx cs).length ∧ (tx cs).length ≤ 8) && (tx cs).cps.toList.all fun c => decide (97 ≤ c ∧ c ≤ 122)) = true
    rw [tx_len, tx_cps, decide_eq_true h.1, Bool.true_and, List.all_eq_true]
    exact fun c hc => decide_eq_true (h.2 c hc)
  · cases e
    rw [tx_len, tx_cps]
    exact ⟨by have := h.1.2; omega, fun c hc => by have := h.2 c hc; omega⟩
theorem But.none_of {p q : Addr} {H H' : Hp} (B : But p H H') (n : H' q = none) (hq : q ≠ p) : H q = none := by
  cases z : H q with
  | none => rfl
  | some o => rw [B.at hq z] at n; cases n
theorem But.wo_upd {p D : Addr} {H H' : Hp} {o : HO} (B : But p H H') (n : H D = none) : But p H (upd H' D o) := But.of fun b u nb e => (upd_ne (ne_of_none e n)).trans (B.at nb e)
theorem BoxAt.set {p D : Addr} {H : Hp} {n : Nat} {o : HO} (h : BoxAt H p n) (ne : D ≠ p) : BoxAt (upd H D o) p n := by
  obtain ⟨b0, b1, b2, e, r⟩ := h
  exact ⟨b0, b1, b2, (upd_ne (Ne.symm ne)).trans e, r⟩
theorem tx_inj_map {css : List (List Nat)} (h : css.Nodup) : (css.map tx).Nodup := List.pairwise_map.mpr (h.imp fun n z => n (tx_inj z))
theorem canLay_strs : ∀ ys : List Str, (∀ y ∈ ys, PyData.strOk y = true) → PyData.canLayAll0 (ys.map .str) = true
  | [], _ => by simp only [List.map_nil, PyData.canLayAll0]
  | y :: r, h => by
    have h1 := h y List.mem_cons_self
    simp only [List.map_cons, PyData.canLayAll0, PyData.canLay0, canLay_strs r (fun z hz => h z (List.mem_cons_of_mem _ hz)), h1, Bool.and_self]
theorem depth_strs : ∀ ys : List Str, PyData.depthAll (ys.map .str) = 0
  | [] => by simp only [List.map_nil, PyData.depthAll]
  | y :: r => by simp only [List.map_cons, PyData.depthAll, PyData.depth, depth_strs r, Nat.max_self]
theorem shaped_strs (ys : List Str) (h : ∀ y ∈ ys, PyData.strOk y = true) : SeqAt.shaped (.list (ys.map .str)) = true := by
  unfold SeqAt.shaped
  simp only [PyData.canLay0, PyData.depth, canLay_strs ys h, depth_strs]
  rfl
theorem eqv_strs (ys : List Str) : PyData.eqv (.list (ys.map .str)) (.list []) = ys.isEmpty := by
  cases ys <;> simp [PyData.eqv, PyData.eqvAll]
theorem dp_strs {K : PySem.W.Frag} {H : Hp} : ∀ ys : List Str, DpAll K H (ys.map V.str) (ys.map .str)
  | [] => .nil
  | y :: r => .cons (.str y) (dp_strs r)
theorem ne_nil {K : PySem.W.Frag} {H : Hp} {Q : VK} {D q : Addr} {ys : List Str} (hD : H D = some (.lst (ys.map V.str)))
    (hq : H q = some (.lst [])) (ho : ∀ y ∈ ys, PyData.strOk y = true) (h : Q (.bl !ys.isEmpty) H) : rNeD K (.ref D) (.ref q) H Q :=
  ⟨.list (ys.map .str), .list [], .lst (SqL.of hD) (dp_strs ys), .lst (xs := []) (SqL.of hq) .nil, shaped_strs ys ho, rfl, by
    rw [eqv_strs]
    exact h⟩
theorem okS {s : Str} (h : OkName s) : PyData.strOk s = true := by
  have h2 := (h.sh s rfl).2
  unfold PyData.strOk
  rw [Array.all_eq_true']
  intro c hc
  have := h2 c (by simpa using hc)
  exact decide_eq_true (by omega)
theorem op_notIn_seqK {X : Cx} {K : PySem.W.Frag} (hK : X.K = K) : OpR X (compareOp .NotIn) (rIn K true) := hK ▸ op_notIn_seq
theorem pig {α : Type} [DecidableEq α] : ∀ {xs ys : List α}, xs.Nodup → (∀ x ∈ xs, x ∈ ys) → xs.length ≤ ys.length
  | [], _, _, _ => Nat.zero_le _
  | x :: xs, ys, nd, h => by
    have nd' := List.nodup_cons.mp nd
    have hx := h x List.mem_cons_self
    have ih := pig (ys := ys.erase x) nd'.2 fun y hy => (List.mem_erase_of_ne fun z => nd'.1 (by rw [← z]; exact hy)).mpr (h y (List.mem_cons_of_mem _ hy))
    rw [List.length_erase_of_mem hx] at ih
    have : 0 < ys.length := List.length_pos_of_mem hx
    rw [List.length_cons]
    omega
/-- some letter makes a new word -/
theorem new_word (cs : List Nat) {ns : List Str} (h : ns.length < 26) : (List.range 26).filter (fun j => decide (tx (cs ++ [97 + j]) ∉ ns)) ≠ [] := fun z => by
  have hin : ∀ s ∈ (List.range 26).map (fun j => tx (cs ++ [97 + j])), s ∈ ns := fun s hs => by
    obtain ⟨j, hj, rfl⟩ := List.mem_map.mp hs
    have := List.filter_eq_nil_iff.mp z j hj
    simp only [decide_eq_true_eq, Decidable.not_not] at this
    exact this
  have nd : ((List.range 26).map (fun j => tx (cs ++ [97 + j]))).Nodup := nodup_map_range fun i j hij hj e => by
    have := tx_inj e
    have := List.append_cancel_left this
    simp only [List.cons.injEq, and_true] at this
    omega
  have := pig nd hin
  rw [List.length_map, List.length_range] at this
  omega
def Lets (cs : List Nat) : Prop := ∀ c ∈ cs, 97 ≤ c ∧ c ≤ 122
theorem Lets.app {a b : List Nat} (h : Lets a) (k : Lets b) : Lets (a ++ b) := fun c hc => (List.mem_append.mp hc).elim (h c) (k c)
theorem Lets.take {a : List Nat} (h : Lets a) (i : Nat) : Lets (a.take i) := fun c hc => h c (List.mem_of_mem_take hc)
section
variable {P : Program} {w : World} {K : PySem.W.Frag} {mg : Str → Option Value} {base : Heap}
def spNames (K : PySem.W.Frag) : Sp := fun vs H Q _ => ∃ p m n, vs = [.ref p, .int m] ∧ 0 ≤ m ∧ m ≤ 10 ∧ BoxAt H p n ∧ n ≤ 900000 ∧
  ∀ a H' (css : List (List Nat)), H a = none → a ≠ p → BoxAt H' p (n + 120) → But p H H' → H' a = some (.lst ((css.map tx).map V.str)) → (css.length : Int) = m → css.Nodup → (∀ c ∈ css, GoodN c) → Q (.ref a) H'
theorem d_names (T : Txt mg) (A : At K mg "_law_names" sLawNames) (dt : Def P w K mg base "_law_take" 1 ["_law_box_here", "_law_many"] (spTake K)) :
    Def P w K mg base "_law_names" 2 ["_law_box_here", "_law_many"] (spNames K) := by
  refine mkDef A scLawNames (fun _ _ _ _ _ _ us hl => match us, hl with | [_, _], _ => rfl) (fun vs H Q E ⟨_, _, _, e, _⟩ => by rw [e]; rfl)
    (fun f cdv A out s H vs Q E hr h => ?_)
  obtain ⟨p, m, n, rfl, m0, m8, hb, hn, k⟩ := h
  refine ⟨_, (pss_cons (ps_set (i := 2) scLawNames.nd rfl (.inr rfl) pe_str)
    (pss_cons (ps_set (i := 3) scLawNames.nd rfl (.inr rfl) (pe_lst pa_nil))
    (pss_cons (ps_for PassesOwn.never rfl (pi_range1 (by rfl) T.range (pa_cons (pv 1) pa_nil)) (pg_name (i := 4) scLawNames.nd rfl (.inl rfl))
      (pss_cons (ps_set (i := 5) scLawNames.nd rfl (.inl rfl) pe_str)
      (pss_cons (ps_if (PW.pt (pw_and (pt_cmpR (op_neD hr.units) (pv 3) (pe_lst pa_nil) (nomark _)) (pw_and1 (pt_cmpR op_eq (pe_d dt hr (by decide) (by rfl) (pa_cons (pv 0) (pa_cons pe_int pa_nil))) pe_int (nomark _)))))
        (pss_one (ps_set (i := 5) scLawNames.nd rfl (.inl rfl) (pe_slice sl_str (pe_ix ix_list (pv 3) (pe_d dt hr (by decide) (by rfl) (pa_cons (pv 0) (pa_cons (pe_callB call_len_seq (by rfl) T.len PySem.boot_len (pa_cons (pv 3) pa_nil)) pa_nil))) (fun _ _ => rfl)) po_none (po_some (pe_d dt hr (by decide) (by rfl) (pa_cons (pv 0) (pa_cons pe_int pa_nil)))))))
        pss_nil)
      (pss_cons (ps_set (i := 6) scLawNames.nd rfl (.inr rfl) (pe_slice sl_str (pe_op op_add_str (pv 5) (pe_join pe_str (pe_lc (own := [("_law_turn", 7)]) (g := gName 7) (tt := tYes) rfl scLawNames.nd (pi_range1 (by rfl) T.range (pa_cons (pe_op op_add pe_int (pe_d dt hr (by decide) (by rfl) (pa_cons (pv 0) (pa_cons pe_int pa_nil)))) pa_nil))
        (blkOk_by (own := [("_law_turn", 7)]) (N := ["_law_box_here", "_law_many", "_law_letters", "_law_names_here", "_law_k", "_law_stem", "_law_word", "_law_turn", "_law_letter_here"]) (sc := defScope sLawNames) (by decide +kernel))
        (fun _ _ _ _ _ => (pg_name (i := 7) scLawNames.nd rfl (.inl rfl))) (fun _ _ _ _ _ => pts_nil)
        (fun _ _ _ _ _ => (pe_item_str (pv 2) (pe_d dt hr (by decide) (by rfl) (pa_cons (pv 0) (pa_cons pe_int pa_nil))) (fun _ _ => rfl)))))) po_none (po_some pe_int)))
      (pss_cons (ps_if (pt_cmpR op_in_seq (pv 6) (pv 3) (by rfl))
        (pss_one (ps_set (i := 6) scLawNames.nd rfl (.inr rfl) (pe_ix ix_list (pe_lc (own := [("_law_letter_here", 8)]) (g := gName 8) rfl scLawNames.nd (pi_str (pv 2))
        (blkOk_by (own := [("_law_letter_here", 8)]) (N := ["_law_box_here", "_law_many", "_law_letters", "_law_names_here", "_law_k", "_law_stem", "_law_word", "_law_turn", "_law_letter_here"]) (sc := defScope sLawNames) (by decide +kernel))
        (fun _ _ _ _ _ => (pg_name (i := 8) scLawNames.nd rfl (.inl rfl))) (fun _ _ _ _ _ => (pts_one (pt_cmpR (op_notIn_seqK (K := K) rfl) (pe_op op_add_str (pe_slice sl_str (pv 6) po_none (po_some pe_int)) (pv 8)) (pv 3) (by rfl))))
        (fun _ _ _ _ _ => (pe_op op_add_str (pe_slice sl_str (pv 6) po_none (po_some pe_int)) (pv 8)))) pe_int (fun _ _ => rfl))))
        pss_nil)
      (pss_one (ps_expr (pe_bm PySem.F.plainAttrs_list PySem.F.slot_list_append PySem.F.type_list_append mt_append (pv 3) (pa_cons (pv 6) pa_nil)))))))))
    (pss_one (ps_ret (pv 3)))))), ?_⟩
  obtain ⟨mm, rfl⟩ := Int.eq_ofNat_of_zero_le m0
  have hm10 : mm ≤ 10 := by omega
  refine ⟨by show 0 ≤ sizeLine; decide, fun L nL => ?_⟩
  have Lp := hb.ne nL
  refine ⟨_, rfl, (mm : Int), rfl, by omega, by omega, ?_⟩
  refine for_it (walk_range (lo := 0) (n := mm)) (fun i σ G => (∃ v4 v5 v6 : Option V, σ = [some (.ref p), some (.int (mm : Int)), some (.str abc), some (.ref L), v4, v5, v6, none, none]) ∧ But p H G ∧ BoxAt G p (n + 12 * i) ∧
    ∃ css : List (List Nat), G L = some (.lst ((css.map tx).map V.str)) ∧ css.length = i ∧ css.Nodup ∧ ∀ c ∈ css, GoodN c) ?_ (fun _ _ _ _ _ => trivial) ?_ ?_
  · exact ⟨⟨_, _, _, rfl⟩, But.laid nL, hb.laid nL, [], upd_same, rfl, List.nodup_nil, fun c h => by cases h⟩
  · rintro i v σ G0 G hi ⟨⟨v4, v5, v6, rfl⟩, BG, hbG, css, eL, hcl, nd, good⟩ ⟨rfl, rfl⟩
    dsimp only [gName]
    have hsm : ∀ y ∈ css.map tx, PyData.strOk y = true := fun y hy => by
      obtain ⟨c, hc, rfl⟩ := List.mem_map.mp hy
      exact okS (okN (good c hc))
    -- the stem
    refine seq_join (A := tAsg _ _) (fun σ' G' => σ' = [some (.ref p), some (.int (mm : Int)), some (.str abc), some (.ref L), some (.int (0 + (i : Int))), some (.str (tx [])), v6, none, none] ∧ G = G') (fun N' hN => ?_) ?_
    · exact hN _ _ ⟨by rw [← emp]; rfl, rfl⟩
    rintro _ _ ⟨rfl, rfl⟩
    refine seq_join (A := tIfS _ _ _) (fun σ' G' => ∃ st : List Nat, σ' = [some (.ref p), some (.int (mm : Int)), some (.str abc), some (.ref L), some (.int (0 + (i : Int))), some (.str (tx st)), v6, none, none] ∧ But p H G' ∧ BoxAt G' p (n + 12 * i + 3) ∧
      G' L = some (.lst ((css.map tx).map V.str)) ∧ Lets st ∧ st.length ≤ 8) (fun N' hN => ?_) ?_
    · refine ⟨_, rfl, by show 0 ≤ sizeLine; decide, fun z nz => ?_⟩
      have U := Same.laid (o := HO.lst []) nz
      have ez : upd G z (.lst []) z = some (.lst []) := upd_same
      have hb1 := hbG.keep U
      have B1 := BG.trans (Same.but U)
      have eL1 := U _ _ eL
      generalize upd G z (.lst []) = G1 at *
      refine ne_nil eL1 ez hsm ⟨_, rfl, ?_⟩
      have no : ∀ (G4 : Hp), But p H G4 → BoxAt G4 p (n + 12 * i + 3) → G4 L = some (.lst ((css.map tx).map V.str)) → N' [some (.ref p), some (.int (mm : Int)), some (.str abc), some (.ref L), some (.int (0 + (i : Int))), some (.str (tx [])), v6, none, none] G4 := fun G4 B4 hb4 e4 =>
        hN _ _ ⟨[], rfl, B4, hb4, e4, (fun c h => by cases h), by decide⟩
      cases hE : (css.map tx).isEmpty with
      | true => exact iteF (iteF (no _ B1 (hb1.up (by omega)) eL1))
      | false =>
        have pos : 0 < css.length := by
          cases css with
          | nil => cases hE
          | cons x y => exact Nat.succ_pos _
        refine iteT ⟨_, rfl, p, 3, _, rfl, hb1, by omega, by decide, by decide, fun t3 G3 a3 b3 hb3 B3 => ?_⟩
        have eL3 := B3.at Lp eL1
        refine ⟨rfl, _, rfl, ?_⟩
        refine ite2 (fun _ => ?_) (fun _ => no _ (B1.trans B3) (hb3.up (by omega)) eL3)
        refine ⟨_, rfl, _, rfl, _, rfl, L, _, rfl, .inl (SqL.of eL3), p, _, _, rfl, hb3, by omega, ?_, ?_, fun j G4 a4 b4 hb4 B4 => ?_⟩
        · rw [List.length_map, List.length_map]; omega
        · rw [List.length_map, List.length_map]
          exact Int.lt_of_le_of_lt (show (css.length : Int) ≤ 10 by omega) (by decide)
        have eL4 := B4.at Lp eL3
        obtain ⟨y, hy, aty⟩ := menu a4 b4
        obtain ⟨sy, hsy, rfl⟩ := List.mem_map.mp hy
        obtain ⟨c, hc, rfl⟩ := List.mem_map.mp hsy
        have gc := good c hc
        refine ⟨L, _, j, _, rfl, rfl, SqL.of eL4, aty, ?_⟩
        refine ⟨_, rfl, p, 8, _, rfl, hb4, by omega, by decide, by decide, fun k5 G5 a5 b5 hb5 B5 => ?_⟩
        obtain ⟨kk, rfl⟩ := Int.eq_ofNat_of_zero_le a5
        refine ⟨(kk : Int), rfl, tx c, rfl, by rw [tx_len]; exact Nat.le_trans gc.1.2 (by decide), ?_⟩
        rw [cut_tx_to]
        exact hN _ _ ⟨c.take kk, rfl, B1.trans (B3.trans (B4.trans B5)), hb5.up (by omega), B5.at Lp eL4, fun x hx => gc.2 x (List.mem_of_mem_take hx), by rw [List.length_take]; have := gc.1.2; omega⟩
    rintro _ G2 ⟨st, rfl, B2, hb2, eL2, lst, st8⟩
    -- the word
    refine seq_join (A := tAsg _ _) (fun σ' G' => ∃ cs : List Nat, σ' = [some (.ref p), some (.int (mm : Int)), some (.str abc), some (.ref L), some (.int (0 + (i : Int))), some (.str (tx st)), some (.str (tx cs)), none, none] ∧ But p H G' ∧ BoxAt G' p (n + 12 * i + 12) ∧
      G' L = some (.lst ((css.map tx).map V.str)) ∧ GoodN cs) (fun N' hN => ?_) ?_
    · refine ⟨_, rfl, ⟨_, rfl⟩, _, rfl, p, 8, _, rfl, hb2, by omega, by decide, by decide, fun t8 G3 a3 b3 hb3 B3 => ?_⟩
      obtain ⟨tt, rfl⟩ := Int.eq_ofNat_of_zero_le a3
      have eL3 := B3.at Lp eL2
      have BH3 := B2.trans B3
      refine ⟨_, _, rfl, rfl, ((tt + 1 : Nat) : Int), congrArg (fun x => [V.int x]) (show (1 + (tt : Int)) = ((tt + 1 : Nat) : Int) by omega), by omega, by omega, fun D nD => ?_⟩
      have DP := hb3.ne nD
      have DL : D ≠ L := fun z => by rw [z, eL3] at nD; cases nD
      refine lc_it (walk_range (lo := 0) (n := tt + 1)) (fun j G => But p G3 G ∧ BoxAt G p (n + 12 * i + 4 + j) ∧ ∃ cs : List Nat, G D = some (.lst ((cs.map fun c => tx [c]).map V.str)) ∧ cs.length = j ∧ Lets cs) ?_ (fun _ _ _ _ => trivial) ?_ ?_
      · exact ⟨But.laid nD, (hb3.laid nD).up (by omega), [], upd_same, rfl, fun c h => by cases h⟩
      · rintro j v G0 G hj ⟨BG, hbG, cs, eD, hcl, hcs⟩ ⟨rfl, rfl⟩
        refine ⟨rfl, ?_⟩
        unfold tYes
        refine iteT ?_
        refine ⟨_, rfl, _, rfl, p, 26, _, rfl, hbG, by omega, by decide, by decide, fun x G1 a4 b4 hb4 B4 => ?_⟩
        obtain ⟨xx, rfl⟩ := Int.eq_ofNat_of_zero_le a4
        have hx : xx < 26 := by omega
        refine ⟨abc, (xx : Int), 97 + xx, rfl, rfl, a4, by omega, by rw [abc_len]; omega, by rw [Int.toNat_natCast]; exact abc_at xx hx, ?_⟩
        have eD4 := B4.at DP eD
        refine ⟨_, eD4, by rw [List.length_map, List.length_map]; exact Nat.lt_of_le_of_lt (show cs.length ≤ 8 by omega) (by decide), But.wo_upd (BG.trans B4) nD, (BoxAt.set hb4 DP).up (by omega), cs ++ [97 + xx], ?_, by rw [List.length_append, hcl]; rfl, hcs.app fun c hc => ?_⟩
        · rw [upd_same, List.map_append, List.map_append]
          rfl
        · rw [List.mem_singleton.mp hc]
          exact ⟨by omega, by omega⟩
      rintro G ⟨BG, hbG, cs, eD, hcl, hcs⟩
      refine ⟨_, D, cs.map fun c => tx [c], rfl, rfl, .inl (SqL.of eD), ?_, ?_⟩
      · rw [sum_ones, List.length_map, hcl]
        exact Nat.le_trans (show tt + 1 + (tt + 1) * ("" : Str).length ≤ 8 by rw [show ("" : Str).length = 0 from by decide +kernel]; omega) (by decide)
      have ej : Txt.join "" (cs.map fun c => tx [c]) = tx cs := by
        rw [emp, Pw.join_ones]
      rw [ej]
      refine ⟨_, _, rfl, rfl, ?_, ?_⟩
      · rw [tx_len, tx_len]
        exact Nat.le_trans (show st.length + cs.length ≤ 100 by omega) (by decide)
      rw [tx_add]
      refine ⟨8, rfl, tx (st ++ cs), rfl, ?_, ?_⟩
      · rw [tx_len, List.length_append]
        exact Nat.le_trans (show st.length + cs.length ≤ 100 by omega) (by decide)
      rw [show (8 : Int) = ((8 : Nat) : Int) from rfl, cut_tx_to]
      refine hN _ _ ⟨(st ++ cs).take 8, rfl, BH3.trans BG, hbG.up (by omega), BG.at Lp eL3, ⟨?_, (lst.app hcs).take 8⟩⟩
      rw [List.length_take, List.length_append]
      omega
    rintro _ G3 ⟨cs, rfl, B3, hb3, eL3, gcs⟩
    refine seq_join (A := tIfS _ _ _) (fun σ' G' => ∃ cs : List Nat, σ' = [some (.ref p), some (.int (mm : Int)), some (.str abc), some (.ref L), some (.int (0 + (i : Int))), some (.str (tx st)), some (.str (tx cs)), none, none] ∧ Same G3 G' ∧
      GoodN cs ∧ cs ∉ css) (fun N' hN => ?_) ?_
    · refine ⟨_, rfl, _, rfl, L, _, rfl, .inl (SqL.of eL3), rfl, flat_strs _, ?_⟩
      rw [inV_str]
      refine ⟨_, rfl, ?_⟩
      refine ite2 (fun hm => ?_) (fun hm => ?_)
      · refine ⟨_, rfl, abc, rfl, fun D nD => ?_⟩
        have sz : abc.cps.size = 26 := abc_len
        have g7 : cs.length ≤ 8 := gcs.1.2
        refine lc_acc walk_str nD (by rw [sz]; decide) (fun j acc _ => acc = (((List.range j).filter fun j => decide (tx (cs.take 7 ++ [97 + j]) ∉ css.map tx)).map fun j => V.str (tx (cs.take 7 ++ [97 + j])))) rfl (fun _ _ => trivial) ?_ ?_
        · rintro j v G0 G1 acc hj S eD hl rfl ⟨rfl, c, hc, rfl⟩ Fy Fn hy1 hy2
          rw [sz] at hj
          rw [abc_at j hj] at hc
          cases hc
          refine ⟨rfl, ?_⟩
          have e1 : (⟨#[97 + j]⟩ : Str) = tx [97 + j] := rfl
          have e7 : cutS (tx cs) none (some 7) = tx (cs.take 7) := cut_tx_to cs 7
          have fit : (cutS (tx cs) none (some 7)).length + (⟨#[97 + j]⟩ : Str).length ≤ sizeLine := by
            rw [e7, e1, tx_len, tx_len, List.length_take]
            exact Nat.le_trans (show min 7 cs.length + 1 ≤ 100 by omega) (by decide)
          have ln : (tx cs).length ≤ sizeLine := by rw [tx_len]; exact Nat.le_trans (show cs.length ≤ 8 by omega) (by decide)
          refine ⟨_, rfl, 7, rfl, tx cs, rfl, ln, _, rfl, _, _, rfl, rfl, fit, _, rfl, L, _, rfl, .inl (SqL.of (S _ _ eL3)), rfl, flat_strs _, _, rfl, ?_⟩
          rw [inV_str, e7, e1, tx_add]
          rw [e7, e1] at fit
          have er : ∀ q : Nat → Bool, (List.range (j + 1)).filter q = (List.range j).filter q ++ (if q j = true then [j] else []) := fun q => by
            rw [List.range_succ, List.filter_append, List.filter_cons]
            rfl
          rw [er, List.map_append] at hy1 hy2
          by_cases hin : tx (cs.take 7 ++ [97 + j]) ∈ css.map tx
          · rw [decide_eq_true hin]
            refine iteF (hy2 _ (Same.refl _) ?_)
            simp [hin]
          · rw [decide_eq_false hin]
            refine iteT ⟨_, rfl, 7, rfl, tx cs, rfl, ln, _, rfl, _, _, rfl, rfl, by rw [e7]; exact fit, ?_⟩
            rw [e7, tx_add]
            refine hy1 _ _ (Same.refl _) ?_
            simp [hin]
        · rintro G4 acc S4 eD rfl
          rw [sz] at eD
          have ne := new_word (cs.take 7) (ns := css.map tx) (by rw [List.length_map]; omega)
          generalize hf : (List.range 26).filter (fun j => decide (tx (cs.take 7 ++ [97 + j]) ∉ css.map tx)) = fl at ne eD
          cases fl with
          | nil => exact absurd rfl ne
          | cons j fl =>
            have hj : j ∈ (List.range 26).filter (fun j => decide (tx (cs.take 7 ++ [97 + j]) ∉ css.map tx)) := by rw [hf]; exact List.mem_cons_self
            obtain ⟨j26, hjn⟩ := List.mem_filter.mp hj
            refine ⟨_, _, _, .str (tx (cs.take 7 ++ [97 + j])), rfl, rfl, SqL.of eD, atI_nat (j := 0) rfl, ?_⟩
            refine hN _ _ ⟨cs.take 7 ++ [97 + j], rfl, S4, ⟨?_, Lets.app (Lets.take gcs.2 7) fun c hc => ?_⟩, fun z => of_decide_eq_true hjn (List.mem_map.mpr ⟨_, z, rfl⟩)⟩
            · rw [List.length_append, List.length_take, List.length_singleton]
              omega
            · rw [List.mem_singleton.mp hc]
              have := List.mem_range.mp j26
              exact ⟨by omega, by omega⟩
      · refine hN _ _ ⟨cs, rfl, Same.refl _, gcs, fun z => ?_⟩
        exact hm (decide_eq_true (List.mem_map.mpr ⟨cs, z, rfl⟩))
    rintro _ G4 ⟨cs, rfl, S4, gcs, new⟩
    have eL4 := S4 _ _ eL3
    refine ⟨_, rfl, .inl ⟨rfl, _, SqL.of eL4⟩, _, rfl, L, _, .str (tx cs), rfl, rfl, eL4, by rw [List.length_map, List.length_map]; exact Nat.lt_of_le_of_lt (show css.length ≤ 10 by omega) (by decide), ?_⟩
    refine ⟨⟨_, _, _, rfl⟩, ?_, (BoxAt.set (hb3.keep S4) Lp).up (by omega), css ++ [cs], ?_, ?_, ?_, ?_⟩
    · exact But.wo_upd (B3.trans (Same.but S4)) nL
    · rw [upd_same, List.map_append, List.map_append]
      rfl
    · rw [List.length_append, hcl]
      rfl
    · exact List.nodup_append.mpr ⟨nd, by simp, fun a ha b hb e => new (by rw [List.mem_singleton] at hb; rw [← hb, ← e]; exact ha)⟩
    · intro c hc
      rcases List.mem_append.mp hc with h | h
      · exact good c h
      · rw [List.mem_singleton.mp h]
        exact gcs
  · rintro σ G ⟨⟨v4, v5, v6, rfl⟩, BG, hbG, css, eL, hcl, nd, good⟩
    refine ⟨_, rfl, ?_⟩
    exact k L G css nL Lp (hbG.up (by omega)) BG eL (by rw [hcl]) nd good
end
end V10

set_option maxHeartbeats 8000000
namespace V10
open PySem PySem.Spec PyProof.Rows L2 Pw
theorem BoxAt.lst {H : Hp} {p : Addr} {n : Nat} (h : BoxAt H p n) : ∃ vs, H p = some (.lst vs) := by
  obtain ⟨b0, b1, b2, e, _⟩ := h
  exact ⟨_, e⟩
theorem Al.but {α : Type} {f : α → List V} {H H' : Hp} {p : Addr} {n : Nat} {vs : List V} {rs : List α} (h : Al f H vs rs) (hb : BoxAt H p n) (B : But p H H') : Al f H' vs rs := by
  obtain ⟨ws, e⟩ := hb.lst
  exact h.imp fun q xs eq => B.at (fun z => by rw [z, e] at eq; cases eq) eq
theorem Al.off {α : Type} {f : α → List V} {H : Hp} {D : Addr} {o : HO} {us vs : List V} {rs : List α} (h : Al f H vs rs) (e : H D = some (.lst us)) : Al f (upd H D o) vs rs :=
  h.imp fun q xs eq => (upd_ne (fun z => by rw [z, e] at eq; cases eq)).trans eq
theorem LT.but {α : Type} {f : α → List V} {H H' : Hp} {p a : Addr} {n : Nat} {rs : List α} (h : LT f H a rs) (hb : BoxAt H p n) (na : a ≠ p) (B : But p H H') : LT f H' a rs := by
  obtain ⟨vs, e, al⟩ := h.ex
  exact ⟨vs, B.at na e, Al.but al hb B⟩
theorem lt_push {α : Type} {f : α → List V} {G : Hp} {D q : Addr} {vs : List V} {l : List α} {x : α} (eD : G D = some (.lst vs)) (al : Al f G vs l) (nq : G q = none) :
    LT f (upd (upd G q (.tup (f x))) D (.lst (vs ++ [.ref q]))) D (l ++ [x]) := by
  have qD : q ≠ D := fun z => by rw [z, eD] at nq; cases nq
  refine ⟨_, upd_same, ?_⟩
  refine Al.snoc (al.imp fun p xs e => ?_) ((upd_ne qD).trans upd_same)
  have pD : p ≠ D := fun z => by rw [z, eD] at e; cases e
  exact (upd_ne pD).trans ((upd_ne (ne_of_none e nq)).trans e)
theorem cut_ij (xs : List V) (i j : Nat) (h : i ≤ xs.length) : cutV xs (some (i : Int)) (some (j : Int)) = (xs.take j).drop i := by
  unfold cutV
  rw [HT.sIx_nat, HT.sIx_nat, Nat.min_eq_left h, List.drop_take]
  by_cases h2 : j ≤ xs.length
  · rw [Nat.min_eq_left h2]
  · rw [Nat.min_eq_right (by omega), List.take_of_length_le (by rw [List.length_drop]; omega), List.take_of_length_le (by rw [List.length_drop]; omega)]
section
variable {P : Program} {w : World} {K : PySem.W.Frag} {mg : Str → Option Value} {base : Heap}
def spPtsL (K : PySem.W.Frag) : Sp := fun vs H Q _ => ∃ p a n css, vs = [.ref p, .ref a] ∧ BoxAt H p n ∧ n ≤ 900000 ∧ a ≠ p ∧ H a = some (.lst (((css : List (List Nat)).map tx).map V.str)) ∧ css.Nodup ∧ (∀ c ∈ css, GoodN c) ∧ 8 ≤ css.length ∧
  ∀ b H' ps, H b = none → b ≠ p → BoxAt H' p (n + 50) → But p H H' → LT fP H' b ps → GoodPs ps → (∀ pt ∈ ps, pt.nm ∈ css.map tx) → Q (.ref b) H'
theorem d_ptsL (T : Txt mg) (A : At K mg "_law_points" sLawPoints) (dt : Def P w K mg base "_law_take" 1 ["_law_box_here", "_law_many"] (spTake K)) :
    Def P w K mg base "_law_points" 2 ["_law_box_here", "_law_names_here"] (spPtsL K) := by
  refine mkDef A scLawPoints (fun _ _ _ _ _ _ us hl => match us, hl with | [_, _], _ => rfl) (fun vs H Q E ⟨_, _, _, _, e, _⟩ => by rw [e]; rfl)
    (fun f cdv A out s H vs Q E hr h => ?_)
  obtain ⟨p, a, n, css, rfl, hb, hn, ap, ea, nd, good, l10, k⟩ := h
  refine ⟨_, (pss_cons (ps_set (i := 2) scLawPoints.nd rfl (.inl rfl) (pe_slice sl_list (pv 1) po_none (po_some (pe_op op_add pe_int (pe_d dt hr (by decide) (by rfl) (pa_cons (pv 0) (pa_cons pe_int pa_nil)))))))
    (pss_cons (ps_set (i := 3) scLawPoints.nd rfl (.inl rfl) (pe_lst (pa_cons pe_str (pa_cons pe_str (pa_cons pe_str pa_nil)))))
    (pss_cons (ps_set (i := 4) scLawPoints.nd rfl (.inl rfl) (pe_lst pa_nil))
    (pss_cons (ps_for PassesOwn.never rfl (pi_list (pe_slice sl_list (pv 1) (po_some pe_int) (po_some (pe_op op_add pe_int (pe_d dt hr (by decide) (by rfl) (pa_cons (pv 0) (pa_cons pe_int pa_nil))))))) (pg_name (i := 5) scLawPoints.nd rfl (.inl rfl))
      (pss_one (ps_expr (pe_bm PySem.F.plainAttrs_list PySem.F.slot_list_append PySem.F.type_list_append mt_append (pv 4) (pa_cons (pe_tup (pa_cons (pv 5) (pa_cons (pe_ix ix_list (pv 2) (pe_d dt hr (by decide) (by rfl) (pa_cons (pv 0) (pa_cons (pe_callB call_len_seq (by rfl) T.len PySem.boot_len (pa_cons (pv 2) pa_nil)) pa_nil))) (fun _ _ => rfl)) (pa_cons (pe_ix ix_list (pv 3) (pe_d dt hr (by decide) (by rfl) (pa_cons (pv 0) (pa_cons pe_int pa_nil))) (fun _ _ => rfl)) pa_nil)))) pa_nil)))))
    (pss_one (ps_ret (pv 4))))))), ?_⟩
  have hlS : ((css.map tx).map V.str).length = css.length := by rw [List.length_map, List.length_map]
  refine ⟨_, rfl, _, rfl, p, 3, n, rfl, hb, by omega, by decide, by decide, fun j1 H1 a1 b1 hb1 B1 => ?_⟩
  have e1 := B1.at ap ea
  refine ⟨1, j1, rfl, rfl, 1 + j1, rfl, a, _, rfl, SqL.of e1, fun L2 n2 => ?_⟩
  have L2p := hb1.ne n2
  obtain ⟨jj, ejj⟩ := Int.eq_ofNat_of_zero_le (show 0 ≤ 1 + j1 by omega)
  rw [ejj, cut_to]
  generalize hso : (css.map tx).take jj = so
  have e2 : upd H1 L2 (.lst (((css.map tx).map V.str).take jj)) L2 = some (.lst (so.map V.str)) := by rw [upd_same, ← List.map_take, hso]
  have S2 := Same.laid (o := HO.lst (((css.map tx).map V.str).take jj)) n2
  generalize upd H1 L2 (.lst (((css.map tx).map V.str).take jj)) = H2 at *
  have sl1 : 1 ≤ so.length := by rw [← hso, List.length_take, List.length_map]; omega
  have sl3 : so.length ≤ 3 := by rw [← hso, List.length_take, List.length_map]; omega
  have sok : ∀ s ∈ so, OkName s := fun s hs => by
    rw [← hso] at hs
    obtain ⟨c, hc, rfl⟩ := List.mem_map.mp (List.mem_of_mem_take hs)
    exact okN (good c hc)
  have hb2 := hb1.keep S2
  -- the kinds
  refine ⟨by show 3 ≤ sizeLine; decide, fun Kd nKd => ?_⟩
  have Kp := hb2.ne nKd
  have eK : upd H2 Kd (.lst [.str "level", .str "switch", .str "level"]) Kd = some (.lst [.str "level", .str "switch", .str "level"]) := upd_same
  have S3 := Same.laid (o := HO.lst [.str "level", .str "switch", .str "level"]) nKd
  generalize upd H2 Kd (.lst [.str "level", .str "switch", .str "level"]) = H3 at *
  have hb3 := hb2.keep S3
  have e23 := S3 _ _ e2
  refine ⟨by show 0 ≤ sizeLine; decide, fun F nF => ?_⟩
  have Fp := hb3.ne nF
  have BH3 : But p H H3 := B1.trans (Same.but (S2.trans S3))
  have nFH := But.none_of BH3 nF Fp
  have S4 := Same.laid (o := HO.lst []) nF
  have FL2 : L2 ≠ F := ne_of_none e23 nF
  have FKd : Kd ≠ F := ne_of_none eK nF
  have eF4 : upd H3 F (.lst []) F = some (.lst []) := upd_same
  have ea4 := S4 _ _ (BH3.at ap ea)
  generalize upd H3 F (.lst []) = H4 at *
  have BH4 : But p H H4 := BH3.trans (Same.but S4)
  refine ⟨_, rfl, 3, rfl, _, rfl, p, 5, _, rfl, hb3.keep S4, by omega, by decide, by decide, fun j5 H5 a5 b5 hb5 B5 => ?_⟩
  have ea5 := B5.at ap ea4
  refine ⟨4, j5, rfl, rfl, 4 + j5, rfl, a, _, rfl, SqL.of ea5, fun N nN => ?_⟩
  obtain ⟨kk, ekk⟩ := Int.eq_ofNat_of_zero_le (show 0 ≤ 4 + j5 by omega)
  have hL3 : (3 : Int) = ((3 : Nat) : Int) := rfl
  rw [ekk, hL3, cut_ij _ _ _ (by omega)]
  generalize hcs : (css.take kk).drop 3 = cs
  have ecs : ((((css.map tx).map V.str).take kk).drop 3) = ((cs.map tx).map V.str) := by rw [← hcs, List.map_drop, List.map_drop, List.map_take, List.map_take]
  rw [ecs]
  have cl1 : 1 ≤ cs.length := by rw [← hcs, List.length_drop, List.length_take]; omega
  have cl5 : cs.length ≤ 5 := by rw [← hcs, List.length_drop, List.length_take]; omega
  have cin : ∀ c ∈ cs, c ∈ css := fun c hc => by
    rw [← hcs] at hc
    exact List.mem_of_mem_take (List.mem_of_mem_drop hc)
  have cnd : cs.Nodup := by
    rw [← hcs]
    exact List.Nodup.sublist (List.drop_sublist _ _) (List.Nodup.sublist (List.take_sublist _ _) nd)
  clear hcs ecs ekk
  have Np := hb5.ne nN
  have BH5 : But p H H5 := BH4.trans B5
  have eN : upd H5 N (.lst ((cs.map tx).map V.str)) N = some (.lst ((cs.map tx).map V.str)) := upd_same
  have S6 := Same.laid (o := HO.lst ((cs.map tx).map V.str)) nN
  have hb6 := hb5.keep S6
  have e26 := S6 _ _ (B5.at L2p (S4 _ _ e23))
  have eK6 := S6 _ _ (B5.at Kp (S4 _ _ eK))
  have eF6 := S6 _ _ (B5.at Fp eF4)
  have BH6 : But p H (upd H5 N (.lst ((cs.map tx).map V.str))) := BH5.trans (Same.but S6)
  have NF : N ≠ F := fun z => by
    rw [← z] at eF6
    rw [eN] at eF6
    have := Option.some.inj eF6
    have h1 : ((cs.map tx).map V.str) = [] := by injection this
    have := congrArg List.length h1
    rw [List.length_map, List.length_map, List.length_nil] at this
    omega
  generalize upd H5 N (.lst ((cs.map tx).map V.str)) = H6 at *
  refine ⟨N, rfl, ⟨_, SqL.of eN⟩, ?_⟩
  refine for_it (walk_list (K := K) (a := N) (xs := (cs.map tx).map V.str)) (fun i σ X => ∃ (v5 : Option V) (ps : List Pt), σ = [some (.ref p), some (.ref a), some (.ref L2), some (.ref Kd), some (.ref F), v5] ∧
      BoxAt X p (n + 2 + 2 * i) ∧ But p H X ∧ X N = some (.lst ((cs.map tx).map V.str)) ∧ X L2 = some (.lst (so.map V.str)) ∧ X Kd = some (.lst [.str "level", .str "switch", .str "level"]) ∧ LT fP X F ps ∧ ps.map (·.nm) = (cs.take i).map tx ∧ ∀ q ∈ ps, q.pl ∈ so) ?_
    (fun i σ X _ ⟨_, _, _, _, _, e, _⟩ => SqL.of e) ?_ ?_
  · exact ⟨none, [], rfl, hb6.up (by omega), BH6, eN, e26, eK6, ⟨[], eF6, .nil⟩, rfl, fun q h => by cases h⟩
  · rintro i v σ X0 X hi ⟨v5, ps, rfl, hbX, BX, eNX, eX2, eKX, hF, enm, hpl⟩ ⟨rfl, hx⟩
    rw [List.length_map, List.length_map] at hi
    rw [List.getElem?_map, List.getElem?_map, List.getElem?_eq_getElem hi] at hx
    cases hx
    have pl : ps.length = i := by
      have := congrArg List.length enm
      simpa [Nat.min_eq_left (Nat.le_of_lt hi)] using this
    dsimp only [gName]
    obtain ⟨vF, eF, alF⟩ := hF.ex
    refine ⟨_, rfl, .inl ⟨rfl, _, SqL.of eF⟩, _, rfl, _, rfl, _, rfl, _, rfl, L2, _, rfl, .inl (SqL.of eX2), p, _, _, rfl, hbX, by omega, ?_, ?_, fun c Z ca cb hbZ BZ => ?_⟩
    · rw [List.length_map]
      omega
    · rw [List.length_map]
      exact Int.lt_of_le_of_lt (show (so.length : Int) ≤ 3 by omega) (by decide)
    rw [List.length_map] at cb
    obtain ⟨ci, rfl⟩ := Int.eq_ofNat_of_zero_le ca
    have hci : ci < so.length := by omega
    refine ⟨L2, _, (ci : Int), .str so[ci], rfl, rfl, SqL.of (BZ.at L2p eX2), atI_nat (by rw [List.getElem?_map, List.getElem?_eq_getElem hci]; rfl), ?_⟩
    refine ⟨_, rfl, _, rfl, p, 3, _, rfl, hbZ, by omega, by decide, by decide, fun j Y ja jb hbY BY => ?_⟩
    have BZY := BZ.trans BY
    have eKY := BZY.at Kp eKX
    obtain ⟨y0, hy0, aty⟩ := menu (xs := [V.str "level", .str "switch", .str "level"]) ja (by simpa using jb)
    obtain ⟨sw, ey⟩ : ∃ sw, y0 = .str (kd sw) := by
      simp only [List.mem_cons, List.not_mem_nil, or_false] at hy0
      rcases hy0 with rfl | rfl | rfl
      · exact ⟨false, rfl⟩
      · exact ⟨true, rfl⟩
      · exact ⟨false, rfl⟩
    subst ey
    refine ⟨Kd, _, j, _, rfl, rfl, SqL.of eKY, aty, by show 3 ≤ sizeLine; decide, fun r nr => ?_⟩
    have eFY := BZY.at Fp eF
    have rF : r ≠ F := fun z => by rw [z, eFY] at nr; cases nr
    refine ⟨F, vF, .ref r, rfl, rfl, (upd_ne rF.symm).trans eFY, by rw [alF.length]; exact Nat.lt_of_le_of_lt (show ps.length ≤ 8 by omega) (by decide), ?_⟩
    have BH' : But p H (upd Y r (.tup (fP ⟨tx cs[i], so[ci], sw⟩))) := BX.trans (BZY.trans (But.laid nr))
    have tk : cs.take (i + 1) = cs.take i ++ [cs[i]] := by rw [List.take_add_one, List.getElem?_eq_getElem hi]; rfl
    have Sr := Same.laid (o := HO.tup (fP ⟨tx cs[i], so[ci], sw⟩)) nr
    refine ⟨_, ps ++ [(⟨tx cs[i], so[ci], sw⟩ : Pt)], rfl, ((hbY.laid nr).set Fp.symm.symm).up (by omega), But.wo_upd BH' nFH, (upd_ne NF).trans (Sr _ _ (BZY.at Np eNX)), (upd_ne FL2).trans (Sr _ _ (BZY.at L2p eX2)), (upd_ne FKd).trans (Sr _ _ eKY),
      lt_push (f := fP) (x := (⟨tx cs[i], so[ci], sw⟩ : Pt)) eFY (Al.but alF hbX BZY) nr, ?_, fun q hq => ?_⟩
    · rw [List.map_append, enm, tk, List.map_append]
      rfl
    · rcases List.mem_append.mp hq with h | h
      · exact hpl q h
      · rw [List.mem_singleton.mp h]
        exact List.getElem_mem hci
  · rintro σ X ⟨v5, ps, rfl, hbX, BX, eNX, eX2, eKX, hF, enm, hpl⟩
    rw [List.length_map, List.length_map, List.take_length] at enm
    have pl : ps.length = cs.length := by
      have := congrArg List.length enm
      simpa using this
    have nin : ∀ q ∈ ps, ∃ c ∈ cs, tx c = q.nm := fun q hq => by
      have : q.nm ∈ cs.map tx := enm ▸ List.mem_map.mpr ⟨q, hq, rfl⟩
      exact List.mem_map.mp this
    refine ⟨_, rfl, k F X ps nFH Fp ((hbX.up (by rw [List.length_map, List.length_map]; omega))) BX hF ?_ fun q hq => ?_⟩
    · refine ⟨fun q hq => ⟨?_, sok _ (hpl q hq)⟩, by rw [enm]; exact tx_inj_map cnd, ⟨so, sl3, hpl⟩, by omega, by omega⟩
      obtain ⟨c, hc, e⟩ := nin q hq
      exact e ▸ okN (good c (cin c hc))
    · obtain ⟨c, hc, e⟩ := nin q hq
      exact List.mem_map.mpr ⟨c, cin c hc, e⟩
end
end V10

set_option maxHeartbeats 8000000
namespace V10
open PySem PySem.Spec PyProof.Rows L2 Pw
/-! ### letters of all forms, of any thing -/
def tupOf (H : Hp) (y : V) : Option (List V) := match y with
  | .ref a => (match H a with
    | some (.tup xs) => some xs
    | _ => none)
  | _ => none
theorem tupOf_at {H : Hp} {a : Addr} {xs : List V} (e : H a = some (.tup xs)) : tupOf H (.ref a) = some xs := by
  show (match H a with | some (.tup xs) => some xs | _ => none) = _
  rw [e]
theorem tupOf_is {H : Hp} {y : V} {xs : List V} (h : tupOf H y = some xs) : ∃ a, y = .ref a ∧ H a = some (.tup xs) := by
  unfold tupOf at h
  split at h
  · rename_i a
    split at h
    · rename_i ys e
      cases h
      exact ⟨a, rfl, e⟩
    · cases h
  · cases h
theorem tupNB_of (H : Hp) (y : V) (n : Int) : tupNB H y n = match tupOf H y with
    | some xs => decide ((xs.length : Int) = n)
    | none => false := by
  unfold tupNB tupOf
  cases y <;> try rfl
  rename_i a
  dsimp only
  cases H a with
  | none => rfl
  | some o => cases o <;> rfl
theorem tup_or (H : Hp) (y : V) (n : Int) : (∃ xs, tupOf H y = some xs ∧ (xs.length : Int) = n ∧ tupNB H y n = true) ∨ (tupNB H y n = false ∧ ∀ xs, tupOf H y = some xs → (xs.length : Int) ≠ n) := by
  have e := tupNB_of H y n
  cases h : tupOf H y with
  | none =>
    rw [h] at e
    exact .inr ⟨e, fun xs z => by cases z⟩
  | some xs =>
    rw [h] at e
    by_cases hl : (xs.length : Int) = n
    · exact .inl ⟨xs, rfl, hl, e.trans (decide_eq_true hl)⟩
    · exact .inr ⟨e.trans (decide_eq_false hl), fun ys z => by cases z; exact hl⟩
def Kn0 (K : PySem.W.Frag) (H : Hp) (y : V) : Prop := (∃ t, Ty K H y t) ∧ Short y
def Kn1 (K : PySem.W.Frag) (H : Hp) (y : V) : Prop := Kn0 K H y ∧ ∀ xs, tupOf H y = some xs → ∀ x ∈ xs, Kn0 K H x
def Kn2 (K : PySem.W.Frag) (H : Hp) (y : V) : Prop := Kn0 K H y ∧ ∀ xs, tupOf H y = some xs → (∀ x ∈ xs, Kn1 K H x) ∧ (xs.length ≠ 4 → ∀ x, xs[0]? = some x → x = .non ∨ (∃ s : Str, x = .str s) ∨ ∃ i, x = .int i)
theorem tupOf_same {K : PySem.W.Frag} {H H' : Hp} {y : V} (h : Kn0 K H y) (S : Same H H') : tupOf H' y = tupOf H y := by
  obtain ⟨⟨t, ty⟩, _⟩ := h
  cases ty with
  | non => rfl
  | bl b => rfl
  | int i => rfl
  | str s => rfl
  | lst e => simp only [tupOf, e, S _ _ e]
  | tup e => simp only [tupOf, e, S _ _ e]
  | dct e => simp only [tupOf, e, S _ _ e]
  | exc e ed c => simp only [tupOf, e, S _ _ e]
theorem Kn0.same {K : PySem.W.Frag} {H H' : Hp} {y : V} (h : Kn0 K H y) (S : Same H H') : Kn0 K H' y := let ⟨⟨t, ty⟩, s⟩ := h; ⟨⟨t, ty.same S⟩, s⟩
theorem Kn1.same {K : PySem.W.Frag} {H H' : Hp} {y : V} (h : Kn1 K H y) (S : Same H H') : Kn1 K H' y := ⟨h.1.same S, fun xs e x hx => (h.2 xs ((tupOf_same h.1 S).symm.trans e) x hx).same S⟩
theorem Kn2.same {K : PySem.W.Frag} {H H' : Hp} {y : V} (h : Kn2 K H y) (S : Same H H') : Kn2 K H' y :=
  ⟨h.1.same S, fun xs e => let ⟨a, b⟩ := h.2 xs ((tupOf_same h.1 S).symm.trans e); ⟨fun x hx => (a x hx).same S, b⟩⟩
theorem Kn2.k1 {K : PySem.W.Frag} {H : Hp} {y : V} (h : Kn2 K H y) : Kn1 K H y := ⟨h.1, fun xs e x hx => ((h.2 xs e).1 x hx).1⟩
def idB (H : Hp) (y : V) : Bool := match tupOf H y with
  | some [a, b] => wholeB a 0 999 && wholeB b 1 999
  | _ => false
def nmIn (y : V) (ns : List Str) : Bool := match y with
  | .str s => decide (s ∈ ns)
  | _ => false
def isW (y : V) (s : Str) : Bool := decide (y = .str s)
def orderB (H : Hp) (ns : List Str) (y : V) : Bool := match tupOf H y with
  | some [a, b, c] => isW a "do" && (idB H b && nmIn c ns)
  | some [a, b] => (isW a "back" && idB H b) || (isW a "term" && wholeB b 0 999)
  | _ => false
def termsB (H : Hp) (ps : List Str) (y : V) : Bool := match tupOf H y with
  | some [a, b, c, d] => isW a "terms" && (nmIn b ps && (wholeB c 0 999 && wholeB d 0 9999))
  | _ => false
def answerB (H : Hp) (ps : List Str) (y : V) : Bool := match tupOf H y with
  | some [a, b, c, d, e, f] => isW a "answer" && ((nmIn b ps && (idB H c && oneB d ["done", "refused"])) && (wholeB e 0 999 && wholeB f 0 9999))
  | _ => false
/-- no signs -/
def noSigns (H : Hp) (y : V) : Prop := ∀ xs, tupOf H y = some xs → xs.length = 5 → ∃ s : Str, xs[0]? = some (.str s) ∧ s ≠ "signs"
theorem idB_same {K : PySem.W.Frag} {H H' : Hp} {y : V} (h : Kn0 K H y) (S : Same H H') : idB H' y = idB H y := by
  unfold idB
  rw [tupOf_same h S]
theorem orderB_same {K : PySem.W.Frag} {H H' : Hp} {y : V} {ns : List Str} (h : Kn2 K H y) (S : Same H H') : orderB H' ns y = orderB H ns y := by
  unfold orderB
  rw [tupOf_same h.1 S]
  split
  · rename_i a b c e
    rw [idB_same ((h.2 _ e).1 b (by simp)).1 S]
  · rename_i a b e
    rw [idB_same ((h.2 _ e).1 b (by simp)).1 S]
  · rfl
theorem termsB_same {K : PySem.W.Frag} {H H' : Hp} {y : V} {ns : List Str} (h : Kn2 K H y) (S : Same H H') : termsB H' ns y = termsB H ns y := by
  unfold termsB
  rw [tupOf_same h.1 S]
theorem answerB_same {K : PySem.W.Frag} {H H' : Hp} {y : V} {ns : List Str} (h : Kn2 K H y) (S : Same H H') : answerB H' ns y = answerB H ns y := by
  unfold answerB
  rw [tupOf_same h.1 S]
  split
  · rename_i a b c d e f he
    rw [idB_same ((h.2 _ he).1 c (by simp)).1 S]
  · rfl
theorem noSigns_same {K : PySem.W.Frag} {H H' : Hp} {y : V} (h : Kn0 K H y) (S : Same H H') (n : noSigns H y) : noSigns H' y := fun xs e => n xs ((tupOf_same h S).symm.trans e)
theorem scal_w {x : V} {s : Str} (h : x = .non ∨ (∃ s : Str, x = .str s) ∨ ∃ i, x = .int i) : scal x (.str s) = true := by
  rcases h with rfl | ⟨s, rfl⟩ | ⟨i, rfl⟩ <;> rfl
/-- works with their commands -/
structure WoM (K : PySem.W.Frag) (C : Addr) (H : Hp) (p : Addr) (W : Wks) (ps : List Pt) (cs : List Cm) : Prop where
  wp : WoP K C H p W ps
  km : W.km = kvs Cm.nm cs W.xm
  len : cs.length = W.xm.length
  nd : (cs.map Cm.nm).Nodup
  ok : ∀ c ∈ cs, OkName c.nm
theorem WoM.same {K : PySem.W.Frag} {C : Addr} {H H' : Hp} {p : Addr} {W : Wks} {ps : List Pt} {cs : List Cm} (h : WoM K C H p W ps cs) (S : Same H H') : WoM K C H' p W ps cs := ⟨h.wp.same S, h.km, h.len, h.nd, h.ok⟩
theorem nm_no {y : V} {ns : List Str} (ok : ∀ s ∈ ns, OkName s) (h : nameB y = false) : nmIn y ns = false := by
  cases y <;> try rfl
  rename_i s
  exact decide_eq_false fun z => by rw [(ok s z).b] at h; cases h
theorem nm_str {y : V} (h : nameB y = true) : ∃ s, y = .str s := by
  cases y <;> first | exact ⟨_, rfl⟩ | cases h
section
variable {P : Program} {w : World} {K : PySem.W.Frag} {mg : Str → Option Value} {base : Heap} {C : Addr}
theorem d_term (T : Txt mg) (A : At K mg "is_term" sIsTerm) (dw : Def P w K mg base "is_whole" 3 ["thing", "low", "high"] (spWhole K)) :
    Def P w K mg base "is_term" 4 ["thing"] (spRange K 0 999) := by
  refine mkDef A scIsTerm (fun _ _ _ _ _ _ us hl => match us, hl with | [_], _ => rfl) (fun vs H Q E ⟨x, t, e, _⟩ => by rw [e]; rfl)
    (fun f cdv A out s H vs Q E hr h => ?_)
  obtain ⟨x, t, rfl, ty, k⟩ := h
  exact ⟨_, pss_one (ps_ret (pe_d dw hr (by decide) (by rfl) (pa_cons (pv 0) (pa_cons pe_int (pa_cons (pe_gi T.cMOST_TERM) pa_nil))))),
    _, rfl, x, t, 0, 999, rfl, ty, k⟩
def spId (K : PySem.W.Frag) : Sp := fun vs H Q _ => ∃ y, vs = [y] ∧ Kn1 K H y ∧ Q (.bl (idB H y)) H
theorem d_id (T : Txt mg) (A : At K mg "is_id" sIsId) (dt : Def P w K mg base "is_tuple" 1 ["thing", "many"] (spTupN K)) (dte : Def P w K mg base "is_term" 4 ["thing"] (spRange K 0 999)) (dw : Def P w K mg base "is_whole" 3 ["thing", "low", "high"] (spWhole K)) :
    Def P w K mg base "is_id" 5 ["thing"] (spId K) := by
  refine mkDef A scIsId (fun _ _ _ _ _ _ us hl => match us, hl with | [_], _ => rfl) (fun vs H Q E ⟨_, e, _⟩ => by rw [e]; rfl)
    (fun f cdv A out s H vs Q E hr h => ?_)
  obtain ⟨y, rfl, kn, k⟩ := h
  refine ⟨_, (pss_one (ps_ret (pe_and (pe_d dt hr (by decide) (by rfl) (pa_cons (pv 0) (pa_cons pe_int pa_nil))) (pe_and (pe_d dte hr (by decide) (by rfl) (pa_cons (pe_ix (r := rIxT K) ix_tup (pv 0) pe_int (fun _ _ => rfl)) pa_nil)) (pe_one (pe_d dw hr (by decide) (by rfl) (pa_cons (pe_ix (r := rIxT K) ix_tup (pv 0) pe_int (fun _ _ => rfl)) (pa_cons pe_int (pa_cons (pe_gi T.c_MOST_ID) pa_nil))))))))), ?_⟩
  obtain ⟨t, ty⟩ := kn.1.1
  rcases tup_or H y 2 with ⟨xs, h, hl, et⟩ | ⟨et, hn⟩
  · obtain ⟨a, rfl, e⟩ := tupOf_is h
    have kx := kn.2 xs h
    match xs, hl with
    | [x1, x2], _ =>
      have e2 : idB H (.ref a) = (wholeB x1 0 999 && wholeB x2 1 999) := by
        unfold idB
        rw [h]
      rw [e2] at k
      obtain ⟨t1, ty1⟩ := (kx x1 (by simp)).1
      obtain ⟨t2, ty2⟩ := (kx x2 (by simp)).1
      refine ⟨_, rfl, .ref a, t, 2, rfl, ty, true, congrArg V.bl et, iteT ?_⟩
      refine ⟨_, rfl, a, _, 0, x1, rfl, rfl, SqT.of e, rfl, x1, t1, rfl, ty1, ?_⟩
      cases h1 : wholeB x1 0 999 with
      | true =>
        rw [h1, Bool.true_and] at k
        exact ⟨true, rfl, iteT ⟨_, rfl, a, _, 1, x2, rfl, rfl, SqT.of e, rfl, x2, t2, 1, 999, rfl, ty2, k⟩⟩
      | false =>
        rw [h1, Bool.false_and] at k
        exact ⟨false, rfl, iteF k⟩
  · have e2 : idB H y = false := by
      unfold idB
      split
      · rename_i e
        exact absurd rfl (hn _ e)
      · rfl
    rw [e2] at k
    exact ⟨_, rfl, y, t, 2, rfl, ty, false, congrArg V.bl et, iteF k⟩
/-- has_command, of any thing -/
def spHasC (C : Addr) (K : PySem.W.Frag) : Sp := fun vs H Q _ => ∃ p W ps cs y, vs = [.ref p, y] ∧ WoM K C H p W ps cs ∧ Kn0 K H y ∧ ∀ H', Same H H' → Q (.bl (nmIn y (cs.map Cm.nm))) H'
theorem d_hasC (Wc : WoC K C) (A : AtMt K C "has_command" "Works.has_command" mWorks_HasCommand) (dn : Def P w K mg base "is_name" 1 ["thing"] (spName K)) :
    DefM P w K mg base C "has_command" 2 ["self", "thing"] (spHasC C K) := by
  refine mkDefM A scmWorks_HasCommand (fun _ _ _ _ _ _ us hl => match us, hl with | [_, _], _ => rfl) (fun vs H Q E ⟨_, _, _, _, _, e, _⟩ => by rw [e]; rfl)
    (fun f cdv A out s H vs Q E hr h => ?_)
  obtain ⟨p, W, ps, cs, y, rfl, hw, ⟨⟨t, ty⟩, sh⟩, k⟩ := h
  have hu : (A.deeper (envOfC "Works.has_command" (defScope mWorks_HasCommand) s.heap.objs.size f cdv)).units + 1 < cLine := hu_of hr
  refine ⟨_, (pss_one (ps_ret (pe_and (pe_d dn hr (by decide) (by rfl) (pa_cons (pv 1) pa_nil)) (pe_one (pe_cmp (pc_din hu (pv 1) (pe_fld (pv 0) rfl)) rfl))))), ?_⟩
  have ok : ∀ s ∈ cs.map Cm.nm, OkName s := fun s hs => by
    obtain ⟨c, hc, rfl⟩ := List.mem_map.mp hs
    exact hw.ok c hc
  refine ⟨_, rfl, y, t, rfl, ty, sh, fun H1 S1 => ⟨_, rfl, ?_⟩⟩
  refine ite2 (fun hb => ?_) (fun hb => ?_)
  · obtain ⟨nm, rfl⟩ := nm_str hb
    have hw1 := hw.same S1
    obtain ⟨dx, tp, dp, tr, dr, tc, tm, dm, tl, e0, e1, e2, e3, e4, e5, e6, e7, e8⟩ := hw1.wp.wo.ex
    rw [hw.km] at e7
    refine ⟨_, rfl, _, rfl, p, C, dx, _, _, rfl, e0, Wc.cl, Wc.nCd, (lk_ne (by decide +kernel)).trans ((lk_ne (by decide +kernel)).trans ((lk_ne (by decide +kernel)).trans ((lk_ne (by decide +kernel)).trans ((lk_ne (by decide +kernel)).trans ((lk_ne (by decide +kernel)).trans lk_eq))))), dm, _, rfl, .inl ⟨_, .inr nm, .inl e7, rfl, rfl⟩, ?_⟩
    have kk : Q (.bl (decide (nm ∈ cs.map Cm.nm))) H1 := k H1 S1
    by_cases hm : nm ∈ cs.map Cm.nm
    · rw [decide_eq_true hm] at kk
      obtain ⟨c, hc, rfl⟩ := List.mem_map.mp hm
      obtain ⟨i, hi, ei⟩ := List.getElem_of_mem hc
      have hv : i < W.xm.length := by rw [← hw.len]; exact hi
      rw [kvs_get Cm.nm hw.nd (List.getElem?_eq_some_iff.mpr ⟨hi, ei⟩) (List.getElem?_eq_getElem hv)]
      exact kk
    · rw [decide_eq_false hm] at kk
      rw [kvs_no Cm.nm hw.len hm]
      exact kk
  · have e := Bool.eq_false_iff.mpr hb
    have kk := k H1 S1
    rw [nm_no ok e] at kk
    exact kk
/-- has_place, of any thing -/
def spHasPA (C : Addr) (K : PySem.W.Frag) : Sp := fun vs H Q _ => ∃ p W ps y, vs = [.ref p, y] ∧ WoP K C H p W ps ∧ Kn0 K H y ∧ ∀ H', Same H H' → Q (.bl (nmIn y (ps.map Pt.pl))) H'
theorem d_hasPA (Wc : WoC K C) (A : AtMt K C "has_place" "Works.has_place" mWorks_HasPlace) (dn : Def P w K mg base "is_name" 1 ["thing"] (spName K)) (dp : DefM P w K mg base C "places" 1 ["self"] (spPlaces C K)) :
    DefM P w K mg base C "has_place" 2 ["self", "thing"] (spHasPA C K) := by
  refine mkDefM A scmWorks_HasPlace (fun _ _ _ _ _ _ us hl => match us, hl with | [_, _], _ => rfl) (fun vs H Q E ⟨_, _, _, _, e, _⟩ => by rw [e]; rfl)
    (fun f cdv A out s H vs Q E hr h => ?_)
  obtain ⟨p, W, ps, y, rfl, hw, ⟨⟨t, ty⟩, sh⟩, k⟩ := h
  refine ⟨_, (pss_one (ps_ret (pe_and (pe_d dn hr (by decide) (by rfl) (pa_cons (pv 1) pa_nil)) (pe_one (pe_cmpR op_in_seq (pv 1) (pe_mm0 (pv 0) Wc.cl dp hr (by decide)) (by rfl)))))), ?_⟩
  have ok : ∀ s ∈ ps.map Pt.pl, OkName s := fun s hs => by
    obtain ⟨c, hc, rfl⟩ := List.mem_map.mp hs
    exact (hw.g.all c hc).pl
  refine ⟨_, rfl, y, t, rfl, ty, sh, fun H1 S1 => ⟨_, rfl, ?_⟩⟩
  refine ite2 (fun hb => ?_) (fun hb => ?_)
  · obtain ⟨s0, rfl⟩ := nm_str hb
    have hw1 := hw.same S1
    obtain ⟨dx, tp, dp', tr, dr, tc, tm, dm, tl, e0, _⟩ := hw1.wo.ex
    refine ⟨_, rfl, _, rfl, p, dx, _, rfl, e0, wof_no (by decide +kernel) (by decide +kernel) (by decide +kernel) (by decide +kernel) (by decide +kernel) (by decide +kernel) (by decide +kernel) (by decide +kernel), p, W, ps, rfl, hw1, fun ys l H2 S2 nl el hm => ?_⟩
    refine ⟨l, _, rfl, .inl (SqL.of el), rfl, flat_strs _, ?_⟩
    rw [inV_str]
    have : decide (s0 ∈ ys) = decide (s0 ∈ ps.map Pt.pl) := by
      by_cases h : s0 ∈ ps.map Pt.pl
      · rw [decide_eq_true h, decide_eq_true ((hm s0).mpr h)]
      · rw [decide_eq_false h, decide_eq_false fun z => h ((hm s0).mp z)]
    rw [this]
    exact k _ (S1.trans S2)
  · have e := Bool.eq_false_iff.mpr hb
    have kk := k H1 S1
    rw [nm_no ok e] at kk
    exact kk
def spOrder (C : Addr) (K : PySem.W.Frag) : Sp := fun vs H Q _ => ∃ p W ps cs y, vs = [.ref p, y] ∧ WoM K C H p W ps cs ∧ Kn2 K H y ∧ ∀ H', Same H H' → Q (.bl (orderB H (cs.map Cm.nm) y)) H'
theorem d_order (Wc : WoC K C) (A : At K mg "is_order" sIsOrder) (dc : Def P w K mg base "check_works" 1 ["thing"] (spWorksC C K)) (dt : Def P w K mg base "is_tuple" 1 ["thing", "many"] (spTupN K)) (di : Def P w K mg base "is_id" 5 ["thing"] (spId K))
    (dh : DefM P w K mg base C "has_command" 2 ["self", "thing"] (spHasC C K)) (dte : Def P w K mg base "is_term" 4 ["thing"] (spRange K 0 999)) : Def P w K mg base "is_order" 6 ["works", "thing"] (spOrder C K) := by
  refine mkDef A scIsOrder (fun _ _ _ _ _ _ us hl => match us, hl with | [_, _], _ => rfl) (fun vs H Q E ⟨_, _, _, _, _, e, _⟩ => by rw [e]; rfl)
    (fun f cdv A out s H vs Q E hr h => ?_)
  obtain ⟨p, W, ps, cs, y, rfl, hw, kn, k⟩ := h
  refine ⟨_, (pss_cons (ps_expr (pe_d dc hr (by decide) (by rfl) (pa_cons (pv 0) pa_nil)))
    (pss_cons (ps_if (pt_val (pe_d dt hr (by decide) (by rfl) (pa_cons (pv 1) (pa_cons pe_int pa_nil))))
      (pss_cons (ps_asg (pv 1) (pg_tup (by rfl) (pgs_cons (pg_name (i := 2) scIsOrder.nd rfl (.inl rfl)) (pgs_cons (pg_name (i := 3) scIsOrder.nd rfl (.inl rfl)) (pgs_cons (pg_name (i := 4) scIsOrder.nd rfl (.inl rfl)) pgs_nil)))))
      (pss_one (ps_ret (pe_and (pe_cmpR op_eq (pv 2) pe_str (nomark _)) (pe_and (pe_d di hr (by decide) (by rfl) (pa_cons (pv 3) pa_nil)) (pe_one (pe_mm (pv 0) Wc.cl dh hr (by decide) (pa_cons (pv 4) pa_nil))))))))
      pss_nil)
    (pss_cons (ps_if (pt_not (pt_val (pe_d dt hr (by decide) (by rfl) (pa_cons (pv 1) (pa_cons pe_int pa_nil)))))
      (pss_one (ps_ret pe_bl))
      pss_nil)
    (pss_cons (ps_asg (pv 1) (pg_tup (by rfl) (pgs_cons (pg_name (i := 2) scIsOrder.nd rfl (.inl rfl)) (pgs_cons (pg_name (i := 5) scIsOrder.nd rfl (.inl rfl)) pgs_nil))))
    (pss_one (ps_ret (pe_or (pe_and (pe_cmpR op_eq (pv 2) pe_str (nomark _)) (pe_one (pe_d di hr (by decide) (by rfl) (pa_cons (pv 5) pa_nil)))) (pe_one (pe_and (pe_cmpR op_eq (pv 2) pe_str (nomark _)) (pe_one (pe_d dte hr (by decide) (by rfl) (pa_cons (pv 5) pa_nil)))))))))))), ?_⟩
  obtain ⟨t, ty⟩ := kn.1.1
  have kk := k H (Same.refl _)
  refine ⟨_, rfl, p, W, rfl, hw.wp.wo, ?_⟩
  rcases tup_or H y 3 with ⟨xs, h, hl, et⟩ | ⟨et, hn⟩
  · obtain ⟨a, rfl, e⟩ := tupOf_is h
    obtain ⟨kx, hd⟩ := kn.2 xs h
    match xs, hl with
    | [x1, x2, x3], _ =>
      have e2 : orderB H (cs.map Cm.nm) (.ref a) = (isW x1 "do" && (idB H x2 && nmIn x3 (cs.map Cm.nm))) := by
        unfold orderB
        rw [h]
      rw [e2] at kk
      refine ⟨_, rfl, .ref a, t, 3, rfl, ty, true, congrArg V.bl et, iteT ?_⟩
      refine ⟨_, rfl, a, _, rfl, SqT.of e, rfl, _, _, rfl, _, _, rfl, _, _, rfl, rfl, ?_⟩
      refine ⟨_, rfl, scal_w (hd (by simp) x1 rfl), _, rfl, ?_⟩
      unfold isW at kk
      cases h1 : decide (x1 = V.str "do") with
      | false =>
        rw [h1, Bool.false_and] at kk
        exact iteF kk
      | true =>
        rw [h1, Bool.true_and] at kk
        refine iteT ⟨_, rfl, x2, rfl, kx x2 (by simp), _, rfl, ?_⟩
        cases h2 : idB H x2 with
        | false =>
          rw [h2, Bool.false_and] at kk
          exact iteF kk
        | true =>
          rw [h2, Bool.true_and] at kk
          obtain ⟨dx, tp, dp', tr, dr, tc, tm, dm, tl, e0, _⟩ := hw.wp.wo.ex
          refine iteT ⟨_, rfl, p, dx, _, rfl, e0, wof_no (by decide +kernel) (by decide +kernel) (by decide +kernel) (by decide +kernel) (by decide +kernel) (by decide +kernel) (by decide +kernel) (by decide +kernel), _, rfl, p, W, ps, cs, x3, rfl, hw, (kx x3 (by simp)).1, fun H' S => ?_⟩
          have k3 := k H' S
          unfold isW at e2
          rw [e2, h1, h2] at k3
          exact k3
  · refine ⟨_, rfl, y, t, 3, rfl, ty, false, congrArg V.bl et, iteF ?_⟩
    rcases tup_or H y 2 with ⟨xs, h, hl, et2⟩ | ⟨et2, hn2⟩
    · obtain ⟨a, rfl, e⟩ := tupOf_is h
      obtain ⟨kx, hd⟩ := kn.2 xs h
      match xs, hl with
      | [x1, x2], _ =>
        have e2 : orderB H (cs.map Cm.nm) (.ref a) = ((isW x1 "back" && idB H x2) || (isW x1 "term" && wholeB x2 0 999)) := by
          unfold orderB
          rw [h]
        rw [e2] at kk
        unfold isW at kk
        obtain ⟨t2, ty2⟩ := (kx x2 (by simp)).1.1
        refine ⟨_, rfl, .ref a, t, 2, rfl, ty, true, congrArg V.bl et2, iteF ?_⟩
        refine ⟨_, rfl, a, _, rfl, SqT.of e, rfl, _, _, rfl, _, _, rfl, rfl, ?_⟩
        refine ⟨_, rfl, scal_w (hd (by simp) x1 rfl), _, rfl, ?_⟩
        cases h1 : decide (x1 = V.str "back") with
        | false =>
          rw [h1, Bool.false_and, Bool.false_or] at kk
          refine iteF ⟨_, rfl, iteF ?_⟩
          refine ⟨_, rfl, scal_w (hd (by simp) x1 rfl), _, rfl, ?_⟩
          cases h3 : decide (x1 = V.str "term") with
          | false =>
            rw [h3, Bool.false_and] at kk
            exact iteF kk
          | true =>
            rw [h3, Bool.true_and] at kk
            exact iteT ⟨_, rfl, x2, t2, rfl, ty2, kk⟩
        | true =>
          rw [h1, Bool.true_and] at kk
          refine iteT ⟨_, rfl, x2, rfl, kx x2 (by simp), _, rfl, ?_⟩
          cases h2 : idB H x2 with
          | true =>
            rw [h2, Bool.true_or] at kk
            exact iteT kk
          | false =>
            rw [h2, Bool.false_or] at kk
            refine iteF ?_
            refine ⟨_, rfl, scal_w (hd (by simp) x1 rfl), _, rfl, ?_⟩
            cases h3 : decide (x1 = V.str "term") with
            | false =>
              rw [h3, Bool.false_and] at kk
              exact iteF kk
            | true =>
              rw [h3, Bool.true_and] at kk
              exact iteT ⟨_, rfl, x2, t2, rfl, ty2, kk⟩
    · have e2 : orderB H (cs.map Cm.nm) y = false := by
        unfold orderB
        split
        · rename_i e
          exact absurd rfl (hn _ e)
        · rename_i e
          exact absurd rfl (hn2 _ e)
        · rfl
      rw [e2] at kk
      exact ⟨_, rfl, y, t, 2, rfl, ty, false, congrArg V.bl et2, iteT kk⟩
def HdS (H : Hp) (y : V) : Prop := ∀ xs, tupOf H y = some xs → ∀ x, xs[0]? = some x → x = .non ∨ (∃ s : Str, x = .str s) ∨ ∃ i, x = .int i
theorem HdS.same {K : PySem.W.Frag} {H H' : Hp} {y : V} (h : HdS H y) (k : Kn0 K H y) (S : Same H H') : HdS H' y := fun xs e => h xs ((tupOf_same k S).symm.trans e)
def spTerms (C : Addr) (K : PySem.W.Frag) : Sp := fun vs H Q _ => ∃ p W ps y, vs = [.ref p, y] ∧ WoP K C H p W ps ∧ Kn2 K H y ∧ HdS H y ∧ ∀ H', Same H H' → Q (.bl (termsB H (ps.map Pt.pl) y)) H'
theorem d_terms (Wc : WoC K C) (A : At K mg "_is_terms" sIsTerms) (dt : Def P w K mg base "is_tuple" 1 ["thing", "many"] (spTupN K)) (dh : DefM P w K mg base C "has_place" 2 ["self", "thing"] (spHasPA C K))
    (dte : Def P w K mg base "is_term" 4 ["thing"] (spRange K 0 999)) (dti : Def P w K mg base "is_time" 4 ["thing"] (spRange K 0 9999)) : Def P w K mg base "_is_terms" 6 ["works", "thing"] (spTerms C K) := by
  refine mkDef A scIsTerms (fun _ _ _ _ _ _ us hl => match us, hl with | [_, _], _ => rfl) (fun vs H Q E ⟨_, _, _, _, e, _⟩ => by rw [e]; rfl)
    (fun f cdv A out s H vs Q E hr h => ?_)
  obtain ⟨p, W, ps, y, rfl, hw, kn, hs, k⟩ := h
  refine ⟨_, (pss_cons (ps_if (pt_not (pt_val (pe_d dt hr (by decide) (by rfl) (pa_cons (pv 1) (pa_cons pe_int pa_nil)))))
      (pss_one (ps_ret pe_bl))
      pss_nil)
    (pss_cons (ps_asg (pv 1) (pg_tup (by rfl) (pgs_cons (pg_name (i := 2) scIsTerms.nd rfl (.inl rfl)) (pgs_cons (pg_name (i := 3) scIsTerms.nd rfl (.inl rfl)) (pgs_cons (pg_name (i := 4) scIsTerms.nd rfl (.inl rfl)) (pgs_cons (pg_name (i := 5) scIsTerms.nd rfl (.inl rfl)) pgs_nil))))))
    (pss_one (ps_ret (pe_and (pe_cmpR op_eq (pv 2) pe_str (nomark _)) (pe_and (pe_mm (pv 0) Wc.cl dh hr (by decide) (pa_cons (pv 3) pa_nil)) (pe_and (pe_d dte hr (by decide) (by rfl) (pa_cons (pv 4) pa_nil)) (pe_one (pe_d dti hr (by decide) (by rfl) (pa_cons (pv 5) pa_nil)))))))))), ?_⟩
  obtain ⟨t, ty⟩ := kn.1.1
  have kk := k H (Same.refl _)
  rcases tup_or H y 4 with ⟨xs, h, hl, et⟩ | ⟨et, hn⟩
  · obtain ⟨a, rfl, e⟩ := tupOf_is h
    obtain ⟨kx, _⟩ := kn.2 xs h
    have hd := hs xs h
    match xs, hl with
    | [x1, x2, x3, x4], _ =>
      have e2 : termsB H (ps.map Pt.pl) (.ref a) = (isW x1 "terms" && (nmIn x2 (ps.map Pt.pl) && (wholeB x3 0 999 && wholeB x4 0 9999))) := by
        unfold termsB
        rw [h]
      rw [e2] at kk k
      unfold isW at kk k
      refine ⟨_, rfl, .ref a, t, 4, rfl, ty, true, congrArg V.bl et, iteF ?_⟩
      refine ⟨_, rfl, a, _, rfl, SqT.of e, rfl, _, _, rfl, _, _, rfl, _, _, rfl, _, _, rfl, rfl, ?_⟩
      refine ⟨_, rfl, scal_w (hd x1 rfl), _, rfl, ?_⟩
      cases h1 : decide (x1 = V.str "terms") with
      | false =>
        rw [h1, Bool.false_and] at kk
        exact iteF kk
      | true =>
        obtain ⟨dx, tp, dp', tr, dr, tc, tm, dm, tl, e0, _⟩ := hw.wo.ex
        refine iteT ⟨_, rfl, p, dx, _, rfl, e0, wof_no (by decide +kernel) (by decide +kernel) (by decide +kernel) (by decide +kernel) (by decide +kernel) (by decide +kernel) (by decide +kernel) (by decide +kernel), _, rfl, p, W, ps, x2, rfl, hw, (kx x2 (by simp)).1, fun H' S => ⟨_, rfl, ?_⟩⟩
        have k3 := k H' S
        rw [h1, Bool.true_and] at k3
        cases h2 : nmIn x2 (ps.map Pt.pl) with
        | false =>
          rw [h2, Bool.false_and] at k3
          exact iteF k3
        | true =>
          rw [h2, Bool.true_and] at k3
          obtain ⟨t3, ty3⟩ := ((kx x3 (by simp)).1.same S).1
          obtain ⟨t4, ty4⟩ := ((kx x4 (by simp)).1.same S).1
          refine iteT ⟨_, rfl, x3, t3, rfl, ty3, _, rfl, ?_⟩
          cases h3 : wholeB x3 0 999 with
          | false =>
            rw [h3, Bool.false_and] at k3
            exact iteF k3
          | true =>
            rw [h3, Bool.true_and] at k3
            exact iteT ⟨_, rfl, x4, t4, rfl, ty4, k3⟩
  · have e2 : termsB H (ps.map Pt.pl) y = false := by
      unfold termsB
      split
      · rename_i e
        exact absurd rfl (hn _ e)
      · rfl
    rw [e2] at kk
    exact ⟨_, rfl, y, t, 4, rfl, ty, false, congrArg V.bl et, iteT kk⟩
def spAnswer (C : Addr) (K : PySem.W.Frag) : Sp := fun vs H Q _ => ∃ p W ps y, vs = [.ref p, y] ∧ WoP K C H p W ps ∧ Kn2 K H y ∧ ∀ H', Same H H' → Q (.bl (answerB H (ps.map Pt.pl) y)) H'
theorem d_answer (Wc : WoC K C) (A : At K mg "_is_answer" sIsAnswer) (dt : Def P w K mg base "is_tuple" 1 ["thing", "many"] (spTupN K)) (dh : DefM P w K mg base C "has_place" 2 ["self", "thing"] (spHasPA C K)) (di : Def P w K mg base "is_id" 5 ["thing"] (spId K))
    (d1 : Def P w K mg base "is_one_of" 1 ["thing", "words"] (spOne K)) (dte : Def P w K mg base "is_term" 4 ["thing"] (spRange K 0 999)) (dti : Def P w K mg base "is_time" 4 ["thing"] (spRange K 0 9999)) : Def P w K mg base "_is_answer" 6 ["works", "thing"] (spAnswer C K) := by
  refine mkDef A scIsAnswer (fun _ _ _ _ _ _ us hl => match us, hl with | [_, _], _ => rfl) (fun vs H Q E ⟨_, _, _, _, e, _⟩ => by rw [e]; rfl)
    (fun f cdv A out s H vs Q E hr h => ?_)
  obtain ⟨p, W, ps, y, rfl, hw, kn, k⟩ := h
  refine ⟨_, (pss_cons (ps_if (PW.pt (pw_or (pt_not (pt_val (pe_d dt hr (by decide) (by rfl) (pa_cons (pv 1) (pa_cons pe_int pa_nil))))) (pw_or1 (pt_cmpR op_ne (pe_ix (r := rIxT K) ix_tup (pv 1) pe_int (fun _ _ => rfl)) pe_str (nomark _)))))
      (pss_one (ps_ret pe_bl))
      pss_nil)
    (pss_cons (ps_asg (pv 1) (pg_tup (by rfl) (pgs_cons (pg_name (i := 2) scIsAnswer.nd rfl (.inl rfl)) (pgs_cons (pg_name (i := 3) scIsAnswer.nd rfl (.inl rfl)) (pgs_cons (pg_name (i := 4) scIsAnswer.nd rfl (.inl rfl)) (pgs_cons (pg_name (i := 5) scIsAnswer.nd rfl (.inl rfl)) (pgs_cons (pg_name (i := 6) scIsAnswer.nd rfl (.inl rfl)) (pgs_cons (pg_name (i := 7) scIsAnswer.nd rfl (.inl rfl)) pgs_nil))))))))
    (pss_cons (ps_if (pt_not (PW.pt (pw_and (pt_val (pe_mm (pv 0) Wc.cl dh hr (by decide) (pa_cons (pv 3) pa_nil))) (pw_and (pt_val (pe_d di hr (by decide) (by rfl) (pa_cons (pv 4) pa_nil))) (pw_and1 (pt_val (pe_d d1 hr (by decide) (by rfl) (pa_cons (pv 5) (pa_cons (pe_tup (pa_cons pe_str (pa_cons pe_str pa_nil))) pa_nil)))))))))
      (pss_one (ps_ret pe_bl))
      pss_nil)
    (pss_one (ps_ret (pe_and (pe_d dte hr (by decide) (by rfl) (pa_cons (pv 6) pa_nil)) (pe_one (pe_d dti hr (by decide) (by rfl) (pa_cons (pv 7) pa_nil))))))))), ?_⟩
  obtain ⟨t, ty⟩ := kn.1.1
  have kk := k H (Same.refl _)
  rcases tup_or H y 6 with ⟨xs, h, hl, et⟩ | ⟨et, hn⟩
  · obtain ⟨a, rfl, e⟩ := tupOf_is h
    obtain ⟨kx, hd⟩ := kn.2 xs h
    match xs, hl with
    | [x1, x2, x3, x4, x5, x6], _ =>
      have e2 : answerB H (ps.map Pt.pl) (.ref a) = (isW x1 "answer" && ((nmIn x2 (ps.map Pt.pl) && (idB H x3 && oneB x4 ["done", "refused"])) && (wholeB x5 0 999 && wholeB x6 0 9999))) := by
        unfold answerB
        rw [h]
      rw [e2] at kk k
      unfold isW at kk k
      refine ⟨_, rfl, .ref a, t, 6, rfl, ty, true, congrArg V.bl et, iteF ?_⟩
      refine ⟨_, rfl, a, _, 0, x1, rfl, rfl, SqT.of e, rfl, scal_w (hd (by simp) x1 rfl), _, rfl, ?_⟩
      cases h1 : decide (x1 = V.str "answer") with
      | false =>
        rw [h1, Bool.false_and] at kk
        exact iteT kk
      | true =>
        refine iteF ?_
        refine ⟨_, rfl, a, _, rfl, SqT.of e, rfl, _, _, rfl, _, _, rfl, _, _, rfl, _, _, rfl, _, _, rfl, _, _, rfl, rfl, ?_⟩
        obtain ⟨dx, tp, dp', tr, dr, tc, tm, dm, tl, e0, _⟩ := hw.wo.ex
        refine ⟨_, rfl, p, dx, _, rfl, e0, wof_no (by decide +kernel) (by decide +kernel) (by decide +kernel) (by decide +kernel) (by decide +kernel) (by decide +kernel) (by decide +kernel) (by decide +kernel), _, rfl, p, W, ps, x2, rfl, hw, (kx x2 (by simp)).1, fun H' S => ⟨_, rfl, ?_⟩⟩
        have k3 := k H' S
        rw [h1, Bool.true_and] at k3
        cases h2 : nmIn x2 (ps.map Pt.pl) with
        | false =>
          rw [h2, Bool.false_and, Bool.false_and] at k3
          exact iteF k3
        | true =>
          rw [h2, Bool.true_and] at k3
          refine iteT ⟨_, rfl, x3, rfl, (kx x3 (by simp)).same S, _, rfl, ?_⟩
          rw [idB_same (kx x3 (by simp)).1 S]
          cases h3 : idB H x3 with
          | false =>
            rw [h3, Bool.false_and, Bool.false_and] at k3
            exact iteF k3
          | true =>
            refine iteT ⟨_, rfl, by show 2 ≤ sizeLine; decide, fun q nq => ?_⟩
            have U := Same.laid (o := HO.tup [.str "done", .str "refused"]) nq
            have k4 := k _ (S.trans U)
            rw [h1, h2, h3] at k4
            simp only [Bool.true_and] at k4
            obtain ⟨t4, ty4⟩ := ((kx x4 (by simp)).1.same (S.trans U)).1
            obtain ⟨t5, ty5⟩ := ((kx x5 (by simp)).1.same (S.trans U)).1
            obtain ⟨t6, ty6⟩ := ((kx x6 (by simp)).1.same (S.trans U)).1
            refine ⟨x4, t4, q, ["done", "refused"], rfl, ty4, upd_same, _, rfl, ?_⟩
            cases h4 : oneB x4 ["done", "refused"] with
            | false =>
              rw [h4, Bool.false_and] at k4
              exact iteT k4
            | true =>
              rw [h4, Bool.true_and] at k4
              refine iteF ⟨_, rfl, x5, t5, rfl, ty5, _, rfl, ?_⟩
              cases h5 : wholeB x5 0 999 with
              | false =>
                rw [h5, Bool.false_and] at k4
                exact iteF k4
              | true =>
                rw [h5, Bool.true_and] at k4
                exact iteT ⟨_, rfl, x6, t6, rfl, ty6, k4⟩
  · have e2 : answerB H (ps.map Pt.pl) y = false := by
      unfold answerB
      split
      · rename_i e
        exact absurd rfl (hn _ e)
      · rfl
    rw [e2] at kk
    exact ⟨_, rfl, y, t, 6, rfl, ty, false, congrArg V.bl et, iteT kk⟩
def letterB (H : Hp) (ps ns : List Str) (y : V) : Bool := orderB H ns y || (termsB H ps y || answerB H ps y)
end
end V10

set_option maxHeartbeats 8000000
namespace V10
open PySem PySem.Spec PyProof.Rows L2 Pw
/-! ### a sign, of any thing -/
def ptOf (ps : List Pt) (y : V) : Option Pt := match y with
  | .str s => ps.find? fun pt => decide (pt.nm = s)
  | _ => none
def signB (H : Hp) (ps : List Pt) (y : V) : Bool := match tupOf H y with
  | some [t, n, w, m] => wholeB t 0 9999 && (match ptOf ps n with
    | some pt => wholeB w 0 (hiP pt) && oneB m ["good", "odd"]
    | none => false)
  | _ => false
theorem signB_same {K : PySem.W.Frag} {H H' : Hp} {y : V} {ps : List Pt} (h : Kn0 K H y) (S : Same H H') : signB H' ps y = signB H ps y := by
  unfold signB
  rw [tupOf_same h S]
theorem ptOf_some {ps : List Pt} {y : V} {pt : Pt} (h : ptOf ps y = some pt) : pt ∈ ps ∧ y = .str pt.nm := by
  unfold ptOf at h
  split at h
  · exact ⟨List.mem_of_find?_eq_some h, by have := List.find?_some h; rw [of_decide_eq_true this]⟩
  · cases h
theorem nmIn_pt {ps : List Pt} {y : V} : nmIn y (ps.map Pt.nm) = (ptOf ps y).isSome := by
  cases y <;> try rfl
  rename_i s
  show decide (s ∈ ps.map Pt.nm) = (ps.find? fun pt => decide (pt.nm = s)).isSome
  rw [Bool.eq_iff_iff, decide_eq_true_iff, List.find?_isSome, List.mem_map]
  constructor
  · rintro ⟨pt, h, e⟩
    exact ⟨pt, h, decide_eq_true e⟩
  · rintro ⟨pt, h, e⟩
    exact ⟨pt, h, of_decide_eq_true e⟩
section
variable {P : Program} {w : World} {K : PySem.W.Frag} {mg : Str → Option Value} {base : Heap} {C : Addr}
/-- has_point, of any thing -/
def spHasPG (C : Addr) (K : PySem.W.Frag) : Sp := fun vs H Q _ => ∃ p W ps y, vs = [.ref p, y] ∧ WoP K C H p W ps ∧ Kn0 K H y ∧ ∀ H', Same H H' → Q (.bl (nmIn y (ps.map Pt.nm))) H'
theorem d_hasPG (Wc : WoC K C) (A : AtMt K C "has_point" "Works.has_point" mWorks_HasPoint) (dn : Def P w K mg base "is_name" 1 ["thing"] (spName K)) :
    DefM P w K mg base C "has_point" 2 ["self", "thing"] (spHasPG C K) := by
  refine mkDefM A scmWorks_HasPoint (fun _ _ _ _ _ _ us hl => match us, hl with | [_, _], _ => rfl) (fun vs H Q E ⟨_, _, _, _, e, _⟩ => by rw [e]; rfl)
    (fun f cdv A out s H vs Q E hr h => ?_)
  obtain ⟨p, W, ps, y, rfl, hw, ⟨⟨t, ty⟩, sh⟩, k⟩ := h
  have hu : (A.deeper (envOfC "Works.has_point" (defScope mWorks_HasPoint) s.heap.objs.size f cdv)).units + 1 < cLine := hu_of hr
  refine ⟨_, (pss_one (ps_ret (pe_and (pe_d dn hr (by decide) (by rfl) (pa_cons (pv 1) pa_nil)) (pe_one (pe_cmp (pc_din hu (pv 1) (pe_fld (pv 0) rfl)) rfl))))), ?_⟩
  have ok : ∀ s ∈ ps.map Pt.nm, OkName s := fun s hs => by
    obtain ⟨c, hc, rfl⟩ := List.mem_map.mp hs
    exact (hw.g.all c hc).nm
  refine ⟨_, rfl, y, t, rfl, ty, sh, fun H1 S1 => ⟨_, rfl, ?_⟩⟩
  refine ite2 (fun hb => ?_) (fun hb => ?_)
  · obtain ⟨nm, rfl⟩ := nm_str hb
    have hw1 := hw.same S1
    obtain ⟨dx, tp, dp, tr, dr, tc, tm, dm, tl, e0, e1, e2, _⟩ := hw1.wo.ex
    have hl := hw.al.length.symm
    rw [hw.ks] at e2
    refine ⟨_, rfl, _, rfl, p, C, dx, _, _, rfl, e0, Wc.cl, Wc.nPd, (lk_ne (by decide +kernel)).trans lk_eq, dp, _, rfl, .inl ⟨_, .inr nm, .inl e2, rfl, rfl⟩, ?_⟩
    have kk : Q (.bl (decide (nm ∈ ps.map Pt.nm))) H1 := k H1 S1
    by_cases hm : nm ∈ ps.map Pt.nm
    · rw [decide_eq_true hm] at kk
      obtain ⟨c, hc, rfl⟩ := List.mem_map.mp hm
      obtain ⟨i, hi, ei⟩ := List.getElem_of_mem hc
      obtain ⟨q, hq, _⟩ := hw1.al.at (List.getElem?_eq_some_iff.mpr ⟨hi, ei⟩)
      rw [kvs_get Pt.nm hw.g.nd (List.getElem?_eq_some_iff.mpr ⟨hi, ei⟩) hq]
      exact kk
    · rw [decide_eq_false hm] at kk
      rw [kvs_no Pt.nm hl hm]
      exact kk
  · have e := Bool.eq_false_iff.mpr hb
    have kk := k H1 S1
    rw [nm_no ok e] at kk
    exact kk
def spIsWorthA (C : Addr) (K : PySem.W.Frag) : Sp := fun vs H Q _ => ∃ p W ps pt x t, vs = [.ref p, .str (Pt.nm pt), x] ∧ WoP K C H p W ps ∧ pt ∈ ps ∧ Ty K H x t ∧ ∀ H', Same H H' → Q (.bl (wholeB x 0 (hiP pt))) H'
theorem d_isWorthA (Wc : WoC K C) (A : AtMt K C "is_worth" "Works.is_worth" mWorks_IsWorth) (dp : DefM P w K mg base C "point" 3 ["self", "name"] (spPoint C K)) (dw : Def P w K mg base "is_worth_of" 4 ["point", "thing"] (spWorthOf K)) :
    DefM P w K mg base C "is_worth" 5 ["self", "point", "thing"] (spIsWorthA C K) := by
  refine mkDefM A scmWorks_IsWorth (fun _ _ _ _ _ _ us hl => match us, hl with | [_, _, _], _ => rfl) (fun vs H Q E ⟨_, _, _, _, _, _, e, _⟩ => by rw [e]; rfl)
    (fun f cdv A out s H vs Q E hr h => ?_)
  obtain ⟨p, W, ps, pt, x, t, rfl, hw, hpt, ty, k⟩ := h
  refine ⟨_, (pss_one (ps_ret (pe_d dw hr (by decide) (by rfl) (pa_cons (pe_mm (pv 0) Wc.cl dp hr (by decide) (pa_cons (pv 1) pa_nil)) (pa_cons (pv 2) pa_nil))))), ?_⟩
  obtain ⟨dx, tp, dp', tr, dr, tc, tm, dm, tl, e0, _⟩ := hw.wo.ex
  refine ⟨_, rfl, p, dx, _, rfl, e0, wof_no (by decide +kernel) (by decide +kernel) (by decide +kernel) (by decide +kernel) (by decide +kernel) (by decide +kernel) (by decide +kernel) (by decide +kernel), _, rfl, p, W, ps, pt, rfl, hw, hpt, fun q H1 S1 eq => ?_⟩
  exact ⟨_, rfl, q, pt, x, t, rfl, eq, ty.same S1, k H1 S1⟩
def spSignA (C : Addr) (K : PySem.W.Frag) : Sp := fun vs H Q _ => ∃ p W ps y, vs = [.ref p, y] ∧ WoP K C H p W ps ∧ Kn1 K H y ∧ ∀ H', Same H H' → Q (.bl (signB H ps y)) H'
theorem d_signA (Wc : WoC K C) (A : At K mg "is_sign" sIsSign) (dc : Def P w K mg base "check_works" 1 ["thing"] (spWorksC C K)) (dt : Def P w K mg base "is_tuple" 1 ["thing", "many"] (spTupN K)) (dti : Def P w K mg base "is_time" 4 ["thing"] (spRange K 0 9999))
    (dh : DefM P w K mg base C "has_point" 2 ["self", "thing"] (spHasPG C K)) (dw : DefM P w K mg base C "is_worth" 5 ["self", "point", "thing"] (spIsWorthA C K)) (dm : Def P w K mg base "is_mark" 2 ["thing"] (spMark K)) :
    Def P w K mg base "is_sign" 6 ["works", "thing"] (spSignA C K) := by
  refine mkDef A scIsSign (fun _ _ _ _ _ _ us hl => match us, hl with | [_, _], _ => rfl) (fun vs H Q E ⟨_, _, _, _, e, _⟩ => by rw [e]; rfl)
    (fun f cdv A out s H vs Q E hr h => ?_)
  obtain ⟨p, W, ps, y, rfl, hw, kn, k⟩ := h
  refine ⟨_, (pss_cons (ps_expr (pe_d dc hr (by decide) (by rfl) (pa_cons (pv 0) pa_nil)))
    (pss_cons (ps_if (pt_not (pt_val (pe_d dt hr (by decide) (by rfl) (pa_cons (pv 1) (pa_cons pe_int pa_nil)))))
      (pss_one (ps_ret pe_bl))
      pss_nil)
    (pss_cons (ps_asg (pv 1) (pg_tup (by rfl) (pgs_cons (pg_name (i := 2) scIsSign.nd rfl (.inl rfl)) (pgs_cons (pg_name (i := 3) scIsSign.nd rfl (.inl rfl)) (pgs_cons (pg_name (i := 4) scIsSign.nd rfl (.inl rfl)) (pgs_cons (pg_name (i := 5) scIsSign.nd rfl (.inl rfl)) pgs_nil))))))
    (pss_one (ps_ret (pe_and (pe_d dti hr (by decide) (by rfl) (pa_cons (pv 2) pa_nil)) (pe_and (pe_mm (pv 0) Wc.cl dh hr (by decide) (pa_cons (pv 3) pa_nil)) (pe_and (pe_mm (pv 0) Wc.cl dw hr (by decide) (pa_cons (pv 3) (pa_cons (pv 4) pa_nil))) (pe_one (pe_d dm hr (by decide) (by rfl) (pa_cons (pv 5) pa_nil))))))))))), ?_⟩
  obtain ⟨t, ty⟩ := kn.1.1
  have kk := k H (Same.refl _)
  refine ⟨_, rfl, p, W, rfl, hw.wo, ?_⟩
  rcases tup_or H y 4 with ⟨xs, h, hl, et⟩ | ⟨et, hn⟩
  · obtain ⟨a, rfl, e⟩ := tupOf_is h
    have kx := kn.2 xs h
    match xs, hl with
    | [x1, x2, x3, x4], _ =>
      have e2 : signB H ps (.ref a) = (wholeB x1 0 9999 && (match ptOf ps x2 with
        | some pt => wholeB x3 0 (hiP pt) && oneB x4 ["good", "odd"]
        | none => false)) := by
        unfold signB
        rw [h]
      rw [e2] at kk k
      obtain ⟨t1, ty1⟩ := (kx x1 (by simp)).1
      refine ⟨_, rfl, .ref a, t, 4, rfl, ty, true, congrArg V.bl et, iteF ?_⟩
      refine ⟨_, rfl, a, _, rfl, SqT.of e, rfl, _, _, rfl, _, _, rfl, _, _, rfl, _, _, rfl, rfl, ?_⟩
      refine ⟨_, rfl, x1, t1, rfl, ty1, _, rfl, ?_⟩
      cases h1 : wholeB x1 0 9999 with
      | false =>
        rw [h1, Bool.false_and] at kk
        exact iteF kk
      | true =>
        obtain ⟨dx, tp, dp', tr, dr, tc, tm, dm', tl, e0, _⟩ := hw.wo.ex
        refine iteT ⟨_, rfl, p, dx, _, rfl, e0, wof_no (by decide +kernel) (by decide +kernel) (by decide +kernel) (by decide +kernel) (by decide +kernel) (by decide +kernel) (by decide +kernel) (by decide +kernel), _, rfl, p, W, ps, x2, rfl, hw, kx x2 (by simp), fun H1 S1 => ⟨_, rfl, ?_⟩⟩
        rw [nmIn_pt]
        have k1 := k H1 S1
        rw [h1, Bool.true_and] at k1 k
        cases hp : ptOf ps x2 with
        | none =>
          rw [hp] at k1
          exact iteF k1
        | some pt =>
          obtain ⟨hpt, rfl⟩ := ptOf_some hp
          rw [hp] at k
          have hw1 := hw.same S1
          obtain ⟨dx, tp, dp', tr, dr, tc, tm, dm', tl, e0, _⟩ := hw1.wo.ex
          obtain ⟨t3, ty3⟩ := ((kx x3 (by simp)).same S1).1
          refine iteT ⟨_, rfl, p, dx, _, rfl, e0, wof_no (by decide +kernel) (by decide +kernel) (by decide +kernel) (by decide +kernel) (by decide +kernel) (by decide +kernel) (by decide +kernel) (by decide +kernel), _, rfl, _, rfl, p, W, ps, pt, x3, t3, rfl, hw1, hpt, ty3, fun H2 S2 => ⟨_, rfl, ?_⟩⟩
          have k2 : Q (.bl (wholeB x3 0 (hiP pt) && oneB x4 ["good", "odd"])) H2 := k H2 (S1.trans S2)
          cases h3 : wholeB x3 0 (hiP pt) with
          | false =>
            rw [h3] at k2
            exact iteF k2
          | true =>
            obtain ⟨t4, ty4⟩ := ((kx x4 (by simp)).same (S1.trans S2)).1
            refine iteT ⟨_, rfl, x4, t4, rfl, ty4, fun H3 S3 => ?_⟩
            have k3 : Q (.bl (wholeB x3 0 (hiP pt) && oneB x4 ["good", "odd"])) H3 := k H3 ((S1.trans S2).trans S3)
            rw [h3] at k3
            exact k3
  · have e2 : signB H ps y = false := by
      unfold signB
      split
      · rename_i e
        exact absurd rfl (hn _ e)
      · rfl
    rw [e2] at kk
    exact ⟨_, rfl, y, t, 4, rfl, ty, false, congrArg V.bl et, iteT kk⟩
end
end V10

set_option maxHeartbeats 8000000
namespace V10
open PySem PySem.Spec PyProof.Rows L2 Pw
/-- a sign at a place, of any thing -/
def signAtB (H : Hp) (ps : List Pt) (pl : Str) (y : V) : Bool := signB H ps y && (match tupOf H y with
  | some [_, n, _, _] => (match ptOf ps n with
    | some pt => decide (pt.pl = pl)
    | none => false)
  | _ => false)
theorem signB_is {H : Hp} {ps : List Pt} {y : V} (h : signB H ps y = true) : ∃ a x1 pt x3 x4, y = .ref a ∧ H a = some (.tup [x1, .str pt.nm, x3, x4]) ∧ tupOf H y = some [x1, .str pt.nm, x3, x4] ∧ pt ∈ ps ∧ ptOf ps (.str pt.nm) = some pt ∧ wholeB x1 0 9999 = true := by
  unfold signB at h
  split at h
  · rename_i x1 x2 x3 x4 e
    obtain ⟨a, rfl, e'⟩ := tupOf_is e
    rw [Bool.and_eq_true] at h
    obtain ⟨h1, h2⟩ := h
    split at h2
    · rename_i pt hp
      obtain ⟨hpt, rfl⟩ := ptOf_some hp
      exact ⟨a, x1, pt, x3, x4, rfl, e', e, hpt, hp, h1⟩
    · cases h2
  · cases h
section
variable {P : Program} {w : World} {K : PySem.W.Frag} {mg : Str → Option Value} {base : Heap} {C : Addr}
def spSignAtA (C : Addr) (K : PySem.W.Frag) : Sp := fun vs H Q _ => ∃ p W ps pl y, vs = [.ref p, .str pl, y] ∧ WoP K C H p W ps ∧ pl ∈ ps.map Pt.pl ∧ Kn1 K H y ∧ ∀ H', Same H H' → Q (.bl (signAtB H ps pl y)) H'
theorem d_signAtA (Wc : WoC K C) (A : At K mg "_is_sign_at" sIsSignAt) (ds : Def P w K mg base "is_sign" 6 ["works", "thing"] (spSignA C K)) (dp : DefM P w K mg base C "points_at" 3 ["self", "place"] (spPtsAt C K)) :
    Def P w K mg base "_is_sign_at" 7 ["works", "place", "thing"] (spSignAtA C K) := by
  refine mkDef A scIsSignAt (fun _ _ _ _ _ _ us hl => match us, hl with | [_, _, _], _ => rfl) (fun vs H Q E ⟨_, _, _, _, _, e, _⟩ => by rw [e]; rfl)
    (fun f cdv A out s H vs Q E hr h => ?_)
  obtain ⟨p, W, ps, pl, y, rfl, hw, hpl, kn, k⟩ := h
  refine ⟨_, (pss_one (ps_ret (pe_and (pe_d ds hr (by decide) (by rfl) (pa_cons (pv 0) (pa_cons (pv 2) pa_nil))) (pe_one (pe_cmpR op_in_seq (pe_ix (r := rIxT K) ix_tup (pv 2) pe_int (fun _ _ => rfl)) (pe_mm (pv 0) Wc.cl dp hr (by decide) (pa_cons (pv 1) pa_nil)) (by rfl)))))), ?_⟩
  refine ⟨_, rfl, _, rfl, p, W, ps, y, rfl, hw, kn, fun H1 S1 => ⟨_, rfl, ?_⟩⟩
  cases h1 : signB H ps y with
  | false =>
    have k1 := k H1 S1
    unfold signAtB at k1
    rw [h1, Bool.false_and] at k1
    exact iteF k1
  | true =>
    obtain ⟨a, x1, pt, x3, x4, rfl, e, et, hpt, hp, _⟩ := signB_is h1
    have e2 : signAtB H ps pl (.ref a) = decide (pt.pl = pl) := by
      unfold signAtB
      rw [h1, et, Bool.true_and]
      dsimp only
      rw [hp]
    rw [e2] at k
    have hw1 := hw.same S1
    obtain ⟨dx, tp, dp', tr, dr, tc, tm, dm, tl, e0, _⟩ := hw1.wo.ex
    refine iteT ⟨_, rfl, a, _, 1, .str pt.nm, rfl, rfl, SqT.of (S1 _ _ e), rfl, _, rfl, p, dx, _, rfl, e0, wof_no (by decide +kernel) (by decide +kernel) (by decide +kernel) (by decide +kernel) (by decide +kernel) (by decide +kernel) (by decide +kernel) (by decide +kernel), _, rfl, p, W, ps, pl, rfl, hw1, hpl, fun l H2 S2 nl el => ?_⟩
    refine ⟨l, _, rfl, .inl (SqL.of el), rfl, flat_strs _, ?_⟩
    rw [inV_str]
    have e3 : decide (pt.nm ∈ (ps.filter fun x => decide (x.pl = pl)).map Pt.nm) = decide (pt.pl = pl) := by
      by_cases h : pt.pl = pl
      · rw [decide_eq_true h, decide_eq_true (List.mem_map.mpr ⟨pt, List.mem_filter.mpr ⟨hpt, decide_eq_true h⟩, rfl⟩)]
      · rw [decide_eq_false h, decide_eq_false fun z => ?_]
        obtain ⟨pt', hm, en⟩ := List.mem_map.mp z
        obtain ⟨hm1, hm2⟩ := List.mem_filter.mp hm
        obtain rfl : pt' = pt := name_one hw.g.nd hm1 hpt en
        exact h (of_decide_eq_true hm2)
    rw [e3]
    exact k _ (S1.trans S2)
end
end V10

set_option maxHeartbeats 8000000
namespace V10
open PySem PySem.Spec PyProof.Rows L2 Pw
/-- signs, of any thing -/
def tmOf (H : Hp) (r : V) : Int := match tupOf H r with
  | some (.int t :: _) => t
  | _ => 0
def rowsB (H : Hp) (ps : List Pt) (pl tm rw : V) : Bool := match pl, tm, tupOf H rw with
  | .str s, .int t, some rs => decide (rs.length ≤ 12) && (rs.all (signAtB H ps s) && decide ((rs.map (tmOf H) ++ [t]).Pairwise (· ≤ ·)))
  | _, _, _ => false
def signsB (H : Hp) (ps : List Pt) (y : V) : Bool := match tupOf H y with
  | some [x0, pl, no, tm, rw] => isW x0 "signs" && ((nmIn pl (ps.map Pt.pl) && (wholeB no 1 40 && wholeB tm 0 9999)) && rowsB H ps pl tm rw)
  | _ => false
/-- what is known of such a thing -/
structure KnS (K : PySem.W.Frag) (H : Hp) (y : V) : Prop where
  k0 : Kn0 K H y
  parts : ∀ xs, tupOf H y = some xs → (∀ x ∈ xs, Kn0 K H x ∧ ∀ rs, tupOf H x = some rs → ∀ r ∈ rs, Kn1 K H r) ∧ (xs.length = 5 → ∀ x, xs[0]? = some x → x = .non ∨ (∃ s : Str, x = .str s) ∨ ∃ i, x = .int i)
theorem tupB_of {H : Hp} {y : V} {xs : List V} (h : tupOf H y = some xs) : tupB H y = true := by
  obtain ⟨a, rfl, e⟩ := tupOf_is h
  simp only [tupB, e]
theorem tupB_no {H : Hp} {y : V} (h : tupOf H y = none) : tupB H y = false := by
  cases hb : tupB H y with
  | false => rfl
  | true =>
    exfalso
    unfold tupB at hb
    split at hb
    · rename_i a
      split at hb
      · rename_i xs e
        rw [tupOf_at e] at h
        cases h
      · cases hb
    · cases hb
theorem signAtB_same {K : PySem.W.Frag} {H H' : Hp} {y : V} {ps : List Pt} {pl : Str} (h : Kn0 K H y) (S : Same H H') : signAtB H' ps pl y = signAtB H ps pl y := by
  unfold signAtB
  rw [signB_same h S, tupOf_same h S]
theorem eqv_int (a b : Int) : PyData.eqv (.int a) (.int b) = decide (a = b) := by
  simp only [PyData.eqv]
  by_cases h : a = b <;> simp [h]
theorem eqvAll_int : ∀ xs ys : List Int, PyData.eqvAll (xs.map .int) (ys.map .int) = decide (xs = ys)
  | [], [] => rfl
  | [], _ :: _ => rfl
  | _ :: _, [] => rfl
  | x :: xs, y :: ys => by
    simp only [List.map_cons, PyData.eqvAll, eqv_int, eqvAll_int xs ys]
    by_cases h : x = y
    · by_cases g : xs = ys <;> simp [h, g]
    · simp [h]
theorem rises_dec {xs ys : List Int} (hp : xs.Perm ys) (hs : ys.Pairwise (· ≤ ·)) : decide (xs = ys) = decide (xs.Pairwise (· ≤ ·)) := by
  by_cases h : xs.Pairwise (· ≤ ·)
  · rw [decide_eq_true h, decide_eq_true (sorted_eq hp h hs)]
  · rw [decide_eq_false h, decide_eq_false fun z => h (by rw [z]; exact hs)]
section
variable {P : Program} {w : World} {K : PySem.W.Frag} {mg : Str → Option Value} {base : Heap} {C : Addr}
def spSignsA (C : Addr) (K : PySem.W.Frag) : Sp := fun vs H Q _ => ∃ p W ps y, vs = [.ref p, y] ∧ WoP K C H p W ps ∧ KnS K H y ∧ ∀ H', Same H H' → Q (.bl (signsB H ps y)) H'
theorem d_signsA (T : Txt mg) (Wc : WoC K C) (A : At K mg "is_signs" sIsSigns) (dc : Def P w K mg base "check_works" 1 ["thing"] (spWorksC C K)) (dt : Def P w K mg base "is_tuple" 1 ["thing", "many"] (spTupN K)) (dh : DefM P w K mg base C "has_place" 2 ["self", "thing"] (spHasPA C K))
    (dwh : Def P w K mg base "is_whole" 3 ["thing", "low", "high"] (spWhole K)) (dti : Def P w K mg base "is_time" 4 ["thing"] (spRange K 0 9999)) (dsa : Def P w K mg base "_is_sign_at" 7 ["works", "place", "thing"] (spSignAtA C K)) :
    Def P w K mg base "is_signs" 8 ["works", "thing"] (spSignsA C K) := by
  refine mkDef A scIsSigns (fun _ _ _ _ _ _ us hl => match us, hl with | [_, _], _ => rfl) (fun vs H Q E ⟨_, _, _, _, e, _⟩ => by rw [e]; rfl)
    (fun f cdv A out s H vs Q E hr h => ?_)
  obtain ⟨p, W, ps, y, rfl, hw, kn, k⟩ := h
  refine ⟨_, (pss_cons (ps_expr (pe_d dc hr (by decide) (by rfl) (pa_cons (pv 0) pa_nil)))
    (pss_cons (ps_if (PW.pt (pw_or (pt_not (pt_val (pe_d dt hr (by decide) (by rfl) (pa_cons (pv 1) (pa_cons pe_int pa_nil))))) (pw_or1 (pt_cmpR op_ne (pe_ix (r := rIxT K) ix_tup (pv 1) pe_int (fun _ _ => rfl)) pe_str (nomark _)))))
      (pss_one (ps_ret pe_bl))
      pss_nil)
    (pss_cons (ps_asg (pv 1) (pg_tup (by rfl) (pgs_cons (pg_name (i := 2) scIsSigns.nd rfl (.inl rfl)) (pgs_cons (pg_name (i := 3) scIsSigns.nd rfl (.inr rfl)) (pgs_cons (pg_name (i := 4) scIsSigns.nd rfl (.inl rfl)) (pgs_cons (pg_name (i := 5) scIsSigns.nd rfl (.inl rfl)) (pgs_cons (pg_name (i := 6) scIsSigns.nd rfl (.inl rfl)) pgs_nil)))))))
    (pss_cons (ps_if (pt_not (PW.pt (pw_and (pt_val (pe_mm (pv 0) Wc.cl dh hr (by decide) (pa_cons (pv 3) pa_nil))) (pw_and (pt_val (pe_d dwh hr (by decide) (by rfl) (pa_cons (pv 4) (pa_cons pe_int (pa_cons (pe_gi T.c_MOST_LETTERS) pa_nil))))) (pw_and1 (pt_val (pe_d dti hr (by decide) (by rfl) (pa_cons (pv 5) pa_nil))))))))
      (pss_one (ps_ret pe_bl))
      pss_nil)
    (pss_cons (ps_if (PW.pt (pw_or (pt_not (pt_val (pe_is T.isinstance (by rfl) (pv 6) T.tuple (by rfl) (Tn := "tuple") (by decide +kernel)))) (pw_or1 (pt_cmpR op_gt (pe_callB call_len_seq (by rfl) T.len PySem.boot_len (pa_cons (pv 6) pa_nil)) (pe_gi T.c_MOST_SIGNS) (nomark _)))))
      (pss_one (ps_ret pe_bl))
      pss_nil)
    (pss_cons (ps_if (pt_not (pt_val (pe_callB (cr_all rfl) (by rfl) T.all PyProof.Rows.boot_all (pa_cons (pe_lc (own := [("row", 8)]) (g := gName 8) (tt := tYes) rfl scIsSigns.nd (pi_sq (pv 6))
        (blkOk_by (own := [("row", 8)]) (N := ["works", "thing", "_", "place", "number", "time", "rows", "times", "row"]) (sc := defScope sIsSigns) (by decide +kernel))
        (fun _ _ _ _ _ => (pg_name (i := 8) scIsSigns.nd rfl (.inl rfl))) (fun _ _ _ _ _ => pts_nil)
        (fun _ _ _ _ _ => (pe_d dsa hr (by decide) (by rfl) (pa_cons (pv 0) (pa_cons (pv 3) (pa_cons (pv 8) pa_nil)))))) pa_nil))))
      (pss_one (ps_ret pe_bl))
      pss_nil)
    (pss_cons (ps_set (i := 7) scIsSigns.nd rfl (.inl rfl) (pe_op op_cat (pe_lc (own := [("row", 8)]) (g := gName 8) (tt := tYes) rfl scIsSigns.nd (pi_sq (pv 6))
        (blkOk_by (own := [("row", 8)]) (N := ["works", "thing", "_", "place", "number", "time", "rows", "times", "row"]) (sc := defScope sIsSigns) (by decide +kernel))
        (fun _ _ _ _ _ => (pg_name (i := 8) scIsSigns.nd rfl (.inl rfl))) (fun _ _ _ _ _ => pts_nil)
        (fun _ _ _ _ _ => (pe_ix (r := rIxT K) ix_tup (pv 8) pe_int (fun _ _ => rfl)))) (pe_lst (pa_cons (pv 5) pa_nil))))
    (pss_one (ps_ret (pe_cmpR (op_eqD hr.units) (pv 7) (pe_callB cr_sortedI (by rfl) T.sorted (by decide +kernel) (pa_cons (pv 7) pa_nil)) (nomark _))))))))))), ?_⟩
  obtain ⟨t, ty⟩ := kn.k0.1
  have kk := k H (Same.refl _)
  refine ⟨_, rfl, p, W, rfl, hw.wo, ?_⟩
  rcases tup_or H y 5 with ⟨xs, h, hl, et⟩ | ⟨et, hn⟩
  · obtain ⟨a, rfl, e⟩ := tupOf_is h
    obtain ⟨kx, hd⟩ := kn.parts xs h
    match xs, hl with
    | [x0, x1, x2, x3, x4], _ =>
      have e2 : signsB H ps (.ref a) = (isW x0 "signs" && ((nmIn x1 (ps.map Pt.pl) && (wholeB x2 1 40 && wholeB x3 0 9999)) && rowsB H ps x1 x3 x4)) := by
        unfold signsB
        rw [h]
      rw [e2] at kk k
      unfold isW at kk k
      refine ⟨_, rfl, .ref a, t, 5, rfl, ty, true, congrArg V.bl et, iteF ?_⟩
      refine ⟨_, rfl, a, _, 0, x0, rfl, rfl, SqT.of e, rfl, scal_w (hd rfl x0 rfl), _, rfl, ?_⟩
      cases h1 : decide (x0 = V.str "signs") with
      | false =>
        rw [h1, Bool.false_and] at kk
        exact iteT kk
      | true =>
        refine iteF ?_
        rw [h1, Bool.true_and] at kk k
        refine ⟨_, rfl, a, _, rfl, SqT.of e, rfl, _, _, rfl, _, _, rfl, _, _, rfl, _, _, rfl, _, _, rfl, rfl, ?_⟩
        obtain ⟨dx, tp, dp', tr, dr, tc, tm, dm, tl, e0, _⟩ := hw.wo.ex
        refine ⟨_, rfl, p, dx, _, rfl, e0, wof_no (by decide +kernel) (by decide +kernel) (by decide +kernel) (by decide +kernel) (by decide +kernel) (by decide +kernel) (by decide +kernel) (by decide +kernel), _, rfl, p, W, ps, x1, rfl, hw, (kx x1 (by simp)).1, fun H1 S1 => ⟨_, rfl, ?_⟩⟩
        have k1 := k H1 S1
        cases h2 : nmIn x1 (ps.map Pt.pl) with
        | false =>
          rw [h2, Bool.false_and, Bool.false_and] at k1
          exact iteF k1
        | true =>
          rw [h2, Bool.true_and] at k1 k
          obtain ⟨t2, ty2⟩ := ((kx x2 (by simp)).1.same S1).1
          obtain ⟨t3, ty3⟩ := ((kx x3 (by simp)).1.same S1).1
          obtain ⟨t4, ty4⟩ := ((kx x4 (by simp)).1.same S1).1
          refine iteT ⟨_, rfl, x2, t2, 1, 40, rfl, ty2, _, rfl, ?_⟩
          cases h3 : wholeB x2 1 40 with
          | false =>
            rw [h3, Bool.false_and, Bool.false_and] at k1
            exact iteF k1
          | true =>
            rw [h3, Bool.true_and] at k1 k
            refine iteT ⟨_, rfl, x3, t3, rfl, ty3, _, rfl, ?_⟩
            cases h4 : wholeB x3 0 9999 with
            | false =>
              rw [h4, Bool.false_and] at k1
              exact iteT k1
            | true =>
              rw [h4, Bool.true_and] at k1 k
              refine iteF ?_
              obtain ⟨s1, rfl, hs1⟩ : ∃ s1 : Str, x1 = .str s1 ∧ s1 ∈ ps.map Pt.pl := by
                cases x1 <;> first | exact ⟨_, rfl, of_decide_eq_true h2⟩ | cases h2
              obtain ⟨ti, rfl⟩ : ∃ ti : Int, x3 = .int ti := by
                cases x3 <;> first | exact ⟨_, rfl⟩ | cases h4
              refine ⟨_, rfl, x4, .ty "tuple", t4, .type "tuple", _, rfl, .ty _, ty4.q, ty4.isTuple, _, rfl, ?_⟩
              have st4 := tupOf_same (kx x4 (by simp)).1 S1
              cases hr4 : tupOf H x4 with
              | none =>
                rw [show rowsB H ps (.str s1) (.int ti) x4 = false from by simp [rowsB, hr4]] at k1
                rw [tupB_no (st4.trans hr4)]
                exact iteT k1
              | some rs =>
                have eR : rowsB H ps (.str s1) (.int ti) x4 = (decide (rs.length ≤ 12) && (rs.all (signAtB H ps s1) && decide ((rs.map (tmOf H) ++ [ti]).Pairwise (· ≤ ·)))) := by simp [rowsB, hr4]
                rw [eR] at k1 k
                rw [tupB_of (st4.trans hr4)]
                have kr := (kx x4 (by simp)).2 rs hr4
                obtain ⟨rt, rfl, et4⟩ := tupOf_is hr4
                have et1 := S1 _ _ et4
                refine iteF ⟨_, rfl, rt, rs, rfl, .inr (SqT.of et1), (rs.length : Int), 12, rfl, rfl, _, rfl, ?_⟩
                by_cases few : rs.length ≤ 12
                · rw [decide_eq_true few, Bool.true_and] at k1 k
                  rw [decide_eq_false (show ¬ ((rs.length : Int) > 12) by omega)]
                  refine iteF ?_
                  have hw1 := hw.same S1
                  refine ⟨_, rfl, rt, rs, rfl, .inr (SqT.of et1), fun J G hG wk D nD => ?_⟩
                  refine lc_acc wk nD (by omega) (fun i acc _ => acc = ((rs.take i).map (signAtB H ps s1)).map V.bl) rfl hG ?_ ?_
                  · rintro i v G0 G acc hi S eD hl rfl ⟨rfl, hx⟩ Fy Fn hy1 _
                    have kv := kr v (List.mem_of_getElem? hx)
                    refine ⟨rfl, ?_⟩
                    unfold tYes
                    refine iteT ⟨_, rfl, _, rfl, _, rfl, p, W, ps, s1, v, rfl, hw1.same S, hs1, kv.same (S1.trans S), fun G4 S4 => hy1 _ _ S4 ?_⟩
                    rw [signAtB_same kv.1 (S1.trans S), List.take_add_one, hx, List.map_append, List.map_append]
                    rfl
                  rintro H2 acc S2 eD rfl
                  rw [List.take_of_length_le (Nat.le_refl _)] at eD
                  refine ⟨D, _, rfl, SqL.of eD, _, rfl, ?_⟩
                  have k2 := k H2 (S1.trans S2)
                  have ea : (rs.map (signAtB H ps s1)).all id = rs.all (signAtB H ps s1) := by rw [List.all_map]; rfl
                  cases hall : rs.all (signAtB H ps s1) with
                  | false =>
                    rw [hall, Bool.false_and] at k2
                    rw [ea, hall]
                    exact iteT k2
                  | true =>
                    rw [hall, Bool.true_and] at k
                    rw [ea, hall]
                    refine iteF ?_
                    have et2 := S2 _ _ et1
                    have tms : ∀ r ∈ rs, ∃ (q2 : Addr) (ys : List V), r = .ref q2 ∧ H q2 = some (.tup (.int (tmOf H r) :: ys)) := fun r hr => by
                      have hz := List.all_eq_true.mp hall r hr
                      unfold signAtB at hz
                      rw [Bool.and_eq_true] at hz
                      obtain ⟨a2, z1, pt, z3, z4, rfl, e2, t2, _, _, w1⟩ := signB_is hz.1
                      cases z1 with
                      | int i =>
                        have e3 : tmOf H (.ref a2) = i := by
                          unfold tmOf
                          rw [t2]
                        exact ⟨a2, [.str pt.nm, z3, z4], rfl, by rw [e3]; exact e2⟩
                      | _ => cases w1
                    refine ⟨_, rfl, rt, rs, rfl, .inr (SqT.of et2), fun J G hG wk D2 nD2 => ?_⟩
                    refine lc_acc wk nD2 (by omega) (fun i acc _ => acc = ((rs.take i).map (tmOf H)).map V.int) rfl hG ?_ ?_
                    · rintro i v G0 G acc hi S eD hl rfl ⟨rfl, hx⟩ Fy Fn hy1 _
                      obtain ⟨q2, ys, rfl, eq2⟩ := tms v (List.mem_of_getElem? hx)
                      refine ⟨rfl, ?_⟩
                      unfold tYes
                      refine iteT ⟨_, rfl, q2, _, 0, .int (tmOf H (.ref q2)), rfl, rfl, SqT.of (S _ _ (S2 _ _ (S1 _ _ eq2))), atI_nat (j := 0) rfl, hy1 _ _ (Same.refl _) ?_⟩
                      rw [List.take_add_one, hx, List.map_append, List.map_append]
                      rfl
                    rintro H3 acc S3 eD2 rfl
                    rw [List.take_of_length_le (Nat.le_refl _)] at eD2
                    refine ⟨_, rfl, by show 1 ≤ sizeLine; decide, fun l nl => ?_⟩
                    have U1 := Same.laid (o := HO.lst [.int ti]) nl
                    have el : upd H3 l (.lst [.int ti]) l = some (.lst [.int ti]) := upd_same
                    generalize upd H3 l (.lst [.int ti]) = H4 at *
                    refine ⟨D2, l, _, _, rfl, rfl, U1 _ _ eD2, el, by rw [List.length_map, List.length_map]; exact Nat.le_trans (show rs.length + 1 ≤ 13 by omega) (by decide), fun M nM => ?_⟩
                    have eM : upd H4 M (.lst ((rs.map (tmOf H)).map V.int ++ [.int ti])) M = some (.lst ((rs.map (tmOf H) ++ [ti]).map V.int)) := by rw [upd_same, List.map_append]; rfl
                    have U2 := Same.laid (o := HO.lst ((rs.map (tmOf H)).map V.int ++ [.int ti])) nM
                    generalize upd H4 M (.lst ((rs.map (tmOf H)).map V.int ++ [.int ti])) = H5 at *
                    dsimp only [gName]
                    refine ⟨_, rfl, _, rfl, M, _, rfl, SqL.of eM, fun ns' o hp hs no => ?_⟩
                    have U3 := Same.laid (o := HO.lst (ns'.map V.int)) no
                    refine ⟨.list ((rs.map (tmOf H) ++ [ti]).map .int), .list (ns'.map .int), .lst (SqL.of (U3 _ _ eM)) (dp_intsL _), .lst (SqL.of upd_same) (dp_intsL _), shaped_ints _, shaped_ints _, ?_⟩
                    have ev : PyData.eqv (.list ((rs.map (tmOf H) ++ [ti]).map .int)) (.list (ns'.map .int)) = decide ((rs.map (tmOf H) ++ [ti]).Pairwise (· ≤ ·)) := by
                      simp only [PyData.eqv]
                      rw [eqvAll_int, rises_dec hp.symm hs]
                    rw [ev]
                    exact k _ (S1.trans (S2.trans (S3.trans (U1.trans (U2.trans U3)))))
                · rw [decide_eq_false few, Bool.false_and] at k1
                  rw [decide_eq_true (show ((rs.length : Int) > 12) by omega)]
                  exact iteT k1
  · have e2 : signsB H ps y = false := by
      unfold signsB
      split
      · rename_i e
        exact absurd rfl (hn _ e)
      · rfl
    rw [e2] at kk
    exact ⟨_, rfl, y, t, 5, rfl, ty, false, congrArg V.bl et, iteT kk⟩
end
end V10

set_option maxHeartbeats 8000000
namespace V10
open PySem PySem.Spec PyProof.Rows L2 Pw
section
variable {P : Program} {w : World} {K : PySem.W.Frag} {mg : Str → Option Value} {base : Heap} {C : Addr}
/-- a letter, of any thing -/
def spLetterS (C : Addr) (K : PySem.W.Frag) : Sp := fun vs H Q _ => ∃ p W ps cs y, vs = [.ref p, y] ∧ WoM K C H p W ps cs ∧ Kn2 K H y ∧ KnS K H y ∧ HdS H y ∧ ∀ H', Same H H' → Q (.bl (signsB H ps y || letterB H (ps.map Pt.pl) (cs.map Cm.nm) y)) H'
theorem d_letterS (A : At K mg "is_letter" sIsLetter) (ds : Def P w K mg base "is_signs" 8 ["works", "thing"] (spSignsA C K)) (do_ : Def P w K mg base "is_order" 6 ["works", "thing"] (spOrder C K)) (dt : Def P w K mg base "_is_terms" 6 ["works", "thing"] (spTerms C K))
    (da : Def P w K mg base "_is_answer" 6 ["works", "thing"] (spAnswer C K)) : Def P w K mg base "is_letter" 9 ["works", "thing"] (spLetterS C K) := by
  refine mkDef A scIsLetter (fun _ _ _ _ _ _ us hl => match us, hl with | [_, _], _ => rfl) (fun vs H Q E ⟨_, _, _, _, _, e, _⟩ => by rw [e]; rfl)
    (fun f cdv A out s H vs Q E hr h => ?_)
  obtain ⟨p, W, ps, cs, y, rfl, hw, kn, ks, hs, k⟩ := h
  refine ⟨_, (pss_one (ps_ret (pe_or (pe_d ds hr (by decide) (by rfl) (pa_cons (pv 0) (pa_cons (pv 1) pa_nil))) (pe_or (pe_d do_ hr (by decide) (by rfl) (pa_cons (pv 0) (pa_cons (pv 1) pa_nil))) (pe_or (pe_d dt hr (by decide) (by rfl) (pa_cons (pv 0) (pa_cons (pv 1) pa_nil))) (pe_one (pe_d da hr (by decide) (by rfl) (pa_cons (pv 0) (pa_cons (pv 1) pa_nil))))))))), ?_⟩
  refine ⟨_, rfl, _, rfl, p, W, ps, y, rfl, hw.wp, ks, fun H0 S0 => ⟨_, rfl, ?_⟩⟩
  have k0 := k H0 S0
  cases h0 : signsB H ps y with
  | true =>
    rw [h0, Bool.true_or] at k0
    exact iteT k0
  | false =>
  rw [h0] at k
  refine iteF ⟨_, rfl, _, rfl, p, W, ps, cs, y, rfl, hw.same S0, kn.same S0, fun H1 S1 => ⟨_, rfl, ?_⟩⟩
  rw [orderB_same kn S0]
  have k1 := k H1 (S0.trans S1)
  unfold letterB at k1 k
  cases h1 : orderB H (cs.map Cm.nm) y with
  | true =>
    rw [h1, Bool.true_or, Bool.false_or] at k1
    exact iteT k1
  | false =>
    refine iteF ⟨_, rfl, _, rfl, p, W, ps, y, rfl, hw.wp.same (S0.trans S1), kn.same (S0.trans S1), hs.same kn.1 (S0.trans S1), fun H2 S2 => ⟨_, rfl, ?_⟩⟩
    rw [termsB_same kn (S0.trans S1)]
    have k2 := k H2 ((S0.trans S1).trans S2)
    rw [h1, Bool.false_or, Bool.false_or] at k2
    cases h2 : termsB H (ps.map Pt.pl) y with
    | true =>
      rw [h2, Bool.true_or] at k2
      exact iteT k2
    | false =>
      refine iteF ⟨_, rfl, _, rfl, p, W, ps, y, rfl, hw.wp.same ((S0.trans S1).trans S2), kn.same ((S0.trans S1).trans S2), fun H3 S3 => ?_⟩
      rw [answerB_same kn ((S0.trans S1).trans S2)]
      have k3 := k H3 (((S0.trans S1).trans S2).trans S3)
      rw [h1, h2, Bool.false_or, Bool.false_or, Bool.false_or] at k3
      exact k3
end
/-- what begins with "signs" is no other letter -/
theorem no_letter {H : Hp} {pl ns : List Str} {y : V} (h : ∀ xs, tupOf H y = some xs → xs[0]? = some (.str "signs")) : letterB H pl ns y = false := by
  have n1 : isW (.str "signs") "do" = false := by decide +kernel
  have n2 : isW (.str "signs") "back" = false := by decide +kernel
  have n3 : isW (.str "signs") "term" = false := by decide +kernel
  have n4 : isW (.str "signs") "terms" = false := by decide +kernel
  have n5 : isW (.str "signs") "answer" = false := by decide +kernel
  unfold letterB orderB termsB answerB
  cases e : tupOf H y with
  | none => rfl
  | some xs =>
    have h0 := h xs e
    match xs, h0 with
    | [], h0 => cases h0
    | [_], _ => rfl
    | [_, _], h0 => cases h0; simp [n2, n3]
    | [_, _, _], h0 => cases h0; simp [n1]
    | [_, _, _, _], h0 => cases h0; simp [n4]
    | [_, _, _, _, _], _ => rfl
    | [_, _, _, _, _, _], h0 => cases h0; simp [n5]
    | _ :: _ :: _ :: _ :: _ :: _ :: _ :: _, _ => rfl
end V10

/-! Tuples of nothing multiplied, tuples turned round, (x,) == (text,), list(d.values()). -/
namespace Pw
open PySem PySem.Spec PyProof.Rows L2

/-! ### () * n -/
theorem tuple_mul0 (l : Addr) (n : Nat) (dd : Option Addr) (sl : Array (Option Value)) (x : Int) (u : Tok) (c0 : (decide (x < -(2 ^ 63)) || decide (x ≥ 2 ^ 63)) = false) :
    Meets (Builtin.«tuple.__mul__» ⟨[.ref l, .int x u], []⟩) (fun _ R s => s.heap.get? l = some { cls := .type "tuple", dict := dd, data := .seq #[] n, slots := sl } ∧ R (.ok (.ret (Value.ref l))) s) :=
  .of_wp fun prog w A R s h => by
    obtain ⟨hp, g, d, tk, os⟩ := s
    obtain ⟨hl, h⟩ := h
    have f1 := AutoSeq1.idx_int
    wp_walk using wpAny_loadPart' hl
    repeat (first
      | (refine wpAny_ite_false (decide_eq_false (by rw [c0]; exact Bool.false_ne_true)) ?_; wp_walk using wpAny_loadPart' hl)
      | (refine wpAny_ite_true (by simp) ?_; wp_walk using wpAny_loadPart' hl))
    exact ⟨_, rfl, h⟩
section
variable {X : Cx}
def rRep0 (K : PySem.W.Frag) : R2 := fun x y H Q => ∃ l k, x = .ref l ∧ y = .int k ∧ SqT K H l [] ∧ 2 ≤ k ∧ k ≤ 1000 ∧ Q (.ref l) H
theorem op_rep0 : OpR X (binaryOp .Mult) (rRep0 X.K) := by
  intro pins s σ H x y v u Q I rx ry h
  obtain ⟨l, k, rfl, rfl, hT, h1, h2, q⟩ := h
  cases rx
  obtain ⟨t, rfl⟩ := ry
  obtain ⟨its, r, ⟨⟨cls, dd, data, sl⟩, ho, hc, n, hd⟩, hs⟩ := I.tuple hT
  simp only at hc hd
  subst hc hd
  cases r
  have c0 : (decide (k < -(2 ^ 63)) || decide (k ≥ 2 ^ 63)) = false := by
    rw [decide_eq_false (by omega), decide_eq_false (by omega)] <;> rfl
  exact wpAny_binaryOp_repeat_ref (T := "tuple") (U := "int") (by decide) ⟨_, ho, rfl⟩ (fun s' => typeIs_int s' k t) noFill_tuple_mul F.fills_int_mul F.slot_int_rmul repeat_tuple F.slot_int_index.lookup
    (call_meets F.slot_int_rmul (typeIs_int s k t) F.entry_int_rmul (F.args_int_rmul_2 _ _) (int_rmul_tuple k t l #[] n dd sl)
      ⟨ho, rfl, ⟨_, ho, rfl⟩, call_meets F.slot_tuple_mul ⟨_, ho, rfl⟩ F.entry_tuple_mul (F.args_tuple_mul_2 _ _) (tuple_mul0 l n dd sl k t c0) ⟨ho, ⟨.ref l, H, I, rfl, q⟩⟩⟩)
end

/-! ### t[::-1] -/
section
variable {prog : Program} {w : World} {A : Around} {E : Value → Shared → Prop} {s : Shared}
theorem sliceApplied_rev {sl : Addr} {u : Tok} {n : Nat} {Q : Int × Int × Nat → Shared → Prop} (hs : s.heap.IsSliceOf sl .none .none (.int (-1) u))
    (h : Q ((n : Int) - 1, -1, n) s) : wpAny (model prog w) A (Builtin.Slice.sliceApplied (.ref sl) (pure (n : Int))) Q E s := by
  obtain ⟨os, hos, hcs, hds⟩ := id hs
  unfold Builtin.Slice.sliceApplied Builtin.Slice.sliceFields
  refine wpAny_bind (wpAny_bind (wpAny_field hos hds (x := .none) rfl (wpAny_bind (wpAny_field hos hds (x := .none) rfl (wpAny_bind (wpAny_field hos hds (x := .int (-1) u) rfl (wpAny_pure ?_)))))))
  refine wpAny_bind (HT.slicePart_ (IsPart.int _ _) ?_)
  show wpAny _ _ (if ((-1 : Int) == 0) = true then _ else _) _ _ s
  rw [if_neg (by decide)]
  refine wpAny_bind (HT.slicePart_ IsPart.none (wpAny_bind (HT.slicePart_ IsPart.none (wpAny_bind (wpAny_pure ?_)))))
  have e1 : Builtin.Slice.sliceAdjust none none (-1) (n : Int) = ((n : Int) - 1, -1) := by
    unfold Builtin.Slice.sliceAdjust
    rfl
  have e2 : Builtin.Slice.slicePlaces ((n : Int) - 1) (-1) (-1) = n := by
    unfold Builtin.Slice.slicePlaces
    have h1 : ¬ ((-1 : Int) > 0) := by decide
    rw [if_neg h1]
    by_cases hn : (n : Int) - 1 > -1
    · rw [if_pos hn, show (- -1 : Int) = 1 by decide, Int.ediv_one]
      omega
    · rw [if_neg hn]
      omega
  show wpAny _ _ (match Builtin.Slice.sliceAdjust none none (-1) (n : Int) with | (lo, hi) => pure (lo, (-1 : Int), Builtin.Slice.slicePlaces lo hi (-1))) _ _ s
  rw [e1]
  show wpAny _ _ (pure ((n : Int) - 1, (-1 : Int), Builtin.Slice.slicePlaces ((n : Int) - 1) (-1) (-1))) _ _ s
  rw [e2]
  exact wpAny_pure h
theorem filterMap_same {α β : Type} {f g : α → Option β} : ∀ l : List α, (∀ m ∈ l, f m = g m) → l.filterMap f = l.filterMap g
  | [], _ => rfl
  | a :: l, h => by
    rw [List.filterMap_cons, List.filterMap_cons, h a (by simp), filterMap_same l fun m hm => h m (by simp [hm])]
theorem pick_rev (xs : Array Value) : ((List.range xs.size).filterMap fun (m : Nat) => xs[(((xs.size : Nat) : Int) - 1 + (m : Int) * -1).toNat]?).toArray = xs.toList.reverse.toArray := by
  have e : (List.range xs.size).filterMap (fun (m : Nat) => xs[(((xs.size : Nat) : Int) - 1 + (m : Int) * -1).toNat]?) = ((List.range xs.size).map fun k => xs.size - 1 - k).filterMap (xs[·]?) := by
    rw [List.filterMap_map]
    refine filterMap_same _ fun m hm => ?_
    have := List.mem_range.mp hm
    show xs[(((xs.size : Nat) : Int) - 1 + (m : Int) * -1).toNat]? = xs[xs.size - 1 - m]?
    have : (((xs.size : Nat) : Int) - 1 + (m : Int) * -1).toNat = xs.size - 1 - m := by omega
    rw [this]
  rw [e, PySem.W.krv_range, List.filterMap_reverse, PySem.W.krv_all]
theorem getItem_tuple_rev {t sl : Addr} {items : Array Value} {u : Tok} {Q : Value → Shared → Prop} (ht : IsTup s.heap t items) (hs : s.heap.IsSliceOf sl .none .none (.int (-1) u))
    (h : Q (.ref s.heap.objs.size) { s with heap := s.heap.push { cls := .type "tuple", data := .seq items.toList.reverse.toArray } })
    (hsz : items.size ≤ sizeLine) : wpAny (model prog w) A (getItem (.ref t) (.ref sl)) Q E s := by
  have htake : sizeOk (.seq items.toList.reverse.toArray) := by
    show items.toList.reverse.toArray.size ≤ sizeLine
    rw [List.size_toArray, List.length_reverse, Array.length_toList]
    omega
  obtain ⟨os, hos, hcs, hds⟩ := id hs
  have hTs : s.TypeIs (.ref sl) "slice" := ⟨os, hos, hcs⟩
  unfold getItem
  try with_reducible refine wpAny_holding ?_
  first | refine wpAny_bind (wpAny_pure ?_) | skip
  refine wpAny_bind (wpAny_sequenceKey ht.typeIs (by decide) ?_)
  refine wpAny_bind (wpAny_callSpecial?_slot (name := Str.ofString "__getitem__") ht.typeIs PyProof.Rows.slot_tuple_getitem
    (wpAny_call_entry PyProof.Rows.slot_tuple_getitem ht.typeIs entry_tuple_getitem ?_ (args_tuple_getitem _ _)))
  show wpAny _ _ (Builtin.Tuple.tupleItemsOf (.ref t) >>= _) _ _ s
  refine wpAny_bind (tupleItemsOf_ ht ?_)
  refine wpAny_bind (wpAny_typeOf hTs ?_)
  rw [if_pos (by decide)]
  refine wpAny_bind (sliceApplied_rev hs ?_)
  have hno : ¬ ((((items.size : Nat) : Int) - 1 == 0 && (-1 : Int) == 1 && items.size == items.size) = true) := by
    intro q
    rw [Bool.and_eq_true, Bool.and_eq_true] at q
    exact absurd q.1.2 (by decide)
  show wpAny _ _ (if (((items.size : Nat) : Int) - 1 == 0 && (-1 : Int) == 1 && items.size == items.size) = true then _ else _) _ _ s
  rw [if_neg hno, pick_rev]
  first
    | exact wpAny_bind (m := Builtin.Tuple.tupleExact _) (wpAny_newObj_type (wpAny_pure ⟨_, rfl, wpAny_pure h⟩) htake)
    | exact wpAny_bind (m := Builtin.Tuple.tupleExact _) (wpAny_newObj_type (wpAny_bind (wpAny_pure (wpAny_pure ⟨_, rfl, wpAny_pure h⟩))) htake)
    | exact wpAny_bind (wpAny_bind (m := Builtin.Tuple.tupleExact _) (wpAny_newObj_type (wpAny_pure (wpAny_pure ⟨_, rfl, wpAny_pure h⟩)) htake))
    | exact wpAny_bind (wpAny_bind (m := Builtin.Tuple.tupleExact _) (wpAny_newObj_type (wpAny_pure ⟨_, rfl, wpAny_pure h⟩) htake))
end
section
variable {X : Cx}
def tRevT (K : PySem.W.Frag) (te : TE) : TE := fun σ H Q => te σ H fun x H1 => ∃ a xs, x = .ref a ∧ SqT K H1 a xs ∧ ∀ p, H1 p = none → Q (.ref p) (upd H1 p (.tup xs.reverse))
theorem pe_revT {e : Expr} {te : TE} {k : Nat} {p1 p2 p3 pos : Pos} (he : PE X e te) : PE X (.Subscript e (.Slice none none (some (.UnaryOp .USub (.Constant (.int 1) k p1) p2)) p3) pos) (tRevT X.K te) := by
  refine ⟨fun pins s σ H Q I h => ?_⟩
  refine Subscript_ (thn (he.run pins s σ H _ I h) fun v s1 ⟨x, H1, I1, r1, q1⟩ => ?_)
  obtain ⟨a, xs, ex, hx, q⟩ := q1
  subst ex
  cases r1
  have hst : PO X (some (.UnaryOp .USub (.Constant (.int 1) k p1) p2)) (tPart (tUn (rU fun i => .int (-i)) (tC (.int 1)))) := po_some (pe_un un_neg pe_int)
  refine wpAny_Slice (thn (po_none.run pins s1 σ H1 (fun o H2 => o = none ∧ H2 = H1) I1 ⟨rfl, rfl⟩) fun vl s2 ⟨l, H2, I2, pl, el, e2⟩ => ?_)
  subst el e2
  refine thn (po_none.run pins s2 σ H2 (fun o H3 => o = none ∧ H3 = H2) I2 ⟨rfl, rfl⟩) fun vu s3 ⟨u, H3, I3, pu, eu, e3⟩ => ?_
  subst eu e3
  refine thn (hst.run pins s3 σ H3 (fun o H4 => o = some (-1) ∧ H4 = H3) I3 ⟨1, rfl, -1, rfl, rfl, rfl⟩) fun vs s4 ⟨o, H4, I4, ps, eo, e4⟩ => ?_
  subst eo e4
  cases pl
  cases pu
  cases ps with
  | int i tk =>
  have I5 : Inv X pins σ H4 { s4 with heap := s4.heap.push { cls := .type "slice", data := .fields #[.none, .none, .int (-1) tk] } } := I4.kept (t' := s4.toks) fun b ob q => Heap.get?_push_of_some _ q
  obtain ⟨its, r, ht, hz⟩ := I5.tuple hx
  have hlen := r.length
  show wpAny (model X.prog X.w) X.A (subscriptTail e (.Slice none none (some (.UnaryOp .USub (.Constant (.int 1) k p1) p2)) p3) (.ref a) (.ref s4.heap.objs.size)) (EP X pins σ Q) X.xe { s4 with heap := s4.heap.push { cls := .type "slice", data := .fields #[.none, .none, .int (-1) tk] } }
  refine tail_any (ops := [.ref a, .ref s4.heap.objs.size]) ht.typeIs PyProof.Rows.slot_tuple_getitem.lookup ?_ (by with_unfolding_all rfl)
  refine getItem_tuple_rev ht (Heap.IsSliceOf.new _ _ _ _) ?_ (by rw [List.size_toArray]; omega)
  refine ⟨.ref _, _, I5.laid (t' := s4.toks) (o := .tup xs.reverse) (fun b ob q => Heap.get?_push_of_some _ q) (Nat.le_refl _) ?_, rfl, q _ (I5.hok.fresh (Nat.le_refl _))⟩
  exact ⟨by rw [List.length_reverse]; exact hz, _, r.reverse, IsTup.new _ _⟩
end

/-! ### (x,) == (text,) -/
section
variable {prog : Program} {w : World} {A : Around} {E : Value → Shared → Prop} {s : Shared}
theorem dict_eq_declines_str (l : Addr) (dat : Data) (dd : Option Addr) (sl : Array (Option Value)) (b : Str) (u : Tok) :
    Meets (Builtin.«dict.__eq__» ⟨[.ref l, .str b u], []⟩) (fun _ R s => s.heap.get? l = some { cls := .type "dict", dict := dd, data := dat, slots := sl } ∧ R (.ok (.ret .notImplemented)) s) :=
  .of_wp fun prog w A R s h => by
    obtain ⟨hl, h⟩ := h
    have hT : s.TypeIs (.ref l) "dict" := ⟨_, hl, rfl⟩
    show wpAny _ _ (Builtin.Dict.dictSlotArgs "__eq__" ⟨[.ref l, .str b u], []⟩ >>= _) _ _ s
    refine wpAny_bind ?_
    unfold Builtin.Dict.dictSlotArgs
    refine wpAny_bind (wpAny_notOrdered_dict hT ?_)
    show wpAny _ _ (pure (Value.ref l, Value.str b u)) _ _ s
    refine wpAny_pure ?_
    refine wpAny_bind (wpAny_isInstance (T := "str") (typeIs_str s b u) F.sub_str_dict ?_)
    simp only [Bool.not_false, if_true]
    exact wpAny_bind (wpAny_rule (wpAny_pure ⟨_, rfl, h⟩))
theorem str_eq_declines_dict (b : Str) (u : Tok) (l : Addr) (c : Value) (es : Array DictEntry) (ep : Nat) (dd : Option Addr) (sl : Array (Option Value)) :
    Meets (Builtin.«str.__eq__» ⟨[.str b u, .ref l], []⟩) (fun _ R s => s.heap.get? l = some { cls := c, dict := dd, data := .dict es ep, slots := sl } ∧ R (.ok (.ret .notImplemented)) s) :=
  .of_wp fun prog w A R s h => by obtain ⟨hp, g, d, tk, os⟩ := s; obtain ⟨hl, h⟩ := h; wp_walk using wpAny_loadPart' hl, wpAny_load hl; exact ⟨_, rfl, h⟩
theorem rc_dict_str {l : Addr} {es : Array DictEntry} {ep : Nat} {dd : Option Addr} {sl : Array (Option Value)} (b : Str) (u : Tok) (ho : s.heap.get? l = some { cls := .type "dict", dict := dd, data := .dict es ep, slots := sl }) (hu : A.units < cLine) : SeqAt.RcAt A s (.ref l) (.str b u) false := fun prog w E Q h => by
  exact SeqAt.rc_eq_decline_or (k := false) ⟨_, ho, rfl⟩ (typeIs_str s b u) (by decide) F.sub_str_dict F.slot_dict_eq F.slot_str_eq_refl
    (fun _ hq => call_meets F.slot_dict_eq ⟨_, ho, rfl⟩ F.entry_dict_eq (F.args_dict_eq_2 _ _) (dict_eq_declines_str l _ dd sl b u) ⟨ho, hq⟩)
    (fun _ hq => call_meets F.slot_str_eq_refl (typeIs_str s b u) F.entry_str_eq (F.args_str_eq_2 _ _) (str_eq_declines_dict b u l (.type "dict") es ep dd sl) ⟨ho, hq⟩)
    (fun _ hq => wpAny_of_eq (rfl : isSame (.ref l) (.str b u) = pure false) hq) (.inr hu) h
theorem eq_dict_str {l : Addr} {es : Array DictEntry} {ep : Nat} {dd : Option Addr} {sl : Array (Option Value)} (b : Str) (u : Tok) (ho : s.heap.get? l = some { cls := .type "dict", dict := dd, data := .dict es ep, slots := sl }) (hu : A.units < cLine) : SeqAt.EqAt A s (.ref l) (.str b u) false := fun prog w E Q h => by
  unfold eqBool
  refine wpAny_holding ?_
  refine wpAny_ite_split (fun hab => absurd (eq_of_beq hab) nofun) (fun _ => ?_)
  exact wpAny_bind (rc_dict_str b u ho hu prog w E _ (wpAny_truthy_bool h))
end
/-- (x,) == (text,): no error as x -/
def rEqH (K : PySem.W.Frag) : R2 := fun x y H Q => ∃ a b z t st, x = .ref a ∧ y = .ref b ∧ SqT K H a [z] ∧ SqT K H b [.str st] ∧ Ty K H z t ∧ (∀ D, t ≠ .ref D) ∧ Q (.bl (decide (z = .str st))) H
theorem op_eqH {X : Cx} (hu : X.A.units + 64 < cLine) : OpR X (compareOp .Eq) (rEqH X.K) := by
  intro pins s σ H x y v u Q I rx ry h
  obtain ⟨a, b, z, t, st, rfl, rfl, ha, hb, ty, nt, q⟩ := h
  cases rx
  cases ry
  obtain ⟨us, r1, p1, _⟩ := I.tuple ha
  obtain ⟨ws, r2, p2, _⟩ := I.tuple hb
  obtain ⟨u1, rfl, q1⟩ := vals1 r1
  obtain ⟨u2, rfl, q2⟩ := vals1 r2
  obtain ⟨k2, rfl⟩ := q2
  have he : SeqAt.EqAt X.A.in1 s u1 (.str st k2) (decide (z = .str st)) := by
    have hu1 : X.A.in1.units < cLine := by
      show X.A.units + 1 < cLine
      omega
    cases ty with
    | non =>
      cases q1
      exact SeqAt.EqAt.none_str _ _
    | bl c =>
      cases q1
      exact SeqAt.EqAt.bool_str _ _ _
    | int i =>
      obtain ⟨k1, rfl⟩ := q1
      exact SeqAt.EqAt.int_str _ _ _ _
    | str s1 =>
      obtain ⟨k1, rfl⟩ := q1
      have e : decide (V.str s1 = V.str st) = (s1 == st) := by
        by_cases h : s1 = st <;> simp [h]
      rw [e]
      exact SeqAt.EqAt.str_str _ _ _ _
    | lst e =>
      cases q1
      obtain ⟨its, r, ht, hz⟩ := I.list (SqL.of e)
      exact SeqAt.EqAt.list_str _ _ ht.isList hu1
    | tup e =>
      cases q1
      obtain ⟨its, r, ht, hz⟩ := I.tuple (SqT.of e)
      exact SeqAt.EqAt.tuple_str _ _ ht hu1
    | dct e =>
      cases q1
      obtain ⟨hz, hs0, vs, kv, ob, es, ep, ho, hc, hd, _⟩ := I.hok _ _ e
      obtain ⟨cls, dd, data, sl⟩ := ob
      simp only at hd
      have hcc : cls = .type "dict" := hc.1
      subst hcc hd
      exact eq_dict_str _ _ ho hu1
    | exc e ed c => exact absurd rfl (nt _)
  have e : ((List.range (min [u1].toArray.size [Value.str st k2].toArray.size)).all (fun _ => decide (z = .str st)) && [u1].toArray.size == [Value.str st k2].toArray.size) = decide (z = .str st) := by
    simp
  refine SeqAt.RcAt.tuples (e := fun _ => decide (z = .str st)) p1 p2 (by omega) (fun j h1 h2 => ?_) X.prog X.w X.xe _ ?_
  · have : j = 0 := by simp at h1; omega
    subst this
    exact he
  · rw [e]
    exact ⟨.bl _, H, I, rfl, q⟩
/-- () == (text,) -/
def rEqHE (K : PySem.W.Frag) : R2 := fun x y H Q => ∃ a b st, x = .ref a ∧ y = .ref b ∧ SqT K H a [] ∧ SqT K H b [.str st] ∧ Q (.bl false) H
theorem op_eqHE {X : Cx} (hu : X.A.units + 64 < cLine) : OpR X (compareOp .Eq) (rEqHE X.K) := by
  intro pins s σ H x y v u Q I rx ry h
  obtain ⟨a, b, st, rfl, rfl, ha, hb, q⟩ := h
  cases rx
  cases ry
  obtain ⟨us, r1, p1, _⟩ := I.tuple ha
  obtain ⟨ws, r2, p2, _⟩ := I.tuple hb
  cases r1
  obtain ⟨u2, rfl, q2⟩ := vals1 r2
  refine SeqAt.RcAt.tuples (e := fun _ => true) p1 p2 (by omega) (fun j h1 h2 => absurd h1 (by simp)) X.prog X.w X.xe _ ?_
  exact ⟨.bl _, H, I, rfl, q⟩
/-- (x,) or () == (text,) -/
theorem op_or {X : Cx} {o : Value → Value → Sem Value} {r1 r2 : R2} (h1 : OpR X o r1) (h2 : OpR X o r2) : OpR X o fun x y H Q => r1 x y H Q ∨ r2 x y H Q := by
  intro pins s σ H x y v u Q I rx ry h
  rcases h with h | h
  · exact h1 pins s σ H x y v u Q I rx ry h
  · exact h2 pins s σ H x y v u Q I rx ry h

/-! ### list(d.values()) -/
section
variable {X : Cx} {e : Expr} {te : TE} {p apos cpos pos : Pos}
def tListVals (te : TE) : TE := fun σ H Q => te σ H fun x H1 => ∃ (d : Addr) (kvs : List (Key × V)), x = .ref d ∧ H1 d = some (.dK kvs) ∧ ∀ q, H1 q = none → Q (.ref q) (upd H1 q (.lst (kvs.map fun kv => kv.2)))
theorem pe_listVals (hc : X.calm = true) (he : PE X e te) (hg : Gl X "list") (hm : X.mg "list" = none) (hv : bootBuiltins "list" = some (.type "list")) (hbase : attributeBase e "values" X.env (eval e X.env) = eval e X.env := by rfl) (hline : (apos.endLine == cpos.line) = true := by rfl)
    (hs : starEach [.Call (.Attribute e "values" apos) [] [] cpos] X.env = (false, eval (.Call (.Attribute e "values" apos) [] [] cpos) X.env) :: starEach [] X.env := by rfl) :
    PE X (.Call (.Name "list" p) [.Call (.Attribute e "values" apos) [] [] cpos] [] pos) (tListVals te) := by
  refine ⟨fun pins s σ H Q I hq => ?_⟩
  refine wpAny_Call_Name_kw (ld_blt I hg hm hv ?_)
  refine PyProof.Rows.callWith_type1 ?_ hs rfl
  rw [hs]
  show wpAny _ _ (spliced ((false, eval (.Call (.Attribute e "values" apos) [] [] cpos) X.env) :: backTo pos (starEach [] X.env))) _ _ s
  refine Calls.spliced_cons ?_
  refine wpAny_Call_method (T := "dict") (id := "dict.values") hbase rfl hline F.plainAttrs_dict F.slot_dict_values F.type_dict_values (thn (he.run pins s σ H _ I hq) fun u s1 ⟨x, H1, I1, rx, d, kvs, ex, hd, q⟩ => ?_)
  subst ex
  obtain rfl : u = Value.ref d := rx
  obtain ⟨hz, hs0, vs, kv, hdo⟩ := I1.hok d _ hd
  obtain ⟨ep, hat⟩ := hdo.dictAt
  have lk : kvs.length = vs.length := Paired.length kv
  have I2 : Inv X pins σ H1 { s1 with heap := s1.heap.push { cls := .type "dict_values", data := .fields #[.ref d] } } := I1.kept (t' := s1.toks) fun b ob q => Heap.get?_push_of_some _ q
  refine ⟨hdo.typeIs, hdo.mapOf.noDict, ?_⟩
  show wpAny _ _ (callWith cpos (.builtin "dict.values") [.ref d] [] []) _ X.xe s1
  refine method_meetsIn F.slot_dict_values F.entry_dict_values rfl (PySem.evalArgs_none ⟨rfl, hdo.typeIs, F.args_dict_values_1 _, _, meets_dict_values (mixKind X.prog X.w) d hs0, ⟨vs, hdo⟩, ?_⟩)
  refine Calls.spliced_nil ?_
  refine PySem.W.kdl_call (PySem.W.kdl_values (knd := mixKind X.prog X.w) (kvs := vs) (ep := ep)) (I1.ok.hd hc) ⟨⟨_, Heap.get?_push_size _ rfl, rfl, rfl⟩, hat.push _⟩ (by omega) fun h' tk acc' c' hkeep hS hacc => ?_
  refine ⟨.ref _, _, I2.laid (o := .lst (kvs.map fun kv => kv.2)) hkeep (Nat.le_refl _) (show ObjOk X.prog X.w _ _ _ (.lst (kvs.map fun kv => kv.2)) from ⟨?_, acc'.toList, c', ?_, ?_⟩), rfl, q _ (I1.hok.fresh (by
    show s1.heap.objs.size ≤ _
    simp [Heap.push]))⟩
  · rw [List.length_map]; exact hz
  · have el : acc'.toList.length = acc'.size := by simp
    refine vals_of_at (by rw [List.length_map, el, hacc.1]; omega) fun j x w h1 h2 => ?_
    obtain ⟨k, hky⟩ := hacc.2 j w (by rw [← Array.getElem?_toList]; exact h2)
    rw [List.getElem?_map] at h1
    obtain ⟨pk, e1, rfl⟩ := Option.map_eq_some_iff.mp h1
    obtain ⟨qv, g1, g2, g3⟩ := LiI.paired_get kv e1
    rw [hky] at g1
    cases g1
    exact g3
  · rw [Array.toArray_toList]; exact hS
end
end Pw

set_option maxHeartbeats 8000000
namespace V10
open PySem PySem.Spec PyProof.Rows L2 Pw
/-! ### things that are shown -/
def Shown (K : PySem.W.Frag) (H : Hp) (y : V) : Prop := ∃ d n s, Shw K H y d n s ∧ (∀ a, y = .ref a → 0 < d) ∧ n ≤ 1000000 ∧ d ≤ 60
theorem Shown.same {K : PySem.W.Frag} {H H' : Hp} {y : V} (S : Same H H') (h : Shown K H y) : Shown K H' y := let ⟨d, n, s, a, b, c, e⟩ := h; ⟨d, n, s, Shw.same S a, b, c, e⟩
theorem same_wo {H H' : Hp} (S : Same H H') (a : Addr) : Same (wo H a) (wo H' a) := fun c o e => by
  by_cases z : c = a
  · unfold wo at e
    rw [if_pos z] at e
    cases e
  · exact (wo_ne z).trans (S _ _ ((wo_ne z).symm.trans e))
theorem OkName.rep {s : Str} (h : OkName s) : (reprText s).length ≤ 82 := by
  have h1 : (decide (1 ≤ s.length ∧ s.length ≤ 8) && s.cps.toList.all fun c => decide (97 ≤ c ∧ c ≤ 122)) = true := h.b
  rw [Bool.and_eq_true, List.all_eq_true] at h1
  have h2 := of_decide_eq_true h1.1
  have h3 := PySem.StrLaws.reprText_len s fun c hc => by
    have := of_decide_eq_true (h1.2 c hc)
    have : c < 1000 := by omega
    exact Nat.lt_trans this (by decide)
  omega
theorem small_log {i : Int} (h0 : 0 ≤ i) (h1 : i ≤ 99999) : i.natAbs.log2 < 1920 := by
  have h2 : i.natAbs < 2 ^ 200 := Nat.lt_of_le_of_lt (show i.natAbs ≤ 99999 by omega) (by decide)
  rcases Nat.eq_zero_or_pos i.natAbs with z | z
  · rw [z]; decide
  · exact Nat.lt_trans ((Nat.log2_lt (by omega)).mpr h2) (by decide)
theorem shw_pt {K : PySem.W.Frag} {H : Hp} {q : Addr} {pt : Pt} (g : GoodP pt) (e : H q = some (.tup (fP pt))) : ∃ t, Shw K H (.ref q) 1 273 t := by
  have hk : (reprText (kd pt.sw)).length ≤ 100 := by cases pt.sw <;> decide +kernel
  exact ⟨_, Shw.tup (n := 270) (d := 0) e (.cons (n := 82) (m := 186) (d := 0) (e := 0) (.str _ 82 g.nm.rep) (.cons (n := 82) (m := 102) (d := 0) (e := 0) (.str _ 82 g.pl.rep) (.cons (n := 100) (m := 0) (d := 0) (e := 0) (.str _ 100 hk) .nil)))⟩
theorem shw_pts {K : PySem.W.Frag} {H : Hp} {vs : List V} {ps : List Pt} (h : Al fP H vs ps) (g : ∀ pt ∈ ps, GoodP pt) : ∃ d t, d ≤ 1 ∧ ShwL K H vs d (275 * ps.length) t := by
  induction h with
  | nil => exact ⟨0, [], by decide, .nil⟩
  | @cons p vs r rs e t ih =>
    obtain ⟨d, ts, hd, h1⟩ := ih fun x hx => g x (List.mem_cons_of_mem _ hx)
    obtain ⟨t2, h2⟩ := shw_pt (K := K) (g r List.mem_cons_self) e
    have e : 275 * (r :: rs).length = 273 + 2 + 275 * rs.length := by rw [List.length_cons]; omega
    exact ⟨max 1 d, _, by omega, by rw [e]; exact .cons h2 h1⟩
theorem al_wo {α : Type} {f : α → List V} {H : Hp} {D : Addr} {us vs : List V} {rs : List α} (h : Al f H vs rs) (e : H D = some (.lst us)) : Al f (Pw.wo H D) vs rs :=
  h.imp fun q xs eq => wo_of (fun z => by rw [z, e] at eq; cases eq) eq
/-- the points, as a thing -/
theorem shown_pts {K : PySem.W.Frag} {H : Hp} {b : Addr} {ps : List Pt} (h : LT fP H b ps) (g : GoodPs ps) : Shown K H (.ref b) := by
  obtain ⟨vs, e, al⟩ := h.ex
  obtain ⟨d, ts, hd, sh⟩ := shw_pts (K := K) al g.all
  have l := g.len
  exact ⟨d + 1, 275 * ps.length + 2, _, .lst e sh, fun _ _ => Nat.succ_pos _, by omega, by omega⟩
/-- of no class of the program's -/
def NoOwn (K : PySem.W.Frag) (C : Addr) : Prop := ∀ t ∈ ["NoneType", "bool", "int", "str", "list", "tuple", "dict"], PySem.W.kitOne K (.type t) (.ref C) = some false
/-- a simple thing -/
def Scl (x : V) : Prop := x = .non ∨ (∃ s : Str, x = .str s ∧ Short (.str s)) ∨ ∃ i, x = .int i
theorem sh_ref {a : Addr} : Short (.ref a) := fun s e => by cases e
theorem Scl.k0 {K : PySem.W.Frag} {H : Hp} {x : V} (h : Scl x) : Kn0 K H x := by
  rcases h with rfl | ⟨s, rfl, h⟩ | ⟨i, rfl⟩
  · exact ⟨⟨_, .non⟩, fun s e => by cases e⟩
  · exact ⟨⟨_, .str s⟩, h⟩
  · exact ⟨⟨_, .int i⟩, fun s e => by cases e⟩
theorem Scl.no {H : Hp} {x : V} (h : Scl x) : tupOf H x = none := by
  rcases h with rfl | ⟨s, rfl, h⟩ | ⟨i, rfl⟩ <;> rfl
theorem Scl.w {x : V} (h : Scl x) : x = .non ∨ (∃ s : Str, x = .str s) ∨ ∃ i, x = .int i := by
  rcases h with rfl | ⟨s, rfl, h⟩ | ⟨i, rfl⟩
  · exact .inl rfl
  · exact .inr (.inl ⟨s, rfl⟩)
  · exact .inr (.inr ⟨i, rfl⟩)
/-- a thing as it may stand at the head of a tuple -/
def Hd (K : PySem.W.Frag) (H : Hp) (x : V) : Prop := ∃ t, Ty K H x t ∧ ∀ D, t ≠ .ref D
theorem Hd.same {K : PySem.W.Frag} {H H' : Hp} {x : V} (h : Hd K H x) (S : Same H H') : Hd K H' x := let ⟨t, ty, n⟩ := h; ⟨t, ty.same S, n⟩
theorem Scl.hd {K : PySem.W.Frag} {H : Hp} {x : V} (h : Scl x) : Hd K H x := by
  rcases h with rfl | ⟨s, rfl, h⟩ | ⟨i, rfl⟩
  · exact ⟨_, .non, fun D e => by cases e⟩
  · exact ⟨_, .str s, fun D e => by cases e⟩
  · exact ⟨_, .int i, fun D e => by cases e⟩
/-- what the law tries -/
structure KnT (K : PySem.W.Frag) (H : Hp) (y : V) : Prop where
  k2 : Kn2 K H y
  n2 : ∀ xs, tupOf H y = some xs → xs.length ≠ 2
  rows : ∀ xs, tupOf H y = some xs → ∀ x ∈ xs, ∀ rs, tupOf H x = some rs → ∀ r ∈ rs, Kn1 K H r
  hd : ∀ xs, tupOf H y = some xs → ∀ x, xs[0]? = some x → Hd K H x
theorem KnT.same {K : PySem.W.Frag} {H H' : Hp} {y : V} (h : KnT K H y) (S : Same H H') : KnT K H' y where
  k2 := h.k2.same S
  n2 := fun xs e => h.n2 xs ((tupOf_same h.k2.1 S).symm.trans e)
  rows := fun xs e x hx rs er r hr => by
    have e' := (tupOf_same h.k2.1 S).symm.trans e
    exact (h.rows xs e' x hx rs ((tupOf_same ((h.k2.2 xs e').1 x hx).1 S).symm.trans er) r hr).same S
  hd := fun xs e x hx => (h.hd xs ((tupOf_same h.k2.1 S).symm.trans e) x hx).same S
theorem KnT.ks {K : PySem.W.Frag} {H : Hp} {y : V} (h : KnT K H y) : KnS K H y where
  k0 := h.k2.1
  parts := fun xs e => ⟨fun x hx => ⟨((h.k2.2 xs e).1 x hx).1, fun rs er r hr => h.rows xs e x hx rs er r hr⟩, fun l5 => (h.k2.2 xs e).2 (by omega)⟩
/-- a drawn thing -/
structure Thg (K : PySem.W.Frag) (C : Addr) (H : Hp) (y : V) : Prop where
  ty : ∃ t, Ty K H y t ∧ (∀ D, t ≠ .ref D) ∧ PySem.W.kitOne K t (.ref C) = some false
  sh : Short y
  flat : ∀ xs, tupOf H y = some xs → xs.length ≠ 4 ∧ xs.length ≠ 2 ∧ ∀ x ∈ xs, Scl x
  shown : Shown K H y
theorem Thg.k0 {K : PySem.W.Frag} {C : Addr} {H : Hp} {y : V} (h : Thg K C H y) : Kn0 K H y := let ⟨t, ty, _⟩ := h.ty; ⟨⟨t, ty⟩, h.sh⟩
theorem Thg.k1 {K : PySem.W.Frag} {C : Addr} {H : Hp} {y : V} (h : Thg K C H y) : Kn1 K H y := ⟨h.k0, fun xs e x hx => ((h.flat xs e).2.2 x hx).k0⟩
theorem Thg.hd {K : PySem.W.Frag} {C : Addr} {H : Hp} {y : V} (h : Thg K C H y) : Hd K H y := let ⟨t, ty, n, _⟩ := h.ty; ⟨t, ty, n⟩
theorem k1_no {K : PySem.W.Frag} {H : Hp} {y : V} (h : Kn0 K H y) (n : tupOf H y = none) : Kn1 K H y := ⟨h, fun xs e => by rw [n] at e; cases e⟩
theorem Scl.k1 {K : PySem.W.Frag} {H : Hp} {x : V} (h : Scl x) : Kn1 K H x := k1_no h.k0 h.no
theorem Thg.kt {K : PySem.W.Frag} {C : Addr} {H : Hp} {y : V} (h : Thg K C H y) : KnT K H y where
  k2 := ⟨h.k0, fun xs e => ⟨fun x hx => ((h.flat xs e).2.2 x hx).k1, fun _ x hx => ((h.flat xs e).2.2 x (List.mem_of_getElem? hx)).w⟩⟩
  n2 := fun xs e => (h.flat xs e).2.1
  rows := fun xs e x hx rs er => by
    rw [((h.flat xs e).2.2 x hx).no] at er
    cases er
  hd := fun xs e x hx => ((h.flat xs e).2.2 x (List.mem_of_getElem? hx)).hd
theorem Thg.same {K : PySem.W.Frag} {C : Addr} {H H' : Hp} {y : V} (S : Same H H') (h : Thg K C H y) : Thg K C H' y where
  ty := let ⟨t, ty, n⟩ := h.ty; ⟨t, ty.same S, n⟩
  sh := h.sh
  flat := fun xs e => h.flat xs ((tupOf_same h.k0 S).symm.trans e)
  shown := h.shown.same S
section
variable {K : PySem.W.Frag} {C : Addr} {H : Hp}
theorem tupOf_lst {a : Addr} {xs : List V} (e : H a = some (.lst xs)) : tupOf H (.ref a) = none := by simp only [tupOf, e]
theorem tupOf_dct {a : Addr} {kv : List (Key × V)} (e : H a = some (.dK kv)) : tupOf H (.ref a) = none := by simp only [tupOf, e]
theorem flat_no {y : V} (n : tupOf H y = none) : ∀ xs, tupOf H y = some xs → xs.length ≠ 4 ∧ xs.length ≠ 2 ∧ ∀ x ∈ xs, Scl x := fun xs e => by rw [n] at e; cases e
theorem th_non (no : NoOwn K C) : Thg K C H .non := ⟨⟨_, .non, (fun D e => by cases e), no _ (by simp)⟩, (fun s e => by cases e), flat_no rfl, ⟨0, 5, _, .non, (fun a e => by cases e), by decide, by decide⟩⟩
theorem th_bl (no : NoOwn K C) (b : Bool) : Thg K C H (.bl b) := ⟨⟨_, .bl b, (fun D e => by cases e), no _ (by simp)⟩, (fun s e => by cases e), flat_no rfl, ⟨0, 5, _, .bl b, (fun a e => by cases e), by decide, by decide⟩⟩
theorem th_int (no : NoOwn K C) (i : Int) (h : i.natAbs.log2 < 1920) : Thg K C H (.int i) := ⟨⟨_, .int i, (fun D e => by cases e), no _ (by simp)⟩, (fun s e => by cases e), flat_no rfl, ⟨0, 1921, _, .int i h, (fun a e => by cases e), by decide, by decide⟩⟩
theorem th_str (no : NoOwn K C) (s : Str) (h : (reprText s).length ≤ 1000) (sh : Short (.str s)) : Thg K C H (.str s) := ⟨⟨_, .str s, (fun D e => by cases e), no _ (by simp)⟩, sh, flat_no rfl, ⟨0, 1000, _, .str s 1000 h, (fun a e => by cases e), by decide, by decide⟩⟩
theorem th_tup (no : NoOwn K C) {a : Addr} {xs : List V} {d n : Nat} {ts : List Str} (e : H a = some (.tup xs)) (l4 : xs.length ≠ 4) (l2 : xs.length ≠ 2) (sc : ∀ x ∈ xs, Scl x) (h : ShwL K H xs d n ts) (hn : n ≤ 900000) (hd : d ≤ 50) : Thg K C H (.ref a) :=
  ⟨⟨_, .tup e, (fun D e => by cases e), no _ (by simp)⟩, sh_ref, (fun ys e2 => by rw [tupOf_at e] at e2; cases e2; exact ⟨l4, l2, sc⟩), ⟨d + 1, n + 3, _, .tup e h, fun _ _ => Nat.succ_pos _, by omega, by omega⟩⟩
theorem th_lst (no : NoOwn K C) {a : Addr} {xs : List V} {d n : Nat} {ts : List Str} (e : H a = some (.lst xs)) (h : ShwL K H xs d n ts) (hn : n ≤ 900000) (hd : d ≤ 50) : Thg K C H (.ref a) :=
  ⟨⟨_, .lst e, (fun D e => by cases e), no _ (by simp)⟩, sh_ref, flat_no (tupOf_lst e), ⟨d + 1, n + 2, _, .lst e h, fun _ _ => Nat.succ_pos _, by omega, by omega⟩⟩
theorem th_dct (no : NoOwn K C) {a : Addr} {kvs : List (Key × V)} {d1 d2 n1 n2 : Nat} {ks vs : List Str} (e : H a = some (.dK kvs)) (h1 : ShwL K H (kvs.map fun p => kV p.1) d1 n1 ks) (h2 : ShwL K H (kvs.map fun p => p.2) d2 n2 vs)
    (hn : n1 + n2 ≤ 900000) (hd : max d1 d2 ≤ 50) : Thg K C H (.ref a) :=
  ⟨⟨_, .dct e, (fun D e => by cases e), no _ (by simp)⟩, sh_ref, flat_no (tupOf_dct e), ⟨max d1 d2 + 1, n1 + n2 + 2, _, .dct e h1 h2, fun _ _ => Nat.succ_pos _, by omega, by omega⟩⟩
end
section
variable {P : Program} {w : World} {K : PySem.W.Frag} {mg : Str → Option Value} {base : Heap} {C : Addr}
def spThing (K : PySem.W.Frag) (C : Addr) : Sp := fun vs H Q _ => ∃ p n, vs = [.ref p] ∧ BoxAt H p n ∧ n ≤ 900000 ∧ ∀ y H', BoxAt H' p (n + 1) → But p H H' → Thg K C (wo H' p) y → Q y H'
theorem d_thing (T : Txt mg) (no : NoOwn K C) (A : At K mg "_law_thing" sLawThing) (dt : Def P w K mg base "_law_take" 1 ["_law_box_here", "_law_many"] (spTake K)) :
    Def P w K mg base "_law_thing" 2 ["_law_box_here"] (spThing K C) := by
  refine mkDef A scLawThing (fun _ _ _ _ _ _ us hl => match us, hl with | [_], _ => rfl) (fun vs H Q E ⟨_, _, e, _⟩ => by rw [e]; rfl)
    (fun f cdv A out s H vs Q E hr h => ?_)
  obtain ⟨p, n, rfl, hb, hn, k⟩ := h
  refine ⟨_, (pss_cons (ps_set (i := 1) scLawThing.nd rfl (.inl rfl) (pe_lst (pa_cons pe_non (pa_cons pe_bl (pa_cons pe_bl (pa_cons pe_int (pa_cons pe_int (pa_cons (pe_un un_neg pe_int) (pa_cons (pe_op op_pow pe_int pe_int) (pa_cons pe_str (pa_cons pe_str (pa_cons pe_str (pa_cons (pe_tup pa_nil) (pa_cons (pe_tup (pa_cons pe_int pa_nil)) (pa_cons (pe_lst pa_nil) (pa_cons (pe_lst (pa_cons pe_str pa_nil)) (pa_cons pe_dnewK (pa_cons (pe_disp (pps_cons pe_str pe_int pps_nil) rfl rfl (by decide) (by decide)) (pa_cons (pe_tup (pa_cons pe_str (pa_cons pe_int (pa_cons pe_str pa_nil)))) pa_nil)))))))))))))))))))
    (pss_one (ps_ret (pe_ix ix_list (pv 1) (pe_d dt hr (by decide) (by rfl) (pa_cons (pv 0) (pa_cons pe_int pa_nil))) (fun _ _ => rfl))))), ?_⟩
  refine ⟨1, rfl, 10, 29, rfl, rfl, ⟨by decide, by decide, by decide⟩, ?_⟩
  refine ⟨by show 0 ≤ sizeLine; decide, fun a1 n1 => ?_⟩
  have ap1 := hb.ne n1
  have U1 := Same.laid (o := HO.tup []) n1
  have e1 : upd H a1 (.tup []) a1 = some (.tup []) := upd_same
  have hb1 := hb.keep U1
  generalize upd H a1 (.tup []) = H1 at *
  refine ⟨by show 1 ≤ sizeLine; decide, fun a2 n2 => ?_⟩
  have ap2 := hb1.ne n2
  have U2 := Same.laid (o := HO.tup [.int 1]) n2
  have e2 : upd H1 a2 (.tup [.int 1]) a2 = some (.tup [.int 1]) := upd_same
  have hb2 := hb1.keep U2
  generalize upd H1 a2 (.tup [.int 1]) = H2 at *
  refine ⟨by show 0 ≤ sizeLine; decide, fun a3 n3 => ?_⟩
  have ap3 := hb2.ne n3
  have U3 := Same.laid (o := HO.lst []) n3
  have e3 : upd H2 a3 (.lst []) a3 = some (.lst []) := upd_same
  have hb3 := hb2.keep U3
  generalize upd H2 a3 (.lst []) = H3 at *
  refine ⟨by show 1 ≤ sizeLine; decide, fun a4 n4 => ?_⟩
  have ap4 := hb3.ne n4
  have U4 := Same.laid (o := HO.lst [.str "a"]) n4
  have e4 : upd H3 a4 (.lst [.str "a"]) a4 = some (.lst [.str "a"]) := upd_same
  have hb4 := hb3.keep U4
  generalize upd H3 a4 (.lst [.str "a"]) = H4 at *
  refine fun a5 n5 => ?_
  have ap5 := hb4.ne n5
  have U5 := Same.laid (o := HO.dK []) n5
  have e5 : upd H4 a5 (.dK []) a5 = some (.dK []) := upd_same
  have hb5 := hb4.keep U5
  generalize upd H4 a5 (.dK []) = H5 at *
  refine fun a6 n6 => ?_
  have ap6 := hb5.ne n6
  refine ⟨upd_same, [(.inr "a", .int 1)], rfl, by decide, ?_⟩
  have U6 : Same H5 (upd (upd H5 a6 (.dK [])) a6 (.dK (mergeK [] [(.inr "a", .int 1)]))) := Same.wo_upd (Same.laid n6) n6
  have e6 : upd (upd H5 a6 (.dK [])) a6 (.dK (mergeK [] [(.inr "a", .int 1)])) a6 = some (.dK [(.inr "a", .int 1)]) := upd_same
  have hb6 := hb5.keep U6
  generalize upd (upd H5 a6 (.dK [])) a6 (.dK (mergeK [] [(.inr "a", .int 1)])) = H6 at *
  refine ⟨by show 3 ≤ sizeLine; decide, fun a7 n7 => ?_⟩
  have ap7 := hb6.ne n7
  have U7 := Same.laid (o := HO.tup [.str "a", .int 1, .str "b"]) n7
  have e7 : upd H6 a7 (.tup [.str "a", .int 1, .str "b"]) a7 = some (.tup [.str "a", .int 1, .str "b"]) := upd_same
  have hb7 := hb6.keep U7
  generalize upd H6 a7 (.tup [.str "a", .int 1, .str "b"]) = H7 at *
  refine ⟨by show 17 ≤ sizeLine; decide, fun l nl => ?_⟩
  have lp := hb7.ne nl
  generalize hys : [V.non, .bl true, .bl false, .int 0, .int 1, .int (-1), .int (10 ^ (29 : Int).toNat), .str "", .str "A", .str "a b", .ref a1, .ref a2, .ref a3, .ref a4, .ref a5, .ref a6, .ref a7] = ys
  have U8 := Same.laid (o := HO.lst ys) nl
  have e8 : upd H7 l (.lst ys) l = some (.lst ys) := upd_same
  have hb8 := hb7.keep U8
  generalize upd H7 l (.lst ys) = H8 at *
  have S7 := U8
  have S6 := U7.trans S7
  have S5 := U6.trans S6
  have S4 := U5.trans S5
  have S3 := U4.trans S4
  have S2 := U3.trans S3
  have S1 := U2.trans S2
  have BH : But p H H8 := Same.but (U1.trans S1)
  have sa : ShwL K (wo H8 p) [V.str "a"] (max 0 0) (10 + 2 + 0) [reprText "a"] := .cons (.str "a" 10 (by decide +kernel)) .nil
  have things : ∀ y ∈ ys, Thg K C (wo H8 p) y := by
    rw [← hys]
    intro y hy
    simp only [List.mem_cons, List.not_mem_nil, or_false] at hy
    rcases hy with rfl | rfl | rfl | rfl | rfl | rfl | rfl | rfl | rfl | rfl | rfl | rfl | rfl | rfl | rfl | rfl | rfl
    · exact th_non no
    · exact th_bl no _
    · exact th_bl no _
    · exact th_int no _ (by decide +kernel)
    · exact th_int no _ (by decide +kernel)
    · exact th_int no _ (by decide +kernel)
    · exact th_int no _ (by decide +kernel)
    · exact th_str no _ (by decide +kernel) (fun z e => by cases e; decide +kernel)
    · exact th_str no _ (by decide +kernel) (fun z e => by cases e; decide +kernel)
    · exact th_str no _ (by decide +kernel) (fun z e => by cases e; decide +kernel)
    · exact th_tup no (wo_of ap1 (S1 _ _ e1)) (by decide) (by decide) (fun x h => by cases h) .nil (by decide) (by decide)
    · exact th_tup no (wo_of ap2 (S2 _ _ e2)) (by show 1 ≠ 4; decide) (by show 1 ≠ 2; decide) (fun x h => by rw [List.mem_singleton.mp h]; exact .inr (.inr ⟨_, rfl⟩)) (.cons (.int 1 (by decide +kernel)) .nil) (by decide) (by decide)
    · exact th_lst no (wo_of ap3 (S3 _ _ e3)) .nil (by decide) (by decide)
    · exact th_lst no (wo_of ap4 (S4 _ _ e4)) sa (by decide) (by decide)
    · exact th_dct no (wo_of ap5 (S5 _ _ e5)) .nil .nil (by decide) (by decide)
    · exact th_dct no (wo_of ap6 (S6 _ _ e6)) (.cons (.str "a" 10 (by decide +kernel)) .nil) (.cons (.int 1 (by decide +kernel)) .nil) (by decide) (by decide)
    · refine th_tup no (wo_of ap7 (S7 _ _ e7)) (by show 3 ≠ 4; decide) (by show 3 ≠ 2; decide) (fun x h => ?_) (.cons (.str "a" 10 (by decide +kernel)) (.cons (.int 1 (by decide +kernel)) (.cons (.str "b" 10 (by decide +kernel)) .nil))) (by decide) (by decide)
      simp only [List.mem_cons, List.not_mem_nil, or_false] at h
      rcases h with rfl | rfl | rfl
      · exact .inr (.inl ⟨_, rfl, fun z e => by cases e; decide +kernel⟩)
      · exact .inr (.inr ⟨_, rfl⟩)
      · exact .inr (.inl ⟨_, rfl, fun z e => by cases e; decide +kernel⟩)
  have hl : ys.length = 17 := by rw [← hys]; rfl
  refine ⟨_, rfl, _, rfl, p, 17, _, rfl, hb8, by omega, by decide, by decide, fun j H9 a9 b9 hb9 B9 => ?_⟩
  obtain ⟨y, hy, aty⟩ := menu (xs := ys) a9 (by rw [hl]; exact b9)
  exact ⟨l, _, j, y, rfl, rfl, SqL.of (B9.at lp e8), aty, k y H9 hb9 (BH.trans B9) ((things y hy).same B9)⟩
end
end V10

set_option maxHeartbeats 8000000
namespace V10
open PySem PySem.Spec PyProof.Rows L2 Pw
theorem off_lst {H : Hp} {D q : Addr} {us xs : List V} {o : HO} (eq : H q = some (.tup xs)) (e : H D = some (.lst us)) : upd H D o q = some (.tup xs) := (upd_ne (fun z => by rw [z, e] at eq; cases eq)).trans eq
theorem tup_but {H H' : Hp} {p q : Addr} {n : Nat} {xs : List V} (eq : H q = some (.tup xs)) (hb : BoxAt H p n) (B : But p H H') : H' q = some (.tup xs) := by
  obtain ⟨ws, e⟩ := hb.lst
  exact B.at (fun z => by rw [z, e] at eq; cases eq) eq
theorem up_to {xs : List Int} {a b : Int} (h : (xs ++ [a]).Pairwise (· ≤ ·)) (ab : a ≤ b) : (xs ++ [b]).Pairwise (· ≤ ·) := by
  rw [List.pairwise_append] at h ⊢
  refine ⟨h.1, by simp, fun x hx y hy => ?_⟩
  have := h.2.2 x hx a (by simp)
  rw [List.mem_singleton] at hy
  omega
theorem up_twice {xs : List Int} {b : Int} (h : (xs ++ [b]).Pairwise (· ≤ ·)) : (xs ++ [b] ++ [b]).Pairwise (· ≤ ·) := by
  rw [List.pairwise_append]
  refine ⟨h, by simp, fun x hx y hy => ?_⟩
  rw [List.mem_singleton] at hy
  subst hy
  rcases List.mem_append.mp hx with g | g
  · exact (List.pairwise_append.mp h).2.2 x g y (by simp)
  · rw [List.mem_singleton.mp g]
    omega
section
variable {P : Program} {w : World} {K : PySem.W.Frag} {mg : Str → Option Value} {base : Heap}
def spRows (K : PySem.W.Frag) : Sp := fun vs H Q _ => ∃ p b pl m t n ps, vs = [.ref p, .ref b, .str pl, .int m, .int t] ∧ BoxAt H p n ∧ n ≤ 950000 ∧ b ≠ p ∧ LT fP H b ps ∧ GoodPs ps ∧ pl ∈ ps.map Pt.pl ∧ 0 ≤ m ∧ m ≤ 12 ∧ 0 ≤ t ∧ t ≤ 9999 ∧
  ∀ o F H' vs rs t', BoxAt H' p (n + 60) → But p H H' → H o = none → o ≠ p → F ≠ p → H' o = some (.tup [.ref F, .int t']) → H' F = some (.lst vs) → Al f4 H' vs rs → rs.length ≤ 12 → (∀ r ∈ rs, GoodS ps pl r) → (rs.map Sg.t ++ [t']).Pairwise (· ≤ ·) → 0 ≤ t' → t' ≤ 9999 → Q (.ref o) H'
theorem d_rowsL (T : Txt mg) (A : At K mg "_law_rows" sLawRows) (dt : Def P w K mg base "_law_take" 1 ["_law_box_here", "_law_many"] (spTake K)) :
    Def P w K mg base "_law_rows" 2 ["_law_box_here", "_law_points_here", "_law_place", "_law_many", "_law_time"] (spRows K) := by
  refine mkDef A scLawRows (fun _ _ _ _ _ _ us hl => match us, hl with | [_, _, _, _, _], _ => rfl) (fun vs H Q E ⟨_, _, _, _, _, _, _, e, _⟩ => by rw [e]; rfl)
    (fun f cdv A out s H vs Q E hr h => ?_)
  obtain ⟨p, b, pl, m, t, n, ps, rfl, hb, hn, bp, hP, gp, hpl, m0, m12, t0, t1, k⟩ := h
  obtain ⟨mm, rfl⟩ := Int.eq_ofNat_of_zero_le m0
  refine ⟨_, (pss_cons (ps_setLc (i := 5) (own := [("_law_point", 12)]) (g := gName 12) rfl scLawRows.nd rfl rfl (sw_true rfl rfl rfl (by decide +kernel)) (pi_list (pv 1))
        (blkOk_by (own := [("_law_point", 12)]) (N := ["_law_box_here", "_law_points_here", "_law_place", "_law_many", "_law_time", "_law_mine", "_law_rows_here", "_law_k", "_law_name", "_law_at", "_law_kind", "_law_worth", "_law_point"]) (sc := defScope sLawRows) (by decide +kernel))
        (fun _ _ _ _ _ => (pg_name (i := 12) scLawRows.nd rfl (.inl rfl))) (fun _ _ _ _ _ => (pts_one (pt_cmpR op_eq (pe_ix (r := rIxT K) ix_tup (pv 12) pe_int (fun _ _ => rfl)) (pv 2) (nomark _))))
        (fun _ _ _ _ _ => (pv 12)))
    (pss_cons (ps_set (i := 6) scLawRows.nd rfl (.inl rfl) (pe_lst pa_nil))
    (pss_cons (ps_for PassesOwn.never rfl (pi_range1 (by rfl) T.range (pa_cons (pv 3) pa_nil)) (pg_name (i := 7) scLawRows.nd rfl (.inl rfl))
      (pss_cons (ps_set (i := 4) scLawRows.nd rfl (.inl rfl) (pe_callB (call_min2 rfl) (by rfl) T.min PyProof.Rows.boot_min (pa_cons pe_int (pa_cons (pe_op op_add (pv 4) (pe_ix ix_list (pe_lst (pa_cons pe_int (pa_cons pe_int (pa_cons pe_int (pa_cons pe_int (pa_cons pe_int pa_nil)))))) (pe_d dt hr (by decide) (by rfl) (pa_cons (pv 0) (pa_cons pe_int pa_nil))) (fun _ _ => rfl))) pa_nil))))
      (pss_cons (ps_asg (pe_ix ix_list (pv 5) (pe_d dt hr (by decide) (by rfl) (pa_cons (pv 0) (pa_cons (pe_callB call_len_seq (by rfl) T.len PySem.boot_len (pa_cons (pv 5) pa_nil)) pa_nil))) (fun _ _ => rfl)) (pg_tup (by rfl) (pgs_cons (pg_name (i := 8) scLawRows.nd rfl (.inl rfl)) (pgs_cons (pg_name (i := 9) scLawRows.nd rfl (.inl rfl)) (pgs_cons (pg_name (i := 10) scLawRows.nd rfl (.inl rfl)) pgs_nil)))))
      (pss_cons (ps_set (i := 11) scLawRows.nd rfl (.inl rfl) (pe_ifExp (pt_cmpR op_eq (pv 10) pe_str (nomark _)) (pe_d dt hr (by decide) (by rfl) (pa_cons (pv 0) (pa_cons pe_int pa_nil))) (pe_d dt hr (by decide) (by rfl) (pa_cons (pv 0) (pa_cons pe_int pa_nil)))))
      (pss_one (ps_expr (pe_bm PySem.F.plainAttrs_list PySem.F.slot_list_append PySem.F.type_list_append mt_append (pv 6) (pa_cons (pe_tup (pa_cons (pv 4) (pa_cons (pv 8) (pa_cons (pv 11) (pa_cons (pe_ix ix_list (pe_lst (pa_cons pe_str (pa_cons pe_str (pa_cons pe_str pa_nil)))) (pe_d dt hr (by decide) (by rfl) (pa_cons (pv 0) (pa_cons pe_int pa_nil))) (fun _ _ => rfl)) pa_nil))))) pa_nil))))))))
    (pss_one (ps_ret (pe_tup (pa_cons (pv 6) (pa_cons (pv 4) pa_nil)))))))), ?_⟩
  obtain ⟨vP, eP, alP⟩ := hP.ex
  have plen := alP.length
  have p8 := gp.len
  refine ⟨_, rfl, b, rfl, ⟨_, SqL.of eP⟩, fun D nD => ?_⟩
  have Dp := hb.ne nD
  refine lc_acc (walk_list (K := K) (a := b) (xs := vP)) nD (by omega) (fun i acc G => Al fP G acc ((ps.take i).filter fun x => decide (x.pl = pl))) .nil (fun H' S => SqL.of (S _ _ eP)) ?_ ?_
  · rintro i v G0 G acc hi S eD hl hacc ⟨rfl, hx⟩ Fy Fn hy1 hy2
    obtain ⟨q, x, rfl, hx', eq⟩ := (alP.same S).get hx
    have ets : ps.take (i + 1) = ps.take i ++ [x] := by rw [List.take_add_one, hx']; rfl
    rw [ets, List.filter_append] at hy1 hy2
    refine ⟨rfl, ?_⟩
    refine ⟨_, rfl, q, fP x, 1, .str x.pl, rfl, rfl, SqT.of eq, rfl, _, rfl, rfl, _, rfl, ?_⟩
    rw [str_dec]
    by_cases h : x.pl = pl
    · rw [decide_eq_true h]
      refine iteT ⟨_, rfl, hy1 _ _ (Same.refl _) ?_⟩
      have e1 : [x].filter (fun x => decide (x.pl = pl)) = [x] := by simp [h]
      rw [e1]
      exact Al.snoc hacc (wo_of (fun z => by rw [z, eD] at eq; cases eq) eq)
    · rw [decide_eq_false h]
      refine iteF (hy2 _ (Same.refl _) ?_)
      have e1 : [x].filter (fun x => decide (x.pl = pl)) = [] := by simp [h]
      rw [e1, List.append_nil]
      exact hacc
  rintro H1 acc S1 eD hacc
  rw [List.take_of_length_le (by omega)] at hacc
  have alM : Al fP H1 acc (ps.filter fun x => decide (x.pl = pl)) := hacc.same wo_same
  generalize hms : (ps.filter fun x => decide (x.pl = pl)) = ms at alM hacc
  have msin : ∀ x ∈ ms, x ∈ ps ∧ x.pl = pl := fun x hx => by
    rw [← hms] at hx
    obtain ⟨a, b⟩ := List.mem_filter.mp hx
    exact ⟨a, of_decide_eq_true b⟩
  have ms1 : 1 ≤ ms.length := by
    obtain ⟨x, hx, ex⟩ := List.mem_map.mp hpl
    have : x ∈ ms := by rw [← hms]; exact List.mem_filter.mpr ⟨hx, decide_eq_true ex⟩
    exact List.length_pos_of_mem this
  have ms8 : ms.length ≤ 8 := by rw [← hms]; exact Nat.le_trans (List.length_filter_le _ _) p8
  have mlen := alM.length
  clear hms hacc
  dsimp only [gName]
  refine ⟨by show 0 ≤ sizeLine; decide, fun F nF => ?_⟩
  have hb1 := hb.keep S1
  have Fp := hb1.ne nF
  have S2 := Same.laid (o := HO.lst []) nF
  have eF : upd H1 F (.lst []) F = some (.lst []) := upd_same
  have DF : D ≠ F := ne_of_none eD nF
  have eD2 := S2 _ _ eD
  have alM2 := alM.same S2
  have hb2 := hb1.keep S2
  have BH2 : But p H (upd H1 F (.lst [])) := Same.but (S1.trans S2)
  have nFH := Same.no S1 nF
  generalize upd H1 F (.lst []) = H2 at *
  refine ⟨_, rfl, (mm : Int), rfl, by omega, by omega, ?_⟩
  refine for_it (walk_range (lo := 0) (n := mm)) (fun i σ X => ∃ (v7 v8 v9 v10 v11 : Option V) (ti : Int) (vs : List V) (rs : List Sg), σ = [some (.ref p), some (.ref b), some (.str pl), some (.int (mm : Int)), some (.int ti), some (.ref D), some (.ref F), v7, v8, v9, v10, v11, none] ∧
      BoxAt X p (n + 4 * i) ∧ But p H X ∧ X D = some (.lst acc) ∧ Al fP X acc ms ∧ X F = some (.lst vs) ∧ Al f4 X vs rs ∧ rs.length = i ∧ (∀ r ∈ rs, GoodS ps pl r) ∧ (rs.map Sg.t ++ [ti]).Pairwise (· ≤ ·) ∧ 0 ≤ ti ∧ ti ≤ 9999) ?_
    (fun _ _ _ _ _ => trivial) ?_ ?_
  · exact ⟨none, none, none, none, none, t, [], [], rfl, hb2, BH2, eD2, alM2, eF, .nil, rfl, (fun r h => by cases h), by simp, t0, t1⟩
  · rintro i v σ X0 X hi ⟨v7, v8, v9, v10, v11, ti, vs, rs, rfl, hbX, BX, eDX, alX, eFX, al4, rl, gs, up, ti0, ti1⟩ ⟨rfl, rfl⟩
    dsimp only [gName]
    -- the time
    refine ⟨_, rfl, by show 5 ≤ sizeLine; decide, fun q1 nq1 => ?_⟩
    have U1 := Same.laid (o := HO.lst [.int 0, .int 1, .int 0, .int 7, .int 40]) nq1
    have eq1 : upd X q1 (.lst [.int 0, .int 1, .int 0, .int 7, .int 40]) q1 = some (.lst [.int 0, .int 1, .int 0, .int 7, .int 40]) := upd_same
    have q1p := hbX.ne nq1
    have hb1 := hbX.keep U1
    have BX1 : But p X (upd X q1 (.lst [.int 0, .int 1, .int 0, .int 7, .int 40])) := Same.but U1
    generalize upd X q1 (.lst [.int 0, .int 1, .int 0, .int 7, .int 40]) = X1 at *
    refine ⟨_, rfl, p, 5, _, rfl, hb1, by omega, by decide, by decide, fun j1 X2 a1 b1 hb2 B2 => ?_⟩
    obtain ⟨y1, hy1, at1⟩ := menu (xs := [V.int 0, .int 1, .int 0, .int 7, .int 40]) a1 (by simpa using b1)
    obtain ⟨i1, rfl, i10⟩ : ∃ i1 : Int, y1 = .int i1 ∧ 0 ≤ i1 := by
      simp only [List.mem_cons, List.not_mem_nil, or_false] at hy1
      rcases hy1 with rfl | rfl | rfl | rfl | rfl <;> exact ⟨_, rfl, by decide⟩
    refine ⟨q1, _, j1, _, rfl, rfl, SqL.of (B2.at q1p eq1), at1, _, _, rfl, rfl, _, _, rfl, ?_⟩
    obtain ⟨t2, e2, t20, t21, t22⟩ : ∃ t2 : Int, (if ti + i1 < 9999 then ti + i1 else 9999) = t2 ∧ ti ≤ t2 ∧ 0 ≤ t2 ∧ t2 ≤ 9999 := ⟨_, rfl, by split <;> omega, by split <;> omega, by split <;> omega⟩
    rw [e2]
    have BX2 := BX1.trans B2
    have eDX2 := BX2.at Dp eDX
    have alX2 := Al.but alX hbX BX2
    -- the point
    refine ⟨_, rfl, _, rfl, _, rfl, D, _, rfl, .inl (SqL.of eDX2), p, _, _, rfl, hb2, by omega, by omega, Int.lt_of_le_of_lt (show (acc.length : Int) ≤ 8 by omega) (by decide), fun c X3 ca cb hb3 B3 => ?_⟩
    obtain ⟨ci, rfl⟩ := Int.eq_ofNat_of_zero_le ca
    have hci : ci < ms.length := by omega
    have BX3 := BX2.trans B3
    have eDX3 := BX3.at Dp eDX
    have alX3 := Al.but alX hbX BX3
    obtain ⟨q, hq, eq⟩ := alX3.at (i := ci) (r := ms[ci]) (List.getElem?_eq_getElem hci)
    have hmem := msin _ (List.getElem_mem hci)
    generalize ms[ci] = x at eq hmem
    refine ⟨D, _, (ci : Int), .ref q, rfl, rfl, SqL.of eDX3, atI_nat hq, q, _, rfl, SqT.of eq, rfl, _, _, rfl, _, _, rfl, _, _, rfl, rfl, ?_⟩
    -- the worth
    dsimp only [gName]
    refine seq_join (A := tAsg _ _) (fun σ' Y => ∃ wo : Int, σ' = [some (.ref p), some (.ref b), some (.str pl), some (.int (mm : Int)), some (.int t2), some (.ref D), some (.ref F), some (.int (0 + (i : Int))), some (.str x.nm), some (.str x.pl), some (.str (kd x.sw)), some (.int wo), none] ∧
      But p X3 Y ∧ BoxAt Y p (n + 4 * i + 3) ∧ 0 ≤ wo ∧ wo ≤ hiP x) (fun N' hN => ?_) ?_
    · refine ⟨_, rfl, rfl, _, rfl, ?_⟩
      rw [kd_level]
      unfold hiP at hN
      cases hsw : x.sw with
      | true =>
        rw [hsw] at hN
        refine iteF ⟨_, rfl, p, 2, _, rfl, hb3, by omega, by decide, by decide, fun wo Y wa wb hbY BY => ?_⟩
        exact hN _ _ ⟨wo, rfl, BY, hbY.up (by omega), wa, by rw [if_pos rfl]; omega⟩
      | false =>
        rw [hsw] at hN
        refine iteT ⟨_, rfl, p, 64, _, rfl, hb3, by omega, by decide, by decide, fun wo Y wa wb hbY BY => ?_⟩
        exact hN _ _ ⟨wo, rfl, BY, hbY.up (by omega), wa, by rw [if_neg (by decide)]; omega⟩
    rintro _ X4 ⟨wo, rfl, B4, hb4, w0, w1⟩
    have BX4 := BX3.trans B4
    have eFX4 := BX4.at Fp eFX
    refine ⟨_, rfl, .inl ⟨rfl, _, SqL.of eFX4⟩, _, rfl, _, rfl, _, rfl, by show 3 ≤ sizeLine; decide, fun q5 nq5 => ?_⟩
    have U5 := Same.laid (o := HO.lst [.str "good", .str "odd", .str "good"]) nq5
    have eq5 : upd X4 q5 (.lst [.str "good", .str "odd", .str "good"]) q5 = some (.lst [.str "good", .str "odd", .str "good"]) := upd_same
    have q5p := hb4.ne nq5
    have hb5 := hb4.keep U5
    have BX5 : But p X (upd X4 q5 (.lst [.str "good", .str "odd", .str "good"])) := BX4.trans (Same.but U5)
    generalize upd X4 q5 (.lst [.str "good", .str "odd", .str "good"]) = X5 at *
    refine ⟨_, rfl, p, 3, _, rfl, hb5, by omega, by decide, by decide, fun j6 X6 a6 b6 hb6 B6 => ?_⟩
    obtain ⟨y6, hy6, at6⟩ := menu (xs := [V.str "good", .str "odd", .str "good"]) a6 (by simpa using b6)
    obtain ⟨mk, rfl, hmk⟩ : ∃ mk : Str, y6 = .str mk ∧ (mk = "good" ∨ mk = "odd") := by
      simp only [List.mem_cons, List.not_mem_nil, or_false] at hy6
      rcases hy6 with rfl | rfl | rfl
      · exact ⟨_, rfl, .inl rfl⟩
      · exact ⟨_, rfl, .inr rfl⟩
      · exact ⟨_, rfl, .inl rfl⟩
    refine ⟨q5, _, j6, _, rfl, rfl, SqL.of (B6.at q5p eq5), at6, by show 4 ≤ sizeLine; decide, fun r nr => ?_⟩
    have BX6 := BX5.trans B6
    generalize hrr : (⟨t2, x.nm, wo, mk⟩ : Sg) = rr
    have ef : [V.int t2, .str x.nm, .int wo, .str mk] = f4 rr := by rw [← hrr]; rfl
    rw [ef]
    have Sr := Same.laid (o := HO.tup (f4 rr)) nr
    have er : upd X6 r (.tup (f4 rr)) r = some (.tup (f4 rr)) := upd_same
    have hbr := hb6.keep Sr
    have BXr : But p X (upd X6 r (.tup (f4 rr))) := BX6.trans (Same.but Sr)
    generalize upd X6 r (.tup (f4 rr)) = X7 at *
    have eF7 := BXr.at Fp eFX
    have eD7 := BXr.at Dp eDX
    have al7 := Al.but al4 hbX BXr
    have alM7 := Al.but alX hbX BXr
    refine ⟨F, vs, .ref r, rfl, rfl, eF7, by rw [al4.length]; exact Nat.lt_of_le_of_lt (show rs.length ≤ 12 by omega) (by decide), ?_⟩
    refine ⟨_, _, _, _, _, t2, _, rs ++ [rr], rfl, (hbr.set Fp).up (by omega), But.wo_upd (BX.trans BXr) nFH, (upd_ne DF).trans eD7, Al.off alM7 eF7, upd_same, Al.snoc (Al.off al7 eF7) (off_lst er eF7), by rw [List.length_append, rl]; rfl, ?_, ?_, t21, t22⟩
    · intro z hz
      rcases List.mem_append.mp hz with h | h
      · exact gs z h
      · rw [List.mem_singleton.mp h, ← hrr]
        exact ⟨t21, t22, ⟨x, hmem.1, rfl, hmem.2, w0, w1⟩, hmk⟩
    · rw [List.map_append]
      have : [rr].map Sg.t = [t2] := by rw [← hrr]; rfl
      rw [this]
      exact up_twice (up_to up t20)
  · rintro σ X ⟨v7, v8, v9, v10, v11, ti, vs, rs, rfl, hbX, BX, eDX, alX, eFX, al4, rl, gs, up, ti0, ti1⟩
    refine ⟨_, rfl, _, rfl, by show 2 ≤ sizeLine; decide, fun o no => ?_⟩
    have So := Same.laid (o := HO.tup [.ref F, .int ti]) no
    have op := hbX.ne no
    exact k o F _ vs rs ti ((hbX.laid no).up (by omega)) (BX.trans (Same.but So)) (But.none_of BX no op) op Fp upd_same (So _ _ eFX) (al4.same So) (by omega) gs up ti0 ti1
end
end V10

set_option maxHeartbeats 8000000
namespace V10
open PySem PySem.Spec PyProof.Rows L2 Pw
theorem menuI {xs : List Int} {i : Int} (h0 : 0 ≤ i) (h1 : i < (xs.length : Int)) : ∃ x, x ∈ xs ∧ atI (xs.map V.int) i = some (.int x) := by
  obtain ⟨j, rfl⟩ := Int.eq_ofNat_of_zero_le h0
  have hj : j < xs.length := by omega
  exact ⟨xs[j], List.getElem_mem hj, atI_nat (by rw [List.getElem?_map, List.getElem?_eq_getElem hj]; rfl)⟩
theorem LtAt.but {H H' : Hp} {p q : Addr} {n : Nat} {L : Lt} (h : LtAt H q L) (hb : BoxAt H p n) (B : But p H H') : LtAt H' q L := by
  obtain ⟨rt, vs, e, et, al⟩ := h
  exact ⟨rt, vs, tup_but e hb B, tup_but et hb B, Al.but al hb B⟩
section
variable {P : Program} {w : World} {K : PySem.W.Frag} {mg : Str → Option Value} {base : Heap}
def spLetter (K : PySem.W.Frag) : Sp := fun vs H Q _ => ∃ p b no n ps, vs = [.ref p, .ref b, .int no] ∧ BoxAt H p n ∧ n ≤ 900000 ∧ b ≠ p ∧ LT fP H b ps ∧ GoodPs ps ∧ 1 ≤ no ∧ no ≤ 40 ∧
  ∀ q H' L, BoxAt H' p (n + 90) → But p H H' → H q = none → q ≠ p → LtAt H' q L → GoodLt ps L → Q (.ref q) H'
theorem d_letter (T : Txt mg) (A : At K mg "_law_letter" sLawLetter) (dt : Def P w K mg base "_law_take" 1 ["_law_box_here", "_law_many"] (spTake K))
    (dr : Def P w K mg base "_law_rows" 2 ["_law_box_here", "_law_points_here", "_law_place", "_law_many", "_law_time"] (spRows K)) :
    Def P w K mg base "_law_letter" 3 ["_law_box_here", "_law_points_here", "_law_number"] (spLetter K) := by
  refine mkDef A scLawLetter (fun _ _ _ _ _ _ us hl => match us, hl with | [_, _, _], _ => rfl) (fun vs H Q E ⟨_, _, _, _, _, e, _⟩ => by rw [e]; rfl)
    (fun f cdv A out s H vs Q E hr h => ?_)
  obtain ⟨p, b, no, n, ps, rfl, hb, hn, bp, hP, gp, n0, n1, k⟩ := h
  refine ⟨_, (pss_cons (ps_set (i := 3) scLawLetter.nd rfl (.inl rfl) (pe_ix (r := rIxT K) ix_tup (pe_ix ix_list (pv 1) (pe_d dt hr (by decide) (by rfl) (pa_cons (pv 0) (pa_cons (pe_callB call_len_seq (by rfl) T.len PySem.boot_len (pa_cons (pv 1) pa_nil)) pa_nil))) (fun _ _ => rfl)) pe_int (fun _ _ => rfl)))
    (pss_cons (ps_set (i := 4) scLawLetter.nd rfl (.inl rfl) (pe_ix ix_list (pe_lst (pa_cons pe_int (pa_cons pe_int (pa_cons (pe_d dt hr (by decide) (by rfl) (pa_cons (pv 0) (pa_cons pe_int pa_nil))) (pa_cons (pe_d dt hr (by decide) (by rfl) (pa_cons (pv 0) (pa_cons pe_int pa_nil))) pa_nil))))) (pe_d dt hr (by decide) (by rfl) (pa_cons (pv 0) (pa_cons pe_int pa_nil))) (fun _ _ => rfl)))
    (pss_cons (ps_asg (pe_d dr hr (by decide) (by rfl) (pa_cons (pv 0) (pa_cons (pv 1) (pa_cons (pv 3) (pa_cons (pe_ix ix_list (pe_lst (pa_cons pe_int (pa_cons pe_int (pa_cons pe_int (pa_cons (pe_d dt hr (by decide) (by rfl) (pa_cons (pv 0) (pa_cons pe_int pa_nil))) pa_nil))))) (pe_d dt hr (by decide) (by rfl) (pa_cons (pv 0) (pa_cons pe_int pa_nil))) (fun _ _ => rfl)) (pa_cons (pv 4) pa_nil)))))) (pg_tup (by rfl) (pgs_cons (pg_name (i := 5) scLawLetter.nd rfl (.inl rfl)) (pgs_cons (pg_name (i := 6) scLawLetter.nd rfl (.inl rfl)) pgs_nil))))
    (pss_one (ps_ret (pe_tup (pa_cons pe_str (pa_cons (pv 3) (pa_cons (pv 2) (pa_cons (pe_callB (call_min2 rfl) (by rfl) T.min PyProof.Rows.boot_min (pa_cons pe_int (pa_cons (pe_op op_add (pv 6) (pe_ix ix_list (pe_lst (pa_cons pe_int (pa_cons pe_int (pa_cons pe_int pa_nil)))) (pe_d dt hr (by decide) (by rfl) (pa_cons (pv 0) (pa_cons pe_int pa_nil))) (fun _ _ => rfl))) pa_nil))) (pa_cons (pe_callTy call_tuple_of (by rfl) T.tuple (by decide +kernel) (pa_cons (pv 5) pa_nil)) pa_nil))))))))))), ?_⟩
  obtain ⟨vP, eP, alP⟩ := hP.ex
  have plen := alP.length
  have p1 := gp.pos
  have p8 := gp.len
  -- the place
  refine ⟨_, rfl, _, rfl, _, rfl, b, _, rfl, .inl (SqL.of eP), p, _, _, rfl, hb, by omega, by omega, Int.lt_of_le_of_lt (show (vP.length : Int) ≤ 8 by omega) (by decide), fun c H1 ca cb hb1 B1 => ?_⟩
  obtain ⟨ci, rfl⟩ := Int.eq_ofNat_of_zero_le ca
  have hci : ci < ps.length := by omega
  have eP1 := B1.at bp eP
  have alP1 := Al.but alP hb B1
  obtain ⟨q, hq, eq⟩ := alP1.at (i := ci) (r := ps[ci]) (List.getElem?_eq_getElem hci)
  have hmem := List.getElem_mem hci
  generalize ps[ci] = x at eq hmem
  refine ⟨b, _, (ci : Int), .ref q, rfl, rfl, SqL.of eP1, atI_nat hq, q, fP x, 1, .str x.pl, rfl, rfl, SqT.of eq, rfl, ?_⟩
  -- where it begins
  refine ⟨_, rfl, p, 10000, _, rfl, hb1, by omega, by decide, by decide, fun x2 H2 a2 b2 hb2 B2 => ?_⟩
  refine ⟨_, rfl, p, 100, _, rfl, hb2, by omega, by decide, by decide, fun x3 H3 a3 b3 hb3 B3 => ?_⟩
  refine ⟨by show 4 ≤ sizeLine; decide, fun q4 nq4 => ?_⟩
  have U4 := Same.laid (o := HO.lst [.int 0, .int 9999, .int x2, .int x3]) nq4
  have eq4 : upd H3 q4 (.lst [.int 0, .int 9999, .int x2, .int x3]) q4 = some (.lst ([0, 9999, x2, x3].map V.int)) := upd_same
  have q4p := hb3.ne nq4
  have hb4 := hb3.keep U4
  have BH4 : But p H (upd H3 q4 (.lst [.int 0, .int 9999, .int x2, .int x3])) := B1.trans (B2.trans (B3.trans (Same.but U4)))
  generalize upd H3 q4 (.lst [.int 0, .int 9999, .int x2, .int x3]) = H4 at *
  refine ⟨_, rfl, p, 4, _, rfl, hb4, by omega, by decide, by decide, fun j5 H5 a5 b5 hb5 B5 => ?_⟩
  obtain ⟨bg, hbg, at5⟩ := menuI (xs := [0, 9999, x2, x3]) a5 (by simpa using b5)
  have bg01 : 0 ≤ bg ∧ bg ≤ 9999 := by
    simp only [List.mem_cons, List.not_mem_nil, or_false] at hbg
    rcases hbg with rfl | rfl | rfl | rfl <;> omega
  refine ⟨q4, _, j5, _, rfl, rfl, SqL.of (B5.at q4p eq4), at5, ?_⟩
  have BH5 := BH4.trans B5
  -- its rows
  refine ⟨_, rfl, _, rfl, _, rfl, _, rfl, p, 13, _, rfl, hb5, by omega, by decide, by decide, fun x6 H6 a6 b6 hb6 B6 => ?_⟩
  refine ⟨by show 4 ≤ sizeLine; decide, fun q7 nq7 => ?_⟩
  have U7 := Same.laid (o := HO.lst [.int 0, .int 1, .int 12, .int x6]) nq7
  have eq7 : upd H6 q7 (.lst [.int 0, .int 1, .int 12, .int x6]) q7 = some (.lst ([0, 1, 12, x6].map V.int)) := upd_same
  have q7p := hb6.ne nq7
  have hb7 := hb6.keep U7
  have BH7 : But p H (upd H6 q7 (.lst [.int 0, .int 1, .int 12, .int x6])) := BH5.trans (B6.trans (Same.but U7))
  generalize upd H6 q7 (.lst [.int 0, .int 1, .int 12, .int x6]) = H7 at *
  refine ⟨_, rfl, p, 4, _, rfl, hb7, by omega, by decide, by decide, fun j8 H8 a8 b8 hb8 B8 => ?_⟩
  obtain ⟨mn, hmn, at8⟩ := menuI (xs := [0, 1, 12, x6]) a8 (by simpa using b8)
  have mn01 : 0 ≤ mn ∧ mn ≤ 12 := by
    simp only [List.mem_cons, List.not_mem_nil, or_false] at hmn
    rcases hmn with rfl | rfl | rfl | rfl <;> omega
  refine ⟨q7, _, j8, _, rfl, rfl, SqL.of (B8.at q7p eq7), at8, ?_⟩
  have BH8 := BH7.trans B8
  refine ⟨_, rfl, p, b, x.pl, mn, bg, _, ps, rfl, hb8, by omega, bp, LT.but hP hb bp BH8, gp, List.mem_map.mpr ⟨x, hmem, rfl⟩, mn01.1, mn01.2, bg01.1, bg01.2, fun o F H9 vs rs t' hb9 B9 no_ op Fp eo eF al few gs up t0 t1 => ?_⟩
  have BH9 := BH8.trans B9
  refine ⟨o, _, rfl, SqT.of eo, rfl, _, _, rfl, _, _, rfl, rfl, ?_⟩
  -- the letter
  refine ⟨_, rfl, _, rfl, _, rfl, by show 3 ≤ sizeLine; decide, fun q10 nq10 => ?_⟩
  have U10 := Same.laid (o := HO.lst [.int 0, .int 1, .int 30]) nq10
  have eq10 : upd H9 q10 (.lst [.int 0, .int 1, .int 30]) q10 = some (.lst ([0, 1, 30].map V.int)) := upd_same
  have q10p := hb9.ne nq10
  have hb10 := hb9.keep U10
  have BH10 : But p H9 (upd H9 q10 (.lst [.int 0, .int 1, .int 30])) := Same.but U10
  generalize upd H9 q10 (.lst [.int 0, .int 1, .int 30]) = H10 at *
  refine ⟨_, rfl, p, 3, _, rfl, hb10, by omega, by decide, by decide, fun j11 H11 a11 b11 hb11 B11 => ?_⟩
  obtain ⟨i1, hi1, at11⟩ := menuI (xs := [0, 1, 30]) a11 (by simpa using b11)
  have i10 : 0 ≤ i1 := by
    simp only [List.mem_cons, List.not_mem_nil, or_false] at hi1
    rcases hi1 with rfl | rfl | rfl <;> omega
  refine ⟨q10, _, j11, _, rfl, rfl, SqL.of (B11.at q10p eq10), at11, _, _, rfl, rfl, _, _, rfl, ?_⟩
  obtain ⟨t2, e2, t20, t21, t22⟩ : ∃ t2 : Int, (if t' + i1 < 9999 then t' + i1 else 9999) = t2 ∧ t' ≤ t2 ∧ 0 ≤ t2 ∧ t2 ≤ 9999 := ⟨_, rfl, by split <;> omega, by split <;> omega, by split <;> omega⟩
  rw [e2]
  have B911 := BH10.trans B11
  have eF11 := B911.at Fp eF
  have al11 := Al.but al hb9 B911
  refine ⟨_, rfl, F, vs, rfl, .inl ⟨SqL.of eF11, fun rt nrt => ?_⟩⟩
  have U12 := Same.laid (o := HO.tup vs) nrt
  have ert : upd H11 rt (.tup vs) rt = some (.tup vs) := upd_same
  have hb12 := hb11.keep U12
  have al12 := al11.same U12
  have BH12 : But p H (upd H11 rt (.tup vs)) := BH9.trans (B911.trans (Same.but U12))
  generalize upd H11 rt (.tup vs) = H12 at *
  refine ⟨by show 5 ≤ sizeLine; decide, fun r nr => ?_⟩
  have Ur := Same.laid (o := HO.tup [.str "signs", .str x.pl, .int no, .int t2, .ref rt]) nr
  have rp := hb12.ne nr
  refine k r _ ⟨x.pl, no, t2, rs⟩ ((hb12.keep Ur).up (by omega)) (BH12.trans (Same.but Ur)) (But.none_of BH12 nr rp) rp ⟨rt, vs, upd_same, Ur _ _ ert, al12.same Ur⟩ ?_
  exact ⟨List.mem_map.mpr ⟨x, hmem, rfl⟩, n0, n1, t21, t22, few, gs, up_to up t20⟩
end
end V10

set_option maxHeartbeats 8000000
namespace V10
open PySem PySem.Spec PyProof.Rows L2 Pw
/-! ### the law's own looks -/
/-- a dict of the points' words -/
def kvp (f : Pt → Str) (ps : List Pt) : List (Key × V) := ps.map fun x => (.inr x.nm, .str (f x))
theorem valV_kvp (f : Pt → Str) (ps : List Pt) (s : Str) : valV (kvp f ps) (.inr s) = (ptOf ps (.str s)).map fun pt => V.str (f pt) := by
  unfold valV kvp ptOf
  rw [List.find?_map, Option.map_map]
  have e : ((fun kv : Key × V => decide (kv.1 = .inr s)) ∘ fun x : Pt => ((.inr x.nm, .str (f x)) : Key × V)) = fun pt => decide (pt.nm = s) := by
    funext pt
    show decide ((Sum.inr pt.nm : Key) = .inr s) = decide (pt.nm = s)
    by_cases h : pt.nm = s
    · rw [decide_eq_true h, decide_eq_true (by rw [h])]
    · rw [decide_eq_false h, decide_eq_false fun z => h (Sum.inr.inj z)]
  rw [e]
  rfl
theorem merge_new : ∀ (more acc : List (Key × V)), ((acc ++ more).map Prod.fst).Nodup → mergeK acc more = acc ++ more
  | [], acc, _ => by simp [mergeK]
  | kv :: more, acc, nd => by
    have n1 : kv.1 ∉ acc.map Prod.fst := fun z => by
      rw [List.map_append, List.nodup_append] at nd
      exact nd.2.2 _ z _ (by simp) rfl
    have e : mergeK acc (kv :: more) = mergeK (putK acc kv.1 kv.2) more := rfl
    rw [e, putK_new n1, merge_new more _ (by simpa using nd)]
    simp
theorem merge_kvp {f : Pt → Str} {ps : List Pt} (nd : (ps.map (·.nm)).Nodup) : mergeK [] (kvp f ps) = kvp f ps := by
  refine merge_new _ [] ?_
  rw [List.nil_append]
  unfold kvp
  rw [List.map_map]
  exact List.pairwise_map.mpr ((List.pairwise_map.mp nd).imp fun n z => n (Sum.inr.inj z))
def fNS (f : Pt → Str) (x : Pt) : List V := [.str x.nm, .str (f x)]
theorem al_prs {K : PySem.W.Frag} {H : Hp} {f : Pt → Str} {vs : List V} {l : List Pt} (h : Al (fNS f) H vs l) : ∃ ps : List Addr, vs = ps.map V.ref ∧ Paired (fun p kv => SqT K H p [kV kv.1, kv.2]) ps (kvp f l) := by
  induction h with
  | nil => exact ⟨[], rfl, .nil⟩
  | cons e _ ih =>
    obtain ⟨ps, e1, e2⟩ := ih
    exact ⟨_ :: ps, by rw [e1]; rfl, .cons (SqT.of e) e2⟩
theorem kvp_keys (f : Pt → Str) (ps : List Pt) : ((kvp f ps).map fun kv => kV kv.1) = (ps.map Pt.nm).map V.str := by
  unfold kvp
  rw [List.map_map, List.map_map]
  rfl
theorem kvp_vals (f : Pt → Str) (ps : List Pt) : ((kvp f ps).map fun kv => kv.2) = (ps.map f).map V.str := by
  unfold kvp
  rw [List.map_map, List.map_map]
  rfl
section
variable {P : Program} {w : World} {K : PySem.W.Frag} {mg : Str → Option Value} {base : Heap}
def spLWhole (K : PySem.W.Frag) : Sp := fun vs H Q _ => ∃ x t lo hi, vs = [x, .int lo, .int hi] ∧ Ty K H x t ∧ Q (.bl (wholeB x lo hi)) H
theorem d_lWhole (T : Txt mg) (A : At K mg "_law_whole" sLawWhole) : Def P w K mg base "_law_whole" 1 ["_law_thing_here", "_law_low", "_law_high"] (spLWhole K) := by
  refine mkDef A scLawWhole (fun _ _ _ _ _ _ us hl => match us, hl with | [_, _, _], _ => rfl) (fun vs H Q E ⟨_, _, _, _, e, _⟩ => by rw [e]; rfl)
    (fun f cdv A out s H vs Q E hr h => ?_)
  obtain ⟨x, t, lo, hi, rfl, ty, k⟩ := h
  refine ⟨_, (pss_one (ps_ret (pe_and (pe_is T.isinstance (by rfl) (pv 0) T.int (by rfl) (Tn := "int") (by decide +kernel)) (pe_and (pe_not (pe_is T.isinstance (by rfl) (pv 0) T.bool (by rfl) (Tn := "bool") (by decide +kernel))) (pe_and (pe_cmpR op_le (pv 1) (pv 0) (nomark _)) (pe_one (pe_cmpR op_le (pv 0) (pv 2) (nomark _)))))))), ?_⟩
  refine ⟨_, rfl, x, .ty "int", t, .type "int", _, rfl, .ty "int", ty.q, ty.isInt, _, rfl, ?_⟩
  cases x with
  | int i =>
    refine iteT ⟨_, rfl, .int i, .ty "bool", t, .type "bool", _, rfl, .ty "bool", ty.q, ty.isBool, _, rfl, true, rfl, iteT ?_⟩
    refine ⟨_, rfl, _, rfl, lo, i, rfl, rfl, _, rfl, ?_⟩
    have e : wholeB (.int i) lo hi = (decide (lo ≤ i) && decide (i ≤ hi)) := rfl
    rw [e] at k
    cases h1 : decide (lo ≤ i) with
    | false =>
      rw [h1, Bool.false_and] at k
      exact iteF k
    | true =>
      rw [h1, Bool.true_and] at k
      exact iteT ⟨_, rfl, _, rfl, i, hi, rfl, rfl, k⟩
  | bl b =>
    exact iteT ⟨_, rfl, .bl b, .ty "bool", t, .type "bool", _, rfl, .ty "bool", ty.q, ty.isBool, _, rfl, false, rfl, iteF k⟩
  | _ => exact iteF k
def spLText (K : PySem.W.Frag) : Sp := fun vs H Q _ => ∃ y t a ws, vs = [y, .ref a] ∧ Ty K H y t ∧ H a = some (.lst ((ws : List Str).map V.str)) ∧ Q (.bl (nmIn y ws)) H
theorem d_lText (T : Txt mg) (A : At K mg "_law_text" sLawText) : Def P w K mg base "_law_text" 1 ["_law_thing_here", "_law_words"] (spLText K) := by
  refine mkDef A scLawText (fun _ _ _ _ _ _ us hl => match us, hl with | [_, _], _ => rfl) (fun vs H Q E ⟨_, _, _, _, e, _⟩ => by rw [e]; rfl)
    (fun f cdv A out s H vs Q E hr h => ?_)
  obtain ⟨y, t, a, ws, rfl, ty, e, k⟩ := h
  refine ⟨_, (pss_one (ps_ret (pe_and (pe_is T.isinstance (by rfl) (pv 0) T.str (by rfl) (Tn := "str") (by decide +kernel)) (pe_one (pe_cmpR op_in_seq (pv 0) (pv 1) (by rfl)))))), ?_⟩
  refine ⟨_, rfl, y, .ty "str", t, .type "str", _, rfl, .ty "str", ty.q, ty.isStr, _, rfl, ?_⟩
  cases y with
  | str s0 =>
    refine iteT ⟨_, rfl, _, rfl, a, _, rfl, .inl (SqL.of e), rfl, flat_strs _, ?_⟩
    rw [inV_str]
    exact k
  | _ => exact iteF k
/-- the marks -/
theorem nmIn_one (y : V) (ws : List Str) : nmIn y ws = oneB y ws := by
  cases y <;> try rfl
  rename_i s
  show decide (s ∈ ws) = ws.any fun y => y == s
  rw [Bool.eq_iff_iff, decide_eq_true_iff, List.any_eq_true]
  constructor
  · exact fun h => ⟨s, h, beq_self_eq_true s⟩
  · rintro ⟨x, h, e⟩
    rw [← eq_of_beq e]
    exact h
def spLSign (K : PySem.W.Frag) : Sp := fun vs H Q _ => ∃ b ps y, vs = [.ref b, y] ∧ LT fP H b ps ∧ GoodPs ps ∧ Kn1 K H y ∧ ∀ H', Same H H' → Q (.bl (signB H ps y)) H'
theorem len_dec (xs : List V) (n : Nat) : decide (V.int (xs.length : Int) = V.int (n : Int)) = decide (xs.length = n) := by
  by_cases h : xs.length = n
  · rw [decide_eq_true h, decide_eq_true (by rw [h])]
  · rw [decide_eq_false h, decide_eq_false fun z => h (by have := V.int.inj z; omega)]
theorem sign_no {H : Hp} {ps : List Pt} {y : V} (n : ∀ xs, tupOf H y = some xs → xs.length ≠ 4) : signB H ps y = false := by
  unfold signB
  split
  · rename_i e
    exact absurd rfl (n _ e)
  · rfl
theorem d_lSign (T : Txt mg) (A : At K mg "_law_sign" sLawSign) (dw : Def P w K mg base "_law_whole" 1 ["_law_thing_here", "_law_low", "_law_high"] (spLWhole K)) (dt : Def P w K mg base "_law_text" 1 ["_law_thing_here", "_law_words"] (spLText K)) :
    Def P w K mg base "_law_sign" 2 ["_law_points_here", "_law_thing_here"] (spLSign K) := by
  refine mkDef A scLawSign (fun _ _ _ _ _ _ us hl => match us, hl with | [_, _], _ => rfl) (fun vs H Q E ⟨_, _, _, e, _⟩ => by rw [e]; rfl)
    (fun f cdv A out s H vs Q E hr h => ?_)
  have hu : (A.deeper (envOfC "_law_sign" (defScope sLawSign) s.heap.objs.size f cdv)).units + 1 < cLine := hu_of hr
  obtain ⟨b, ps, y, rfl, hP, gp, kn, k⟩ := h
  refine ⟨_, (pss_cons (ps_if (PW.pt (pw_or (pt_not (pt_val (pe_is T.isinstance (by rfl) (pv 1) T.tuple (by rfl) (Tn := "tuple") (by decide +kernel)))) (pw_or (pt_cmpR op_ne (pe_callB call_len_seq (by rfl) T.len PySem.boot_len (pa_cons (pv 1) pa_nil)) pe_int (nomark _)) (pw_or1 (pt_not (pt_val (pe_d dw hr (by decide) (by rfl) (pa_cons (pe_ix (r := rIxT K) ix_tup (pv 1) pe_int (fun _ _ => rfl)) (pa_cons pe_int (pa_cons pe_int pa_nil))))))))))
      (pss_one (ps_ret pe_bl))
      pss_nil)
    (pss_cons (ps_set (i := 2) scLawSign.nd rfl (.inl rfl) (pe_callTy (call_dictP rfl) (by rfl) T.dict (by decide +kernel) (pa_cons (pe_lc (own := [("_law_name", 3), ("_law_place", 4), ("_law_kind", 5)]) (g := (gTup K 3 (gCons (gName 3) (gCons (gName 4) (gCons (gName 5) gNil))))) (tt := tYes) rfl scLawSign.nd (pi_list (pv 0))
        (blkOk_by (own := [("_law_name", 3), ("_law_place", 4), ("_law_kind", 5)]) (N := ["_law_points_here", "_law_thing_here", "_law_kinds", "_law_name", "_law_place", "_law_kind"]) (sc := defScope sLawSign) (by decide +kernel))
        (fun _ _ _ _ _ => (pg_tup (by rfl) (pgs_cons (pg_name (i := 3) scLawSign.nd rfl (.inl rfl)) (pgs_cons (pg_name (i := 4) scLawSign.nd rfl (.inl rfl)) (pgs_cons (pg_name (i := 5) scLawSign.nd rfl (.inl rfl)) pgs_nil))))) (fun _ _ _ _ _ => pts_nil)
        (fun _ _ _ _ _ => (pe_tup (pa_cons (pv 3) (pa_cons (pv 5) pa_nil))))) pa_nil)))
    (pss_cons (ps_if (pt_not (pt_val (pe_d dt hr (by decide) (by rfl) (pa_cons (pe_ix (r := rIxT K) ix_tup (pv 1) pe_int (fun _ _ => rfl)) (pa_cons (pe_callTy (call_list_dK rfl) (by rfl) T.list (by decide +kernel) (pa_cons (pv 2) pa_nil)) pa_nil)))))
      (pss_one (ps_ret pe_bl))
      pss_nil)
    (pss_one (ps_ret (pe_and (pe_d dw hr (by decide) (by rfl) (pa_cons (pe_ix (r := rIxT K) ix_tup (pv 1) pe_int (fun _ _ => rfl)) (pa_cons pe_int (pa_cons (pe_ix ix_list (pe_lst (pa_cons pe_int (pa_cons pe_int pa_nil))) (pe_callTy call_int1 (by rfl) T.int (by decide +kernel) (pa_cons (pe_cmpR op_eq (pe_dget hu (pv 2) (pe_ix (r := rIxT K) ix_tup (pv 1) pe_int (fun _ _ => rfl)) (fun _ _ => rfl)) pe_str (nomark _)) pa_nil)) (fun _ _ => rfl)) pa_nil)))) (pe_one (pe_d dt hr (by decide) (by rfl) (pa_cons (pe_ix (r := rIxT K) ix_tup (pv 1) pe_int (fun _ _ => rfl)) (pa_cons (pe_lst (pa_cons pe_str (pa_cons pe_str pa_nil))) pa_nil)))))))))), ?_⟩
  obtain ⟨t, ty⟩ := kn.1.1
  have kk := k H (Same.refl _)
  refine ⟨_, rfl, y, .ty "tuple", t, .type "tuple", _, rfl, .ty "tuple", ty.q, ty.isTuple, _, rfl, ?_⟩
  cases h : tupOf H y with
  | none =>
    rw [sign_no (fun xs e => by rw [h] at e; cases e)] at kk
    rw [tupB_no h]
    exact iteT kk
  | some xs =>
    rw [tupB_of h]
    obtain ⟨a, rfl, e⟩ := tupOf_is h
    have kx := kn.2 xs h
    refine iteF ⟨_, rfl, a, xs, rfl, .inr (SqT.of e), rfl, _, rfl, ?_⟩
    rw [show (V.int 4) = V.int ((4 : Nat) : Int) from rfl, len_dec]
    by_cases hl : xs.length = 4
    · rw [decide_eq_true hl]
      match xs, hl with
      | [x1, x2, x3, x4], _ =>
        have e2 : signB H ps (.ref a) = (wholeB x1 0 9999 && (match ptOf ps x2 with
          | some pt => wholeB x3 0 (hiP pt) && oneB x4 ["good", "odd"]
          | none => false)) := by
          unfold signB
          rw [h]
          try rfl
        rw [e2] at kk k
        obtain ⟨t1, ty1⟩ := (kx x1 (by simp)).1
        refine iteF ⟨_, rfl, a, _, 0, x1, rfl, rfl, SqT.of e, rfl, x1, t1, 0, 9999, rfl, ty1, _, rfl, ?_⟩
        cases h1 : wholeB x1 0 9999 with
        | false =>
          rw [h1, Bool.false_and] at kk
          exact iteT kk
        | true =>
          rw [h1, Bool.true_and] at k
          refine iteF ?_
          -- the kinds
          obtain ⟨vs, ea, al⟩ := hP.ex
          have hlen := al.length
          have l8 := gp.len
          refine ⟨_, rfl, b, rfl, ⟨_, SqL.of ea⟩, fun M nM => ?_⟩
          refine lc_acc (walk_list (K := K) (a := b) (xs := vs)) nM (by omega) (fun i acc G => Al (fNS fun x => kd x.sw) G acc (ps.take i)) .nil (fun H' S => SqL.of (S _ _ ea)) ?_ ?_
          · rintro i2 v G0 G acc hi S eM hl hacc ⟨rfl, hx⟩ Fy Fn hy1 _
            obtain ⟨q, x, rfl, hx', eq⟩ := (al.same S).get hx
            refine ⟨q, _, rfl, SqT.of eq, rfl, _, _, rfl, _, _, rfl, _, _, rfl, rfl, ?_⟩
            refine ⟨rfl, ?_⟩
            unfold tYes
            refine iteT ?_
            refine ⟨_, rfl, _, rfl, by show 2 ≤ sizeLine; decide, fun q2 nq2 => ?_⟩
            have U := Same.laid (o := HO.tup (fNS (fun x => kd x.sw) x)) nq2
            have q2M : q2 ≠ M := fun z => by rw [z, eM] at nq2; cases nq2
            refine hy1 _ _ U ?_
            rw [List.take_add_one, hx']
            refine Al.snoc (hacc.imp fun b xs e => ?_) ?_
            · exact Same.wo U _ _ e
            · exact (wo_ne q2M).trans upd_same
          rintro H1 acc S1 eM hacc
          rw [List.take_of_length_le (by omega)] at hacc
          obtain ⟨prs, e1, e2⟩ := al_prs (K := K) (hacc.imp fun b xs e => wo_same _ _ e : Al (fNS fun x => kd x.sw) H1 acc _)
          refine ⟨M, prs, _, rfl, e1 ▸ SqL.of eM, e2, fun D nD => ?_⟩
          rw [merge_kvp gp.nd]
          have S2 := Same.laid (o := HO.dK (kvp (fun x => kd x.sw) ps)) nD
          have eD : upd H1 D (.dK (kvp (fun x => kd x.sw) ps)) D = some (.dK (kvp (fun x => kd x.sw) ps)) := upd_same
          generalize upd H1 D (.dK (kvp (fun x => kd x.sw) ps)) = H2 at *
          have S02 := S1.trans S2
          dsimp only [gName]
          -- the name
          refine ⟨_, rfl, a, _, 1, x2, rfl, rfl, SqT.of (S02 _ _ e), rfl, _, rfl, D, _, rfl, eD, fun q nq => ?_⟩
          rw [kvp_keys]
          have S3 := Same.laid (o := HO.lst ((ps.map Pt.nm).map V.str)) nq
          have eq3 : upd H2 q (.lst ((ps.map Pt.nm).map V.str)) q = some (.lst ((ps.map Pt.nm).map V.str)) := upd_same
          generalize upd H2 q (.lst ((ps.map Pt.nm).map V.str)) = H3 at *
          have S03 := S02.trans S3
          obtain ⟨t2, ty2⟩ := ((kx x2 (by simp)).same S03).1
          refine ⟨x2, t2, q, _, rfl, ty2, eq3, _, rfl, ?_⟩
          rw [nmIn_pt]
          have k3 := k _ S03
          cases hp : ptOf ps x2 with
          | none =>
            rw [hp] at k3
            exact iteT k3
          | some pt =>
            obtain ⟨hpt, rfl⟩ := ptOf_some hp
            rw [hp] at k
            refine iteF ?_
            -- the worth
            obtain ⟨t3, ty3⟩ := ((kx x3 (by simp)).same S03).1
            refine ⟨_, rfl, a, _, 2, x3, rfl, rfl, SqT.of (S03 _ _ e), rfl, by show 2 ≤ sizeLine; decide, fun L nL => ?_⟩
            have S4 := Same.laid (o := HO.lst [V.int 63, .int 1]) nL
            have eL : upd H3 L (.lst [V.int 63, .int 1]) L = some (.lst [V.int 63, .int 1]) := upd_same
            generalize upd H3 L (.lst [V.int 63, .int 1]) = H4 at *
            have S04 := S03.trans S4
            have eD4 := S4 _ _ (S3 _ _ eD)
            have ev := valV_kvp (fun x => kd x.sw) ps pt.nm
            rw [hp, Option.map_some] at ev
            refine ⟨_, rfl, _, rfl, a, _, 1, .str pt.nm, rfl, rfl, SqT.of (S04 _ _ e), rfl, D, _, rfl, .inl ⟨_, .inr pt.nm, .inl eD4, rfl, ev.symm⟩, rfl, .inr ⟨_, rfl, ?_⟩⟩
            have at0 : atI [V.int 63, .int 1] (if decide (V.str (kd pt.sw) = V.str "switch") = true then 1 else 0) = some (.int (hiP pt)) := by
              unfold hiP
              cases pt.sw
              · rw [show decide (V.str (kd false) = V.str "switch") = false from by decide +kernel]; rfl
              · rw [show decide (V.str (kd true) = V.str "switch") = true from by decide +kernel]; rfl
            refine ⟨L, _, _, _, rfl, rfl, SqL.of eL, at0, x3, t3, 0, hiP pt, rfl, ty3.same S4, _, rfl, ?_⟩
            have k4 : Q (.bl (wholeB x3 0 (hiP pt) && oneB x4 ["good", "odd"])) H4 := k _ S04
            cases h3 : wholeB x3 0 (hiP pt) with
            | false =>
              rw [h3] at k4
              exact iteF k4
            | true =>
              -- the mark
              refine iteT ⟨_, rfl, a, _, 3, x4, rfl, rfl, SqT.of (S04 _ _ e), rfl, by show 2 ≤ sizeLine; decide, fun L2 nL2 => ?_⟩
              have S5 := Same.laid (o := HO.lst [V.str "good", .str "odd"]) nL2
              have eL2 : upd H4 L2 (.lst [V.str "good", .str "odd"]) L2 = some (.lst ((["good", "odd"] : List Str).map V.str)) := upd_same
              generalize upd H4 L2 (.lst [V.str "good", .str "odd"]) = H5 at *
              obtain ⟨t4, ty4⟩ := ((kx x4 (by simp)).same (S04.trans S5)).1
              refine ⟨x4, t4, L2, _, rfl, ty4, eL2, ?_⟩
              rw [nmIn_one]
              have k5 : Q (.bl (wholeB x3 0 (hiP pt) && oneB x4 ["good", "odd"])) H5 := k _ (S04.trans S5)
              rw [h3] at k5
              exact k5
    · rw [decide_eq_false hl]
      rw [sign_no (fun ys e => by rw [h] at e; cases e; exact hl)] at kk
      exact iteT kk
end
end V10

set_option maxHeartbeats 8000000
namespace V10
open PySem PySem.Spec PyProof.Rows L2 Pw
theorem signs_no {H : Hp} {ps : List Pt} {y : V} (n : ∀ xs, tupOf H y = some xs → xs.length ≠ 5) : signsB H ps y = false := by
  unfold signsB
  split
  · rename_i e
    exact absurd rfl (n _ e)
  · rfl
theorem nmIn_w (x : V) (s : Str) : nmIn x [s] = isW x s := by
  unfold isW
  cases x <;> try rfl
  rename_i z
  show decide (z ∈ [s]) = decide (V.str z = V.str s)
  by_cases h : z = s
  · rw [decide_eq_true (by simp [h]), decide_eq_true (by rw [h])]
  · rw [decide_eq_false (by simpa using h), decide_eq_false fun q => h (V.str.inj q)]
/-- a row that breaks a letter -/
theorem rows_bad {H : Hp} {ps : List Pt} {pl : Str} {rs : List V} {ti : Int} {i : Nat} {v : V} (hx : rs[i]? = some v) (h : signAtB H ps pl v = false ∨ (∃ r ∈ rs.take i, tmOf H v < tmOf H r) ∨ ti < tmOf H v) :
    (rs.all (signAtB H ps pl) && decide ((rs.map (tmOf H) ++ [ti]).Pairwise (· ≤ ·))) = false := by
  rw [Bool.eq_false_iff]
  intro z
  rw [Bool.and_eq_true, List.all_eq_true, decide_eq_true_iff, List.pairwise_append] at z
  obtain ⟨z1, z2, _, z3⟩ := z
  have hm := List.mem_of_getElem? hx
  rcases h with h | ⟨r, hr, h⟩ | h
  · rw [z1 v hm] at h
    cases h
  · obtain ⟨j, hj, ej⟩ := List.getElem_of_mem hr
    rw [List.length_take] at hj
    rw [List.getElem_take] at ej
    rw [List.pairwise_map, List.pairwise_iff_getElem] at z2
    obtain ⟨hi, ei⟩ := List.getElem?_eq_some_iff.mp hx
    have := z2 j i (by omega) hi (by omega)
    rw [ej, ei] at this
    omega
  · have := z3 (tmOf H v) (List.mem_map.mpr ⟨v, hm, rfl⟩) ti (by simp)
    omega
section
variable {P : Program} {w : World} {K : PySem.W.Frag} {mg : Str → Option Value} {base : Heap}
def spLSigns (K : PySem.W.Frag) : Sp := fun vs H Q _ => ∃ b ps y, vs = [.ref b, y] ∧ LT fP H b ps ∧ GoodPs ps ∧ KnS K H y ∧ ∀ H', Same H H' → Q (.bl (signsB H ps y)) H'
theorem d_lSigns (T : Txt mg) (A : At K mg "_law_signs" sLawSigns) (dw : Def P w K mg base "_law_whole" 1 ["_law_thing_here", "_law_low", "_law_high"] (spLWhole K)) (dt : Def P w K mg base "_law_text" 1 ["_law_thing_here", "_law_words"] (spLText K))
    (ds : Def P w K mg base "_law_sign" 2 ["_law_points_here", "_law_thing_here"] (spLSign K)) : Def P w K mg base "_law_signs" 3 ["_law_points_here", "_law_thing_here"] (spLSigns K) := by
  refine mkDef A scLawSigns (fun _ _ _ _ _ _ us hl => match us, hl with | [_, _], _ => rfl) (fun vs H Q E ⟨_, _, _, e, _⟩ => by rw [e]; rfl)
    (fun f cdv A out s H vs Q E hr h => ?_)
  have hu : (A.deeper (envOfC "_law_signs" (defScope sLawSigns) s.heap.objs.size f cdv)).units + 1 < cLine := hu_of hr
  obtain ⟨b, ps, y, rfl, hP, gp, kn, k⟩ := h
  refine ⟨_, (pss_cons (ps_if (PW.pt (pw_or (pt_not (pt_val (pe_is T.isinstance (by rfl) (pv 1) T.tuple (by rfl) (Tn := "tuple") (by decide +kernel)))) (pw_or (pt_cmpR op_ne (pe_callB call_len_seq (by rfl) T.len PySem.boot_len (pa_cons (pv 1) pa_nil)) pe_int (nomark _)) (pw_or1 (pt_not (pt_val (pe_d dt hr (by decide) (by rfl) (pa_cons (pe_ix (r := rIxT K) ix_tup (pv 1) pe_int (fun _ _ => rfl)) (pa_cons (pe_lst (pa_cons pe_str pa_nil)) pa_nil)))))))))
      (pss_one (ps_ret pe_bl))
      pss_nil)
    (pss_cons (ps_asg (pv 1) (pg_tup (by rfl) (pgs_cons (pg_name (i := 2) scLawSigns.nd rfl (.inl rfl)) (pgs_cons (pg_name (i := 3) scLawSigns.nd rfl (.inl rfl)) (pgs_cons (pg_name (i := 4) scLawSigns.nd rfl (.inl rfl)) (pgs_cons (pg_name (i := 5) scLawSigns.nd rfl (.inl rfl)) (pgs_cons (pg_name (i := 6) scLawSigns.nd rfl (.inl rfl)) pgs_nil)))))))
    (pss_cons (ps_set (i := 7) scLawSigns.nd rfl (.inl rfl) (pe_callTy (call_dictP rfl) (by rfl) T.dict (by decide +kernel) (pa_cons (pe_lc (own := [("_law_name", 10), ("_law_home", 11), ("_law_kind", 12)]) (g := (gTup K 3 (gCons (gName 10) (gCons (gName 11) (gCons (gName 12) gNil))))) (tt := tYes) rfl scLawSigns.nd (pi_list (pv 0))
        (blkOk_by (own := [("_law_name", 10), ("_law_home", 11), ("_law_kind", 12)]) (N := ["_law_points_here", "_law_thing_here", "_law_word", "_law_place", "_law_number", "_law_time", "_law_rows_here", "_law_homes", "_law_last", "_law_row", "_law_name", "_law_home", "_law_kind"]) (sc := defScope sLawSigns) (by decide +kernel))
        (fun _ _ _ _ _ => (pg_tup (by rfl) (pgs_cons (pg_name (i := 10) scLawSigns.nd rfl (.inl rfl)) (pgs_cons (pg_name (i := 11) scLawSigns.nd rfl (.inl rfl)) (pgs_cons (pg_name (i := 12) scLawSigns.nd rfl (.inl rfl)) pgs_nil))))) (fun _ _ _ _ _ => pts_nil)
        (fun _ _ _ _ _ => (pe_tup (pa_cons (pv 10) (pa_cons (pv 11) pa_nil))))) pa_nil)))
    (pss_cons (ps_if (PW.pt (pw_or (pt_not (pt_val (pe_d dt hr (by decide) (by rfl) (pa_cons (pv 3) (pa_cons (pe_listVals rfl (pv 7) (by rfl) T.list (by decide +kernel)) pa_nil))))) (pw_or (pt_not (pt_val (pe_d dw hr (by decide) (by rfl) (pa_cons (pv 4) (pa_cons pe_int (pa_cons pe_int pa_nil)))))) (pw_or1 (pt_not (pt_val (pe_d dw hr (by decide) (by rfl) (pa_cons (pv 5) (pa_cons pe_int (pa_cons pe_int pa_nil))))))))))
      (pss_one (ps_ret pe_bl))
      pss_nil)
    (pss_cons (ps_if (PW.pt (pw_or (pt_not (pt_val (pe_is T.isinstance (by rfl) (pv 6) T.tuple (by rfl) (Tn := "tuple") (by decide +kernel)))) (pw_or1 (pt_cmpR op_gt (pe_callB call_len_seq (by rfl) T.len PySem.boot_len (pa_cons (pv 6) pa_nil)) pe_int (nomark _)))))
      (pss_one (ps_ret pe_bl))
      pss_nil)
    (pss_cons (ps_set (i := 8) scLawSigns.nd rfl (.inl rfl) pe_int)
    (pss_cons (ps_for PassesOwn.never rfl (pi_sq (pv 6)) (pg_name (i := 9) scLawSigns.nd rfl (.inl rfl))
      (pss_cons (ps_if (PW.pt (pw_or (pt_not (pt_val (pe_d ds hr (by decide) (by rfl) (pa_cons (pv 0) (pa_cons (pv 9) pa_nil))))) (pw_or (pt_cmpR op_ne (pe_dget hu (pv 7) (pe_ix (r := rIxT K) ix_tup (pv 9) pe_int (fun _ _ => rfl)) (fun _ _ => rfl)) (pv 3) (nomark _)) (pw_or (pt_cmpR op_lt (pe_ix (r := rIxT K) ix_tup (pv 9) pe_int (fun _ _ => rfl)) (pv 8) (nomark _)) (pw_or1 (pt_cmpR op_gt (pe_ix (r := rIxT K) ix_tup (pv 9) pe_int (fun _ _ => rfl)) (pv 5) (nomark _)))))))
        (pss_one (ps_ret pe_bl))
        pss_nil)
      (pss_one (ps_set (i := 8) scLawSigns.nd rfl (.inl rfl) (pe_ix (r := rIxT K) ix_tup (pv 9) pe_int (fun _ _ => rfl))))))
    (pss_one (ps_ret pe_bl))))))))), ?_⟩
  obtain ⟨t, ty⟩ := kn.k0.1
  have kk := k H (Same.refl _)
  refine ⟨_, rfl, y, .ty "tuple", t, .type "tuple", _, rfl, .ty "tuple", ty.q, ty.isTuple, _, rfl, ?_⟩
  cases h : tupOf H y with
  | none =>
    rw [signs_no (fun xs e => by rw [h] at e; cases e)] at kk
    rw [tupB_no h]
    exact iteT kk
  | some xs =>
    rw [tupB_of h]
    obtain ⟨a, rfl, e⟩ := tupOf_is h
    obtain ⟨kx, _⟩ := kn.parts xs h
    refine iteF ⟨_, rfl, a, xs, rfl, .inr (SqT.of e), rfl, _, rfl, ?_⟩
    rw [show (V.int 5) = V.int ((5 : Nat) : Int) from rfl, len_dec]
    by_cases hl : xs.length = 5
    · rw [decide_eq_true hl]
      match xs, hl with
      | [x0, x1, x2, x3, x4], _ =>
        have e2 : signsB H ps (.ref a) = (isW x0 "signs" && ((nmIn x1 (ps.map Pt.pl) && (wholeB x2 1 40 && wholeB x3 0 9999)) && rowsB H ps x1 x3 x4)) := by
          unfold signsB
          rw [h]
        rw [e2] at kk k
        refine iteF ⟨_, rfl, a, _, 0, x0, rfl, rfl, SqT.of e, rfl, by show 1 ≤ sizeLine; decide, fun L0 nL0 => ?_⟩
        have S0 := Same.laid (o := HO.lst [V.str "signs"]) nL0
        have eL0 : upd H L0 (.lst [V.str "signs"]) L0 = some (.lst ((["signs"] : List Str).map V.str)) := upd_same
        generalize upd H L0 (.lst [V.str "signs"]) = H0 at *
        obtain ⟨t0, ty0⟩ := ((kx x0 (by simp)).1.same S0).1
        refine ⟨x0, t0, L0, _, rfl, ty0, eL0, _, rfl, ?_⟩
        rw [nmIn_w]
        cases h1 : isW x0 "signs" with
        | false =>
          have k0 := k H0 S0
          rw [h1, Bool.false_and] at k0
          exact iteT k0
        | true =>
          rw [h1, Bool.true_and] at k
          refine iteF ?_
          refine ⟨_, rfl, a, _, rfl, SqT.of (S0 _ _ e), rfl, _, _, rfl, _, _, rfl, _, _, rfl, _, _, rfl, _, _, rfl, rfl, ?_⟩
          -- the homes
          obtain ⟨vs, ea, al⟩ := hP.ex
          have hlen := al.length
          have l8 := gp.len
          have ea0 := S0 _ _ ea
          have al0 := al.same S0
          dsimp only [gName]
          refine ⟨_, rfl, b, rfl, ⟨_, SqL.of ea0⟩, fun M nM => ?_⟩
          refine lc_acc (walk_list (K := K) (a := b) (xs := vs)) nM (by omega) (fun i acc G => Al (fNS Pt.pl) G acc (ps.take i)) .nil (fun H' S => SqL.of (S _ _ ea0)) ?_ ?_
          · rintro i2 v G0 G acc hi S eM hl hacc ⟨rfl, hx⟩ Fy Fn hy1 _
            obtain ⟨q, x, rfl, hx', eq⟩ := (al0.same S).get hx
            refine ⟨q, _, rfl, SqT.of eq, rfl, _, _, rfl, _, _, rfl, _, _, rfl, rfl, ?_⟩
            refine ⟨rfl, ?_⟩
            unfold tYes
            refine iteT ?_
            refine ⟨_, rfl, _, rfl, by show 2 ≤ sizeLine; decide, fun q2 nq2 => ?_⟩
            have U := Same.laid (o := HO.tup (fNS Pt.pl x)) nq2
            have q2M : q2 ≠ M := fun z => by rw [z, eM] at nq2; cases nq2
            refine hy1 _ _ U ?_
            rw [List.take_add_one, hx']
            refine Al.snoc (hacc.imp fun b xs e => ?_) ?_
            · exact Same.wo U _ _ e
            · exact (wo_ne q2M).trans upd_same
          rintro H1 acc S1 eM hacc
          rw [List.take_of_length_le (by omega)] at hacc
          obtain ⟨prs, e1, e3⟩ := al_prs (K := K) (hacc.imp fun b xs e => wo_same _ _ e : Al (fNS Pt.pl) H1 acc _)
          refine ⟨M, prs, _, rfl, e1 ▸ SqL.of eM, e3, fun D nD => ?_⟩
          rw [merge_kvp gp.nd]
          have S2 := Same.laid (o := HO.dK (kvp Pt.pl ps)) nD
          have eD : upd H1 D (.dK (kvp Pt.pl ps)) D = some (.dK (kvp Pt.pl ps)) := upd_same
          generalize upd H1 D (.dK (kvp Pt.pl ps)) = H2 at *
          have S02 := S0.trans (S1.trans S2)
          dsimp only [gName]
          -- the place
          refine ⟨_, rfl, _, rfl, D, _, rfl, eD, fun q nq => ?_⟩
          rw [kvp_vals]
          have S3 := Same.laid (o := HO.lst ((ps.map Pt.pl).map V.str)) nq
          have eq3 : upd H2 q (.lst ((ps.map Pt.pl).map V.str)) q = some (.lst ((ps.map Pt.pl).map V.str)) := upd_same
          generalize upd H2 q (.lst ((ps.map Pt.pl).map V.str)) = H3 at *
          have S03 := S02.trans S3
          have eD3 := S3 _ _ eD
          obtain ⟨t1, ty1⟩ := ((kx x1 (by simp)).1.same S03).1
          obtain ⟨t2, ty2⟩ := ((kx x2 (by simp)).1.same S03).1
          obtain ⟨t3, ty3⟩ := ((kx x3 (by simp)).1.same S03).1
          obtain ⟨t4, ty4⟩ := ((kx x4 (by simp)).1.same S03).1
          have k3 := k _ S03
          refine ⟨x1, t1, q, _, rfl, ty1, eq3, _, rfl, ?_⟩
          cases h2 : nmIn x1 (ps.map Pt.pl) with
          | false =>
            rw [h2, Bool.false_and, Bool.false_and] at k3
            exact iteT k3
          | true =>
          rw [h2, Bool.true_and] at k3 k
          refine iteF ⟨_, rfl, x2, t2, 1, 40, rfl, ty2, _, rfl, ?_⟩
          cases h3 : wholeB x2 1 40 with
          | false =>
            rw [h3, Bool.false_and, Bool.false_and] at k3
            exact iteT k3
          | true =>
          rw [h3, Bool.true_and] at k3 k
          refine iteF ⟨_, rfl, x3, t3, 0, 9999, rfl, ty3, _, rfl, ?_⟩
          cases h4 : wholeB x3 0 9999 with
          | false =>
            rw [h4, Bool.false_and] at k3
            exact iteT k3
          | true =>
          rw [h4, Bool.true_and] at k3 k
          refine iteF ?_
          obtain ⟨s1, rfl, hs1⟩ : ∃ s1 : Str, x1 = .str s1 ∧ s1 ∈ ps.map Pt.pl := by
            cases x1 <;> first | exact ⟨_, rfl, of_decide_eq_true h2⟩ | cases h2
          obtain ⟨ti, rfl⟩ : ∃ ti : Int, x3 = .int ti := by
            cases x3 <;> first | exact ⟨_, rfl⟩ | cases h4
          -- the rows
          refine ⟨_, rfl, x4, .ty "tuple", t4, .type "tuple", _, rfl, .ty _, ty4.q, ty4.isTuple, _, rfl, ?_⟩
          have st4 := tupOf_same (kx x4 (by simp)).1 S03
          cases hr4 : tupOf H x4 with
          | none =>
            rw [show rowsB H ps (.str s1) (.int ti) x4 = false from by simp [rowsB, hr4]] at k3
            rw [tupB_no (st4.trans hr4)]
            exact iteT k3
          | some rs =>
          have eR : rowsB H ps (.str s1) (.int ti) x4 = (decide (rs.length ≤ 12) && (rs.all (signAtB H ps s1) && decide ((rs.map (tmOf H) ++ [ti]).Pairwise (· ≤ ·)))) := by simp [rowsB, hr4]
          rw [eR] at k3 k
          rw [tupB_of (st4.trans hr4)]
          have kr := (kx x4 (by simp)).2 rs hr4
          obtain ⟨rt, rfl, et4⟩ := tupOf_is hr4
          have et3 := S03 _ _ et4
          refine iteF ⟨_, rfl, rt, rs, rfl, .inr (SqT.of et3), (rs.length : Int), 12, rfl, rfl, _, rfl, ?_⟩
          by_cases few : rs.length ≤ 12
          · rw [decide_eq_true few, Bool.true_and] at k3 k
            rw [decide_eq_false (show ¬ ((rs.length : Int) > 12) by omega)]
            refine iteF ?_
            refine ⟨_, rfl, rt, rs, rfl, .inr (SqT.of et3), fun J Gd hG wk => ?_⟩
            refine for_it wk (fun i σ G => (∃ (la : Int) (v9 : Option V), σ = [some (.ref b), some (.ref a), some x0, some (.str s1), some x2, some (.int ti), some (.ref rt), some (.ref D), some (.int la), v9, none, none, none] ∧ (la = 0 ∨ ∃ r ∈ rs.take i, tmOf H r = la) ∧
                (∀ r ∈ rs.take i, tmOf H r ≤ la)) ∧ Same H3 G ∧ (∀ r ∈ rs.take i, signAtB H ps s1 r = true) ∧ ((rs.take i).map (tmOf H) ++ [ti]).Pairwise (· ≤ ·)) ?_ (fun i σ G _ h => hG _ h.2.1) ?_ ?_
            · exact ⟨⟨0, none, rfl, .inl rfl, fun r h => by simp at h⟩, Same.refl _, (fun r h => by simp at h), by simp⟩
            · rintro i v σ G0 G hi ⟨⟨la, v9, rfl, hla, hle⟩, SG, hall, hpw⟩ ⟨rfl, hx⟩
              have S0G := S03.trans SG
              have kv := kr v (List.mem_of_getElem? hx)
              have ets : rs.take (i + 1) = rs.take i ++ [v] := by rw [List.take_add_one, hx]; rfl
              dsimp only [gName]
              have bad : signAtB H ps s1 v = false ∨ (∃ r ∈ rs.take i, tmOf H v < tmOf H r) ∨ ti < tmOf H v → ∀ G', Same H3 G' → Q (.bl false) G' := fun hb G' SG' => by
                have kq := k G' (S03.trans SG')
                rw [rows_bad hx hb] at kq
                exact kq
              refine ⟨_, rfl, _, rfl, b, ps, v, rfl, LT.same hP S0G, gp, kv.same S0G, fun G1 SG1 => ⟨_, rfl, ?_⟩⟩
              rw [signB_same kv.1 S0G]
              have S31 := SG.trans SG1
              cases hs : signB H ps v with
              | false =>
                exact iteT (bad (.inl (by unfold signAtB; rw [hs, Bool.false_and])) _ S31)
              | true =>
                obtain ⟨c, z1, pt, z3, z4, rfl, ec, tc, hpt, hp, w1⟩ := signB_is hs
                obtain ⟨tt, rfl⟩ : ∃ tt : Int, z1 = .int tt := by
                  cases z1 <;> first | exact ⟨_, rfl⟩ | cases w1
                have w01 : 0 ≤ tt ∧ tt ≤ 9999 := by
                  have w2 : (decide (0 ≤ tt) && decide (tt ≤ 9999)) = true := w1
                  rw [Bool.and_eq_true] at w2
                  exact ⟨of_decide_eq_true w2.1, of_decide_eq_true w2.2⟩
                have etm : tmOf H (.ref c) = tt := by
                  unfold tmOf
                  rw [tc]
                have eAt : signAtB H ps s1 (.ref c) = decide (pt.pl = s1) := by
                  unfold signAtB
                  rw [hs, tc, Bool.true_and]
                  dsimp only
                  rw [hp]
                have ec1 := (S0G.trans SG1) _ _ ec
                have ev := valV_kvp Pt.pl ps pt.nm
                rw [hp, Option.map_some] at ev
                refine iteF ⟨_, rfl, _, rfl, c, _, 1, .str pt.nm, rfl, rfl, SqT.of ec1, rfl, D, _, rfl, .inl ⟨_, .inr pt.nm, .inl (S31 _ _ eD3), rfl, ev.symm⟩, _, rfl, rfl, _, rfl, ?_⟩
                rw [str_dec]
                by_cases hpl : pt.pl = s1
                · rw [decide_eq_true hpl]
                  refine iteF ⟨_, rfl, c, _, 0, .int tt, rfl, rfl, SqT.of ec1, rfl, _, rfl, tt, la, rfl, rfl, _, rfl, ?_⟩
                  by_cases h5 : tt < la
                  · rw [decide_eq_true h5]
                    refine iteT (bad (.inr (.inl ?_)) _ S31)
                    rcases hla with rfl | ⟨r, hr, er⟩
                    · omega
                    · exact ⟨r, hr, by rw [etm, er]; exact h5⟩
                  · rw [decide_eq_false h5]
                    refine iteF ⟨_, rfl, c, _, 0, .int tt, rfl, rfl, SqT.of ec1, rfl, _, rfl, tt, ti, rfl, rfl, _, rfl, ?_⟩
                    by_cases h6 : tt > ti
                    · rw [decide_eq_true h6]
                      exact iteT (bad (.inr (.inr (by rw [etm]; exact h6))) _ S31)
                    · rw [decide_eq_false h6]
                      refine iteF ?_
                      refine ⟨_, rfl, c, _, 0, .int tt, rfl, rfl, SqT.of ec1, rfl, ?_⟩
                      refine ⟨⟨tt, some (.ref c), rfl, .inr ⟨.ref c, by rw [ets]; simp, etm⟩, fun r hr => ?_⟩, S31, fun r hr => ?_, ?_⟩
                      · rw [ets] at hr
                        rcases List.mem_append.mp hr with hr | hr
                        · have := hle r hr
                          omega
                        · rw [List.mem_singleton.mp hr, etm]
                          omega
                      · rw [ets] at hr
                        rcases List.mem_append.mp hr with hr | hr
                        · exact hall r hr
                        · rw [List.mem_singleton.mp hr, eAt, decide_eq_true hpl]
                      · rw [ets, List.map_append, List.append_assoc]
                        rw [List.pairwise_append] at hpw ⊢
                        refine ⟨hpw.1, ?_, fun x hx1 z hz => ?_⟩
                        · show List.Pairwise _ [tmOf H (.ref c), ti]
                          rw [etm]
                          simp
                          omega
                        · obtain ⟨r, hr, rfl⟩ := List.mem_map.mp hx1
                          have l1 := hle r hr
                          have hz' : z ∈ [tmOf H (.ref c), ti] := hz
                          rw [etm] at hz'
                          simp only [List.mem_cons, List.not_mem_nil, or_false] at hz'
                          rcases hz' with rfl | rfl
                          · omega
                          · omega
                · rw [decide_eq_false hpl]
                  exact iteT (bad (.inl (by rw [eAt]; exact decide_eq_false hpl)) _ S31)
            rintro σ G ⟨⟨la, v9, rfl, _, _⟩, SG, hall, hpw⟩
            rw [List.take_of_length_le (Nat.le_refl _)] at hall hpw
            have kq := k G (S03.trans SG)
            rw [List.all_eq_true.mpr hall, decide_eq_true hpw] at kq
            exact kq
          · rw [decide_eq_false few, Bool.false_and] at k3
            rw [decide_eq_true (show ((rs.length : Int) > 12) by omega)]
            exact iteT k3
    · rw [decide_eq_false hl]
      rw [signs_no (fun ys e => by rw [h] at e; cases e; exact hl)] at kk
      exact iteT kk
end
end V10

/-! Tuples cut, joined and multiplied, whether the outcome is new or one of those. -/
namespace Pw
open PySem PySem.Spec PyProof.Rows L2
section
variable {X : Cx}
def rCatS : R2 := fun x y H Q => ∃ a b xs ys, x = .ref a ∧ y = .ref b ∧ H a = some (.tup xs) ∧ H b = some (.tup ys) ∧ xs.length + ys.length ≤ sizeLine ∧ ∀ c H', Same H H' → H' c = some (.tup (xs ++ ys)) → Q (.ref c) H'
theorem op_catS : OpR X (binaryOp .Add) rCatS := by
  intro pins s σ H x y v u Q I rx ry h
  obtain ⟨a, b, xs, ys, rfl, rfl, ha, hb, hz, q⟩ := h
  refine op_catA pins s σ H _ _ v u Q I rx ry ⟨a, b, xs, ys, rfl, rfl, SqT.of ha, SqT.of hb, hz, fun e => ?_, fun _ e => ?_, fun _ _ c nc => q c _ (Same.laid nc) upd_same⟩
  · subst e
    exact q b H (Same.refl _) hb
  · subst e
    exact q a H (Same.refl _) (by rw [List.append_nil]; exact ha)
def rSlS : V → Option Int → Option Int → Hp → VK → Prop := fun x lo hi H Q => ∃ a xs, x = .ref a ∧ H a = some (.tup xs) ∧ ∀ c H', Same H H' → H' c = some (.tup (cutV xs lo hi)) → Q (.ref c) H'
theorem sl_tupS : SlR X rSlS := by
  intro pins s σ H x v vl vu lo hi sl Q I rx hs pl pu h
  obtain ⟨a, xs, rfl, ha, q⟩ := h
  refine sl_tupA pins s σ H _ v vl vu lo hi sl Q I rx hs pl pu ⟨a, xs, rfl, SqT.of ha, fun e => ?_, fun _ c nc => q c _ (Same.laid nc) upd_same⟩
  refine q a H (Same.refl _) ?_
  have : cutV xs lo hi = xs := by
    unfold cutV
    rw [e.1, e.2, List.drop_zero, Nat.sub_zero, List.take_of_length_le (Nat.le_refl _)]
  rw [this]
  exact ha
def rRepS : R2 := fun x y H Q => ∃ a xs k, x = .ref a ∧ y = .int k ∧ H a = some (.tup xs) ∧ 2 ≤ k ∧ k ≤ 1000 ∧ xs.length ≤ 1000 ∧ ∀ c H', Same H H' → H' c = some (.tup (List.replicate k.toNat xs).flatten) → Q (.ref c) H'
theorem op_repS : OpR X (binaryOp .Mult) rRepS := by
  intro pins s σ H x y v u Q I rx ry h
  obtain ⟨a, xs, k, rfl, rfl, ha, h1, h2, hz, q⟩ := h
  by_cases hx : xs = []
  · subst hx
    refine op_rep0 pins s σ H _ _ v u Q I rx ry ⟨a, k, rfl, rfl, SqT.of ha, h1, h2, q a H (Same.refl _) ?_⟩
    have : (List.replicate k.toNat ([] : List V)).flatten = [] := by
      rw [List.flatten_eq_nil_iff]
      exact fun l hl => (List.mem_replicate.mp hl).2
    rw [this]
    exact ha
  · exact op_repT pins s σ H _ _ v u Q I rx ry ⟨a, k, xs, rfl, rfl, SqT.of ha, hx, h1, h2, hz, fun c nc => q c _ (Same.laid nc) upd_same⟩
end
theorem cut_upto (xs : List V) (j : Nat) : cutV xs none (some (j : Int)) = xs.take j := by
  unfold cutV
  have e1 : HT.sIx xs.length 0 none = 0 := rfl
  rw [e1, HT.sIx_nat, List.drop_zero, Nat.sub_zero]
  by_cases h : j ≤ xs.length
  · rw [Nat.min_eq_left h]
  · rw [Nat.min_eq_right (by omega), List.take_of_length_le (Nat.le_refl _), List.take_of_length_le (by omega)]
theorem cut_behind (xs : List V) (i : Nat) : cutV xs (some (i : Int)) none = xs.drop i := by
  unfold cutV
  have e2 : HT.sIx xs.length xs.length none = xs.length := rfl
  rw [HT.sIx_nat, e2]
  by_cases h : i ≤ xs.length
  · rw [Nat.min_eq_left h, List.take_of_length_le (by rw [List.length_drop]; omega)]
  · rw [Nat.min_eq_right (by omega), Nat.sub_self, List.take_zero, List.drop_of_length_le (by omega)]
theorem cut_two (xs : List V) (i j : Nat) : cutV xs (some (i : Int)) (some (j : Int)) = (xs.take j).drop i := by
  unfold cutV
  rw [HT.sIx_nat, HT.sIx_nat]
  by_cases h : i ≤ xs.length
  · rw [Nat.min_eq_left h, List.drop_take]
    by_cases h2 : j ≤ xs.length
    · rw [Nat.min_eq_left h2]
    · rw [Nat.min_eq_right (by omega), List.take_of_length_le (by rw [List.length_drop]; omega), List.take_of_length_le (by rw [List.length_drop]; omega)]
  · rw [Nat.min_eq_right (a := i) (by omega), List.drop_of_length_le (Nat.le_refl _), List.take_nil, List.drop_of_length_le (by rw [List.length_take]; omega)]
end Pw

set_option maxHeartbeats 8000000
namespace V10
open PySem PySem.Spec PyProof.Rows L2 Pw
/-- a part of a sign put otherwise -/
def Prt (K : PySem.W.Frag) (C : Addr) (H : Hp) (x : V) : Prop := Scl x ∨ Thg K C H x
theorem Prt.same {K : PySem.W.Frag} {C : Addr} {H H' : Hp} {x : V} (h : Prt K C H x) (S : Same H H') : Prt K C H' x := h.imp id fun h => h.same S
theorem Prt.k1 {K : PySem.W.Frag} {C : Addr} {H : Hp} {x : V} (h : Prt K C H x) : Kn1 K H x := h.elim (fun h => h.k1) fun h => h.k1
theorem Prt.hd {K : PySem.W.Frag} {C : Addr} {H : Hp} {x : V} (h : Prt K C H x) : Hd K H x := h.elim (fun h => h.hd) fun h => h.hd
theorem Prt.rows {K : PySem.W.Frag} {C : Addr} {H : Hp} {x : V} (h : Prt K C H x) : ∀ rs, tupOf H x = some rs → ∀ r ∈ rs, Kn1 K H r := fun rs e r hr => by
  rcases h with h | h
  · rw [h.no] at e
    cases e
  · exact ((h.flat rs e).2.2 r hr).k1
theorem kt_tup {K : PySem.W.Frag} {C : Addr} {H : Hp} {a : Addr} {xs : List V} (e : H a = some (.tup xs)) (h : ∀ x ∈ xs, Prt K C H x) (n2 : xs.length ≠ 2) (n4 : xs.length ≠ 4 → ∀ x, xs[0]? = some x → Scl x) : KnT K H (.ref a) where
  k2 := ⟨⟨⟨_, .tup e⟩, sh_ref⟩, fun ys e2 => by
    rw [tupOf_at e] at e2
    cases e2
    exact ⟨fun x hx => (h x hx).k1, fun n x hx => (n4 n x hx).w⟩⟩
  n2 := fun ys e2 => by
    rw [tupOf_at e] at e2
    cases e2
    exact n2
  rows := fun ys e2 => by
    rw [tupOf_at e] at e2
    cases e2
    exact fun x hx => (h x hx).rows
  hd := fun ys e2 => by
    rw [tupOf_at e] at e2
    cases e2
    exact fun x hx => (h x (List.mem_of_getElem? hx)).hd
theorem kt_lst {K : PySem.W.Frag} {H : Hp} {a : Addr} {xs : List V} (e : H a = some (.lst xs)) : KnT K H (.ref a) where
  k2 := ⟨⟨⟨_, .lst e⟩, sh_ref⟩, fun ys e2 => by rw [tupOf_lst e] at e2; cases e2⟩
  n2 := fun ys e2 => by rw [tupOf_lst e] at e2; cases e2
  rows := fun ys e2 => by rw [tupOf_lst e] at e2; cases e2
  hd := fun ys e2 => by rw [tupOf_lst e] at e2; cases e2
theorem box_ne {H : Hp} {p a : Addr} {n : Nat} {xs : List V} (hb : BoxAt H p n) (e : H a = some (.tup xs)) : a ≠ p := fun z => by
  obtain ⟨ws, eb⟩ := hb.lst
  rw [z, eb] at e
  cases e
/-- the parts of a good sign -/
def Sg4 (r : Sg) : Prop := Short (.str r.nm) ∧ Short (.str r.m)
theorem Sg4.scl {r : Sg} (h : Sg4 r) : ∀ x ∈ f4 r, Scl x := fun x hx => by
  simp only [f4, List.mem_cons, List.not_mem_nil, or_false] at hx
  rcases hx with rfl | rfl | rfl | rfl
  · exact .inr (.inr ⟨_, rfl⟩)
  · exact .inr (.inl ⟨_, rfl, h.1⟩)
  · exact .inr (.inr ⟨_, rfl⟩)
  · exact .inr (.inl ⟨_, rfl, h.2⟩)
section
variable {P : Program} {w : World} {K : PySem.W.Frag} {mg : Str → Option Value} {base : Heap} {C : Addr}
def spBentS (K : PySem.W.Frag) (C : Addr) : Sp := fun vs H Q _ => ∃ p b q n ps r, vs = [.ref p, .ref b, .ref q] ∧ BoxAt H p n ∧ n ≤ 850000 ∧ b ≠ p ∧ LT fP H b ps ∧ GoodPs ps ∧ H q = some (.tup (f4 r)) ∧ Sg4 r ∧
  ∀ y H', BoxAt H' p (n + 10) → But p H H' → KnT K (wo H' p) y → Q y H'
theorem d_bentS (T : Txt mg) (no : NoOwn K C) (A : At K mg "_law_bent_sign" sLawBentSign) (dt : Def P w K mg base "_law_take" 1 ["_law_box_here", "_law_many"] (spTake K)) (dth : Def P w K mg base "_law_thing" 2 ["_law_box_here"] (spThing K C)) :
    Def P w K mg base "_law_bent_sign" 3 ["_law_box_here", "_law_points_here", "_law_row"] (spBentS K C) := by
  refine mkDef A scLawBentSign (fun _ _ _ _ _ _ us hl => match us, hl with | [_, _, _], _ => rfl) (fun vs H Q E ⟨_, _, _, _, _, _, e, _⟩ => by rw [e]; rfl)
    (fun f cdv A out s H vs Q E hr h => ?_)
  obtain ⟨p, b, q, n, ps, r, rfl, hb, hn, bp, hP, gp, eq, g4, k⟩ := h
  refine ⟨_, (pss_cons (ps_set (i := 3) scLawBentSign.nd rfl (.inl rfl) (pe_d dt hr (by decide) (by rfl) (pa_cons (pv 0) (pa_cons pe_int pa_nil))))
    (pss_cons (ps_set (i := 4) scLawBentSign.nd rfl (.inl rfl) (pe_lst (pa_cons (pe_d dth hr (by decide) (by rfl) (pa_cons (pv 0) pa_nil)) (pa_cons pe_bl (pa_cons (pe_un un_neg pe_int) (pa_cons pe_int (pa_cons pe_int (pa_cons pe_int (pa_cons pe_str (pa_cons pe_str (pa_cons pe_str (pa_cons (pe_ix (r := rIxT K) ix_tup (pe_ix ix_list (pv 1) (pe_d dt hr (by decide) (by rfl) (pa_cons (pv 0) (pa_cons (pe_callB call_len_seq (by rfl) T.len PySem.boot_len (pa_cons (pv 1) pa_nil)) pa_nil))) (fun _ _ => rfl)) pe_int (fun _ _ => rfl)) (pa_cons pe_int pa_nil)))))))))))))
    (pss_cons (ps_if (pt_cmpR op_eq (pv 3) pe_int (nomark _))
      (pss_one (ps_ret (pe_ix ix_list (pe_lst (pa_cons (pe_callTy call_list_of (by rfl) T.list (by decide +kernel) (pa_cons (pv 2) pa_nil)) (pa_cons (pe_slice sl_tupS (pv 2) po_none (po_some pe_int)) (pa_cons (pe_op op_catS (pv 2) (pe_tup (pa_cons pe_int pa_nil))) (pa_cons (pe_revT (pv 2)) pa_nil))))) (pe_d dt hr (by decide) (by rfl) (pa_cons (pv 0) (pa_cons pe_int pa_nil))) (fun _ _ => rfl))))
      pss_nil)
    (pss_one (ps_ret (pe_op op_catS (pe_op op_catS (pe_slice sl_tupS (pv 2) po_none (po_some (pv 3))) (pe_tup (pa_cons (pe_ix ix_list (pv 4) (pe_d dt hr (by decide) (by rfl) (pa_cons (pv 0) (pa_cons pe_int pa_nil))) (fun _ _ => rfl)) pa_nil))) (pe_slice sl_tupS (pv 2) (po_some (pe_op op_add (pv 3) pe_int)) po_none))))))), ?_⟩
  have qp := box_ne hb eq
  have sc := g4.scl
  have f4l : (f4 r).length = 4 := rfl
  refine ⟨_, rfl, p, 5, n, rfl, hb, by omega, by decide, by decide, fun way H1 a1 b1 hb1 B1 => ?_⟩
  dsimp only [gName]
  -- the odd ones
  refine ⟨_, rfl, p, _, rfl, hb1, by omega, fun yt H2 hb2 B2 th => ?_⟩
  refine ⟨1, rfl, ?_⟩
  have BH2 := B1.trans B2
  obtain ⟨vP, eP, alP⟩ := hP.ex
  have plen := alP.length
  have p1 := gp.pos
  have p8 := gp.len
  have eP2 := BH2.at bp eP
  refine ⟨_, rfl, _, rfl, _, rfl, b, _, rfl, .inl (SqL.of eP2), p, _, _, rfl, hb2, by omega, by omega, Int.lt_of_le_of_lt (show (vP.length : Int) ≤ 8 by omega) (by decide), fun c H3 ca cb hb3 B3 => ?_⟩
  obtain ⟨ci, rfl⟩ := Int.eq_ofNat_of_zero_le ca
  have hci : ci < ps.length := by omega
  have BH3 := BH2.trans B3
  have eP3 := B3.at bp eP2
  have alP3 := Al.but alP hb BH3
  obtain ⟨q3, hq3, eq3⟩ := alP3.at (i := ci) (r := ps[ci]) (List.getElem?_eq_getElem hci)
  have hmem := List.getElem_mem hci
  generalize ps[ci] = x at eq3 hmem
  refine ⟨b, _, (ci : Int), .ref q3, rfl, rfl, SqL.of eP3, atI_nat hq3, q3, fP x, 0, .str x.nm, rfl, rfl, SqT.of eq3, rfl, ?_⟩
  refine ⟨by show 11 ≤ sizeLine; decide, fun L nL => ?_⟩
  generalize hys : [yt, V.bl true, .int (-1), .int 64, .int 2, .int 10000, .str "odd", .str "good", .str "Odd", .str x.nm, .int 0] = ys
  have Lp := hb3.ne nL
  have U4 := Same.laid (o := .lst ys) nL
  have eL : upd H3 L (.lst ys) L = some (.lst ys) := upd_same
  have hb4 := hb3.keep U4
  generalize upd H3 L (.lst ys) = H4 at *
  have B24 : But p H2 H4 := B3.trans (Same.but U4)
  have BH4 : But p H H4 := BH2.trans B24
  have ky : ∀ y ∈ ys, Prt K C (wo H4 p) y ∨ ∃ c, y = .bl c := by
    rw [← hys]
    intro y hy
    simp only [List.mem_cons, List.not_mem_nil, or_false] at hy
    rcases hy with rfl | rfl | rfl | rfl | rfl | rfl | rfl | rfl | rfl | rfl | rfl
    · exact .inl (.inr (th.same B24))
    · exact .inr ⟨_, rfl⟩
    · exact .inl (.inl (.inr (.inr ⟨_, rfl⟩)))
    · exact .inl (.inl (.inr (.inr ⟨_, rfl⟩)))
    · exact .inl (.inl (.inr (.inr ⟨_, rfl⟩)))
    · exact .inl (.inl (.inr (.inr ⟨_, rfl⟩)))
    · exact .inl (.inl (.inr (.inl ⟨_, rfl, fun z e => by cases e; decide +kernel⟩)))
    · exact .inl (.inl (.inr (.inl ⟨_, rfl, fun z e => by cases e; decide +kernel⟩)))
    · exact .inl (.inl (.inr (.inl ⟨_, rfl, fun z e => by cases e; decide +kernel⟩)))
    · exact .inl (.inl (.inr (.inl ⟨_, rfl, (gp.all x hmem).nm.sh⟩)))
    · exact .inl (.inl (.inr (.inr ⟨_, rfl⟩)))
  have kz : ∀ y ∈ ys, Prt K C (wo H4 p) y := fun y hy => by
    rcases ky y hy with h | ⟨c, rfl⟩
    · exact h
    · exact .inr (th_bl no c)
  have ylen : ys.length = 11 := by rw [← hys]; rfl
  clear ky hys
  have eq4 := BH4.at qp eq
  dsimp only [gName]
  refine ⟨_, rfl, rfl, _, rfl, ?_⟩
  refine ite2 (fun _ => ?_) (fun hw => ?_)
  · -- not as long
    refine ⟨_, rfl, q, f4 r, rfl, .inr (SqT.of eq4), fun a2 m2 => ?_⟩
    have Ap := hb4.ne m2
    have UA := Same.laid (o := .lst (f4 r)) m2
    have eA : upd H4 a2 (.lst (f4 r)) a2 = some (.lst (f4 r)) := upd_same
    have hb5 := hb4.keep UA
    generalize upd H4 a2 (.lst (f4 r)) = H5 at *
    refine ⟨_, rfl, 3, rfl, q, f4 r, rfl, UA _ _ eq4, fun a3 H6 UB eB => ?_⟩
    rw [show (3 : Int) = ((3 : Nat) : Int) from rfl, cut_upto] at eB
    have hb6 := hb5.keep UB
    refine ⟨_, rfl, by show 1 ≤ sizeLine; decide, fun z mz => ?_⟩
    have UZ := Same.laid (o := .tup [.int 0]) mz
    have eZ : upd H6 z (.tup [.int 0]) z = some (.tup [.int 0]) := upd_same
    have hb7 := hb6.keep UZ
    generalize upd H6 z (.tup [.int 0]) = H7 at *
    refine ⟨q, z, f4 r, [.int 0], rfl, rfl, UZ _ _ (UB _ _ (UA _ _ eq4)), eZ, by rw [f4l]; show 4 + 1 ≤ sizeLine; decide, fun a4 H8 UC eC => ?_⟩
    have hb8 := hb7.keep UC
    refine ⟨_, rfl, q, f4 r, rfl, SqT.of (UC _ _ (UZ _ _ (UB _ _ (UA _ _ eq4)))), fun a5 m5 => ?_⟩
    have UD := Same.laid (o := .tup (f4 r).reverse) m5
    have eD : upd H8 a5 (.tup (f4 r).reverse) a5 = some (.tup (f4 r).reverse) := upd_same
    have hb9 := hb8.keep UD
    generalize upd H8 a5 (.tup (f4 r).reverse) = H9 at *
    refine ⟨by show 4 ≤ sizeLine; decide, fun l ml => ?_⟩
    have Gp := hb9.ne ml
    have UG := Same.laid (o := .lst [.ref a2, .ref a3, .ref a4, .ref a5]) ml
    have eG : upd H9 l (.lst [.ref a2, .ref a3, .ref a4, .ref a5]) l = some (.lst [.ref a2, .ref a3, .ref a4, .ref a5]) := upd_same
    have hb10 := hb9.keep UG
    generalize upd H9 l (.lst [.ref a2, .ref a3, .ref a4, .ref a5]) = H10 at *
    refine ⟨_, rfl, p, 4, _, rfl, hb10, by omega, by decide, by decide, fun j H11 a8 b8 hb11 B11 => ?_⟩
    obtain ⟨y, hy, aty⟩ := menu (xs := [V.ref a2, .ref a3, .ref a4, .ref a5]) a8 (by simpa using b8)
    have S510 := UB.trans (UZ.trans (UC.trans (UD.trans UG)))
    have S410 := UA.trans S510
    refine ⟨l, _, j, y, rfl, rfl, SqL.of (B11.at Gp eG), aty, ?_⟩
    refine k y H11 (hb11.up (by omega)) (BH4.trans ((Same.but S410).trans B11)) ?_
    have at_ : ∀ {a : Addr} {xs : List V}, H10 a = some (.tup xs) → wo H11 p a = some (.tup xs) := fun e => wo_of (box_ne hb10 e) (B11.at (box_ne hb10 e) e)
    simp only [List.mem_cons, List.not_mem_nil, or_false] at hy
    rcases hy with rfl | rfl | rfl | rfl
    · exact kt_lst (wo_of Ap (B11.at Ap (S510 _ _ eA)))
    · exact kt_tup (at_ ((UZ.trans (UC.trans (UD.trans UG))) _ _ eB)) (C := C) (fun x h => .inl (sc x (List.mem_of_mem_take h))) (by show 3 ≠ 2; decide) fun _ x h => by cases h; exact .inr (.inr ⟨_, rfl⟩)
    · refine kt_tup (at_ ((UD.trans UG) _ _ eC)) (C := C) (fun x h => ?_) (by show 5 ≠ 2; decide) fun _ x h => by cases h; exact .inr (.inr ⟨_, rfl⟩)
      rcases List.mem_append.mp h with h | h
      · exact .inl (sc x h)
      · rw [List.mem_singleton.mp h]
        exact .inl (.inr (.inr ⟨_, rfl⟩))
    · exact kt_tup (at_ (UG _ _ eD)) (C := C) (fun x h => .inl (sc x (List.mem_reverse.mp h))) (by show 4 ≠ 2; decide) fun h => absurd rfl h
  -- one part another
  have hw4 : way ≠ 4 := fun z => hw (decide_eq_true (congrArg V.int z))
  obtain ⟨aa, rfl⟩ := Int.eq_ofNat_of_zero_le a1
  have haa : aa < 4 := by omega
  refine ⟨_, rfl, _, rfl, (aa : Int), rfl, q, f4 r, rfl, eq4, fun c1 H5 UA eA => ?_⟩
  rw [cut_upto] at eA
  have hb5 := hb4.keep UA
  refine ⟨_, rfl, _, rfl, p, 11, _, rfl, hb5, by omega, by decide, by decide, fun j2 H6 a6 b6 hb6 B6 => ?_⟩
  obtain ⟨yz, hyz, atyz⟩ := menu (xs := ys) a6 (by rw [ylen]; exact b6)
  refine ⟨L, _, j2, yz, rfl, rfl, SqL.of (B6.at Lp (UA _ _ eL)), atyz, by show 1 ≤ sizeLine; decide, fun c2 m2 => ?_⟩
  have UB := Same.laid (o := .tup [yz]) m2
  have eB : upd H6 c2 (.tup [yz]) c2 = some (.tup [yz]) := upd_same
  have hb7 := hb6.keep UB
  generalize upd H6 c2 (.tup [yz]) = H7 at *
  have c1p := box_ne hb5 eA
  refine ⟨c1, c2, _, [yz], rfl, rfl, UB _ _ (B6.at c1p eA), eB, by rw [List.length_take, f4l]; exact Nat.le_trans (show min aa 4 + 1 ≤ 10 by omega) (by decide), fun c3 H8 UC eC => ?_⟩
  have hb8 := hb7.keep UC
  have B48 : But p H4 H8 := (Same.but UA).trans (B6.trans (Same.but (UB.trans UC)))
  refine ⟨_, rfl, _, rfl, (aa : Int), 1, rfl, rfl, ((aa + 1 : Nat) : Int), congrArg V.int (show (aa : Int) + 1 = ((aa + 1 : Nat) : Int) by omega), q, f4 r, rfl, B48.at qp eq4, fun c4 H9 UD eD => ?_⟩
  rw [cut_behind] at eD
  have hb9 := hb8.keep UD
  refine ⟨c3, c4, _, _, rfl, rfl, UD _ _ eC, eD, by rw [List.length_append, List.length_take, List.length_drop, f4l]; exact Nat.le_trans (show min aa 4 + [yz].length + (4 - (aa + 1)) ≤ 20 by simp only [List.length_cons, List.length_nil]; omega) (by decide), fun c5 H10 UE eE => ?_⟩
  have hb10 := hb9.keep UE
  have B410 : But p H4 H10 := B48.trans (Same.but (UD.trans UE))
  refine k (.ref c5) H10 (hb10.up (by omega)) (BH4.trans B410) (kt_tup (C := C) (wo_of (box_ne hb10 eE) eE) (fun x h => ?_) ?_ fun n => ?_)
  · rcases List.mem_append.mp h with h | h
    · rcases List.mem_append.mp h with h | h
      · exact .inl (sc x (List.mem_of_mem_take h))
      · rw [List.mem_singleton.mp h]
        exact (kz yz hyz).same B410
    · exact .inl (sc x (List.mem_of_mem_drop h))
  · rw [List.length_append, List.length_append, List.length_take, List.length_drop, f4l, List.length_singleton]
    omega
  · rw [List.length_append, List.length_append, List.length_take, List.length_drop, f4l, List.length_singleton] at n
    omega
end
end V10

set_option maxHeartbeats 8000000
namespace V10
open PySem PySem.Spec PyProof.Rows L2 Pw
/-- t == (), whatever t holds -/
def rEqE (K : PySem.W.Frag) : R2 := fun x y H Q => ∃ a b xs, x = .ref a ∧ y = .ref b ∧ SqT K H a xs ∧ SqT K H b [] ∧ Q (.bl xs.isEmpty) H
theorem op_eqE {X : Cx} (hu : X.A.units + 64 < cLine) : OpR X (compareOp .Eq) (rEqE X.K) := by
  intro pins s σ H x y v u Q I rx ry h
  obtain ⟨a, b, xs, rfl, rfl, ha, hb, q⟩ := h
  cases rx
  cases ry
  obtain ⟨us, r1, p1, _⟩ := I.tuple ha
  obtain ⟨ws, r2, p2, _⟩ := I.tuple hb
  cases r2
  have e : ((List.range (min us.toArray.size (List.toArray ([] : List Value)).size)).all (fun _ => true) && us.toArray.size == (List.toArray ([] : List Value)).size) = xs.isEmpty := by
    rw [List.size_toArray, List.size_toArray, ← r1.length]
    cases xs with
    | nil => rfl
    | cons y ys => simp
  refine SeqAt.RcAt.tuples (e := fun _ => true) p1 p2 (by omega) (fun j h1 h2 => absurd h2 (by simp)) X.prog X.w X.xe _ ?_
  rw [e]
  exact ⟨.bl _, H, I, rfl, q⟩
/-- a part of a letter put otherwise -/
def PtK (K : PySem.W.Frag) (H : Hp) (x : V) : Prop := Kn1 K H x ∧ ∀ rs, tupOf H x = some rs → ∀ r ∈ rs, Kn1 K H r
theorem PtK.same {K : PySem.W.Frag} {H H' : Hp} {x : V} (h : PtK K H x) (S : Same H H') : PtK K H' x := ⟨h.1.same S, fun rs e r hr => (h.2 rs ((tupOf_same h.1.1 S).symm.trans e) r hr).same S⟩
theorem PtK.of {K : PySem.W.Frag} {H : Hp} {x : V} (h : Kn0 K H x) (n : tupOf H x = none) : PtK K H x := ⟨k1_no h n, fun rs e => by rw [n] at e; cases e⟩
theorem Scl.pt {K : PySem.W.Frag} {H : Hp} {x : V} (h : Scl x) : PtK K H x := PtK.of h.k0 h.no
theorem pt_bl {K : PySem.W.Frag} {H : Hp} (c : Bool) : PtK K H (.bl c) := PtK.of ⟨⟨_, .bl c⟩, fun s e => by cases e⟩ rfl
theorem pt_lst {K : PySem.W.Frag} {H : Hp} {a : Addr} {xs : List V} (e : H a = some (.lst xs)) : PtK K H (.ref a) := PtK.of ⟨⟨_, .lst e⟩, sh_ref⟩ (tupOf_lst e)
theorem pt_tup {K : PySem.W.Frag} {H : Hp} {a : Addr} {xs : List V} (e : H a = some (.tup xs)) (h : ∀ x ∈ xs, Kn1 K H x) : PtK K H (.ref a) :=
  ⟨⟨⟨⟨_, .tup e⟩, sh_ref⟩, fun ys e2 => by rw [tupOf_at e] at e2; cases e2; exact fun x hx => (h x hx).1⟩, fun ys e2 => by rw [tupOf_at e] at e2; cases e2; exact h⟩
theorem kt_parts {K : PySem.W.Frag} {H : Hp} {a : Addr} {xs : List V} (e : H a = some (.tup xs)) (h : ∀ x ∈ xs, PtK K H x) (n2 : xs.length ≠ 2) (hd : ∀ x, xs[0]? = some x → Scl x) : KnT K H (.ref a) where
  k2 := ⟨⟨⟨_, .tup e⟩, sh_ref⟩, fun ys e2 => by
    rw [tupOf_at e] at e2
    cases e2
    exact ⟨fun x hx => (h x hx).1, fun _ x hx => (hd x hx).w⟩⟩
  n2 := fun ys e2 => by
    rw [tupOf_at e] at e2
    cases e2
    exact n2
  rows := fun ys e2 => by
    rw [tupOf_at e] at e2
    cases e2
    exact fun x hx => (h x hx).2
  hd := fun ys e2 => by
    rw [tupOf_at e] at e2
    cases e2
    exact fun x hx => (hd x hx).hd
theorem GoodS.sg4 {ps : List Pt} {pl : Str} {r : Sg} (gp : GoodPs ps) (g : GoodS ps pl r) : Sg4 r := by
  obtain ⟨pt, h, e, _⟩ := g.inn
  refine ⟨e ▸ (gp.all pt h).nm.sh, ?_⟩
  rcases g.m with z | z <;> rw [z] <;> exact fun z e => by cases e; decide +kernel
theorem al_k1 {K : PySem.W.Frag} {H : Hp} {vs : List V} {rs : List Sg} (h : Al f4 H vs rs) (g : ∀ r ∈ rs, Sg4 r) : ∀ v ∈ vs, Kn1 K H v := by
  induction h with
  | nil => exact fun v h => by cases h
  | @cons q vs r rs e t ih =>
    intro v hv
    rcases List.mem_cons.mp hv with rfl | hv
    · refine ⟨⟨⟨_, .tup e⟩, sh_ref⟩, fun ys e2 => ?_⟩
      rw [tupOf_at e] at e2
      cases e2
      exact fun x hx => ((g r (by simp)).scl x hx).k0
    · exact ih (fun x hx => g x (by simp [hx])) v hv
theorem al_wop {α : Type} {f : α → List V} {H : Hp} {p : Addr} {n : Nat} {vs : List V} {rs : List α} (h : Al f H vs rs) (hb : BoxAt H p n) : Al f (Pw.wo H p) vs rs := by
  obtain ⟨us, e⟩ := hb.lst
  exact al_wo h e
section
variable {P : Program} {w : World} {K : PySem.W.Frag} {mg : Str → Option Value} {base : Heap} {C : Addr}
def spBentL (K : PySem.W.Frag) (C : Addr) : Sp := fun vs H Q _ => ∃ p b q n ps L, vs = [.ref p, .ref b, .ref q] ∧ BoxAt H p n ∧ n ≤ 840000 ∧ b ≠ p ∧ LT fP H b ps ∧ GoodPs ps ∧ LtAt H q L ∧ GoodLt ps L ∧
  ∀ y H', BoxAt H' p (n + 20) → But p H H' → KnT K (wo H' p) y → Q y H'
theorem d_bentL (T : Txt mg) (no : NoOwn K C) (A : At K mg "_law_bent_letter" sLawBentLetter) (dt : Def P w K mg base "_law_take" 1 ["_law_box_here", "_law_many"] (spTake K)) (dth : Def P w K mg base "_law_thing" 2 ["_law_box_here"] (spThing K C))
    (dbs : Def P w K mg base "_law_bent_sign" 3 ["_law_box_here", "_law_points_here", "_law_row"] (spBentS K C)) :
    Def P w K mg base "_law_bent_letter" 4 ["_law_box_here", "_law_points_here", "_law_letter_here"] (spBentL K C) := by
  refine mkDef A scLawBentLetter (fun _ _ _ _ _ _ us hl => match us, hl with | [_, _, _], _ => rfl) (fun vs H Q E ⟨_, _, _, _, _, _, e, _⟩ => by rw [e]; rfl)
    (fun f cdv A out s H vs Q E hr h => ?_)
  obtain ⟨p, b, q, n, ps, L, rfl, hb, hn, bp, hP, gp, hq, g, k⟩ := h
  refine ⟨_, (pss_cons (ps_asg (pv 2) (pg_tup (by rfl) (pgs_cons (pg_name (i := 3) scLawBentLetter.nd rfl (.inl rfl)) (pgs_cons (pg_name (i := 4) scLawBentLetter.nd rfl (.inl rfl)) (pgs_cons (pg_name (i := 5) scLawBentLetter.nd rfl (.inl rfl)) (pgs_cons (pg_name (i := 6) scLawBentLetter.nd rfl (.inl rfl)) (pgs_cons (pg_name (i := 7) scLawBentLetter.nd rfl (.inl rfl)) pgs_nil)))))))
    (pss_cons (ps_set (i := 8) scLawBentLetter.nd rfl (.inl rfl) (pe_d dt hr (by decide) (by rfl) (pa_cons (pv 0) (pa_cons (pe_callB (call_max2 rfl) (by rfl) T.max PyProof.Rows.boot_max (pa_cons pe_int (pa_cons (pe_callB call_len_seq (by rfl) T.len PySem.boot_len (pa_cons (pv 7) pa_nil)) pa_nil))) pa_nil))))
    (pss_cons (ps_set (i := 9) scLawBentLetter.nd rfl (.inl rfl) (pe_d dt hr (by decide) (by rfl) (pa_cons (pv 0) (pa_cons pe_int pa_nil))))
    (pss_cons (ps_if (pt_cmpR op_eq (pv 9) pe_int (nomark _))
      (pss_one (ps_ret (pe_tup (pa_cons (pv 3) (pa_cons (pv 4) (pa_cons (pe_ix ix_list (pe_lst (pa_cons pe_int (pa_cons pe_int (pa_cons pe_int (pa_cons pe_int (pa_cons pe_bl (pa_cons pe_non (pa_cons pe_str pa_nil)))))))) (pe_d dt hr (by decide) (by rfl) (pa_cons (pv 0) (pa_cons pe_int pa_nil))) (fun _ _ => rfl)) (pa_cons (pv 6) (pa_cons (pv 7) pa_nil))))))))
      pss_nil)
    (pss_cons (ps_if (pt_cmpR op_eq (pv 9) pe_int (nomark _))
      (pss_one (ps_ret (pe_tup (pa_cons (pv 3) (pa_cons (pv 4) (pa_cons (pv 5) (pa_cons (pe_ix ix_list (pe_lst (pa_cons (pe_op op_sub (pv 6) pe_int) (pa_cons (pe_op op_add (pv 6) pe_int) (pa_cons pe_int (pa_cons pe_int (pa_cons pe_non (pa_cons pe_bl pa_nil))))))) (pe_d dt hr (by decide) (by rfl) (pa_cons (pv 0) (pa_cons pe_int pa_nil))) (fun _ _ => rfl)) (pa_cons (pv 7) pa_nil))))))))
      pss_nil)
    (pss_cons (ps_if (pt_cmpR op_eq (pv 9) pe_int (nomark _))
      (pss_cons (ps_set (i := 10) scLawBentLetter.nd rfl (.inl rfl) (pe_lst (pa_cons (pe_ix (r := rIxT K) ix_tup (pe_ix ix_list (pv 1) (pe_d dt hr (by decide) (by rfl) (pa_cons (pv 0) (pa_cons (pe_callB call_len_seq (by rfl) T.len PySem.boot_len (pa_cons (pv 1) pa_nil)) pa_nil))) (fun _ _ => rfl)) pe_int (fun _ _ => rfl)) (pa_cons (pe_ix (r := rIxT K) ix_tup (pe_ix ix_list (pv 1) pe_int (fun _ _ => rfl)) pe_int (fun _ _ => rfl)) (pa_cons pe_non (pa_cons pe_str pa_nil))))))
      (pss_one (ps_ret (pe_tup (pa_cons (pv 3) (pa_cons (pe_ix ix_list (pv 10) (pe_d dt hr (by decide) (by rfl) (pa_cons (pv 0) (pa_cons pe_int pa_nil))) (fun _ _ => rfl)) (pa_cons (pv 5) (pa_cons (pv 6) (pa_cons (pv 7) pa_nil)))))))))
      pss_nil)
    (pss_cons (ps_if (pt_cmpR op_eq (pv 9) pe_int (nomark _))
      (pss_one (ps_ret (pe_tup (pa_cons (pv 3) (pa_cons (pv 4) (pa_cons (pv 5) (pa_cons (pv 6) (pa_cons (pe_op op_catS (pe_op op_catS (pe_slice sl_tupS (pv 7) po_none (po_some (pv 8))) (pe_revT (pe_slice sl_tupS (pv 7) (po_some (pv 8)) (po_some (pe_op op_add (pv 8) pe_int))))) (pe_slice sl_tupS (pv 7) (po_some (pe_op op_add (pv 8) pe_int)) po_none)) pa_nil))))))))
      pss_nil)
    (pss_cons (ps_if (pt_cmpR op_eq (pv 9) pe_int (nomark _))
      (pss_one (ps_ret (pe_tup (pa_cons (pv 3) (pa_cons (pv 4) (pa_cons (pv 5) (pa_cons (pv 6) (pa_cons (pe_op op_catS (pe_op op_catS (pv 7) (pv 7)) (pe_op op_repS (pe_slice sl_tupS (pv 7) po_none (po_some pe_int)) pe_int)) pa_nil))))))))
      pss_nil)
    (pss_cons (ps_if (pt_cmpR op_eq (pv 9) pe_int (nomark _))
      (pss_cons (ps_set (i := 10) scLawBentLetter.nd rfl (.inl rfl) (pe_lst (pa_cons (pe_callTy call_list_of (by rfl) T.list (by decide +kernel) (pa_cons (pv 2) pa_nil)) (pa_cons (pe_slice sl_tupS (pv 2) po_none (po_some pe_int)) (pa_cons (pe_op op_catS (pv 2) (pe_tup (pa_cons pe_int pa_nil))) (pa_cons (pe_op op_catS (pe_slice sl_tupS (pv 2) po_none (po_some pe_int)) (pe_tup (pa_cons (pe_callTy call_list_of (by rfl) T.list (by decide +kernel) (pa_cons (pv 7) pa_nil)) pa_nil))) (pa_cons (pe_op op_catS (pe_tup (pa_cons pe_str pa_nil)) (pe_slice sl_tupS (pv 2) (po_some pe_int) po_none)) pa_nil)))))))
      (pss_one (ps_ret (pe_ix ix_list (pv 10) (pe_d dt hr (by decide) (by rfl) (pa_cons (pv 0) (pa_cons pe_int pa_nil))) (fun _ _ => rfl)))))
      pss_nil)
    (pss_cons (ps_if (pt_cmpR (op_eqE hr.units) (pv 7) (pe_tup pa_nil) (nomark _))
      (pss_one (ps_ret (pe_tup (pa_cons (pv 3) (pa_cons (pv 4) (pa_cons (pv 5) (pa_cons (pv 6) (pa_cons (pe_tup (pa_cons (pe_d dth hr (by decide) (by rfl) (pa_cons (pv 0) pa_nil)) pa_nil)) pa_nil))))))))
      pss_nil)
    (pss_one (ps_ret (pe_tup (pa_cons (pv 3) (pa_cons (pv 4) (pa_cons (pv 5) (pa_cons (pv 6) (pa_cons (pe_op op_catS (pe_op op_catS (pe_slice sl_tupS (pv 7) po_none (po_some (pv 8))) (pe_tup (pa_cons (pe_d dbs hr (by decide) (by rfl) (pa_cons (pv 0) (pa_cons (pv 1) (pa_cons (pe_ix (r := rIxT K) ix_tup (pv 7) (pv 8) (fun _ _ => rfl)) pa_nil)))) pa_nil))) (pe_slice sl_tupS (pv 7) (po_some (pe_op op_add (pv 8) pe_int)) po_none)) pa_nil)))))))))))))))))), ?_⟩
  obtain ⟨rt, vs, eq, et, al⟩ := hq
  have g4 : ∀ r ∈ L.rs, Sg4 r := fun r hr => GoodS.sg4 gp (g.all r hr)
  have vlen := al.length
  have few := g.few
  have qp := box_ne hb eq
  have rp := box_ne hb et
  obtain ⟨pt0, hpt0, epl⟩ := List.mem_map.mp g.pl
  have shp : Short (.str L.pl) := epl ▸ (gp.all pt0 hpt0).pl.sh
  have sW : Scl (.str "signs") := .inr (.inl ⟨_, rfl, fun z e => by cases e; decide +kernel⟩)
  have sP : Scl (.str L.pl) := .inr (.inl ⟨_, rfl, shp⟩)
  have sI : ∀ i : Int, Scl (.int i) := fun i => .inr (.inr ⟨_, rfl⟩)
  have kv : ∀ {G : Hp} {m : Nat}, BoxAt G p m → But p H G → ∀ v ∈ vs, Kn1 K (wo G p) v := fun {G m} hbG B => al_k1 ((al_wop al hb).same B) g4
  have kr : ∀ {G : Hp} {m : Nat}, BoxAt G p m → But p H G → PtK K (wo G p) (.ref rt) := fun {G m} hbG B => pt_tup (wo_of rp (B.at rp et)) (kv hbG B)
  have fin : ∀ {G : Hp} {m : Nat} {x1 x2 x3 rw : V} {wd : Str}, BoxAt G p m → m ≤ n + 20 → But p H G → Scl (.str wd) → PtK K (wo G p) x1 → PtK K (wo G p) x2 → PtK K (wo G p) x3 → PtK K (wo G p) rw → ∀ c, G c = none → Q (.ref c) (upd G c (.tup [.str wd, x1, x2, x3, rw])) := by
    intro G m x1 x2 x3 rw wd hbG hm B s0 k1 k2 k3 k4 c nc
    have cp := hbG.ne nc
    have U := Same.laid (o := .tup [.str wd, x1, x2, x3, rw]) nc
    have Uw := same_wo U p
    refine k (.ref c) _ ((hbG.keep U).up hm) (B.trans (Same.but U)) (kt_parts (wo_of cp upd_same) (fun x hx => ?_) (by show 5 ≠ 2; decide) fun x hx => by cases hx; exact s0)
    simp only [List.mem_cons, List.not_mem_nil, or_false] at hx
    rcases hx with rfl | rfl | rfl | rfl | rfl
    · exact s0.pt
    · exact k1.same Uw
    · exact k2.same Uw
    · exact k3.same Uw
    · exact k4.same Uw
  refine ⟨_, rfl, q, _, rfl, SqT.of eq, rfl, _, _, rfl, _, _, rfl, _, _, rfl, _, _, rfl, _, _, rfl, rfl, ?_⟩
  dsimp only [gName]
  obtain ⟨mx, emx, mx1, mx2, mx3⟩ : ∃ mx : Int, (if (vs.length : Int) > 1 then (vs.length : Int) else 1) = mx ∧ 1 ≤ mx ∧ mx ≤ 12 ∧ (vs ≠ [] → mx = vs.length) := by
    by_cases h : (vs.length : Int) > 1
    · exact ⟨_, rfl, by rw [if_pos h]; omega, by rw [if_pos h]; omega, fun _ => by rw [if_pos h]⟩
    · refine ⟨_, rfl, by rw [if_neg h]; omega, by rw [if_neg h]; omega, fun z => ?_⟩
      rw [if_neg h]
      have := List.length_pos_iff.mpr z
      omega
  refine ⟨_, rfl, _, rfl, rt, vs, rfl, .inr (SqT.of et), 1, (vs.length : Int), rfl, ?_⟩
  rw [emx]
  refine ⟨p, mx, n, rfl, hb, by omega, by omega, Int.lt_of_le_of_lt mx2 (by decide), fun ai H1 a1 b1 hb1 B1 => ?_⟩
  obtain ⟨aa, rfl⟩ := Int.eq_ofNat_of_zero_le a1
  dsimp only [gName]
  refine ⟨_, rfl, p, 8, _, rfl, hb1, by omega, by decide, by decide, fun way H2 a2 b2 hb2 B2 => ?_⟩
  dsimp only [gName]
  have BH2 := B1.trans B2
  -- 0: the number
  refine ⟨_, rfl, rfl, _, rfl, ?_⟩
  refine ite2 (fun _ => ?_) (fun _ => ?_)
  · refine ⟨_, rfl, _, rfl, by show 7 ≤ sizeLine; decide, fun l ml => ?_⟩
    have lp := hb2.ne ml
    have U := Same.laid (o := .lst [.int 0, .int 41, .int 40, .int 1, .bl true, .non, .str "1"]) ml
    have el : upd H2 l (.lst [.int 0, .int 41, .int 40, .int 1, .bl true, .non, .str "1"]) l = some (.lst [.int 0, .int 41, .int 40, .int 1, .bl true, .non, .str "1"]) := upd_same
    have hb3 := hb2.keep U
    generalize upd H2 l (.lst [.int 0, .int 41, .int 40, .int 1, .bl true, .non, .str "1"]) = H3 at *
    refine ⟨_, rfl, p, 7, _, rfl, hb3, by omega, by decide, by decide, fun j H4 a4 b4 hb4 B4 => ?_⟩
    obtain ⟨y, hy, aty⟩ := menu (xs := [V.int 0, .int 41, .int 40, .int 1, .bl true, .non, .str "1"]) a4 (by simpa using b4)
    have ky : ∀ G : Hp, PtK K G y := fun G => by
      simp only [List.mem_cons, List.not_mem_nil, or_false] at hy
      rcases hy with rfl | rfl | rfl | rfl | rfl | rfl | rfl
      · exact (sI _).pt
      · exact (sI _).pt
      · exact (sI _).pt
      · exact (sI _).pt
      · exact pt_bl _
      · exact Scl.pt (.inl rfl)
      · exact Scl.pt (.inr (.inl ⟨_, rfl, fun z e => by cases e; decide +kernel⟩))
    have B4' := BH2.trans ((Same.but U).trans B4)
    exact ⟨l, _, j, y, rfl, rfl, SqL.of (B4.at lp el), aty, _, rfl, _, rfl, by show 5 ≤ sizeLine; decide, fin hb4 (by omega) B4' sW sP.pt (ky _) (sI _).pt (kr hb4 B4')⟩
  -- 1: the time
  refine ⟨_, rfl, rfl, _, rfl, ?_⟩
  refine ite2 (fun _ => ?_) (fun _ => ?_)
  · refine ⟨_, rfl, _, rfl, _, rfl, _, rfl, L.tm, 1, rfl, rfl, _, rfl, L.tm, 1, rfl, rfl, by show 6 ≤ sizeLine; decide, fun l ml => ?_⟩
    have lp := hb2.ne ml
    have U := Same.laid (o := .lst [.int (L.tm - 1), .int (L.tm + 1), .int 0, .int 10000, .non, .bl true]) ml
    have el : upd H2 l (.lst [.int (L.tm - 1), .int (L.tm + 1), .int 0, .int 10000, .non, .bl true]) l = some (.lst [.int (L.tm - 1), .int (L.tm + 1), .int 0, .int 10000, .non, .bl true]) := upd_same
    have hb3 := hb2.keep U
    generalize upd H2 l (.lst [.int (L.tm - 1), .int (L.tm + 1), .int 0, .int 10000, .non, .bl true]) = H3 at *
    refine ⟨_, rfl, p, 6, _, rfl, hb3, by omega, by decide, by decide, fun j H4 a4 b4 hb4 B4 => ?_⟩
    obtain ⟨y, hy, aty⟩ := menu (xs := [V.int (L.tm - 1), .int (L.tm + 1), .int 0, .int 10000, .non, .bl true]) a4 (by simpa using b4)
    have ky : ∀ G : Hp, PtK K G y := fun G => by
      simp only [List.mem_cons, List.not_mem_nil, or_false] at hy
      rcases hy with rfl | rfl | rfl | rfl | rfl | rfl
      · exact (sI _).pt
      · exact (sI _).pt
      · exact (sI _).pt
      · exact (sI _).pt
      · exact Scl.pt (.inl rfl)
      · exact pt_bl _
    have B4' := BH2.trans ((Same.but U).trans B4)
    exact ⟨l, _, j, y, rfl, rfl, SqL.of (B4.at lp el), aty, _, rfl, by show 5 ≤ sizeLine; decide, fin hb4 (by omega) B4' sW sP.pt (sI _).pt (ky _) (kr hb4 B4')⟩
  -- 2: the place
  refine ⟨_, rfl, rfl, _, rfl, ?_⟩
  refine ite2 (fun _ => ?_) (fun _ => ?_)
  · obtain ⟨vP, eP, alP⟩ := hP.ex
    have plen := alP.length
    have p1 := gp.pos
    have p8 := gp.len
    have eP2 := BH2.at bp eP
    refine ⟨_, rfl, _, rfl, _, rfl, b, _, rfl, .inl (SqL.of eP2), p, _, _, rfl, hb2, by omega, by omega, Int.lt_of_le_of_lt (show (vP.length : Int) ≤ 8 by omega) (by decide), fun c H3 ca cb hb3 B3 => ?_⟩
    obtain ⟨ci, rfl⟩ := Int.eq_ofNat_of_zero_le ca
    have hci : ci < ps.length := by omega
    have BH3 := BH2.trans B3
    have eP3 := B3.at bp eP2
    have alP3 := Al.but alP hb BH3
    obtain ⟨q3, hq3, eq3⟩ := alP3.at (i := ci) (r := ps[ci]) (List.getElem?_eq_getElem hci)
    obtain ⟨q4, hq4, eq4⟩ := alP3.at (i := 0) (r := ps[0]) (List.getElem?_eq_getElem p1)
    have hmem := List.getElem_mem hci
    have hmem0 := List.getElem_mem p1
    generalize ps[ci] = x at eq3 hmem
    generalize ps[0] = x0 at eq4 hmem0
    refine ⟨b, _, (ci : Int), .ref q3, rfl, rfl, SqL.of eP3, atI_nat hq3, q3, fP x, 1, .str x.pl, rfl, rfl, SqT.of eq3, rfl, ?_⟩
    refine ⟨_, rfl, b, _, 0, .ref q4, rfl, rfl, SqL.of eP3, atI_nat (j := 0) hq4, q4, fP x0, 0, .str x0.nm, rfl, rfl, SqT.of eq4, rfl, ?_⟩
    refine ⟨by show 4 ≤ sizeLine; decide, fun l ml => ?_⟩
    have lp := hb3.ne ml
    have U := Same.laid (o := .lst [.str x.pl, .str x0.nm, .non, .str ""]) ml
    have el : upd H3 l (.lst [.str x.pl, .str x0.nm, .non, .str ""]) l = some (.lst [.str x.pl, .str x0.nm, .non, .str ""]) := upd_same
    have hb4 := hb3.keep U
    generalize upd H3 l (.lst [.str x.pl, .str x0.nm, .non, .str ""]) = H4 at *
    dsimp only [gName]
    refine ⟨_, rfl, _, rfl, _, rfl, p, 4, _, rfl, hb4, by omega, by decide, by decide, fun j H5 a5 b5 hb5 B5 => ?_⟩
    obtain ⟨y, hy, aty⟩ := menu (xs := [V.str x.pl, .str x0.nm, .non, .str ""]) a5 (by simpa using b5)
    have ky : ∀ G : Hp, PtK K G y := fun G => by
      simp only [List.mem_cons, List.not_mem_nil, or_false] at hy
      rcases hy with rfl | rfl | rfl | rfl
      · exact Scl.pt (.inr (.inl ⟨_, rfl, (gp.all x hmem).pl.sh⟩))
      · exact Scl.pt (.inr (.inl ⟨_, rfl, (gp.all x0 hmem0).nm.sh⟩))
      · exact Scl.pt (.inl rfl)
      · exact Scl.pt (.inr (.inl ⟨_, rfl, fun z e => by cases e; decide +kernel⟩))
    have B5' := BH3.trans ((Same.but U).trans B5)
    exact ⟨l, _, j, y, rfl, rfl, SqL.of (B5.at lp el), aty, _, rfl, _, rfl, _, rfl, by show 5 ≤ sizeLine; decide, fin hb5 (by omega) B5' sW (ky _) (sI _).pt (sI _).pt (kr hb5 B5')⟩
  -- 3: two exchanged
  have et2 := BH2.at rp et
  have eq2 := BH2.at qp eq
  refine ⟨_, rfl, rfl, _, rfl, ?_⟩
  refine ite2 (fun _ => ?_) (fun _ => ?_)
  · refine ⟨_, rfl, _, rfl, _, rfl, _, rfl, _, rfl, _, rfl, (aa : Int), rfl, rt, vs, rfl, et2, fun c1 H3 UA eA => ?_⟩
    rw [cut_upto] at eA
    refine ⟨_, rfl, _, rfl, (aa : Int), rfl, _, rfl, (aa : Int), 2, rfl, rfl, ((aa + 2 : Nat) : Int), congrArg V.int (show (aa : Int) + 2 = ((aa + 2 : Nat) : Int) by omega), rt, vs, rfl, UA _ _ et2, fun c2 H4 UB eB => ?_⟩
    rw [cut_two] at eB
    refine ⟨c2, _, rfl, SqT.of eB, fun c3 n3 => ?_⟩
    have UC := Same.laid (o := .tup (((vs.take (aa + 2)).drop aa).reverse)) n3
    have eC : upd H4 c3 (.tup (((vs.take (aa + 2)).drop aa).reverse)) c3 = some (.tup (((vs.take (aa + 2)).drop aa).reverse)) := upd_same
    generalize upd H4 c3 (.tup (((vs.take (aa + 2)).drop aa).reverse)) = H5 at *
    refine ⟨c1, c3, _, _, rfl, rfl, UC _ _ (UB _ _ eA), eC, by rw [List.length_reverse, List.length_drop, List.length_take, List.length_take]; exact Nat.le_trans (show _ ≤ 100 by omega) (by decide), fun c4 H6 UD eD => ?_⟩
    refine ⟨_, rfl, _, rfl, (aa : Int), 2, rfl, rfl, ((aa + 2 : Nat) : Int), congrArg V.int (show (aa : Int) + 2 = ((aa + 2 : Nat) : Int) by omega), rt, vs, rfl, UD _ _ (UC _ _ (UB _ _ (UA _ _ et2))), fun c5 H7 UE eE => ?_⟩
    rw [cut_behind] at eE
    refine ⟨c4, c5, _, _, rfl, rfl, UE _ _ eD, eE, by rw [List.length_append, List.length_reverse, List.length_drop, List.length_drop, List.length_take, List.length_take]; exact Nat.le_trans (show _ ≤ 100 by omega) (by decide), fun c6 H8 UF eF => ?_⟩
    have S28 := UA.trans (UB.trans (UC.trans (UD.trans (UE.trans UF))))
    have hb8 := hb2.keep S28
    have B8 := BH2.trans (Same.but S28)
    have k8 := kv hb8 B8
    refine ⟨by show 5 ≤ sizeLine; decide, fin hb8 (by omega) B8 sW sP.pt (sI _).pt (sI _).pt (pt_tup (wo_of (box_ne hb8 eF) eF) fun x hx => ?_)⟩
    rcases List.mem_append.mp hx with hx | hx
    · rcases List.mem_append.mp hx with hx | hx
      · exact k8 x (List.mem_of_mem_take hx)
      · exact k8 x (List.mem_of_mem_take (List.mem_of_mem_drop (List.mem_reverse.mp hx)))
    · exact k8 x (List.mem_of_mem_drop hx)
  -- 4: too many
  refine ⟨_, rfl, rfl, _, rfl, ?_⟩
  refine ite2 (fun _ => ?_) (fun _ => ?_)
  · refine ⟨_, rfl, _, rfl, _, rfl, _, rfl, _, rfl, _, rfl, rt, rt, vs, vs, rfl, rfl, et2, et2, Nat.le_trans (show vs.length + vs.length ≤ 100 by omega) (by decide), fun c1 H3 UA eA => ?_⟩
    refine ⟨_, rfl, 1, rfl, rt, vs, rfl, UA _ _ et2, fun c2 H4 UB eB => ?_⟩
    rw [show (1 : Int) = ((1 : Nat) : Int) from rfl, cut_upto] at eB
    refine ⟨c2, _, 13, rfl, rfl, eB, by decide, by decide, by rw [List.length_take]; omega, fun c3 H5 UC eC => ?_⟩
    have hlr : ((List.replicate (13 : Int).toNat (vs.take 1)).flatten).length ≤ 13 := by
      rw [PyProof.Rows.lm_len_rep_flat, List.length_take]
      have e13 : (13 : Int).toNat = 13 := rfl
      rw [e13]
      omega
    refine ⟨c1, c3, _, _, rfl, rfl, UC _ _ (UB _ _ eA), eC, by rw [List.length_append]; exact Nat.le_trans (show _ ≤ 100 by omega) (by decide), fun c4 H6 UD eD => ?_⟩
    have S26 := UA.trans (UB.trans (UC.trans UD))
    have hb6 := hb2.keep S26
    have B6 := BH2.trans (Same.but S26)
    have k6 := kv hb6 B6
    refine ⟨by show 5 ≤ sizeLine; decide, fin hb6 (by omega) B6 sW sP.pt (sI _).pt (sI _).pt (pt_tup (wo_of (box_ne hb6 eD) eD) fun x hx => ?_)⟩
    rcases List.mem_append.mp hx with hx | hx
    · rcases List.mem_append.mp hx with hx | hx
      · exact k6 x hx
      · exact k6 x hx
    · obtain ⟨l, hl, hx⟩ := List.mem_flatten.mp hx
      rw [(List.mem_replicate.mp hl).2] at hx
      exact k6 x (List.mem_of_mem_take hx)
  -- 5: another form
  refine ⟨_, rfl, rfl, _, rfl, ?_⟩
  refine ite2 (fun _ => ?_) (fun _ => ?_)
  · generalize hXs : ([.str "signs", .str L.pl, .int L.no, .int L.tm, .ref rt] : List V) = xs at *
    have xl : xs.length = 5 := by rw [← hXs]; rfl
    have kx : ∀ {G : Hp} {m : Nat}, BoxAt G p m → But p H G → ∀ x ∈ xs, PtK K (wo G p) x := fun {G m} hbG B x hx => by
      rw [← hXs] at hx
      simp only [List.mem_cons, List.not_mem_nil, or_false] at hx
      rcases hx with rfl | rfl | rfl | rfl | rfl
      · exact sW.pt
      · exact sP.pt
      · exact (sI _).pt
      · exact (sI _).pt
      · exact kr hbG B
    have x0 : ∀ x, xs[0]? = some x → Scl x := fun x e => by rw [← hXs] at e; cases e; exact sW
    refine ⟨_, rfl, q, xs, rfl, .inr (SqT.of eq2), fun c1 n1 => ?_⟩
    have c1p := hb2.ne n1
    have UA := Same.laid (o := .lst xs) n1
    have eA : upd H2 c1 (.lst xs) c1 = some (.lst xs) := upd_same
    generalize upd H2 c1 (.lst xs) = H3 at *
    refine ⟨_, rfl, 4, rfl, q, xs, rfl, UA _ _ eq2, fun c2 H4 UB eB => ?_⟩
    rw [show (4 : Int) = ((4 : Nat) : Int) from rfl, cut_upto] at eB
    refine ⟨_, rfl, by show 1 ≤ sizeLine; decide, fun z1 m1 => ?_⟩
    have UC := Same.laid (o := .tup [.int 0]) m1
    have eC : upd H4 z1 (.tup [.int 0]) z1 = some (.tup [.int 0]) := upd_same
    generalize upd H4 z1 (.tup [.int 0]) = H5 at *
    refine ⟨q, z1, xs, [.int 0], rfl, rfl, UC _ _ (UB _ _ (UA _ _ eq2)), eC, by rw [xl]; show 5 + 1 ≤ sizeLine; decide, fun c3 H6 UD eD => ?_⟩
    refine ⟨_, rfl, 4, rfl, q, xs, rfl, UD _ _ (UC _ _ (UB _ _ (UA _ _ eq2))), fun c4 H7 UE eE => ?_⟩
    rw [show (4 : Int) = ((4 : Nat) : Int) from rfl, cut_upto] at eE
    refine ⟨_, rfl, rt, vs, rfl, .inr (SqT.of (UE _ _ (UD _ _ (UC _ _ (UB _ _ (UA _ _ et2)))))), fun z2 m2 => ?_⟩
    have UF := Same.laid (o := .lst vs) m2
    have eF : upd H7 z2 (.lst vs) z2 = some (.lst vs) := upd_same
    have z2p : z2 ≠ p := by
      have hb7 := hb2.keep (UA.trans (UB.trans (UC.trans (UD.trans UE))))
      exact hb7.ne m2
    generalize upd H7 z2 (.lst vs) = H8 at *
    refine ⟨by show 1 ≤ sizeLine; decide, fun z3 m3 => ?_⟩
    have UG := Same.laid (o := .tup [.ref z2]) m3
    have eG : upd H8 z3 (.tup [.ref z2]) z3 = some (.tup [.ref z2]) := upd_same
    generalize upd H8 z3 (.tup [.ref z2]) = H9 at *
    refine ⟨c4, z3, _, [.ref z2], rfl, rfl, UG _ _ (UF _ _ eE), eG, by rw [List.length_take, xl]; show min 4 5 + 1 ≤ sizeLine; decide, fun c5 H10 UH eH => ?_⟩
    refine ⟨by show 1 ≤ sizeLine; decide, fun z4 m4 => ?_⟩
    have UI := Same.laid (o := .tup [.str "sign"]) m4
    have eI : upd H10 z4 (.tup [.str "sign"]) z4 = some (.tup [.str "sign"]) := upd_same
    generalize upd H10 z4 (.tup [.str "sign"]) = H11 at *
    have S210 := UA.trans (UB.trans (UC.trans (UD.trans (UE.trans (UF.trans (UG.trans UH))))))
    refine ⟨_, rfl, 1, rfl, q, xs, rfl, UI _ _ (S210 _ _ eq2), fun c6 H12 UJ eJ => ?_⟩
    rw [show (1 : Int) = ((1 : Nat) : Int) from rfl, cut_behind] at eJ
    refine ⟨z4, c6, [.str "sign"], _, rfl, rfl, UJ _ _ eI, eJ, by rw [List.length_drop, xl]; show 1 + (5 - 1) ≤ sizeLine; decide, fun c7 H13 UK eK => ?_⟩
    have S213 := S210.trans (UI.trans (UJ.trans UK))
    have hb13 := hb2.keep S213
    refine ⟨by show 5 ≤ sizeLine; decide, fun l ml => ?_⟩
    have lp := hb13.ne ml
    have UL := Same.laid (o := .lst [.ref c1, .ref c2, .ref c3, .ref c5, .ref c7]) ml
    have el : upd H13 l (.lst [.ref c1, .ref c2, .ref c3, .ref c5, .ref c7]) l = some (.lst [.ref c1, .ref c2, .ref c3, .ref c5, .ref c7]) := upd_same
    have hb14 := hb13.keep UL
    generalize upd H13 l (.lst [.ref c1, .ref c2, .ref c3, .ref c5, .ref c7]) = H14 at *
    dsimp only [gName]
    refine ⟨_, rfl, _, rfl, p, 5, _, rfl, hb14, by omega, by decide, by decide, fun j H15 a15 b15 hb15 B15 => ?_⟩
    obtain ⟨y, hy, aty⟩ := menu (xs := [V.ref c1, .ref c2, .ref c3, .ref c5, .ref c7]) a15 (by simpa using b15)
    have S214 := S213.trans UL
    have BH15 := BH2.trans ((Same.but S214).trans B15)
    refine ⟨l, _, j, y, rfl, rfl, SqL.of (B15.at lp el), aty, ?_⟩
    have at_ : ∀ {a : Addr} {ys : List V}, H14 a = some (.tup ys) → wo H15 p a = some (.tup ys) := fun e => wo_of (box_ne hb14 e) (B15.at (box_ne hb14 e) e)
    have kx15 := kx hb15 BH15
    have S1014 := UI.trans (UJ.trans (UK.trans UL))
    refine k y H15 (hb15.up (by omega)) BH15 ?_
    simp only [List.mem_cons, List.not_mem_nil, or_false] at hy
    rcases hy with rfl | rfl | rfl | rfl | rfl
    · exact kt_lst (wo_of c1p (B15.at c1p ((UB.trans (UC.trans (UD.trans (UE.trans (UF.trans (UG.trans (UH.trans S1014))))))) _ _ eA)))
    · refine kt_parts (at_ ((UC.trans (UD.trans (UE.trans (UF.trans (UG.trans (UH.trans S1014)))))) _ _ eB)) (fun x hx => kx15 x (List.mem_of_mem_take hx)) (by rw [List.length_take, xl]; decide) fun x hx => x0 x ?_
      rwa [List.getElem?_take_of_lt (by decide)] at hx
    · refine kt_parts (at_ ((UE.trans (UF.trans (UG.trans (UH.trans S1014)))) _ _ eD)) (fun x hx => ?_) (by rw [List.length_append, xl]; decide) fun x hx => x0 x ?_
      · rcases List.mem_append.mp hx with hx | hx
        · exact kx15 x hx
        · rw [List.mem_singleton.mp hx]
          exact (sI _).pt
      · rwa [List.getElem?_append_left (by omega)] at hx
    · refine kt_parts (at_ (S1014 _ _ eH)) (fun x hx => ?_) (by rw [List.length_append, List.length_take, xl]; show min 4 5 + 1 ≠ 2; decide) fun x hx => x0 x ?_
      · rcases List.mem_append.mp hx with hx | hx
        · exact kx15 x (List.mem_of_mem_take hx)
        · rw [List.mem_singleton.mp hx]
          exact pt_lst (wo_of z2p (B15.at z2p ((UG.trans (UH.trans S1014)) _ _ eF)))
      · rwa [List.getElem?_append_left (by rw [List.length_take, xl]; decide), List.getElem?_take_of_lt (by decide)] at hx
    · have sS : Scl (.str "sign") := .inr (.inl ⟨_, rfl, fun z e => by cases e; decide +kernel⟩)
      refine kt_parts (at_ (UL _ _ eK)) (fun x hx => ?_) (by rw [List.length_append, List.length_drop, xl]; decide) fun x hx => ?_
      · rcases List.mem_append.mp hx with hx | hx
        · rw [List.mem_singleton.mp hx]
          exact sS.pt
        · exact kx15 x (List.mem_of_mem_drop hx)
      · cases hx
        exact sS
  -- 6, 7: a sign put otherwise
  refine ⟨_, rfl, by show 0 ≤ sizeLine; decide, fun z0 m0 => ?_⟩
  have U0 := Same.laid (o := .tup []) m0
  have e0 : upd H2 z0 (.tup []) z0 = some (.tup []) := upd_same
  have hb3 := hb2.keep U0
  generalize upd H2 z0 (.tup []) = H3 at *
  have BH3 := BH2.trans (Same.but U0)
  have et3 := U0 _ _ et2
  refine ⟨rt, z0, vs, rfl, rfl, SqT.of et3, SqT.of e0, _, rfl, ?_⟩
  cases hvs : vs.isEmpty with
  | true =>
    refine iteT ⟨_, rfl, _, rfl, _, rfl, _, rfl, _, rfl, p, _, rfl, hb3, by omega, fun y H4 hb4 B4 th => ?_⟩
    refine ⟨by show 1 ≤ sizeLine; decide, fun c nc => ?_⟩
    have cp := hb4.ne nc
    have U := Same.laid (o := .tup [y]) nc
    have hb5 := hb4.keep U
    have ec : upd H4 c (.tup [y]) c = some (.tup [y]) := upd_same
    generalize upd H4 c (.tup [y]) = H5 at *
    have B5 := BH3.trans (B4.trans (Same.but U))
    refine ⟨by show 5 ≤ sizeLine; decide, fin hb5 (by omega) B5 sW sP.pt (sI _).pt (sI _).pt (pt_tup (wo_of cp ec) fun x hx => ?_)⟩
    rw [List.mem_singleton.mp hx]
    exact (th.same (same_wo U p)).k1
  | false =>
    have vne : vs ≠ [] := fun z => by rw [z] at hvs; cases hvs
    have haa : aa < vs.length := by
      have := mx3 vne
      omega
    obtain ⟨q5, r, ev, hr5, eq5⟩ : ∃ q5 r, vs[aa]? = some (.ref q5) ∧ r ∈ L.rs ∧ H q5 = some (.tup (f4 r)) := by
      obtain ⟨q5, r, e1, e2, e3⟩ := al.get (List.getElem?_eq_getElem haa)
      exact ⟨q5, r, by rw [List.getElem?_eq_getElem haa, e1], List.mem_of_getElem? e2, e3⟩
    refine iteF ⟨_, rfl, _, rfl, _, rfl, _, rfl, _, rfl, _, rfl, (aa : Int), rfl, rt, vs, rfl, et3, fun c1 H4 UA eA => ?_⟩
    rw [cut_upto] at eA
    have hb4 := hb3.keep UA
    have BH4 := BH3.trans (Same.but UA)
    refine ⟨_, rfl, _, rfl, _, rfl, _, rfl, rt, vs, (aa : Int), .ref q5, rfl, rfl, SqT.of (UA _ _ et3), atI_nat ev, ?_⟩
    refine ⟨p, b, q5, _, ps, r, rfl, hb4, by omega, bp, LT.but hP hb bp BH4, gp, BH4.at (box_ne hb eq5) eq5, g4 r hr5, fun y H5 hb5 B5 kt => ?_⟩
    refine ⟨by show 1 ≤ sizeLine; decide, fun c2 n2 => ?_⟩
    have UB := Same.laid (o := .tup [y]) n2
    have eB : upd H5 c2 (.tup [y]) c2 = some (.tup [y]) := upd_same
    have hb6 := hb5.keep UB
    generalize upd H5 c2 (.tup [y]) = H6 at *
    have c1p := box_ne hb4 eA
    refine ⟨c1, c2, _, [y], rfl, rfl, UB _ _ (B5.at c1p eA), eB, by rw [List.length_take]; exact Nat.le_trans (show min aa vs.length + 1 ≤ 100 by omega) (by decide), fun c3 H7 UC eC => ?_⟩
    have B47 : But p H4 H7 := B5.trans (Same.but (UB.trans UC))
    refine ⟨_, rfl, _, rfl, (aa : Int), 1, rfl, rfl, ((aa + 1 : Nat) : Int), congrArg V.int (show (aa : Int) + 1 = ((aa + 1 : Nat) : Int) by omega), rt, vs, rfl, B47.at rp (UA _ _ et3), fun c4 H8 UD eD => ?_⟩
    rw [cut_behind] at eD
    refine ⟨c3, c4, _, _, rfl, rfl, UD _ _ eC, eD, by rw [List.length_append, List.length_take, List.length_drop, List.length_singleton]; exact Nat.le_trans (show _ ≤ 100 by omega) (by decide), fun c5 H9 UE eE => ?_⟩
    have hb9 := hb6.keep (UC.trans (UD.trans UE))
    have B9 := BH4.trans (B47.trans (Same.but (UD.trans UE)))
    have k9 := kv hb9 B9
    refine ⟨by show 5 ≤ sizeLine; decide, fin hb9 (by omega) B9 sW sP.pt (sI _).pt (sI _).pt (pt_tup (wo_of (box_ne hb9 eE) eE) fun x hx => ?_)⟩
    rcases List.mem_append.mp hx with hx | hx
    · rcases List.mem_append.mp hx with hx | hx
      · exact k9 x (List.mem_of_mem_take hx)
      · rw [List.mem_singleton.mp hx]
        exact kt.k2.k1.same (same_wo (UB.trans (UC.trans (UD.trans UE))) p)
    · exact k9 x (List.mem_of_mem_drop hx)
end
end V10

/-! A try with several clauses 'except X as e', met one after the other; what stands behind the last that may be met is never looked at. -/
namespace Pw
open PySem PySem.Spec PyProof.Rows L2
abbrev SuiteT := Addr → Value → Option Addr → TS
/-- the wishes of such clauses -/
def wAll (K : PySem.W.Frag) (i : Nat) (D : Ends) : List (Value × SuiteT) → WX
  | [] => fun _ _ _ _ => False
  | (c, ts) :: r => wAs K c i ts (wAll K i D r) D
inductive AsOk (X : Cx) (n : Str) : List ExceptHandler → List (Value × SuiteT) → Prop
  | rest {hds : List ExceptHandler} : AsOk X n hds []
  | cons {x : Str} {c : Value} {ts : SuiteT} {b₀ : Stmt} {suite : List Stmt} {np pos' : Pos} {hds : List ExceptHandler} {l : List (Value × SuiteT)} (nm : Names X x c)
      (sui : ∀ (a : Addr) (oe : Obj) (cls : Value) (d : Option Addr) (pn : List (Addr × Obj)), Zc cls d oe → (∃ vs, oe.data = .fields vs) → PSs (X.suite a ((a, oe) :: pn)) (b₀ :: suite) (ts a cls d)) (more : AsOk X n hds l) :
      AsOk X n (.ExceptHandler (some (.Name x np)) (some n) (b₀ :: suite) pos' :: hds) ((c, ts) :: l)
section
variable {X : Cx} {n : Str} {i : Nat}
/-- a landed exception is no frame of ours -/
theorem no_frame {B h : Heap} {l : List Env} {a : Addr} {o : Obj} {vs : Array Value} (ff : h.FunFrames B l) (e : h.get? a = some o) (dd : o.data = .fields vs) : a ∉ frs l := fun hm => by
  obtain ⟨_, o', e', hnf⟩ := ff.mem hm
  rw [e] at e'
  cases e'
  exact hnf _ dd
/-- the clauses, one behind the other, over a landed exception -/
theorem clauses_as {pins : List (Addr × Obj)} {D : Ends} {B : Heap} {a : Addr} {cls : Value} {d : Option Addr} {σ : L2.St} {H : Hp} {s : Shared} (ok : X.Ok) (hs : X.stack = X.env :: X.outer) (hf : X.env.frame = some X.env.locals)
    (hN : X.N.Nodup) (hi : X.N[i]? = some n) (hln : X.env.kindOf n = some .local) (na : H a = none)
    (fl : HandSPX.FlyingZ B (X.env :: X.outer) a (Zc cls d) s.heap)
    (at_ : ∀ h, HandSPX.FlyingZ B (X.env :: X.outer) a (Zc cls d) h → s.heap.UpToSlots h → Inv X pins σ H { s with heap := h }) :
    ∀ {hds : List ExceptHandler} {l : List (Value × SuiteT)}, AsOk X n hds l → wAll X.K i D l cls d σ H → wpAny (model X.prog X.w) X.A (handleBy (.ref a) X.env hds) (SP X pins D) X.xe s
  | _, _, .rest, w => w.elim
  | _, _, .cons (x := x) (c := c) (ts := ts) (np := np) (pos' := pos') nm sui more, w => by
    obtain ⟨b, eb, yes, no⟩ := w
    have J : Inv X pins σ H s := at_ _ fl (Heap.UpToSlots.refl _)
    obtain ⟨o1, v1, g1, z1, f1⟩ := fl.there
    have nfr := no_frame fl.2.2.1 g1 f1
    have nL : a ≠ X.env.locals := fun z => nfr (List.mem_filterMap.mpr ⟨X.env, List.mem_cons_self, by rw [hf, z]⟩)
    have nF : a ∉ X.fs := fun hm => by
      obtain ⟨e, he, q⟩ := List.mem_filterMap.mp hm
      exact nfr (List.mem_filterMap.mpr ⟨e, List.mem_cons_of_mem _ he, q⟩)
    have kind : PySem.W.Looks (model X.prog X.w) s.heap (typeOf (.ref a)) cls := fun _ _ _ _ k q => wpAny_typeOf_ref (k _ _ g1) (by rw [z1.1]; exact q)
    have I1 := J.suite g1 f1 na nL nF
    refine wpAny_handleBy_cons (codeAny_handlers_test ?_) (by intro q; cases q)
    have read : ∀ {Q E : Value → Shared → Prop}, Q c s → wpAny (model X.prog X.w) (X.A.mark (some (.ref a))) (eval (.Name x np) X.env) Q E s := fun {Q E} q => by
      rcases nm with ⟨hg, hd, hm | ⟨hm, hv, hn⟩⟩
      · exact ld_glob (X := X.suite a ((a, o1) :: (X.pn ++ pins))) I1 hg hm q hd
      · exact ld_blt (X := X.suite a ((a, o1) :: (X.pn ++ pins))) I1 hg hm hv q hn hd
    refine read ((PySem.W.exm_one (M := model X.prog X.w) J.kIn kind eb).here ?_)
    match b, yes, no with
    | false, _, no => exact clauses_as ok hs hf hN hi hln na fl at_ more (no rfl)
    | true, yes, _ =>
      refine codeAny_handlers_suite_as (HandSPX.lands_againZ fl fun h2 fl2 up2 => ?_)
      obtain ⟨o2, v2, g2, z2, f2⟩ := fl2.there
      have I2 := (at_ h2 fl2 up2).suite g2 f2 na nL nF
      refine store_ok (X := X.suite a ((a, o2) :: (X.pn ++ pins))) (v := .ref a) I2 hN hi (.inl hln) rfl (fun s3 I3 => ?_) (.inr hln)
      refine wpAny_mono ((sui a o2 cls d (X.pn ++ pins) z2 ⟨_, f2⟩).run [] s3 _ H _ I3 (yes rfl a na)) (fun way s4 at4 => ?_) fun _ _ z => False.elim z
      have off : ∀ {σ4 : L2.St} {H4 : Hp} {Q : Shared → Prop}, Inv (X.suite a ((a, o2) :: (X.pn ++ pins))) [] σ4 H4 s4 → (∀ s5, Inv X pins (σ4.set i none) H4 s5 → Q s5) →
          wpAny (model X.prog X.w) X.A (do bindName X.env n .none; unbindBehindTheSuite X.env n pos') (fun _ s5 => Q s5) X.xe s4 := fun I4 k => gone_ok (I4.unsuite ok) hN hi hln k
      match way, at4 with
      | .next, ⟨_, _, I4, q⟩ => exact off I4 fun _ I5 => ⟨_, _, I5, q⟩
      | .brk, ⟨_, _, I4, q⟩ => exact off I4 fun _ I5 => ⟨_, _, I5, q⟩
      | .cont, ⟨_, _, I4, q⟩ => exact off I4 fun _ I5 => ⟨_, _, I5, q⟩
      | .ret u, ⟨_, _, _, I4, r, q⟩ => exact off I4 fun _ I5 => ⟨_, _, _, I5, r, q⟩
theorem ps_try_ass {body : List Stmt} {h₀ : ExceptHandler} {hds : List ExceptHandler} {l : List (Value × SuiteT)} {pos : Pos} {tb : WX → TS} (hs : X.stack = X.env :: X.outer) (hf : X.env.frame = some X.env.locals)
    (hN : X.N.Nodup) (hi : X.N[i]? = some n) (hln : X.env.kindOf n = some .local)
    (hb : ∀ (W : WX) (pn : List (Addr × Obj)) (xe : Value → Shared → Prop), Takes (X.tr pn xe) W → PassesOwn (model X.prog X.w) X.A X.env xe → PSs (X.tr pn xe) body (tb W)) (hh : AsOk X n (h₀ :: hds) l) :
    PS X (.Try body (h₀ :: hds) [] [] pos) (fun D σ H => tb (wAll X.K i D l) D σ H) := by
  refine ⟨fun pins s σ H D I h => ?_⟩
  have fr : X.A.frames = some (X.env :: X.outer) := by rw [I.ok.frames, hs]
  refine wpAny_Try_except (wpAny_mono ((hb (wAll X.K i D l) (X.pn ++ pins) (fun e s1 => wpAny (model X.prog X.w) X.A (noteFrame e X.env) (fun _ s2 => wpAny (model X.prog X.w) X.A (setFlight e none)
    (fun _ s3 => wpAny (model X.prog X.w) X.A (handleBy e X.env (h₀ :: hds)) (SP X pins D) X.xe s3) X.xe s2) X.xe s1) (fun u s' xx => ?_) PassesOwn.looking).run [] s σ H D (I.toTry _) h) (fun way s1 at1 => ?_) fun _ _ z => z)
  · obtain ⟨a, B, sI, pins', σ', H', cls, d, rfl, J', nb, up, sky, na, os, ag, w⟩ := xx
    have J : Inv X pins σ' H' sI := J'.ofTry I.ok
    show wpAny (model X.prog X.w) X.A (noteFrame (.ref a) X.env) _ _ _
    refine Sky.land Zc.steady fr hf (by rw [← hs]; exact sky) fun h3 fl3 up3 => ?_
    exact clauses_as (s := { s' with heap := h3 }) I.ok hs hf hN hi hln na fl3 (fun h fl u4 => J.landed nb fl.1 ((up.trans up3).trans u4) os ag) hh w
  · match way, at1 with
    | .next, ⟨_, _, I1, q⟩ => exact wpAny_execs_nil ⟨_, _, I1.ofTry I.ok, q⟩
    | .brk, ⟨_, _, I1, q⟩ => exact ⟨_, _, I1.ofTry I.ok, q⟩
    | .cont, ⟨_, _, I1, q⟩ => exact ⟨_, _, I1.ofTry I.ok, q⟩
    | .ret u, ⟨_, _, _, I1, r, q⟩ => exact ⟨_, _, _, I1.ofTry I.ok, r, q⟩
end
end Pw

set_option maxHeartbeats 8000000
namespace V10
open PySem PySem.Spec PyProof.Rows L2 Pw
theorem pe_isK {X : Cx} {K : PySem.W.Frag} {e : Expr} {t : TA} (hK : X.K = K) (h : PE X e (tCB (rIsA X.K) t)) : PE X e (tCB (rIsA K) t) := hK ▸ h
/-- the same try, told by a name: for loops -/
def tTry (K : PySem.W.Frag) (i : Nat) (l : List (Value × SuiteT)) (tb : WX → TS) : TS := fun D σ H => tb (wAll K i D l) D σ H
theorem ps_try_assN {X : Cx} {n : Str} {i : Nat} {body : List Stmt} {h₀ : ExceptHandler} {hds : List ExceptHandler} {l : List (Value × SuiteT)} {pos : Pos} {tb : WX → TS} (hs : X.stack = X.env :: X.outer) (hf : X.env.frame = some X.env.locals)
    (hN : X.N.Nodup) (hi : X.N[i]? = some n) (hln : X.env.kindOf n = some .local)
    (hb : ∀ (W : WX) (pn : List (Addr × Obj)) (xe : Value → Shared → Prop), Takes (X.tr pn xe) W → PassesOwn (model X.prog X.w) X.A X.env xe → PSs (X.tr pn xe) body (tb W)) (hh : AsOk X n (h₀ :: hds) l) :
    PS X (.Try body (h₀ :: hds) [] [] pos) (tTry X.K i l tb) := ps_try_ass hs hf hN hi hln hb hh
/-! ### what is refused -/
structure ErrW (K : PySem.W.Frag) (mg : Str → Option Value) (C CW CP fP : Addr) : Prop where
  NV : Bas K mg "ValueError" "ValueError" "ValueError.__init__"
  P : Fam K mg "PanelError" "PanelError.__init__" "ValueError" mPanelError_Init CP fP
  W : Cl K mg "NoWorks" "NoWorks.__init__" "found" "ValueError" mNoWorks_Init CW
  xW : ExcC K CW
  tW : PySem.W.typeIn K (.ref CW) = some (.type "type")
  eWW : PySem.W.exmOne K (.ref CW) (.ref CW) = some true
  /-- no instance of Works -/
  no : ∀ t ∈ ["NoneType", "bool", "int", "str", "list", "tuple", "dict"], PySem.W.kitOne K (.type t) (.ref C) = some false
/-- such a refusal: its dict holds what was found -/
def gone (H : Hp) (d : Addr) (y : V) (H' : Hp) : Prop := Same H H' ∧ H d = none ∧ H' d = some (.xd [(("found" : Str), y)])
theorem gone.pre {H H1 H' : Hp} {d : Addr} {y : V} (S : Same H H1) (g : gone H1 d y H') : gone H d y H' := ⟨S.trans g.1, Same.no S g.2.1, g.2.2⟩
theorem gone_of {H : Hp} {CX t0 a t2 dx : Addr} {y : V} (n0 : H t0 = none) (na : H a = none)
    (n2 : upd (upd H t0 (.tup [y])) a (exq a CX none t0) t2 = none) (nx : upd (upd H t0 (.tup [y])) a (exq a CX none t0) dx = none) (nxa : dx ≠ a) {H' : Hp}
    (hk : ∀ c o, c ≠ a → c ≠ t2 → c ≠ dx → upd (upd H t0 (.tup [y])) a (exq a CX none t0) c = some o → H' c = some o) (hd : H' dx = some (.xd [(("found" : Str), y)])) : gone H dx y H' := by
  refine ⟨fun c o e => ?_, ?_, hd⟩
  · have c1 := ne_of_none e n0
    have e0 : upd H t0 (.tup [y]) c = some o := (upd_ne c1).trans e
    have c2 := ne_of_none e na
    have e1 : upd (upd H t0 (.tup [y])) a (exq a CX none t0) c = some o := (upd_ne c2).trans e0
    exact hk c o c2 (ne_of_none e1 n2) (ne_of_none e1 nx) e1
  · rw [upd_ne nxa] at nx
    by_cases z : dx = t0
    · rw [z, upd_same] at nx
      cases nx
    · rw [upd_ne z] at nx
      exact nx
section
variable {P : Program} {w : World} {K : PySem.W.Frag} {mg : Str → Option Value} {base : Heap} {C : Addr}
theorem ok_panel {f : Addr} {fd : FuncData} (N : Bas K mg "ValueError" "ValueError" "ValueError.__init__") (F : Fun K "__init__" "PanelError.__init__" mPanelError_Init f fd) :
    FnOk P w K mg base CX0 1 f fd ["self", "text"] (spFam K "ValueError") := by
  refine F.ok scmPanelError_Init (fun vs H Q E ⟨a, C, t0, x, e, _⟩ => by rw [e]; rfl) (fun cdv A outer s H vs Q E hr h => ?_)
  obtain ⟨a, C, t0, x, rfl, T, hB, ea, k⟩ := h
  refine ⟨_, pss_one (ps_expr (pe_beq N.nm (by rfl) N.free N.vV (pa_cons (pv 0) (pa_cons (pv 1) pa_nil)))), ?_⟩
  exact ⟨_, rfl, _, rfl, a, C, t0, [.str x], rfl, (by show 1 ≤ 1000; decide), T, hB, ea, k⟩
theorem ok_noworks {CB fB f : Addr} {fdB fd : FuncData} (B : Fam K mg "PanelError" "PanelError.__init__" "ValueError" mPanelError_Init CB fB) (FB : Fun K "__init__" "PanelError.__init__" mPanelError_Init fB fdB)
    (G : FnOk P w K mg base CX0 1 fB fdB ["self", "text"] (spFam K "ValueError")) (F : Fun K "__init__" "NoWorks.__init__" mNoWorks_Init f fd) :
    FnOk P w K mg base CX0 2 f fd ["self", "found"] (spX K "ValueError" "found" "these are no works") := by
  have bB := FB.binds (ps := ["self", "text"]) fun _ _ _ _ _ _ us hl => match us, hl with | [_, _], _ => rfl
  refine F.ok scmNoWorks_Init (fun vs H Q E ⟨a, C, t0, x, e, _⟩ => by rw [e]; rfl) (fun cdv A outer s H vs Q E hr h => ?_)
  obtain ⟨a, C, t0, y, rfl, T, hB, ea, nF, k⟩ := h
  refine ⟨_, pss_cons (ps_expr (pe_off (by rfl) B.mgC B.sg B.rd B.at_ FB.kp G hr bB .nil pass0 (pa_cons (pv 0) (pa_cons pe_str pa_nil))))
    (pss_one (ps_estF (pv 0) (pv 1))), ?_⟩
  refine ⟨_, rfl, a, C, t0, _, rfl, T, hB, ea, fun t2 n2 ne => ?_⟩
  exact ⟨_, rfl, _, rfl, a, C, t2, rfl, T, nF, upd_same, fun dx nx nxa => fin_x (fun _ q => q) k n2 ne nx nxa⟩
/-- no works -/
def NoWo (K : PySem.W.Frag) (C : Addr) (H : Hp) (y : V) : Prop := ∃ t, Ty K H y t ∧ PySem.W.kitOne K t (.ref C) = some false
def spWorksX (K : PySem.W.Frag) (C CW : Addr) : Sp := fun vs H Q E => ∃ y, vs = [y] ∧ NoWo K C H y ∧ ∀ d H', gone H d y H' → E (.ref CW) (some d) H'
theorem NoWo.same {K : PySem.W.Frag} {C : Addr} {H H' : Hp} {y : V} (h : NoWo K C H y) (S : Same H H') : NoWo K C H' y := let ⟨t, ty, n⟩ := h; ⟨t, ty.same S, n⟩
theorem d_worksX {CW CP fP : Addr} (T : Txt mg) (M : ErrW K mg C CW CP fP) (hC : mg "Works" = some (.ref C)) (A : At K mg "check_works" sCheckWorks) : DefE P w K mg base "check_works" 4 ["thing"] [] (spWorksX K C CW) := by
  obtain ⟨fE, fdE, iE, tE, FE⟩ := M.W.fn
  obtain ⟨fdB, FB⟩ := M.P.fn
  have GE := ok_noworks (P := P) (w := w) (base := base) M.P FB (ok_panel M.NV FB) FE
  have bE := FE.binds (ps := ["self", "found"]) fun _ _ _ _ _ _ us hl => match us, hl with | [_, _], _ => rfl
  refine mkDefE A scCheckWorks (fun _ _ _ _ _ _ us hl => match us, hl with | [_], _ => rfl) (fun vs H Q E ⟨_, e, _⟩ => by rw [e]; rfl)
    (fun f cdv A out s H vs Q E hr h => ?_)
  obtain ⟨y, rfl, ⟨t, ty, no⟩, k⟩ := h
  have tk := takes_of (X := cxOf (L2.CX P w) P w K mg base ["thing"] "check_works" (defScope sCheckWorks) f cdv A out s H E) (E := E) rfl rfl rfl rfl
  refine ⟨_, (pss_one (ps_if (pt_not (pt_val (pe_callB call_isa (by rfl) T.isinstance PyProof.Rows.boot_isinstance (pa_cons (pv 0) (pa_cons (pe_glob (v := V.ref C) (by rfl) hC rfl) pa_nil)))))
      (pss_one (ps_raise rfl tk (pmk_q (H0 := H) (K0 := K) rfl rfl rfl (pe_mkqF M.W.oex iE tE GE (hr.mono (by decide)) bE .nil pass0 (by rfl) M.W.mgC (pa_cons (pv 0) pa_nil)))))
      pss_nil)), ?_⟩
  refine ⟨_, rfl, y, .ref C, t, .ref C, false, rfl, .own C, ty.q, no, _, rfl, iteT ?_⟩
  refine ⟨_, rfl, by show 1 ≤ 1000; decide, fun q0 a n0 na h0a => ?_⟩
  refine ⟨a, CW, q0, _, rfl, M.W.oex, M.W.hB, upd_same, M.W.nF, fun t2 dd n2 n2a nx nxa nx2 => ⟨rfl, ?_⟩⟩
  refine ⟨a, CW, t2, rfl, fr0_none na, M.W.oex.exC, M.tW, .inr ⟨dd, _, nxa, upd_same, (upd_ne nxa).trans upd_same, ?_⟩⟩
  refine k dd _ (gone_of n0 na n2 nx nxa (fun c o c2 c3 c4 e => ?_) upd_same)
  exact (upd_ne c4).trans ((delH_ne c2).trans ((upd_ne c2).trans ((upd_ne c4).trans ((upd_ne c2).trans ((upd_ne c3).trans e)))))
def spSignsX (K : PySem.W.Frag) (C CW : Addr) : Sp := fun vs H Q E => ∃ y z, vs = [y, z] ∧ NoWo K C H y ∧ ∀ d H', gone H d y H' → E (.ref CW) (some d) H'
theorem d_signsX {CW : Addr} (A : At K mg "is_signs" sIsSigns) (dx : DefE P w K mg base "check_works" 4 ["thing"] [] (spWorksX K C CW)) : DefE P w K mg base "is_signs" 5 ["works", "thing"] [] (spSignsX K C CW) := by
  refine mkDefE A scIsSigns (fun _ _ _ _ _ _ us hl => match us, hl with | [_, _], _ => rfl) (fun vs H Q E ⟨_, _, e, _⟩ => by rw [e]; rfl)
    (fun f cdv A out s H vs Q E hr h => ?_)
  obtain ⟨y, z, rfl, no, k⟩ := h
  have tk := takes_of (X := cxOf (L2.CX P w) P w K mg base ["works", "thing", "_", "place", "number", "time", "rows", "times", "row"] "is_signs" (defScope sIsSigns) f cdv A out s H E) (E := E) rfl rfl rfl rfl
  refine ⟨_, (pss_cons (ps_expr (pe_dE dx tk hr (by decide) (by rfl) (pa_cons (pv 0) pa_nil)))
    (pss_cons ps_never (pss_cons ps_never (pss_cons ps_never (pss_cons ps_never (pss_cons ps_never (pss_cons ps_never (pss_one ps_never)))))))), ?_⟩
  exact ⟨_, rfl, y, rfl, no, k⟩
theorem d_signX {CW : Addr} (A : At K mg "is_sign" sIsSign) (dx : DefE P w K mg base "check_works" 4 ["thing"] [] (spWorksX K C CW)) : DefE P w K mg base "is_sign" 5 ["works", "thing"] [] (spSignsX K C CW) := by
  refine mkDefE A scIsSign (fun _ _ _ _ _ _ us hl => match us, hl with | [_, _], _ => rfl) (fun vs H Q E ⟨_, _, e, _⟩ => by rw [e]; rfl)
    (fun f cdv A out s H vs Q E hr h => ?_)
  obtain ⟨y, z, rfl, no, k⟩ := h
  have tk := takes_of (X := cxOf (L2.CX P w) P w K mg base ["works", "thing", "time", "point", "worth", "mark"] "is_sign" (defScope sIsSign) f cdv A out s H E) (E := E) rfl rfl rfl rfl
  refine ⟨_, (pss_cons (ps_expr (pe_dE dx tk hr (by decide) (by rfl) (pa_cons (pv 0) pa_nil)))
    (pss_cons ps_never (pss_cons ps_never (pss_one ps_never)))), ?_⟩
  exact ⟨_, rfl, y, rfl, no, k⟩
theorem d_orderX {CW : Addr} (A : At K mg "is_order" sIsOrder) (dx : DefE P w K mg base "check_works" 4 ["thing"] [] (spWorksX K C CW)) : DefE P w K mg base "is_order" 5 ["works", "thing"] [] (spSignsX K C CW) := by
  refine mkDefE A scIsOrder (fun _ _ _ _ _ _ us hl => match us, hl with | [_, _], _ => rfl) (fun vs H Q E ⟨_, _, e, _⟩ => by rw [e]; rfl)
    (fun f cdv A out s H vs Q E hr h => ?_)
  obtain ⟨y, z, rfl, no, k⟩ := h
  have tk := takes_of (X := cxOf (L2.CX P w) P w K mg base ["works", "thing", "word", "ident", "command", "what"] "is_order" (defScope sIsOrder) f cdv A out s H E) (E := E) rfl rfl rfl rfl
  refine ⟨_, (pss_cons (ps_expr (pe_dE dx tk hr (by decide) (by rfl) (pa_cons (pv 0) pa_nil)))
    (pss_cons ps_never (pss_cons ps_never (pss_cons ps_never (pss_one ps_never))))), ?_⟩
  exact ⟨_, rfl, y, rfl, no, k⟩
theorem d_letterX {CW : Addr} (A : At K mg "is_letter" sIsLetter) (ds : DefE P w K mg base "is_signs" 5 ["works", "thing"] [] (spSignsX K C CW)) (do_ : Def P w K mg base "is_order" 6 ["works", "thing"] (spOrder C K)) (dt : Def P w K mg base "_is_terms" 6 ["works", "thing"] (spTerms C K))
    (da : Def P w K mg base "_is_answer" 6 ["works", "thing"] (spAnswer C K)) : DefE P w K mg base "is_letter" 7 ["works", "thing"] [] (spSignsX K C CW) := by
  refine mkDefE A scIsLetter (fun _ _ _ _ _ _ us hl => match us, hl with | [_, _], _ => rfl) (fun vs H Q E ⟨_, _, e, _⟩ => by rw [e]; rfl)
    (fun f cdv A out s H vs Q E hr h => ?_)
  obtain ⟨y, z, rfl, no, k⟩ := h
  have tk := takes_of (X := cxOf (L2.CX P w) P w K mg base ["works", "thing"] "is_letter" (defScope sIsLetter) f cdv A out s H E) (E := E) rfl rfl rfl rfl
  refine ⟨_, (pss_one (ps_ret (pe_or (pe_dE ds tk hr (by decide) (by rfl) (pa_cons (pv 0) (pa_cons (pv 1) pa_nil))) (pe_or (pe_d do_ hr (by decide) (by rfl) (pa_cons (pv 0) (pa_cons (pv 1) pa_nil))) (pe_or (pe_d dt hr (by decide) (by rfl) (pa_cons (pv 0) (pa_cons (pv 1) pa_nil))) (pe_one (pe_d da hr (by decide) (by rfl) (pa_cons (pv 0) (pa_cons (pv 1) pa_nil))))))))), ?_⟩
  exact ⟨_, rfl, _, rfl, y, z, rfl, no, k⟩
def spNoW (K : PySem.W.Frag) (C : Addr) : Sp := fun vs H Q _ => ∃ th, vs = [th] ∧ NoWo K C H th ∧ Shown K H th ∧ ∀ H', Same H H' → Q (.bl true) H'
theorem d_noW {CW CP fP : Addr} (T : Txt mg) (M : ErrW K mg C CW CP fP) (A : At K mg "_law_no_works" sLawNoWorks) (d1 : DefE P w K mg base "is_sign" 5 ["works", "thing"] [] (spSignsX K C CW)) (d2 : DefE P w K mg base "is_signs" 5 ["works", "thing"] [] (spSignsX K C CW))
    (d3 : DefE P w K mg base "is_letter" 7 ["works", "thing"] [] (spSignsX K C CW)) (d4 : DefE P w K mg base "is_order" 5 ["works", "thing"] [] (spSignsX K C CW)) : DefG P w K mg base "_law_no_works" 8 ["_law_thing_here"] (spNoW K C) := by
  have xW : XfC K CW := ⟨M.xW.hg, M.xW.hk, M.xW.hs, M.xW.hd⟩
  refine mkDefG A scLawNoWorks (fun _ _ _ _ _ _ us hl => match us, hl with | [_], _ => rfl) (fun vs H Q E ⟨_, e, _⟩ => by rw [e]; rfl)
    (fun f cdv A out s H vs Q E gd hr h => ?_)
  have hu := hr.units
  obtain ⟨th, rfl, no, sh, k⟩ := h
  refine ⟨_, (pss_cons (ps_for PassesOwn.never rfl (pi_range1 (by rfl) T.range (pa_cons pe_int pa_nil)) (pg_name (i := 1) scLawNoWorks.nd rfl (.inl rfl))
      (pss_one (ps_try_assN (i := 2) rfl rfl scLawNoWorks.nd rfl rfl
        (fun W pn xe tk _ => pss_cons (ps_if (pt_cmpR op_eq (pv 1) pe_int (nomark _)) (pss_one (ps_expr (pe_dE d1 tk hr (by decide) (by rfl) (pa_cons (pv 0) (pa_cons (pe_tup pa_nil) pa_nil))))) pss_nil)
          (pss_cons (ps_if (pt_cmpR op_eq (pv 1) pe_int (nomark _)) (pss_one (ps_expr (pe_dE d2 tk hr (by decide) (by rfl) (pa_cons (pv 0) (pa_cons (pe_tup pa_nil) pa_nil))))) pss_nil)
          (pss_cons (ps_if (pt_cmpR op_eq (pv 1) pe_int (nomark _)) (pss_one (ps_expr (pe_dE d3 tk hr (by decide) (by rfl) (pa_cons (pv 0) (pa_cons (pe_tup pa_nil) pa_nil))))) pss_nil)
          (pss_cons (ps_if (pt_cmpR op_eq (pv 1) pe_int (nomark _)) (pss_one (ps_expr (pe_dE d4 tk hr (by decide) (by rfl) (pa_cons (pv 0) (pa_cons (pe_tup pa_nil) pa_nil))))) pss_nil)
          (pss_one (ps_ret pe_bl))))))
        (by exact .cons ⟨by rfl, by decide, .inl M.W.mgC⟩ (fun a oe cls d pn hz hf => pss_one (ps_if (pt_cmpR op_ne (pe_callB (call_reprK (K := K) rfl gd hu) (by rfl) T.repr PyProof.Rows.boot_repr (pa_cons (pe_xf (C := CW) xW M.W.nF hz hf (pv 2)) pa_nil)) (pe_callB (call_reprK (K := K) rfl gd hu) (by rfl) T.repr PyProof.Rows.boot_repr (pa_cons (pv 0) pa_nil)) (nomark _))
              (pss_one (ps_ret pe_bl))
              pss_nil)) .rest))))
    (pss_one (ps_ret pe_bl))), ?_⟩
  refine ⟨4, rfl, by decide, by decide, ?_⟩
  refine for_it (walk_range (lo := 0) (n := 4)) (fun i σ X => (∃ v1 v2 : Option V, σ = [some th, v1, v2]) ∧ Same H X) ⟨⟨_, _, rfl⟩, Same.refl _⟩
    (fun _ _ _ _ _ => trivial) ?_ ?_
  rotate_left
  · rintro σ X ⟨_, S⟩
    exact k X S
  rintro i v σ X0 X hi ⟨⟨v1, v2, rfl⟩, SX⟩ ⟨rfl, rfl⟩
  dsimp only [gName]
  unfold tTry
  refine ⟨_, rfl, rfl, _, rfl, ?_⟩
  refine ite2 (fun _ => ?_) (fun h0 => ?_)
  · refine ⟨_, rfl, by show 0 ≤ sizeLine; decide, fun z nz => ?_⟩
    have U := Same.laid (o := .tup []) nz
    refine ⟨th, .ref z, rfl, no.same (SX.trans U), fun d H' gd' => ⟨true, M.eWW, fun _ a0 _ => ?_, fun q => Bool.noConfusion q⟩⟩
    have S := SX.trans (U.trans gd'.1)
    obtain ⟨dd, nn, s, sw, pos, hn, hd⟩ := sh.same S
    have hn' : nn ≤ sizeLine := Nat.le_trans hn (by decide)
    refine ⟨_, rfl, rfl, rfl, d, _, th, rfl, gd'.2.2, rfl, _, dd, nn, s, rfl, sw, pos, hn', hd, ?_⟩
    refine ⟨_, rfl, _, dd, nn, s, rfl, sw, pos, hn', hd, rfl, _, rfl, ?_⟩
    rw [decide_eq_true rfl]
    exact iteF ⟨⟨_, _, rfl⟩, S⟩
  refine ⟨_, rfl, rfl, _, rfl, ?_⟩
  refine ite2 (fun _ => ?_) (fun h1 => ?_)
  · refine ⟨_, rfl, by show 0 ≤ sizeLine; decide, fun z nz => ?_⟩
    have U := Same.laid (o := .tup []) nz
    refine ⟨th, .ref z, rfl, no.same (SX.trans U), fun d H' gd' => ⟨true, M.eWW, fun _ a0 _ => ?_, fun q => Bool.noConfusion q⟩⟩
    have S := SX.trans (U.trans gd'.1)
    obtain ⟨dd, nn, s, sw, pos, hn, hd⟩ := sh.same S
    have hn' : nn ≤ sizeLine := Nat.le_trans hn (by decide)
    refine ⟨_, rfl, rfl, rfl, d, _, th, rfl, gd'.2.2, rfl, _, dd, nn, s, rfl, sw, pos, hn', hd, ?_⟩
    refine ⟨_, rfl, _, dd, nn, s, rfl, sw, pos, hn', hd, rfl, _, rfl, ?_⟩
    rw [decide_eq_true rfl]
    exact iteF ⟨⟨_, _, rfl⟩, S⟩
  refine ⟨_, rfl, rfl, _, rfl, ?_⟩
  refine ite2 (fun _ => ?_) (fun h2 => ?_)
  · refine ⟨_, rfl, by show 0 ≤ sizeLine; decide, fun z nz => ?_⟩
    have U := Same.laid (o := .tup []) nz
    refine ⟨th, .ref z, rfl, no.same (SX.trans U), fun d H' gd' => ⟨true, M.eWW, fun _ a0 _ => ?_, fun q => Bool.noConfusion q⟩⟩
    have S := SX.trans (U.trans gd'.1)
    obtain ⟨dd, nn, s, sw, pos, hn, hd⟩ := sh.same S
    have hn' : nn ≤ sizeLine := Nat.le_trans hn (by decide)
    refine ⟨_, rfl, rfl, rfl, d, _, th, rfl, gd'.2.2, rfl, _, dd, nn, s, rfl, sw, pos, hn', hd, ?_⟩
    refine ⟨_, rfl, _, dd, nn, s, rfl, sw, pos, hn', hd, rfl, _, rfl, ?_⟩
    rw [decide_eq_true rfl]
    exact iteF ⟨⟨_, _, rfl⟩, S⟩
  refine ⟨_, rfl, rfl, _, rfl, ?_⟩
  refine ite2 (fun _ => ?_) (fun h3 => ?_)
  · refine ⟨_, rfl, by show 0 ≤ sizeLine; decide, fun z nz => ?_⟩
    have U := Same.laid (o := .tup []) nz
    refine ⟨th, .ref z, rfl, no.same (SX.trans U), fun d H' gd' => ⟨true, M.eWW, fun _ a0 _ => ?_, fun q => Bool.noConfusion q⟩⟩
    have S := SX.trans (U.trans gd'.1)
    obtain ⟨dd, nn, s, sw, pos, hn, hd⟩ := sh.same S
    have hn' : nn ≤ sizeLine := Nat.le_trans hn (by decide)
    refine ⟨_, rfl, rfl, rfl, d, _, th, rfl, gd'.2.2, rfl, _, dd, nn, s, rfl, sw, pos, hn', hd, ?_⟩
    refine ⟨_, rfl, _, dd, nn, s, rfl, sw, pos, hn', hd, rfl, _, rfl, ?_⟩
    rw [decide_eq_true rfl]
    exact iteF ⟨⟨_, _, rfl⟩, S⟩
  exfalso
  have f : ∀ j : Int, ¬ decide (V.int (0 + (i : Int)) = V.int j) = true → (i : Int) ≠ j := fun j h e => h (decide_eq_true (by rw [e, Int.zero_add]))
  have := f 0 h0
  have := f 1 h1
  have := f 2 h2
  have := f 3 h3
  omega
/-! ### is it told right -/
theorem order_no {H : Hp} {y : V} (h : ∀ xs, tupOf H y = some xs → xs.length ≠ 2) : orderB H [] y = false := by
  unfold orderB
  split
  · rename_i a b c e
    have : nmIn c [] = false := by cases c <;> simp [nmIn]
    rw [this, Bool.and_false, Bool.and_false]
  · rename_i e
    exact absurd rfl (h _ e)
  · rfl
theorem signs_head {H : Hp} {ps : List Pt} {y : V} (h : signsB H ps y = true) : ∀ xs, tupOf H y = some xs → xs[0]? = some (.str "signs") := by
  unfold signsB at h
  intro xs e
  rw [e] at h
  split at h
  · rename_i x0 _ _ _ _ e2
    cases e2
    rw [Bool.and_eq_true] at h
    have h0 : x0 = .str "signs" := of_decide_eq_true h.1
    rw [h0]
    rfl
  · cases h
theorem hds_of {H : Hp} {y : V} (h : ∀ xs, tupOf H y = some xs → xs[0]? = some (.str "signs")) : HdS H y := fun xs e x hx => by
  rw [h xs e] at hx
  cases hx
  exact .inr (.inl ⟨_, rfl⟩)
theorem signsB_same {K : PySem.W.Frag} {H H' : Hp} {y : V} {ps : List Pt} (h : KnS K H y) (S : Same H H') : signsB H' ps y = signsB H ps y := by
  unfold signsB
  rw [tupOf_same h.k0 S]
  split
  · rename_i x0 x1 x2 x3 x4 e
    have kx := (h.parts _ e).1 x4 (by simp)
    have er : rowsB H' ps x1 x3 x4 = rowsB H ps x1 x3 x4 := by
      unfold rowsB
      rw [tupOf_same kx.1 S]
      split
      · rename_i s1 ti rs e4
        have kr := kx.2 rs e4
        have e1 : rs.all (signAtB H' ps s1) = rs.all (signAtB H ps s1) := by
          rw [Bool.eq_iff_iff, List.all_eq_true, List.all_eq_true]
          exact ⟨fun a r hr => by rw [← signAtB_same (kr r hr).1 S]; exact a r hr, fun a r hr => by rw [signAtB_same (kr r hr).1 S]; exact a r hr⟩
        have e2 : rs.map (tmOf H') = rs.map (tmOf H) := List.map_congr_left fun r hr => by
          unfold tmOf
          rw [tupOf_same (kr r hr).1 S]
        rw [e1, e2]
      · rfl
    rw [er]
  · rfl
theorem KnS.same' {K : PySem.W.Frag} {H H' : Hp} {y : V} (h : KnS K H y) (S : Same H H') : KnS K H' y where
  k0 := h.k0.same S
  parts := fun xs e => by
    have e' := (tupOf_same h.k0 S).symm.trans e
    obtain ⟨a, b⟩ := h.parts xs e'
    exact ⟨fun x hx => ⟨(a x hx).1.same S, fun rs er r hr => ((a x hx).2 rs ((tupOf_same (a x hx).1 S).symm.trans er) r hr).same S⟩, b⟩
def spRight (C : Addr) (K : PySem.W.Frag) : Sp := fun vs H Q _ => ∃ p b W ps y, vs = [.ref p, .ref b, y] ∧ WoM K C H p W ps [] ∧ LT fP H b ps ∧ KnT K H y ∧ ∀ H', Same H H' → Q (.bl true) H'
theorem d_right (T : Txt mg) (A : At K mg "_law_right" sLawRight) (di : Def P w K mg base "is_sign" 6 ["works", "thing"] (spSignA C K)) (ds : Def P w K mg base "is_signs" 8 ["works", "thing"] (spSignsA C K)) (do_ : Def P w K mg base "is_order" 6 ["works", "thing"] (spOrder C K))
    (dl : Def P w K mg base "is_letter" 9 ["works", "thing"] (spLetterS C K)) (ei : Def P w K mg base "_law_sign" 2 ["_law_points_here", "_law_thing_here"] (spLSign K)) (es : Def P w K mg base "_law_signs" 3 ["_law_points_here", "_law_thing_here"] (spLSigns K)) :
    DefG P w K mg base "_law_right" 11 ["_law_works", "_law_points_here", "_law_thing_here"] (spRight C K) := by
  refine mkDefG A scLawRight (fun _ _ _ _ _ _ us hl => match us, hl with | [_, _, _], _ => rfl) (fun vs H Q E ⟨_, _, _, _, _, e, _⟩ => by rw [e]; rfl)
    (fun f cdv A out s H vs Q E gd hr h => ?_)
  have hu := hr.units
  obtain ⟨p, b, W, ps, y, rfl, hw, hP, kt, k⟩ := h
  refine ⟨_, (pss_cons (ps_for PassesOwn.never rfl (pi_range1 (by rfl) T.range (pa_cons pe_int pa_nil)) (pg_name (i := 3) scLawRight.nd rfl (.inl rfl))
      (pss_cons (ps_if (pt_cmpR op_ne (pe_callB (call_repr gd hu) (by rfl) T.repr PyProof.Rows.boot_repr (pa_cons (pe_d di hr (by decide) (by rfl) (pa_cons (pv 0) (pa_cons (pv 2) pa_nil))) pa_nil)) (pe_callB (call_repr gd hu) (by rfl) T.repr PyProof.Rows.boot_repr (pa_cons (pe_d ei hr (by decide) (by rfl) (pa_cons (pv 1) (pa_cons (pv 2) pa_nil))) pa_nil)) (nomark _))
        (pss_one (ps_ret pe_bl))
        pss_nil)
      (pss_cons (ps_set (i := 4) scLawRight.nd rfl (.inl rfl) (pe_d es hr (by decide) (by rfl) (pa_cons (pv 1) (pa_cons (pv 2) pa_nil))))
      (pss_cons (ps_if (PW.pt (pw_or (pt_cmpR op_ne (pe_callB (call_repr gd hu) (by rfl) T.repr PyProof.Rows.boot_repr (pa_cons (pe_d ds hr (by decide) (by rfl) (pa_cons (pv 0) (pa_cons (pv 2) pa_nil))) pa_nil)) (pe_callB (call_repr gd hu) (by rfl) T.repr PyProof.Rows.boot_repr (pa_cons (pv 4) pa_nil)) (nomark _)) (pw_or1 (pt_cmpR op_notBl (pe_d do_ hr (by decide) (by rfl) (pa_cons (pv 0) (pa_cons (pv 2) pa_nil))) pe_bl (nomark _)))))
        (pss_one (ps_ret pe_bl))
        pss_nil)
      (pss_cons (ps_if (PW.pt (pw_and (pt_val (pv 4)) (pw_and1 (pt_cmpR op_notBl (pe_d dl hr (by decide) (by rfl) (pa_cons (pv 0) (pa_cons (pv 2) pa_nil))) pe_bl (nomark _)))))
        (pss_one (ps_ret pe_bl))
        pss_nil)
      (pss_one (ps_if (PW.pt (pw_and (pt_not (pt_val (pv 4))) (pw_and (pt_val (pe_is T.isinstance (by rfl) (pv 2) T.tuple (by rfl) (Tn := "tuple") (by decide +kernel))) (pw_and (pt_cmpR (op_or (op_eqH hr.units) (op_eqHE hr.units)) (pe_slice sl_tupS (pv 2) po_none (po_some pe_int)) (pe_tup (pa_cons pe_str pa_nil)) (nomark _)) (pw_and1 (pt_cmpR op_notBl (pe_d dl hr (by decide) (by rfl) (pa_cons (pv 0) (pa_cons (pv 2) pa_nil))) pe_bl (nomark _)))))))
        (pss_one (ps_ret pe_bl))
        pss_nil)))))))
    (pss_one (ps_ret pe_bl))), ?_⟩
  refine ⟨2, rfl, by decide, by decide, ?_⟩
  refine for_it (walk_range (lo := 0) (n := 2)) (fun i σ X => (∃ v3 v4 : Option V, σ = [some (.ref p), some (.ref b), some y, v3, v4]) ∧ Same H X) ⟨⟨_, _, rfl⟩, Same.refl _⟩
    (fun _ _ _ _ _ => trivial) ?_ ?_
  rotate_left
  · rintro σ X ⟨_, S⟩
    exact k X S
  rintro i v σ X0 X hi ⟨⟨v3, v4, rfl⟩, SX⟩ ⟨rfl, rfl⟩
  dsimp only [gName]
  have gp := hw.wp.g
  -- a sign
  refine ⟨_, rfl, _, rfl, p, W, ps, y, rfl, hw.wp.same SX, kt.k2.k1.same SX, fun X1 S1 => ?_⟩
  rw [signB_same kt.k2.1 SX]
  have SX1 := SX.trans S1
  refine ⟨_, 0, 5, _, rfl, .bl _, (fun a e => by cases e), by decide, by decide, ?_⟩
  refine ⟨_, rfl, _, rfl, b, ps, y, rfl, LT.same hP SX1, gp, kt.k2.k1.same SX1, fun X2 S2 => ?_⟩
  rw [signB_same kt.k2.1 SX1]
  have SX2 := SX1.trans S2
  refine ⟨_, 0, 5, _, rfl, .bl _, (fun a e => by cases e), by decide, by decide, rfl, _, rfl, ?_⟩
  rw [decide_eq_true rfl]
  refine iteF ?_
  -- a letter with signs
  refine ⟨_, rfl, _, rfl, b, ps, y, rfl, LT.same hP SX2, gp, kt.ks.same' SX2, fun X3 S3 => ?_⟩
  rw [signsB_same kt.ks SX2]
  have SX3 := SX2.trans S3
  dsimp only [gName]
  refine ⟨_, rfl, _, rfl, p, W, ps, y, rfl, hw.wp.same SX3, kt.ks.same' SX3, fun X4 S4 => ?_⟩
  rw [signsB_same kt.ks SX3]
  have SX4 := SX3.trans S4
  refine ⟨_, 0, 5, _, rfl, .bl _, (fun a e => by cases e), by decide, by decide, ?_⟩
  refine ⟨_, rfl, _, 0, 5, _, rfl, .bl _, (fun a e => by cases e), by decide, by decide, rfl, _, rfl, ?_⟩
  rw [decide_eq_true rfl]
  refine iteF ?_
  refine ⟨_, rfl, _, rfl, p, W, ps, [], y, rfl, hw.same SX4, kt.k2.same SX4, fun X5 S5 => ?_⟩
  rw [show orderB X4 (([] : List Cm).map Cm.nm) y = false from by rw [orderB_same kt.k2 SX4]; exact order_no kt.n2]
  have SX5 := SX4.trans S5
  refine ⟨false, false, rfl, rfl, _, rfl, ?_⟩
  rw [decide_eq_true rfl]
  refine iteF ?_
  -- a letter at all
  cases hd : signsB H ps y with
  | true =>
    refine ⟨_, rfl, _, rfl, iteT ?_⟩
    have hh := hds_of (signs_head hd)
    refine ⟨_, rfl, _, rfl, p, W, ps, [], y, rfl, hw.same SX5, kt.k2.same SX5, kt.ks.same' SX5, hh.same kt.k2.1 SX5, fun X6 S6 => ?_⟩
    rw [signsB_same kt.ks SX5, hd, Bool.true_or]
    have SX6 := SX5.trans S6
    refine ⟨true, true, rfl, rfl, _, rfl, ?_⟩
    rw [decide_eq_true rfl]
    refine iteF ?_
    exact ⟨_, rfl, _, rfl, iteF ⟨⟨_, _, rfl⟩, SX6⟩⟩
  | false =>
    refine ⟨_, rfl, _, rfl, iteF ?_⟩
    refine ⟨_, rfl, _, rfl, iteT ?_⟩
    obtain ⟨t, ty⟩ := kt.k2.1.1
    have ty5 := ty.same SX5
    refine ⟨_, rfl, y, .ty "tuple", t, .type "tuple", _, rfl, .ty "tuple", ty5.q, ty5.isTuple, _, rfl, ?_⟩
    have st5 := tupOf_same kt.k2.1 SX5
    cases h : tupOf H y with
    | none =>
      rw [tupB_no (st5.trans h)]
      exact iteF ⟨⟨_, _, rfl⟩, SX5⟩
    | some xs =>
      rw [tupB_of (st5.trans h)]
      obtain ⟨a, rfl, e⟩ := tupOf_is h
      refine iteT ⟨_, rfl, 1, rfl, a, xs, rfl, SX5 _ _ e, fun c X6 S6 ec => ?_⟩
      rw [show (1 : Int) = ((1 : Nat) : Int) from rfl, cut_upto] at ec
      refine ⟨by show 1 ≤ sizeLine; decide, fun z nz => ?_⟩
      have U := Same.laid (o := .tup [.str "signs"]) nz
      have ez : upd X6 z (.tup [.str "signs"]) z = some (.tup [.str "signs"]) := upd_same
      generalize upd X6 z (.tup [.str "signs"]) = X7 at *
      have SX7 := SX5.trans (S6.trans U)
      have ec7 := U _ _ ec
      match xs with
      | [] =>
        refine .inr ⟨c, z, "signs", rfl, rfl, SqT.of ec7, SqT.of ez, _, rfl, iteF ⟨⟨_, _, rfl⟩, SX7⟩⟩
      | x0 :: more =>
        obtain ⟨t0, ty0, n0⟩ := kt.hd _ h x0 rfl
        refine .inl ⟨c, z, x0, t0, "signs", rfl, rfl, SqT.of ec7, SqT.of ez, ty0.same SX7, n0, _, rfl, ?_⟩
        refine ite2 (fun h0 => ?_) (fun _ => ⟨⟨_, _, rfl⟩, SX7⟩)
        have hh : ∀ xs, tupOf H (.ref a) = some xs → xs[0]? = some (.str "signs") := fun xs e2 => by
          rw [h] at e2
          cases e2
          rw [of_decide_eq_true h0]
          rfl
        refine ⟨_, rfl, _, rfl, p, W, ps, [], .ref a, rfl, hw.same SX7, kt.k2.same SX7, kt.ks.same' SX7, (hds_of hh).same kt.k2.1 SX7, fun X8 S8 => ?_⟩
        rw [signsB_same kt.ks SX7, hd, Bool.false_or, no_letter (fun xs e2 => hh xs ((tupOf_same kt.k2.1 SX7).symm.trans e2))]
        refine ⟨false, false, rfl, rfl, _, rfl, ?_⟩
        rw [decide_eq_true rfl]
        exact iteF ⟨⟨_, _, rfl⟩, SX7.trans S8⟩
end
end V10

set_option maxHeartbeats 16000000
namespace V10
open PySem PySem.Spec PyProof.Rows L2 Pw
section
variable {K : PySem.W.Frag} {H : Hp} {p a : Addr} {n : Nat} {C : Addr}
theorem sqT_wo {xs : List V} (h : SqT K H a xs) (hb : BoxAt H p n) : SqT K (Pw.wo H p) a xs := by
  obtain ⟨us, eb⟩ := hb.lst
  refine h.imp (fun r => ?_) id
  rcases r with e | ⟨o, e⟩
  · exact .inl (wo_of (fun z => by rw [z, eb] at e; cases e) e)
  · exact .inr ⟨o, wo_of (fun z => by rw [z, eb] at e; cases e) e⟩
theorem WoAt_off {w : Addr} {W : Wks} (h : WoAt K C H w W) (hb : BoxAt H p n) : WoAt K C (Pw.wo H p) w W := by
  obtain ⟨us, eb⟩ := hb.lst
  have dk : ∀ {d : Addr} {kvs : List (Key × V)}, H d = some (.dK kvs) → Pw.wo H p d = some (.dK kvs) := fun e => wo_of (fun z => by rw [z, eb] at e; cases e) e
  obtain ⟨dx, tp, dp, tr, dr, tc, tm, dm, tl, e0, e1, e2, e3, e4, e5, e6, e7, e8⟩ := h.ex
  exact ⟨dx, tp, dp, tr, dr, tc, tm, dm, tl, wo_of (fun z => by rw [z, eb] at e0; cases e0) e0, sqT_wo e1 hb, dk e2, sqT_wo e3 hb, dk e4, sqT_wo e5 hb, sqT_wo e6 hb, dk e7, sqT_wo e8 hb⟩
end
section
variable {K : PySem.W.Frag} {C : Addr} {H : Hp}
theorem WoP_off {p x : Addr} {n : Nat} {W : Wks} {ps : List Pt} (h : WoP K C H x W ps) (hb : BoxAt H p n) : WoP K C (Pw.wo H p) x W ps := by
  obtain ⟨us, eb⟩ := hb.lst
  exact ⟨WoAt_off h.wo hb, h.ks, h.al.imp fun q xs eq => wo_of (fun z => by rw [z, eb] at eq; cases eq) eq, h.g⟩
theorem WoM_off {p x : Addr} {n : Nat} {W : Wks} {ps : List Pt} {cs : List Cm} (h : WoM K C H x W ps cs) (hb : BoxAt H p n) : WoM K C (Pw.wo H p) x W ps cs := ⟨WoP_off h.wp hb, h.km, h.len, h.nd, h.ok⟩
theorem LtAt_off {p q : Addr} {n : Nat} {L : Lt} (h : LtAt H q L) (hb : BoxAt H p n) : LtAt (Pw.wo H p) q L := by
  obtain ⟨us, eb⟩ := hb.lst
  obtain ⟨rt, vs, e, et, al⟩ := h
  exact ⟨rt, vs, wo_of (fun z => by rw [z, eb] at e; cases e) e, wo_of (fun z => by rw [z, eb] at et; cases et) et, al.imp fun q xs eq => wo_of (fun z => by rw [z, eb] at eq; cases eq) eq⟩
end
theorem mem_cut {xs : List V} {lo hi : Option Int} {x : V} (h : x ∈ cutV xs lo hi) : x ∈ xs := List.mem_of_mem_drop (List.mem_of_mem_take h)
theorem len_cut (xs : List V) (lo hi : Option Int) : (cutV xs lo hi).length ≤ xs.length := by
  unfold cutV
  rw [List.length_take, List.length_drop]
  omega
theorem kt_row {K : PySem.W.Frag} {H : Hp} {q : Addr} {r : Sg} (e : H q = some (.tup (f4 r))) (g : Sg4 r) (C : Addr) : KnT K H (.ref q) :=
  kt_tup (C := C) e (fun x h => .inl (g.scl x h)) (by show 4 ≠ 2; decide) fun h => absurd rfl h
theorem kt_letter {K : PySem.W.Frag} {H : Hp} {q : Addr} {L : Lt} {ps : List Pt} (h : LtAt H q L) (gp : GoodPs ps) (g : GoodLt ps L) : KnT K H (.ref q) := by
  obtain ⟨rt, vs, e, et, al⟩ := h
  obtain ⟨pt0, hpt0, epl⟩ := List.mem_map.mp g.pl
  refine kt_parts e (fun x hx => ?_) (by show 5 ≠ 2; decide) fun x hx => by cases hx; exact .inr (.inl ⟨_, rfl, fun z e => by cases e; decide +kernel⟩)
  simp only [List.mem_cons, List.not_mem_nil, or_false] at hx
  rcases hx with rfl | rfl | rfl | rfl | rfl
  · exact Scl.pt (.inr (.inl ⟨_, rfl, fun z e => by cases e; decide +kernel⟩))
  · exact Scl.pt (.inr (.inl ⟨_, rfl, epl ▸ (gp.all pt0 hpt0).pl.sh⟩))
  · exact Scl.pt (.inr (.inr ⟨_, rfl⟩))
  · exact Scl.pt (.inr (.inr ⟨_, rfl⟩))
  · exact pt_tup et (al_k1 al fun r hr => GoodS.sg4 gp (g.all r hr))
section
variable {P : Program} {w : World} {K : PySem.W.Frag} {mg : Str → Option Value} {base : Heap} {C d1 d2 d3 d4 : Addr}
abbrev spWc (K : PySem.W.Frag) (C : Addr) : Sp := spInitW K C fP Pt.nm fC Cm.nm (spNone K) (spNone2 K) (spCmds K) (spNone K)
abbrev gW (d1 d2 d3 d4 : Addr) : List V → List V → List V := fun vs zs => vs ++ [V.ref d1, .ref d2, .ref d3, .ref d4] ++ zs
def spLaw (K : PySem.W.Frag) : Sp := fun vs H Q _ => ∃ (a : Addr) (ns : List Int), vs = [.ref a] ∧ SqL K H a (ns.map V.int) ∧ ns.length ≤ 63 ∧ ∀ H', Q (.bl true) H'
theorem ok_law {f : Addr} {fd : FuncData} (F : Fun K "law" "law" sLaw f fd) (T : Txt mg) (Wc : WoC K C)
    (dW : MadeK P w K mg base "Works" C 14 ["self", "points", "rules", "causes", "commands", "relations"] 1 [] (gW d1 d2 d3 d4) (spWc K C))
    (hd1 : ∀ H, SqT K H d1 []) (hd2 : ∀ H, SqT K H d2 []) (hd3 : ∀ H, SqT K H d3 []) (hd4 : ∀ H, SqT K H d4 []) (no : NoOwn K C)
    (dCell : Def P w K mg base "_law_cell" 1 ["_law_script", "_law_k"] (spCell K)) (dBox : Def P w K mg base "_law_box" 1 ["_law_cell_here"] (spBox K)) (dt : Def P w K mg base "_law_take" 1 ["_law_box_here", "_law_many"] (spTake K))
    (dn : Def P w K mg base "_law_names" 2 ["_law_box_here", "_law_many"] (spNames K)) (dpt : Def P w K mg base "_law_points" 2 ["_law_box_here", "_law_names_here"] (spPtsL K))
    (dlt : Def P w K mg base "_law_letter" 3 ["_law_box_here", "_law_points_here", "_law_number"] (spLetter K))
    (dth : Def P w K mg base "_law_thing" 2 ["_law_box_here"] (spThing K C)) (dbs : Def P w K mg base "_law_bent_sign" 3 ["_law_box_here", "_law_points_here", "_law_row"] (spBentS K C))
    (dbl : Def P w K mg base "_law_bent_letter" 4 ["_law_box_here", "_law_points_here", "_law_letter_here"] (spBentL K C))
    (dri : DefG P w K mg base "_law_right" 11 ["_law_works", "_law_points_here", "_law_thing_here"] (spRight C K)) (dno : DefG P w K mg base "_law_no_works" 8 ["_law_thing_here"] (spNoW K C)) :
    FnG P w K mg base CX0 16 f fd ["_law_script"] (spLaw K) := by
  refine okG F scLaw (fun vs H Q E ⟨_, _, e, _⟩ => by rw [e]; rfl) (fun cdv A out s H vs Q E gd hr h => ?_)
  obtain ⟨a, ns, rfl, hS, hlen, k⟩ := h
  refine ⟨_, (pss_cons (ps_for PassesOwn.never rfl (pi_range1 (by rfl) T.range (pa_cons (pe_callB (call_max2 rfl) (by rfl) T.max PyProof.Rows.boot_max (pa_cons pe_int (pa_cons (pe_callB (call_min2 rfl) (by rfl) T.min PyProof.Rows.boot_min (pa_cons (pe_callB call_len_seq (by rfl) T.len PySem.boot_len (pa_cons (pv 0) pa_nil)) (pa_cons pe_int pa_nil))) pa_nil))) pa_nil)) (pg_name (i := 1) scLaw.nd rfl (.inl rfl))
      (pss_cons (ps_set (i := 2) scLaw.nd rfl (.inl rfl) (pe_d dBox hr (by decide) (by rfl) (pa_cons (pe_d dCell hr (by decide) (by rfl) (pa_cons (pv 0) (pa_cons (pv 1) pa_nil))) pa_nil)))
      (pss_cons (ps_set (i := 3) scLaw.nd rfl (.inl rfl) (pe_d dpt hr (by decide) (by rfl) (pa_cons (pv 2) (pa_cons (pe_d dn hr (by decide) (by rfl) (pa_cons (pv 2) (pa_cons pe_int pa_nil))) pa_nil))))
      (pss_cons (ps_set (i := 4) scLaw.nd rfl (.inl rfl) (pe_mk dW hr (by decide) (by rfl) (pa_cons (pv 3) pa_nil) pk_nil))
      (pss_cons (ps_set (i := 5) scLaw.nd rfl (.inl rfl) (pe_d dlt hr (by decide) (by rfl) (pa_cons (pv 2) (pa_cons (pv 3) (pa_cons (pe_op op_add pe_int (pe_d dt hr (by decide) (by rfl) (pa_cons (pv 2) (pa_cons pe_int pa_nil)))) pa_nil)))))
      (pss_cons (ps_set (i := 6) scLaw.nd rfl (.inl rfl) (pe_lst (pa_cons (pe_d dbl hr (by decide) (by rfl) (pa_cons (pv 2) (pa_cons (pv 3) (pa_cons (pv 5) pa_nil)))) (pa_cons (pe_d dbl hr (by decide) (by rfl) (pa_cons (pv 2) (pa_cons (pv 3) (pa_cons (pv 5) pa_nil)))) pa_nil))))
      (pss_cons (ps_set (i := 7) scLaw.nd rfl (.inl rfl) (pe_op op_cat (pe_op op_cat (pe_lst (pa_cons (pv 5) pa_nil)) (pv 6)) (pe_lst (pa_cons (pe_d dth hr (by decide) (by rfl) (pa_cons (pv 2) pa_nil)) pa_nil))))
      (pss_cons (ps_for PassesOwn.never rfl (pi_sqG (pe_op op_catS (pe_slice sl_tupS (pe_ix (r := rIxT K) ix_tup (pv 5) pe_int (fun _ _ => rfl)) po_none (po_some pe_int)) (pe_slice sl_tupS (pe_ix (r := rIxT K) ix_tup (pv 5) pe_int (fun _ _ => rfl)) (po_some (pe_un un_neg pe_int)) po_none))) (pg_name (i := 8) scLaw.nd rfl (.inl rfl))
        (pss_one (ps_set (i := 7) scLaw.nd rfl (.inl rfl) (pe_op op_cat (pv 7) (pe_lst (pa_cons (pv 8) (pa_cons (pe_d dbs hr (by decide) (by rfl) (pa_cons (pv 2) (pa_cons (pv 3) (pa_cons (pv 8) pa_nil)))) (pa_cons (pe_d dbs hr (by decide) (by rfl) (pa_cons (pv 2) (pa_cons (pv 3) (pa_cons (pv 8) pa_nil)))) pa_nil))))))))
      (pss_cons (ps_for PassesOwn.never rfl (pi_list (pv 7)) (pg_name (i := 9) scLaw.nd rfl (.inl rfl))
        (pss_one (ps_if (pt_not (pt_val (pe_dG dri gd hr (by decide) (by rfl) (pa_cons (pv 4) (pa_cons (pv 3) (pa_cons (pv 9) pa_nil))))))
          (pss_one (ps_ret pe_bl))
          pss_nil)))
      (pss_one (ps_if (PW.pt (pw_or (pt_not (pt_val (pe_dG dno gd hr (by decide) (by rfl) (pa_cons (pe_d dth hr (by decide) (by rfl) (pa_cons (pv 2) pa_nil)) pa_nil)))) (pw_or1 (pt_not (pt_val (pe_dG dno gd hr (by decide) (by rfl) (pa_cons (pv 3) pa_nil)))))))
        (pss_one (ps_ret pe_bl))
        pss_nil)))))))))))
    (pss_one (ps_ret pe_bl))), ?_⟩
  refine ⟨_, rfl, a, _, rfl, .inl hS, _, 8, rfl, 2, _, rfl, ?_⟩
  rw [List.length_map]
  obtain ⟨mm, em, hm⟩ : ∃ mm : Nat, (if (if (8 : Int) < (ns.length : Int) then (8 : Int) else (ns.length : Int)) > (2 : Int) then (if (8 : Int) < (ns.length : Int) then (8 : Int) else (ns.length : Int)) else 2) = (mm : Int) ∧ mm ≤ 8 := by
    by_cases h1 : (8 : Int) < (ns.length : Int)
    · exact ⟨8, by rw [if_pos h1]; rfl, by omega⟩
    · rw [if_neg h1]
      by_cases h2 : (ns.length : Int) > (2 : Int)
      · exact ⟨ns.length, by rw [if_pos h2], by omega⟩
      · exact ⟨2, by rw [if_neg h2]; rfl, by omega⟩
  rw [em]
  refine ⟨(mm : Int), rfl, by omega, by omega, ?_⟩
  refine for_it (walk_range (lo := 0) (n := mm)) (fun i σ X => (∃ v1 v2 v3 v4 v5 v6 v7 v8 v9 : Option V, σ = [some (.ref a), v1, v2, v3, v4, v5, v6, v7, v8, v9]) ∧ Same H X) ⟨⟨_, _, _, _, _, _, _, _, _, rfl⟩, Same.refl _⟩
    (fun _ _ _ _ _ => trivial) ?_ (fun σ X h => k X)
  rintro i v σ X0 X hi ⟨⟨v1, v2, v3, v4, v5, v6, v7, v8, v9, rfl⟩, SX⟩ ⟨rfl, rfl⟩
  dsimp only [gName]
  refine ⟨_, rfl, _, rfl, a, ns, 0 + (i : Int), rfl, Same.seq SX hS, hlen, by omega, by omega, fun c => ⟨c, rfl, fun p X1 np0 S1 hb1 => ?_⟩⟩
  dsimp only [gName]
  -- the names, the points
  refine ⟨_, rfl, _, rfl, p, 8, 0, rfl, by decide, by decide, hb1, by decide, fun N X2 css nN Np hb2 B2 eN cl nd good => ?_⟩
  refine ⟨p, N, _, css, rfl, hb2, by decide, Np, eN, nd, good, by omega, fun b X3 ps nb bp hb3 B3 hP3 gp pin => ?_⟩
  dsimp only [gName]
  obtain ⟨xp, eP3, alp⟩ := hP3.ex
  have B13 : But p X1 X3 := B2.trans B3
  -- the works
  refine ⟨_, rfl, rfl, rfl, fun x dx nx ndx nex => ?_⟩
  have U1 := Same.laid (o := HO.own x) ndx
  have nx1 : upd X3 dx (.own x) x = none := (upd_ne nex.symm).trans nx
  have U2 := Same.laid (o := HO.ins C dx []) nx1
  have ex : upd (upd X3 dx (.own x)) x (.ins C dx []) x = some (.ins C dx []) := upd_same
  have S34 : Same X3 (upd (upd X3 dx (.own x)) x (.ins C dx [])) := U1.trans U2
  generalize upd (upd X3 dx (.own x)) x (.ins C dx []) = X4 at *
  refine ⟨x, b, d1, d2, d3, d4, dx, xp, [], [], [], [], ps, [], [], rfl, ex, .inl (SqL.of (S34 _ _ eP3)), alp.same S34, gp, .inr (hd1 _), .nil, .nil, by decide, .inr (hd2 _), .inr (hd3 _), .nil, .nil, by decide, .inr (hd4 _),
    (fun d H1 Q1 Fr h k => ⟨d1, .ref d, rfl, .inr (hd1 _), k⟩), (fun d H1 Q1 Fr h k => ⟨d2, d, rfl, .inr (hd2 _), h, k⟩), (fun d H1 Q1 Fr h k => ⟨d3, d, [], [], ps, xp, rfl, .inr (hd3 _), .nil, (fun c hc => by cases hc), (fun c hc => by cases hc), .nil, gp, by decide, h, Fr.al ex (alp.same S34), k⟩), (fun d H1 Q1 Fr h k => ⟨d4, .ref d, rfl, .inr (hd4 _), k⟩), fun X6 hwo F6 => ⟨rfl, ?_⟩⟩
  have S36 : Same X3 X6 := fun q o e => F6 q o (ne_of_none e nx) (S34 _ _ e)
  have hb6 := hb3.keep S36
  have hW6 : WoP K C X6 x _ ps := ⟨hwo, rfl, alp.same S36, gp⟩
  have hP6 := hP3.same S36
  have B16 : But p X1 X6 := B13.trans (Same.but S36)
  have hm6 : WoM K C X6 x _ ps [] := ⟨hW6, rfl, rfl, .nil, fun c hc => by cases hc⟩
  have kW6 := WoM_off hm6 hb6
  clear hW6 hm6 hwo F6 U1 U2 ex S34
  dsimp only [gName]
  -- the letter
  refine ⟨_, rfl, _, rfl, _, rfl, p, 40, _, rfl, hb6, by decide, by decide, by decide, fun j40 X7 a7 b7 hb7 B7 => ?_⟩
  have hP7 := LT.but hP6 hb6 bp B7
  refine ⟨_, _, rfl, rfl, p, b, 1 + j40, _, ps, rfl, hb7, by decide, bp, hP7, gp, by omega, by omega, fun q X8 L hb8 B8 nq qp hL gL => ?_⟩
  have hP8 := LT.but hP7 hb7 bp B8
  have kL8 := LtAt_off hL hb8
  have B68 := B7.trans B8
  have B18 : But p X1 X8 := B16.trans B68
  obtain ⟨c8, hc8, l8⟩ : ∃ c8 : Nat, BoxAt X8 p c8 ∧ c8 ≤ 2000 := ⟨_, hb8, by omega⟩
  clear hb8 hb7 hb6 hP7 hP6
  dsimp only [gName]
  -- two letters put otherwise
  refine ⟨_, rfl, _, rfl, _, rfl, p, b, q, c8, ps, L, rfl, hc8, by omega, bp, hP8, gp, hL, gL, fun y1 X9 hb9 B9 kt1 => ?_⟩
  have hP9 := LT.but hP8 hc8 bp B9
  have kL9 := kL8.same B9
  refine ⟨_, rfl, _, rfl, _, rfl, p, b, q, _, ps, L, rfl, hb9, by omega, bp, hP9, gp, kL9.same wo_same, gL, fun y2 X10 hb10 B10 kt2 => ?_⟩
  have hP10 := LT.but hP9 hb9 bp B10
  refine ⟨by show 2 ≤ sizeLine; decide, fun l1 nl1 => ?_⟩
  have l1p := hb10.ne nl1
  have V1 := Same.laid (o := HO.lst [y1, y2]) nl1
  have el1 : upd X10 l1 (.lst [y1, y2]) l1 = some (.lst [y1, y2]) := upd_same
  have hb11 := hb10.keep V1
  generalize upd X10 l1 (.lst [y1, y2]) = X11 at *
  dsimp only [gName]
  -- the things
  refine ⟨_, rfl, by show 1 ≤ sizeLine; decide, fun l2 nl2 => ?_⟩
  have V2 := Same.laid (o := HO.lst [.ref q]) nl2
  have el2 : upd X11 l2 (.lst [.ref q]) l2 = some (.lst [.ref q]) := upd_same
  have hb12 := hb11.keep V2
  generalize upd X11 l2 (.lst [.ref q]) = X12 at *
  refine ⟨_, rfl, l2, l1, _, _, rfl, rfl, el2, V2 _ _ el1, by show 1 + 2 ≤ sizeLine; decide, fun l3 nl3 => ?_⟩
  have l3p := hb12.ne nl3
  have V3 := Same.laid (o := HO.lst ([.ref q] ++ [y1, y2])) nl3
  have el3 : upd X12 l3 (.lst ([.ref q] ++ [y1, y2])) l3 = some (.lst [.ref q, y1, y2]) := upd_same
  have hb13 := hb12.keep V3
  generalize upd X12 l3 (.lst ([.ref q] ++ [y1, y2])) = X13 at *
  refine ⟨_, rfl, p, _, rfl, hb13, by omega, fun yt X14 hb14 B14 th => ?_⟩
  refine ⟨by show 1 ≤ sizeLine; decide, fun l4 nl4 => ?_⟩
  have V4 := Same.laid (o := HO.lst [yt]) nl4
  have el4 : upd X14 l4 (.lst [yt]) l4 = some (.lst [yt]) := upd_same
  have hb15 := hb14.keep V4
  generalize upd X14 l4 (.lst [yt]) = X15 at *
  refine ⟨l3, l4, _, _, rfl, rfl, V4 _ _ (B14.at l3p el3), el4, by show 3 + 1 ≤ sizeLine; decide, fun l5 nl5 => ?_⟩
  have l5p := hb15.ne nl5
  have V5 := Same.laid (o := HO.lst ([.ref q, y1, y2] ++ [yt])) nl5
  have el5 : upd X15 l5 (.lst ([.ref q, y1, y2] ++ [yt])) l5 = some (.lst [.ref q, y1, y2, yt]) := upd_same
  have hb16 := hb15.keep V5
  generalize upd X15 l5 (.lst ([.ref q, y1, y2] ++ [yt])) = X16 at *
  have B1016 : But p X10 X16 := (Same.but (V1.trans (V2.trans V3))).trans (B14.trans (Same.but (V4.trans V5)))
  have B816 : But p X8 X16 := B9.trans (B10.trans B1016)
  have kL16 := kL8.same B816
  have hP16 : LT fP X16 b ps := LT.but hP10 hb10 bp B1016
  have kW16 := kW6.same (B68.trans B816)
  have kts : ∀ t ∈ [V.ref q, y1, y2, yt], KnT K (wo X16 p) t := fun t ht => by
    simp only [List.mem_cons, List.not_mem_nil, or_false] at ht
    rcases ht with rfl | rfl | rfl | rfl
    · exact kt_letter kL16 gp gL
    · exact kt1.same (B10.trans B1016)
    · exact kt2.same B1016
    · exact th.kt.same (Same.but (V4.trans V5))
  obtain ⟨c16, hc16, l16⟩ : ∃ c16 : Nat, BoxAt X16 p c16 ∧ c16 ≤ 3000 := ⟨_, hb16, by omega⟩
  have B116 := B18.trans B816
  have hL16 : LtAt X16 q L := kL16.same wo_same
  clear hb16 hb15 hb14 hb13 hb12 hb11 hb10 hb9 kt1 kt2 th V1 V2 V3 V4 V5 nl1 nl2 nl3 nl4 nl5 el1 el2 el3 el4 hP10 hP9 hP8 B14
  dsimp only [gName]
  -- its rows
  obtain ⟨rt, vs, eq, et, al⟩ := hL16
  have vlen := al.length
  have few := gL.few
  refine ⟨_, rfl, q, _, 4, .ref rt, rfl, rfl, SqT.of eq, rfl, 2, rfl, rt, vs, rfl, et, fun r1 X17 W1 er1 => ?_⟩
  refine ⟨_, rfl, q, _, 4, .ref rt, rfl, rfl, SqT.of (W1 _ _ eq), rfl, 1, rfl, -1, rfl, rt, vs, rfl, W1 _ _ et, fun r2 X18 W2 er2 => ?_⟩
  have lc1 := len_cut vs none (some 2)
  have lc2 := len_cut vs (some (-1)) none
  refine ⟨r1, r2, _, _, rfl, rfl, W2 _ _ er1, er2, Nat.le_trans (show _ ≤ 100 by omega) (by decide), fun r3 X19 W3 er3 => ?_⟩
  generalize hrs : cutV vs none (some 2) ++ cutV vs (some (-1)) none = rws at er3
  have rlen : rws.length ≤ 24 := by rw [← hrs, List.length_append]; omega
  have W13 := W1.trans (W2.trans W3)
  have rowsIn : ∀ v ∈ rws, ∃ q2 r, v = .ref q2 ∧ X16 q2 = some (.tup (f4 r)) ∧ Sg4 r := fun v hv => by
    have hv' : v ∈ vs := by
      rw [← hrs] at hv
      rcases List.mem_append.mp hv with h | h
      · exact mem_cut h
      · exact mem_cut h
    obtain ⟨j, hj, ej⟩ := List.getElem_of_mem hv'
    obtain ⟨q2, r, e1, e2, e3⟩ := al.get (List.getElem?_eq_some_iff.mpr ⟨hj, ej⟩)
    exact ⟨q2, r, e1, e3, GoodS.sg4 gp (gL.all r (List.mem_of_getElem? e2))⟩
  have hb19 := hc16.keep W13
  have r3p := box_ne hb19 er3
  clear hrs lc1 lc2
  refine ⟨r3, rws, fun X => But p X19 X, rfl, Same.but (Same.refl _), .inr (fun X B => SqT.of (B.at r3p er3)), fun J Gd hG wk => ?_⟩
  refine for_it wk (fun j σ Y => (∃ (T7 : Addr) (v8 v9 : Option V) (ts : List V), σ = [some (.ref a), some (.int (0 + (i : Int))), some (.ref p), some (.ref b), some (.ref x), some (.ref q), some (.ref l1), some (.ref T7), v8, v9] ∧ T7 ≠ p ∧ Y T7 = some (.lst ts) ∧ ts.length ≤ 4 + 3 * j ∧ ∀ t ∈ ts, KnT K (wo Y p) t) ∧
      BoxAt Y p (c16 + 20 * j) ∧ But p X19 Y) ?_ (fun j σ Y _ h => hG _ h.2.2) ?_ ?_
  · exact ⟨⟨l5, _, _, _, rfl, l5p, W13 _ _ el5, by show 4 ≤ 4 + 3 * 0; decide, fun t ht => (kts t ht).same (Same.but W13)⟩, hb19, Same.but (Same.refl _)⟩
  · rintro j v σ Y0 Y hj ⟨⟨T7, v8, v9, ts, rfl, T7p, eT, tl, kt⟩, hbY, BY⟩ ⟨rfl, hx⟩
    obtain ⟨q2, r, rfl, eq2, g4⟩ := rowsIn v (List.mem_of_getElem? hx)
    have q2p := box_ne hc16 eq2
    have B16Y : But p X16 Y := (Same.but W13).trans BY
    have hPY := LT.but hP16 hc16 bp B16Y
    have eqY := B16Y.at q2p eq2
    dsimp only [gName]
    refine ⟨_, rfl, _, rfl, ?_⟩
    refine ⟨_, rfl, _, rfl, _, rfl, p, b, q2, _, ps, r, rfl, hbY, by omega, bp, hPY, gp, eqY, g4, fun z1 Y1 hbY1 BY1 kz1 => ?_⟩
    have hPY1 := LT.but hPY hbY bp BY1
    refine ⟨_, rfl, _, rfl, _, rfl, p, b, q2, _, ps, r, rfl, hbY1, by omega, bp, hPY1, gp, BY1.at q2p eqY, g4, fun z2 Y2 hbY2 BY2 kz2 => ?_⟩
    refine ⟨by show 3 ≤ sizeLine; decide, fun m1 nm1 => ?_⟩
    have V1 := Same.laid (o := HO.lst [.ref q2, z1, z2]) nm1
    have em1 : upd Y2 m1 (.lst [.ref q2, z1, z2]) m1 = some (.lst [.ref q2, z1, z2]) := upd_same
    have hbY3 := hbY2.keep V1
    generalize upd Y2 m1 (.lst [.ref q2, z1, z2]) = Y3 at *
    have BYY3 : But p Y Y3 := BY1.trans (BY2.trans (Same.but V1))
    refine ⟨T7, m1, _, _, rfl, rfl, BYY3.at T7p eT, em1, Nat.le_trans (show ts.length + 3 ≤ 200 by omega) (by decide), fun m2 nm2 => ?_⟩
    have m2p := hbY3.ne nm2
    have V2 := Same.laid (o := HO.lst (ts ++ [.ref q2, z1, z2])) nm2
    have em2 : upd Y3 m2 (.lst (ts ++ [.ref q2, z1, z2])) m2 = some (.lst (ts ++ [.ref q2, z1, z2])) := upd_same
    have hbY4 := hbY3.keep V2
    generalize upd Y3 m2 (.lst (ts ++ [.ref q2, z1, z2])) = Y4 at *
    have BYY4 : But p Y Y4 := BYY3.trans (Same.but V2)
    refine ⟨⟨m2, _, _, _, rfl, m2p, em2, by rw [List.length_append]; show ts.length + 3 ≤ 4 + 3 * (j + 1); omega, fun t ht => ?_⟩, hbY4.up (by omega), BY.trans BYY4⟩
    rcases List.mem_append.mp ht with ht | ht
    · exact (kt t ht).same BYY4
    · simp only [List.mem_cons, List.not_mem_nil, or_false] at ht
      rcases ht with rfl | rfl | rfl
      · exact kt_row (wo_of q2p (BYY4.at q2p eqY)) g4 C
      · exact kz1.same (BY2.trans (Same.but (V1.trans V2)))
      · exact kz2.same (Same.but (V1.trans V2))
  rintro σ Y ⟨⟨T7, v8, v9, ts, rfl, T7p, eT, tl, kt⟩, hbY, BY⟩
  have B16Y : But p X16 Y := (Same.but W13).trans BY
  have hPY := LT.but hP16 hc16 bp B16Y
  have kWY : WoM K C Y x _ ps [] := (kW16.same B16Y).same wo_same
  have ktY : ∀ t ∈ ts, KnT K Y t := fun t ht => (kt t ht).same wo_same
  have B1Y := B116.trans B16Y
  obtain ⟨cY, hcY, lY⟩ : ∃ cY : Nat, BoxAt Y p cY ∧ cY ≤ 10000 := ⟨_, hbY, by omega⟩
  -- each of them
  dsimp only [gName]
  refine ⟨_, rfl, T7, rfl, ⟨_, SqL.of eT⟩, ?_⟩
  refine for_it (walk_list (K := K) (a := T7) (xs := ts)) (fun j σ Z => (∃ v9 : Option V, σ = [some (.ref a), some (.int (0 + (i : Int))), some (.ref p), some (.ref b), some (.ref x), some (.ref q), some (.ref l1), some (.ref T7), v8, v9]) ∧ Same Y Z) ⟨⟨_, rfl⟩, Same.refl _⟩
    (fun j σ Z _ h => SqL.of (h.2 _ _ eT)) ?_ ?_
  · rintro j v σ Z0 Z hj ⟨⟨v9', rfl⟩, SZ⟩ ⟨rfl, hx⟩
    dsimp only [gName]
    exact ⟨_, rfl, _, rfl, _, rfl, x, b, _, ps, v, rfl, kWY.same SZ, LT.same hPY SZ, (ktY v (List.mem_of_getElem? hx)).same SZ, fun Z1 SZ1 => ⟨_, rfl, iteF ⟨⟨_, rfl⟩, SZ.trans SZ1⟩⟩⟩
  rintro σ Z ⟨⟨v9', rfl⟩, SZ⟩
  -- no works
  have hbZ := hcY.keep SZ
  refine ⟨_, rfl, p, _, rfl, hbZ, by omega, fun yn Z1 hbZ1 BZ1 thn => ?_⟩
  obtain ⟨tn, tyn, _, kn⟩ := thn.ty
  refine ⟨yn, rfl, ⟨tn, tyn.same wo_same, kn⟩, thn.shown.same wo_same, fun Z2 SZ2 => ⟨_, rfl, iteF ?_⟩⟩
  have hP1 := LT.but (LT.same hPY SZ) hbZ bp BZ1
  have hP2 := LT.same hP1 SZ2
  obtain ⟨vP, eP, alP⟩ := hP2.ex
  refine ⟨_, rfl, .ref b, rfl, ⟨_, .lst eP, no _ (by simp)⟩, shown_pts hP2 gp, fun Z3 SZ3 => ⟨_, rfl, iteF ⟨⟨_, _, _, _, _, _, _, _, _, rfl⟩, ?_⟩⟩⟩
  have BZ : But p X1 Z3 := B1Y.trans ((Same.but SZ).trans (BZ1.trans (Same.but (SZ2.trans SZ3))))
  intro c0 o0 e0
  have e1 := SX c0 o0 e0
  exact BZ.at (ne_of_none e1 np0) (S1 _ _ e1)
end
end V10

namespace V10
open PySem PySem.Spec PyProof.Rows L2 Pw
theorem kbW {K : PySem.W.Frag} {d1 d2 d3 d4 f : Addr} {fd : FuncData} (F : FunD K "__init__" "Works.__init__" (defArgs mWorks_Init) (defBody mWorks_Init) (defScope mWorks_Init) [] [("rules", .ref d1), ("causes", .ref d2), ("commands", .ref d3), ("relations", .ref d4)] f fd) :
    ∃ g, KBn K fd ["self", "points", "rules", "causes", "commands", "relations"] 2 [] g (gW d1 d2 d3 d4) := by
  obtain ⟨mv, h⟩ := kbn_of (ms := [("rules", .ref d1), ("causes", .ref d2), ("commands", .ref d3), ("relations", .ref d4)]) (ps := ["self", "points", "rules", "causes", "commands", "relations"]) (ks := []) (n := 2) F (fun us mv ws => us ++ mv ++ ws) (by simp) (fun q h => h)
    (fun h1 h2 h3 => (h1.append h2).append h3) (fun D doc pm an cdv ct us mv ws l1 l2 l3 => by
      match us, mv, ws, l1, l2, l3 with
      | [a, b], [c, d, e, g], [], _, _, _ =>
        exact ⟨_, _, _, _, _, _, rfl, rfl, _, _, _, _, _, _, rfl, rfl, _, _, _, _, _, _, rfl, rfl, _, _, _, _, _, _, rfl, rfl, rfl⟩)
  exact ⟨_, h⟩
-- END defs: Number=_is_number Check=_check_number Whole=is_whole Name=is_name Time=is_time Mark=is_mark Term=is_term Id=is_id OneOf=is_one_of Tuple=is_tuple List=is_list ListOf=is_list_of Level=is_level PointS=is_point_shape Once=_check_each_once ByName=by_name Points=check_points Rules=check_rules RuleS=is_rule_shape Causes=check_causes CauseS=is_cause_shape Leads=_leads_to_itself Commands=check_commands CommandS=is_command_shape LockS=is_lock_shape WorthOf=is_worth_of Locks=_check_locks Relations=check_relations RelS=is_relation_shape PtsRel=points_of_relation WorksC=check_works Sign=is_sign Signs=is_signs SignAt=_is_sign_at Order=is_order Letter=is_letter Terms=_is_terms Answer=_is_answer Cell=_law_cell Box=_law_box Take=_law_take LNames=_law_names LPoints=_law_points LRows=_law_rows LLetter=_law_letter LThing=_law_thing LWhole=_law_whole LText=_law_text LSign=_law_sign LSigns=_law_signs LBentS=_law_bent_sign LBentL=_law_bent_letter LRight=_law_right LNoW=_law_no_works
theorem fin {P : Program} {w : World} {K : PySem.W.Frag} {mg : Str → Option Value} {fa C fi d1 d2 d3 d4 CW CP fP : Addr} {fdi : FuncData} (hfa : mg "law" = some (.ref fa)) (T : Txt mg) (W : WoC K C) (Wq : WoQ K C) (hC : mg "Works" = some (.ref C))
    (M : Mk K C fi) (FI : FunD K "__init__" "Works.__init__" (defArgs mWorks_Init) (defBody mWorks_Init) (defScope mWorks_Init) [] [("rules", .ref d1), ("causes", .ref d2), ("commands", .ref d3), ("relations", .ref d4)] fi fdi)
    (hd1 : ∀ H, SqT K H d1 []) (hd2 : ∀ H, SqT K H d2 []) (hd3 : ∀ H, SqT K H d3 []) (hd4 : ∀ H, SqT K H d4 []) (ME : ErrW K mg C CW CP fP)
    (mPlaces : AtMt K C "places" "Works.places" mWorks_Places)
    (mPoint : AtMt K C "point" "Works.point" mWorks_Point)
    (mPtsAt : AtMt K C "points_at" "Works.points_at" mWorks_PointsAt)
    (mIsW : AtMt K C "is_worth" "Works.is_worth" mWorks_IsWorth)
    (mHasP : AtMt K C "has_point" "Works.has_point" mWorks_HasPoint)
    (mHasPl : AtMt K C "has_place" "Works.has_place" mWorks_HasPlace)
    (mHasC : AtMt K C "has_command" "Works.has_command" mWorks_HasCommand)
    (aNumber : At K mg "_is_number" sIsNumber)
    (aCheck : At K mg "_check_number" sCheckNumber)
    (aWhole : At K mg "is_whole" sIsWhole)
    (aName : At K mg "is_name" sIsName)
    (aTime : At K mg "is_time" sIsTime)
    (aMark : At K mg "is_mark" sIsMark)
    (aTerm : At K mg "is_term" sIsTerm)
    (aId : At K mg "is_id" sIsId)
    (aOneOf : At K mg "is_one_of" sIsOneOf)
    (aTuple : At K mg "is_tuple" sIsTuple)
    (aList : At K mg "is_list" sIsList)
    (aListOf : At K mg "is_list_of" sIsListOf)
    (aLevel : At K mg "is_level" sIsLevel)
    (aPointS : At K mg "is_point_shape" sIsPointShape)
    (aOnce : At K mg "_check_each_once" sCheckEachOnce)
    (aByName : At K mg "by_name" sByName)
    (aPoints : At K mg "check_points" sCheckPoints)
    (aRules : At K mg "check_rules" sCheckRules)
    (aRuleS : At K mg "is_rule_shape" sIsRuleShape)
    (aCauses : At K mg "check_causes" sCheckCauses)
    (aCauseS : At K mg "is_cause_shape" sIsCauseShape)
    (aLeads : At K mg "_leads_to_itself" sLeadsToItself)
    (aCommands : At K mg "check_commands" sCheckCommands)
    (aCommandS : At K mg "is_command_shape" sIsCommandShape)
    (aLockS : At K mg "is_lock_shape" sIsLockShape)
    (aWorthOf : At K mg "is_worth_of" sIsWorthOf)
    (aLocks : At K mg "_check_locks" sCheckLocks)
    (aRelations : At K mg "check_relations" sCheckRelations)
    (aRelS : At K mg "is_relation_shape" sIsRelationShape)
    (aPtsRel : At K mg "points_of_relation" sPointsOfRelation)
    (aWorksC : At K mg "check_works" sCheckWorks)
    (aSign : At K mg "is_sign" sIsSign)
    (aSigns : At K mg "is_signs" sIsSigns)
    (aSignAt : At K mg "_is_sign_at" sIsSignAt)
    (aOrder : At K mg "is_order" sIsOrder)
    (aLetter : At K mg "is_letter" sIsLetter)
    (aTerms : At K mg "_is_terms" sIsTerms)
    (aAnswer : At K mg "_is_answer" sIsAnswer)
    (aCell : At K mg "_law_cell" sLawCell)
    (aBox : At K mg "_law_box" sLawBox)
    (aTake : At K mg "_law_take" sLawTake)
    (aLNames : At K mg "_law_names" sLawNames)
    (aLPoints : At K mg "_law_points" sLawPoints)
    (aLRows : At K mg "_law_rows" sLawRows)
    (aLLetter : At K mg "_law_letter" sLawLetter)
    (aLThing : At K mg "_law_thing" sLawThing)
    (aLWhole : At K mg "_law_whole" sLawWhole)
    (aLText : At K mg "_law_text" sLawText)
    (aLSign : At K mg "_law_sign" sLawSign)
    (aLSigns : At K mg "_law_signs" sLawSigns)
    (aLBentS : At K mg "_law_bent_sign" sLawBentSign)
    (aLBentL : At K mg "_law_bent_letter" sLawBentLetter)
    (aLRight : At K mg "_law_right" sLawRight)
    (aLNoW : At K mg "_law_no_works" sLawNoWorks)
    (aLaw : At K mg "law" sLaw) :
    ∃ fd : FuncData, (∀ (s : Shared) (v : Value), BindsTo s fd ⟨[v], []⟩ [("_law_script", v)]) ∧
      ∀ base : Heap, K.In base → base.Ns mainGlobals mg → FnG P w K mg base CX0 16 fa fd ["_law_script"] (spLaw K) := by
  obtain ⟨f, fd, F, m⟩ := aLaw.ex
  cases hfa.symm.trans m
  have F' := F
  obtain ⟨oc, od, kV, doc, pm, an, cdv, ct, osl, rfl, lk, hcd⟩ := F.ex
  refine ⟨PySem.W.fnOf "law" "law" (defArgs sLaw) (defBody sLaw) (defScope sLaw) .none kV doc pm an cdv ct, fun s v => .of_eq rfl, fun base _ _ => ?_⟩
  have dNumber : Def P w K mg base "_is_number" 1 ["thing"] (spNumber K) := d_number T aNumber
  have dCheck := d_check aCheck dNumber
  have dWhole := d_whole aWhole dNumber dCheck
  have dTuple : Def P w K mg base "is_tuple" 1 ["thing", "many"] (spTupN K) := d_tuple T aTuple
  have dOne : Def P w K mg base "is_one_of" 1 ["thing", "words"] (spOne K) := d_oneof T aOneOf
  have dName : Def P w K mg base "is_name" 1 ["thing"] (spName K) := d_name T aName
  have dTime := d_time T aTime dWhole
  have dMark := d_mark aMark dOne
  have dList : Def P w K mg base "is_list" 1 ["thing", "least", "most"] (spList K) := d_list T aList
  have dPS := d_pointS aPointS dTuple dName dOne
  have dPts := d_points T aPoints aListOf dList dPS (d_once T aOnce)
  have dR0 := d_rules0 T aRules aRuleS aListOf dList
  have dC0 := d_causes0 T aCauses aCauseS aLeads aListOf dList
  have dL0 := d_relations0 T aRelations aRelS aPtsRel aOnce aListOf dList
  have dLv := d_level T aLevel dWhole
  have dLk := d_lockS aLockS dTuple dName dOne dLv
  have dCS := d_cmdS T aCommandS dTuple dName dLv aListOf dList dLk
  have dWO := d_worthOf T aWorthOf dWhole
  have dCm := d_cmds T aCommands aListOf dList dCS dWO (d_cLocks T aLocks)
  obtain ⟨g, hg⟩ := kbW FI
  have dWc : MadeK P w K mg base "Works" C 14 ["self", "points", "rules", "causes", "commands", "relations"] 1 [] (gW d1 d2 d3 d4) (spWc K C) :=
    ⟨fi, fdi, g, hC, M, hg, ok_initW T W FI dPts (fun f nm => d_byName aByName) dR0 dC0 (by decide) dCm (by decide) dL0 (fun r => ⟨_, rfl⟩) (fun r => ⟨_, rfl⟩)⟩
  have no : NoOwn K C := ME.no
  have eHP := d_hasP (P := P) (w := w) (mg := mg) (base := base) W mHasP dName
  have eHG := d_hasPG (P := P) (w := w) (mg := mg) (base := base) W mHasP dName
  have ePo := d_point W mPoint eHP
  have eIW := d_isWorthA W mIsW ePo dWO
  have ePl := d_places (P := P) (w := w) (base := base) T W mPlaces
  have eHPl := d_hasPl W mHasPl dName ePl
  have eHPA := d_hasPA W mHasPl dName ePl
  have ePA := d_ptsAt W mPtsAt eHPl
  have eHC := d_hasC (P := P) (w := w) (mg := mg) (base := base) W mHasC dName
  have dTerm := d_term T aTerm dWhole
  have dId := d_id T aId dTuple dTerm dWhole
  have dWC := d_worksC (P := P) (w := w) (base := base) T W Wq hC aWorksC
  have dSi := d_signA W aSign dWC dTuple dTime eHG eIW dMark
  have dSA := d_signAtA W aSignAt dSi ePA
  have dSs := d_signsA T W aSigns dWC dTuple eHPA dWhole dTime dSA
  have dOr := d_order W aOrder dWC dTuple dId eHC dTerm
  have dTe := d_terms W aTerms dTuple eHPA dTerm dTime
  have dAn := d_answer W aAnswer dTuple eHPA dId dOne dTerm dTime
  have dLt := d_letterS aLetter dSs dOr dTe dAn
  have dWX := d_worksX (P := P) (w := w) (base := base) T ME hC aWorksC
  have dSX := d_signsX aSigns dWX
  have dno := d_noW T ME aLNoW (d_signX aSign dWX) dSX (d_letterX aLetter dSX dOr dTe dAn) (d_orderX aOrder dWX)
  have dt : Def P w K mg base "_law_take" 1 ["_law_box_here", "_law_many"] (spTake K) := d_take aTake
  have dLW : Def P w K mg base "_law_whole" 1 ["_law_thing_here", "_law_low", "_law_high"] (spLWhole K) := d_lWhole T aLWhole
  have dLX : Def P w K mg base "_law_text" 1 ["_law_thing_here", "_law_words"] (spLText K) := d_lText T aLText
  have dLS := d_lSign T aLSign dLW dLX
  have dLSs := d_lSigns T aLSigns dLW dLX dLS
  have dTh := d_thing T no aLThing dt
  have dBS := d_bentS T no aLBentS dt dTh
  exact ok_law F' T W dWc hd1 hd2 hd3 hd4 no (d_cell T aCell) (d_box T aBox) dt (d_names T aLNames dt) (d_ptsL T aLPoints dt) (d_letter T aLLetter dt (d_rowsL T aLRows dt)) dTh dBS (d_bentL T no aLBentL dt dTh dBS) (d_right T aLRight dSi dSs dOr dLt dLS dLSs) dno
end V10

namespace V10
open PySem PySem.Spec PyProof.Rows L2 Pw
abbrev dfK (x : Str) (st : Stmt) (kw : List (Str × He.Dv)) : He.DefD := ⟨(x, none), x, x, defArgs st, defBody st, defScope st, [], kw⟩
abbrev dfM (c m q : Str) (st : Stmt) : He.DefD := ⟨(c, some m), m, q, defArgs st, defBody st, defScope st, [], []⟩
abbrev dfMK (c m q : Str) (st : Stmt) (kw : List (Str × He.Dv)) : He.DefD := ⟨(c, some m), m, q, defArgs st, defBody st, defScope st, [], kw⟩
/-- where a keyword's default of Works.__init__ stands -/
def dAd (x : Str) (K : PySem.W.Frag) : Addr := match K.lookup (He.ma K (He.ga K "Works") "__init__") with
  | some ⟨_, _, .func fd, _⟩ => (match fd.kwdefaults with
    | .ref D => (match PySem.W.nsIn K D x with
      | some (some (.ref a)) => a
      | _ => 0)
    | _ => 0)
  | _ => 0
def dNo (x : Str) (K : PySem.W.Frag) : Bool := match K.lookup (dAd x K) with
  | some ⟨.type "tuple", _, .seq its _, _⟩ => its.toList.isEmpty
  | _ => false
theorem dNo_ok {x : Str} {K : PySem.W.Frag} (h : dNo x K = true) : ∀ H, SqT K H (dAd x K) [] := fun H => by
  unfold dNo at h
  split at h
  · rename_i dd its n sl ho
    have e : its.toList = [] := List.isEmpty_iff.mp h
    refine .inr ⟨_, its, n, ho, rfl, rfl, ?_, ?_⟩
    · have : its.size = 0 := by rw [← Array.length_toList, e]; rfl
      rw [this]
      exact Nat.zero_le _
    · rw [e]
      exact .nil
  · cases h

def fb : List Fb := ([(He.Fa.free "KeyError").ok, (He.Fa.free "ValueError").ok, (He.Fa.free "all").ok, (He.Fa.free "bool").ok, (He.Fa.free "dict").ok, (He.Fa.free "enumerate").ok, (He.Fa.free "int").ok, (He.Fa.free "isinstance").ok, (He.Fa.free "len").ok, (He.Fa.free "list").ok, (He.Fa.free "max").ok, (He.Fa.free "min").ok, (He.Fa.free "range").ok, (He.Fa.free "repr").ok, (He.Fa.free "sorted").ok, (He.Fa.free "str").ok, (He.Fa.free "tuple").ok, (He.Fa.int "MOST_TIME" 9999).ok, (He.Fa.int "MOST_LEVEL" 63).ok, (He.Fa.int "MOST_TERM" 999).ok, (He.Fa.int "_MOST_NAME" 8).ok, (He.Fa.int "_MOST_ID" 999).ok, (He.Fa.int "_MOST_LOCKS" 4).ok, (He.Fa.int "_MOST_PARTS" 3).ok, (He.Fa.int "_MOST_HOLD" 99).ok, (He.Fa.int "_MOST_RANK" 3).ok, (He.Fa.int "_MOST_WITHIN" 999).ok, (He.Fa.int "_MOST_PLACES" 3).ok, (He.Fa.int "_MOST_POINTS" 8).ok, (He.Fa.int "_MOST_RULES" 6).ok] : List Fb) ++ ([(He.Fa.int "_MOST_CAUSES" 8).ok, (He.Fa.int "_MOST_COMMANDS" 4).ok, (He.Fa.int "_MOST_RELATIONS" 5).ok, (He.Fa.int "_MOST_LETTERS" 40).ok, (He.Fa.int "_MOST_SIGNS" 12).ok, (He.Fa.glo "_is_number").ok, (He.Fa.glo "_check_number").ok, (He.Fa.glo "is_whole").ok, (He.Fa.glo "is_name").ok, (He.Fa.glo "is_time").ok, (He.Fa.glo "is_mark").ok, (He.Fa.glo "is_term").ok, (He.Fa.glo "is_id").ok, (He.Fa.glo "is_one_of").ok, (He.Fa.glo "is_tuple").ok, (He.Fa.glo "is_list").ok, (He.Fa.glo "is_list_of").ok, (He.Fa.glo "is_level").ok, (He.Fa.glo "is_point_shape").ok, (He.Fa.glo "_check_each_once").ok, (He.Fa.glo "by_name").ok, (He.Fa.glo "check_points").ok, (He.Fa.glo "check_rules").ok, (He.Fa.glo "is_rule_shape").ok, (He.Fa.glo "check_causes").ok, (He.Fa.glo "is_cause_shape").ok, (He.Fa.glo "_leads_to_itself").ok, (He.Fa.glo "check_commands").ok, (He.Fa.glo "is_command_shape").ok, (He.Fa.glo "is_lock_shape").ok] : List Fb) ++ ([(He.Fa.glo "is_worth_of").ok, (He.Fa.glo "_check_locks").ok, (He.Fa.glo "check_relations").ok, (He.Fa.glo "is_relation_shape").ok, (He.Fa.glo "points_of_relation").ok, (He.Fa.glo "check_works").ok, (He.Fa.glo "is_sign").ok, (He.Fa.glo "is_signs").ok, (He.Fa.glo "_is_sign_at").ok, (He.Fa.glo "is_order").ok, (He.Fa.glo "is_letter").ok, (He.Fa.glo "_is_terms").ok, (He.Fa.glo "_is_answer").ok, (He.Fa.glo "_law_cell").ok, (He.Fa.glo "_law_box").ok, (He.Fa.glo "_law_take").ok, (He.Fa.glo "_law_names").ok, (He.Fa.glo "_law_points").ok, (He.Fa.glo "_law_rows").ok, (He.Fa.glo "_law_letter").ok, (He.Fa.glo "_law_thing").ok, (He.Fa.glo "_law_whole").ok, (He.Fa.glo "_law_text").ok, (He.Fa.glo "_law_sign").ok, (He.Fa.glo "_law_signs").ok, (He.Fa.glo "_law_bent_sign").ok, (He.Fa.glo "_law_bent_letter").ok, (He.Fa.glo "_law_right").ok, (He.Fa.glo "_law_no_works").ok, (He.Fa.glo "law").ok] : List Fb) ++ ([hnB, htB, iniB "ValueError" "ValueError.__init__", fmB "PanelError" veT "ValueError.__new__", clB "NoWorks" "PanelError" "found" veT "ValueError.__new__", (fun K => decide (PySem.W.exmOne K (.ref (He.ga K "NoWorks")) (.ref (He.ga K "NoWorks")) = some true)), (fun K => decide (PySem.W.kitOne K (.type "NoneType") (.ref (He.ga K "Works")) = some false)), (fun K => decide (PySem.W.kitOne K (.type "bool") (.ref (He.ga K "Works")) = some false)), (fun K => decide (PySem.W.kitOne K (.type "int") (.ref (He.ga K "Works")) = some false)), (fun K => decide (PySem.W.kitOne K (.type "str") (.ref (He.ga K "Works")) = some false)), (fun K => decide (PySem.W.kitOne K (.type "list") (.ref (He.ga K "Works")) = some false)), (fun K => decide (PySem.W.kitOne K (.type "tuple") (.ref (He.ga K "Works")) = some false)), (fun K => decide (PySem.W.kitOne K (.type "dict") (.ref (He.ga K "Works")) = some false)), (He.Fa.glo "Works").ok, (He.Fa.cls "Works").ok, (He.Fa.mkr "Works").ok, (He.Fa.noat "Works" "_points").ok, (He.Fa.noat "Works" "_point_by_name").ok, (He.Fa.noat "Works" "_rules").ok, (He.Fa.noat "Works" "_rule_by_name").ok, (He.Fa.noat "Works" "_causes").ok, (He.Fa.noat "Works" "_commands").ok, (He.Fa.noat "Works" "_command_by_name").ok, (He.Fa.noat "Works" "_relations").ok, (He.Fa.meth "Works" "places").ok, (He.Fa.meth "Works" "point").ok, (He.Fa.meth "Works" "points_at").ok, (He.Fa.meth "Works" "is_worth").ok, (He.Fa.meth "Works" "has_point").ok, (He.Fa.meth "Works" "has_place").ok] : List Fb) ++ ([(He.Fa.meth "Works" "has_command").ok, (dNo "rules"), (dNo "causes"), (dNo "commands"), (dNo "relations"), (fun K => He.eqO (PySem.W.findIn K (.ref (He.ga K "Works")) "__class__") (some (some (.builtin "object.__class__")))), (fun K => decide (PySem.W.mroIn K (He.ga K "Works") (.type "object") = some true)), (fun K => decide (PySem.W.kitOne K (.ref (He.ga K "Works")) (.ref (He.ga K "Works")) = some true))] : List Fb)
def fn : List He.DefD := ([dfN "_is_number" sIsNumber, dfN "_check_number" sCheckNumber, dfN "is_whole" sIsWhole, dfN "is_name" sIsName, dfN "is_time" sIsTime, dfN "is_mark" sIsMark, dfN "is_term" sIsTerm, dfN "is_id" sIsId, dfN "is_one_of" sIsOneOf, dfN "is_tuple" sIsTuple, dfN "is_list" sIsList, dfN "is_list_of" sIsListOf, dfN "is_level" sIsLevel, dfN "is_point_shape" sIsPointShape, dfN "_check_each_once" sCheckEachOnce, dfN "by_name" sByName, dfN "check_points" sCheckPoints, dfN "check_rules" sCheckRules, dfN "is_rule_shape" sIsRuleShape, dfN "check_causes" sCheckCauses, dfN "is_cause_shape" sIsCauseShape, dfN "_leads_to_itself" sLeadsToItself, dfN "check_commands" sCheckCommands, dfN "is_command_shape" sIsCommandShape, dfN "is_lock_shape" sIsLockShape, dfN "is_worth_of" sIsWorthOf, dfN "_check_locks" sCheckLocks, dfN "check_relations" sCheckRelations, dfN "is_relation_shape" sIsRelationShape, dfN "points_of_relation" sPointsOfRelation] : List He.DefD) ++ ([dfN "check_works" sCheckWorks, dfN "is_sign" sIsSign, dfN "is_signs" sIsSigns, dfN "_is_sign_at" sIsSignAt, dfN "is_order" sIsOrder, dfN "is_letter" sIsLetter, dfN "_is_terms" sIsTerms, dfN "_is_answer" sIsAnswer, dfN "_law_cell" sLawCell, dfN "_law_box" sLawBox, dfN "_law_take" sLawTake, dfN "_law_names" sLawNames, dfN "_law_points" sLawPoints, dfN "_law_rows" sLawRows, dfN "_law_letter" sLawLetter, dfN "_law_thing" sLawThing, dfN "_law_whole" sLawWhole, dfN "_law_text" sLawText, dfN "_law_sign" sLawSign, dfN "_law_signs" sLawSigns, dfN "_law_bent_sign" sLawBentSign, dfN "_law_bent_letter" sLawBentLetter, dfN "_law_right" sLawRight, dfN "_law_no_works" sLawNoWorks, dfN "law" sLaw, dfM "PanelError" "__init__" "PanelError.__init__" mPanelError_Init, dfM "NoWorks" "__init__" "NoWorks.__init__" mNoWorks_Init, dfM "Works" "places" "Works.places" mWorks_Places, dfM "Works" "point" "Works.point" mWorks_Point, dfM "Works" "points_at" "Works.points_at" mWorks_PointsAt] : List He.DefD) ++ ([dfM "Works" "is_worth" "Works.is_worth" mWorks_IsWorth, dfM "Works" "has_point" "Works.has_point" mWorks_HasPoint, dfM "Works" "has_place" "Works.has_place" mWorks_HasPlace, dfM "Works" "has_command" "Works.has_command" mWorks_HasCommand, dfMK "Works" "__init__" "Works.__init__" mWorks_Init [("rules", .adr (dAd "rules")), ("causes", .adr (dAd "causes")), ("commands", .adr (dAd "commands")), ("relations", .adr (dAd "relations"))]] : List He.DefD)
def loose : List Str := (["_wall", "PanelError", "Absent", "TooMany", "NoWorth", "NoNumber", "NoPoints", "NoRules", "NoCauses", "NoCommands", "NoRelations", "NoWorks", "Twice", "Ring", "NoPoint", "NoPlace", "NoRule", "NoCommand", "MOST_TIME", "MOST_LEVEL", "MOST_TERM", "_MOST_NAME", "_MOST_ID", "_is_number", "_check_number", "is_whole", "is_name", "is_time", "is_mark", "is_term"] : List Str) ++ (["is_id", "is_one_of", "is_tuple", "is_list", "is_list_of", "_MOST_LOCKS", "_MOST_PARTS", "_MOST_HOLD", "_MOST_RANK", "_MOST_WITHIN", "is_level", "is_point_shape", "is_rule_shape", "is_cause_shape", "is_lock_shape", "is_command_shape", "is_relation_shape", "points_of_relation", "_MOST_PLACES", "_MOST_POINTS", "_MOST_RULES", "_MOST_CAUSES", "_MOST_COMMANDS", "_MOST_RELATIONS", "by_name", "is_worth_of", "check_points", "_check_each_once", "check_rules", "check_causes"] : List Str) ++ (["_leads_to_itself", "check_commands", "_check_locks", "check_relations", "Works", "check_works", "_MOST_LETTERS", "_MOST_SIGNS", "is_sign", "is_signs", "_is_sign_at", "is_order", "is_letter", "_is_terms", "_is_answer", "_law_cell", "_law_box", "_law_take", "_law_names", "_law_points", "_law_commands", "_law_rows", "_law_letter", "_law_whole", "_law_text", "_law_sign", "_law_signs", "_law_thing", "_law_bent_sign", "_law_bent_letter"] : List Str) ++ (["_law_right", "_law_no_works"] : List Str)
abbrev R : PySem.W.OpenRow := PySem.W.OpenLaw.row PySem.Challenge.rw_panelwatch_k10_signs_and_their_letters
def hk : PySem.W.Hook := hookB 0 fb fn
def ob (s : PySem.W.SharedT) : He.AlD := obsBG 0 fb fn (HandSHeadRun.getT s)
theorem ob_eq (s : PySem.W.SharedT) : ob s = hk.obs s.abs := obsBG_eq (HandSHeadRun.getT_eq s)
theorem facts {P : Program} {w : World} {K : PySem.W.Frag} {h : Heap} {mg : Str → Option Value} {f : Addr} (X : K.In h) (G : h.Ns mainGlobals mg) (hfa : mg ("law" : Str) = some (.ref f)) (c : SaysB fb fn K) :
    ∃ fd : FuncData, (∀ (s : Shared) (v : Value), BindsTo s fd ⟨[v], []⟩ [("_law_script", v)]) ∧ ∀ base : Heap, K.In base → base.Ns mainGlobals mg → FnG P w K mg base CX0 16 f fd ["_law_script"] (spLaw K) := by
  have z_KeyError : PySem.W.nsIn K mainGlobals "KeyError" = some none := He.eqO_ok (c.fact (f := (He.Fa.free "KeyError").ok) 0 rfl)
  have z_ValueError : PySem.W.nsIn K mainGlobals "ValueError" = some none := He.eqO_ok (c.fact (f := (He.Fa.free "ValueError").ok) 1 rfl)
  have z_all : PySem.W.nsIn K mainGlobals "all" = some none := He.eqO_ok (c.fact (f := (He.Fa.free "all").ok) 2 rfl)
  have z_bool : PySem.W.nsIn K mainGlobals "bool" = some none := He.eqO_ok (c.fact (f := (He.Fa.free "bool").ok) 3 rfl)
  have z_dict : PySem.W.nsIn K mainGlobals "dict" = some none := He.eqO_ok (c.fact (f := (He.Fa.free "dict").ok) 4 rfl)
  have z_enumerate : PySem.W.nsIn K mainGlobals "enumerate" = some none := He.eqO_ok (c.fact (f := (He.Fa.free "enumerate").ok) 5 rfl)
  have z_int : PySem.W.nsIn K mainGlobals "int" = some none := He.eqO_ok (c.fact (f := (He.Fa.free "int").ok) 6 rfl)
  have z_isinstance : PySem.W.nsIn K mainGlobals "isinstance" = some none := He.eqO_ok (c.fact (f := (He.Fa.free "isinstance").ok) 7 rfl)
  have z_len : PySem.W.nsIn K mainGlobals "len" = some none := He.eqO_ok (c.fact (f := (He.Fa.free "len").ok) 8 rfl)
  have z_list : PySem.W.nsIn K mainGlobals "list" = some none := He.eqO_ok (c.fact (f := (He.Fa.free "list").ok) 9 rfl)
  have z_max : PySem.W.nsIn K mainGlobals "max" = some none := He.eqO_ok (c.fact (f := (He.Fa.free "max").ok) 10 rfl)
  have z_min : PySem.W.nsIn K mainGlobals "min" = some none := He.eqO_ok (c.fact (f := (He.Fa.free "min").ok) 11 rfl)
  have z_range : PySem.W.nsIn K mainGlobals "range" = some none := He.eqO_ok (c.fact (f := (He.Fa.free "range").ok) 12 rfl)
  have z_repr : PySem.W.nsIn K mainGlobals "repr" = some none := He.eqO_ok (c.fact (f := (He.Fa.free "repr").ok) 13 rfl)
  have z_sorted : PySem.W.nsIn K mainGlobals "sorted" = some none := He.eqO_ok (c.fact (f := (He.Fa.free "sorted").ok) 14 rfl)
  have z_str : PySem.W.nsIn K mainGlobals "str" = some none := He.eqO_ok (c.fact (f := (He.Fa.free "str").ok) 15 rfl)
  have z_tuple : PySem.W.nsIn K mainGlobals "tuple" = some none := He.eqO_ok (c.fact (f := (He.Fa.free "tuple").ok) 16 rfl)
  have T : Txt mg :=
    {KeyError := PySem.W.mg_none_of X G z_KeyError, ValueError := PySem.W.mg_none_of X G z_ValueError, all := PySem.W.mg_none_of X G z_all, bool := PySem.W.mg_none_of X G z_bool, dict := PySem.W.mg_none_of X G z_dict, enumerate := PySem.W.mg_none_of X G z_enumerate, int := PySem.W.mg_none_of X G z_int, isinstance := PySem.W.mg_none_of X G z_isinstance, len := PySem.W.mg_none_of X G z_len, list := PySem.W.mg_none_of X G z_list, max := PySem.W.mg_none_of X G z_max, min := PySem.W.mg_none_of X G z_min, range := PySem.W.mg_none_of X G z_range, repr := PySem.W.mg_none_of X G z_repr, sorted := PySem.W.mg_none_of X G z_sorted, str := PySem.W.mg_none_of X G z_str, tuple := PySem.W.mg_none_of X G z_tuple, cMOST_TIME := He.int_ok X G (c.fact (f := (He.Fa.int "MOST_TIME" 9999).ok) 17 rfl), cMOST_LEVEL := He.int_ok X G (c.fact (f := (He.Fa.int "MOST_LEVEL" 63).ok) 18 rfl), cMOST_TERM := He.int_ok X G (c.fact (f := (He.Fa.int "MOST_TERM" 999).ok) 19 rfl), c_MOST_NAME := He.int_ok X G (c.fact (f := (He.Fa.int "_MOST_NAME" 8).ok) 20 rfl), c_MOST_ID := He.int_ok X G (c.fact (f := (He.Fa.int "_MOST_ID" 999).ok) 21 rfl), c_MOST_LOCKS := He.int_ok X G (c.fact (f := (He.Fa.int "_MOST_LOCKS" 4).ok) 22 rfl), c_MOST_PARTS := He.int_ok X G (c.fact (f := (He.Fa.int "_MOST_PARTS" 3).ok) 23 rfl), c_MOST_HOLD := He.int_ok X G (c.fact (f := (He.Fa.int "_MOST_HOLD" 99).ok) 24 rfl), c_MOST_RANK := He.int_ok X G (c.fact (f := (He.Fa.int "_MOST_RANK" 3).ok) 25 rfl), c_MOST_WITHIN := He.int_ok X G (c.fact (f := (He.Fa.int "_MOST_WITHIN" 999).ok) 26 rfl), c_MOST_PLACES := He.int_ok X G (c.fact (f := (He.Fa.int "_MOST_PLACES" 3).ok) 27 rfl), c_MOST_POINTS := He.int_ok X G (c.fact (f := (He.Fa.int "_MOST_POINTS" 8).ok) 28 rfl), c_MOST_RULES := He.int_ok X G (c.fact (f := (He.Fa.int "_MOST_RULES" 6).ok) 29 rfl), c_MOST_CAUSES := He.int_ok X G (c.fact (f := (He.Fa.int "_MOST_CAUSES" 8).ok) 30 rfl), c_MOST_COMMANDS := He.int_ok X G (c.fact (f := (He.Fa.int "_MOST_COMMANDS" 4).ok) 31 rfl), c_MOST_RELATIONS := He.int_ok X G (c.fact (f := (He.Fa.int "_MOST_RELATIONS" 5).ok) 32 rfl), c_MOST_LETTERS := He.int_ok X G (c.fact (f := (He.Fa.int "_MOST_LETTERS" 40).ok) 33 rfl), c_MOST_SIGNS := He.int_ok X G (c.fact (f := (He.Fa.int "_MOST_SIGNS" 12).ok) 34 rfl)}
  have aNumber : At K mg "_is_number" sIsNumber := atOf X G (c.fact (f := (He.Fa.glo "_is_number").ok) 35 rfl) (c.def_ (d := dfN "_is_number" sIsNumber) 0 rfl)
  have aCheck : At K mg "_check_number" sCheckNumber := atOf X G (c.fact (f := (He.Fa.glo "_check_number").ok) 36 rfl) (c.def_ (d := dfN "_check_number" sCheckNumber) 1 rfl)
  have aWhole : At K mg "is_whole" sIsWhole := atOf X G (c.fact (f := (He.Fa.glo "is_whole").ok) 37 rfl) (c.def_ (d := dfN "is_whole" sIsWhole) 2 rfl)
  have aName : At K mg "is_name" sIsName := atOf X G (c.fact (f := (He.Fa.glo "is_name").ok) 38 rfl) (c.def_ (d := dfN "is_name" sIsName) 3 rfl)
  have aTime : At K mg "is_time" sIsTime := atOf X G (c.fact (f := (He.Fa.glo "is_time").ok) 39 rfl) (c.def_ (d := dfN "is_time" sIsTime) 4 rfl)
  have aMark : At K mg "is_mark" sIsMark := atOf X G (c.fact (f := (He.Fa.glo "is_mark").ok) 40 rfl) (c.def_ (d := dfN "is_mark" sIsMark) 5 rfl)
  have aTerm : At K mg "is_term" sIsTerm := atOf X G (c.fact (f := (He.Fa.glo "is_term").ok) 41 rfl) (c.def_ (d := dfN "is_term" sIsTerm) 6 rfl)
  have aId : At K mg "is_id" sIsId := atOf X G (c.fact (f := (He.Fa.glo "is_id").ok) 42 rfl) (c.def_ (d := dfN "is_id" sIsId) 7 rfl)
  have aOneOf : At K mg "is_one_of" sIsOneOf := atOf X G (c.fact (f := (He.Fa.glo "is_one_of").ok) 43 rfl) (c.def_ (d := dfN "is_one_of" sIsOneOf) 8 rfl)
  have aTuple : At K mg "is_tuple" sIsTuple := atOf X G (c.fact (f := (He.Fa.glo "is_tuple").ok) 44 rfl) (c.def_ (d := dfN "is_tuple" sIsTuple) 9 rfl)
  have aList : At K mg "is_list" sIsList := atOf X G (c.fact (f := (He.Fa.glo "is_list").ok) 45 rfl) (c.def_ (d := dfN "is_list" sIsList) 10 rfl)
  have aListOf : At K mg "is_list_of" sIsListOf := atOf X G (c.fact (f := (He.Fa.glo "is_list_of").ok) 46 rfl) (c.def_ (d := dfN "is_list_of" sIsListOf) 11 rfl)
  have aLevel : At K mg "is_level" sIsLevel := atOf X G (c.fact (f := (He.Fa.glo "is_level").ok) 47 rfl) (c.def_ (d := dfN "is_level" sIsLevel) 12 rfl)
  have aPointS : At K mg "is_point_shape" sIsPointShape := atOf X G (c.fact (f := (He.Fa.glo "is_point_shape").ok) 48 rfl) (c.def_ (d := dfN "is_point_shape" sIsPointShape) 13 rfl)
  have aOnce : At K mg "_check_each_once" sCheckEachOnce := atOf X G (c.fact (f := (He.Fa.glo "_check_each_once").ok) 49 rfl) (c.def_ (d := dfN "_check_each_once" sCheckEachOnce) 14 rfl)
  have aByName : At K mg "by_name" sByName := atOf X G (c.fact (f := (He.Fa.glo "by_name").ok) 50 rfl) (c.def_ (d := dfN "by_name" sByName) 15 rfl)
  have aPoints : At K mg "check_points" sCheckPoints := atOf X G (c.fact (f := (He.Fa.glo "check_points").ok) 51 rfl) (c.def_ (d := dfN "check_points" sCheckPoints) 16 rfl)
  have aRules : At K mg "check_rules" sCheckRules := atOf X G (c.fact (f := (He.Fa.glo "check_rules").ok) 52 rfl) (c.def_ (d := dfN "check_rules" sCheckRules) 17 rfl)
  have aRuleS : At K mg "is_rule_shape" sIsRuleShape := atOf X G (c.fact (f := (He.Fa.glo "is_rule_shape").ok) 53 rfl) (c.def_ (d := dfN "is_rule_shape" sIsRuleShape) 18 rfl)
  have aCauses : At K mg "check_causes" sCheckCauses := atOf X G (c.fact (f := (He.Fa.glo "check_causes").ok) 54 rfl) (c.def_ (d := dfN "check_causes" sCheckCauses) 19 rfl)
  have aCauseS : At K mg "is_cause_shape" sIsCauseShape := atOf X G (c.fact (f := (He.Fa.glo "is_cause_shape").ok) 55 rfl) (c.def_ (d := dfN "is_cause_shape" sIsCauseShape) 20 rfl)
  have aLeads : At K mg "_leads_to_itself" sLeadsToItself := atOf X G (c.fact (f := (He.Fa.glo "_leads_to_itself").ok) 56 rfl) (c.def_ (d := dfN "_leads_to_itself" sLeadsToItself) 21 rfl)
  have aCommands : At K mg "check_commands" sCheckCommands := atOf X G (c.fact (f := (He.Fa.glo "check_commands").ok) 57 rfl) (c.def_ (d := dfN "check_commands" sCheckCommands) 22 rfl)
  have aCommandS : At K mg "is_command_shape" sIsCommandShape := atOf X G (c.fact (f := (He.Fa.glo "is_command_shape").ok) 58 rfl) (c.def_ (d := dfN "is_command_shape" sIsCommandShape) 23 rfl)
  have aLockS : At K mg "is_lock_shape" sIsLockShape := atOf X G (c.fact (f := (He.Fa.glo "is_lock_shape").ok) 59 rfl) (c.def_ (d := dfN "is_lock_shape" sIsLockShape) 24 rfl)
  have aWorthOf : At K mg "is_worth_of" sIsWorthOf := atOf X G (c.fact (f := (He.Fa.glo "is_worth_of").ok) 60 rfl) (c.def_ (d := dfN "is_worth_of" sIsWorthOf) 25 rfl)
  have aLocks : At K mg "_check_locks" sCheckLocks := atOf X G (c.fact (f := (He.Fa.glo "_check_locks").ok) 61 rfl) (c.def_ (d := dfN "_check_locks" sCheckLocks) 26 rfl)
  have aRelations : At K mg "check_relations" sCheckRelations := atOf X G (c.fact (f := (He.Fa.glo "check_relations").ok) 62 rfl) (c.def_ (d := dfN "check_relations" sCheckRelations) 27 rfl)
  have aRelS : At K mg "is_relation_shape" sIsRelationShape := atOf X G (c.fact (f := (He.Fa.glo "is_relation_shape").ok) 63 rfl) (c.def_ (d := dfN "is_relation_shape" sIsRelationShape) 28 rfl)
  have aPtsRel : At K mg "points_of_relation" sPointsOfRelation := atOf X G (c.fact (f := (He.Fa.glo "points_of_relation").ok) 64 rfl) (c.def_ (d := dfN "points_of_relation" sPointsOfRelation) 29 rfl)
  have aWorksC : At K mg "check_works" sCheckWorks := atOf X G (c.fact (f := (He.Fa.glo "check_works").ok) 65 rfl) (c.def_ (d := dfN "check_works" sCheckWorks) 30 rfl)
  have aSign : At K mg "is_sign" sIsSign := atOf X G (c.fact (f := (He.Fa.glo "is_sign").ok) 66 rfl) (c.def_ (d := dfN "is_sign" sIsSign) 31 rfl)
  have aSigns : At K mg "is_signs" sIsSigns := atOf X G (c.fact (f := (He.Fa.glo "is_signs").ok) 67 rfl) (c.def_ (d := dfN "is_signs" sIsSigns) 32 rfl)
  have aSignAt : At K mg "_is_sign_at" sIsSignAt := atOf X G (c.fact (f := (He.Fa.glo "_is_sign_at").ok) 68 rfl) (c.def_ (d := dfN "_is_sign_at" sIsSignAt) 33 rfl)
  have aOrder : At K mg "is_order" sIsOrder := atOf X G (c.fact (f := (He.Fa.glo "is_order").ok) 69 rfl) (c.def_ (d := dfN "is_order" sIsOrder) 34 rfl)
  have aLetter : At K mg "is_letter" sIsLetter := atOf X G (c.fact (f := (He.Fa.glo "is_letter").ok) 70 rfl) (c.def_ (d := dfN "is_letter" sIsLetter) 35 rfl)
  have aTerms : At K mg "_is_terms" sIsTerms := atOf X G (c.fact (f := (He.Fa.glo "_is_terms").ok) 71 rfl) (c.def_ (d := dfN "_is_terms" sIsTerms) 36 rfl)
  have aAnswer : At K mg "_is_answer" sIsAnswer := atOf X G (c.fact (f := (He.Fa.glo "_is_answer").ok) 72 rfl) (c.def_ (d := dfN "_is_answer" sIsAnswer) 37 rfl)
  have aCell : At K mg "_law_cell" sLawCell := atOf X G (c.fact (f := (He.Fa.glo "_law_cell").ok) 73 rfl) (c.def_ (d := dfN "_law_cell" sLawCell) 38 rfl)
  have aBox : At K mg "_law_box" sLawBox := atOf X G (c.fact (f := (He.Fa.glo "_law_box").ok) 74 rfl) (c.def_ (d := dfN "_law_box" sLawBox) 39 rfl)
  have aTake : At K mg "_law_take" sLawTake := atOf X G (c.fact (f := (He.Fa.glo "_law_take").ok) 75 rfl) (c.def_ (d := dfN "_law_take" sLawTake) 40 rfl)
  have aLNames : At K mg "_law_names" sLawNames := atOf X G (c.fact (f := (He.Fa.glo "_law_names").ok) 76 rfl) (c.def_ (d := dfN "_law_names" sLawNames) 41 rfl)
  have aLPoints : At K mg "_law_points" sLawPoints := atOf X G (c.fact (f := (He.Fa.glo "_law_points").ok) 77 rfl) (c.def_ (d := dfN "_law_points" sLawPoints) 42 rfl)
  have aLRows : At K mg "_law_rows" sLawRows := atOf X G (c.fact (f := (He.Fa.glo "_law_rows").ok) 78 rfl) (c.def_ (d := dfN "_law_rows" sLawRows) 43 rfl)
  have aLLetter : At K mg "_law_letter" sLawLetter := atOf X G (c.fact (f := (He.Fa.glo "_law_letter").ok) 79 rfl) (c.def_ (d := dfN "_law_letter" sLawLetter) 44 rfl)
  have aLThing : At K mg "_law_thing" sLawThing := atOf X G (c.fact (f := (He.Fa.glo "_law_thing").ok) 80 rfl) (c.def_ (d := dfN "_law_thing" sLawThing) 45 rfl)
  have aLWhole : At K mg "_law_whole" sLawWhole := atOf X G (c.fact (f := (He.Fa.glo "_law_whole").ok) 81 rfl) (c.def_ (d := dfN "_law_whole" sLawWhole) 46 rfl)
  have aLText : At K mg "_law_text" sLawText := atOf X G (c.fact (f := (He.Fa.glo "_law_text").ok) 82 rfl) (c.def_ (d := dfN "_law_text" sLawText) 47 rfl)
  have aLSign : At K mg "_law_sign" sLawSign := atOf X G (c.fact (f := (He.Fa.glo "_law_sign").ok) 83 rfl) (c.def_ (d := dfN "_law_sign" sLawSign) 48 rfl)
  have aLSigns : At K mg "_law_signs" sLawSigns := atOf X G (c.fact (f := (He.Fa.glo "_law_signs").ok) 84 rfl) (c.def_ (d := dfN "_law_signs" sLawSigns) 49 rfl)
  have aLBentS : At K mg "_law_bent_sign" sLawBentSign := atOf X G (c.fact (f := (He.Fa.glo "_law_bent_sign").ok) 85 rfl) (c.def_ (d := dfN "_law_bent_sign" sLawBentSign) 50 rfl)
  have aLBentL : At K mg "_law_bent_letter" sLawBentLetter := atOf X G (c.fact (f := (He.Fa.glo "_law_bent_letter").ok) 86 rfl) (c.def_ (d := dfN "_law_bent_letter" sLawBentLetter) 51 rfl)
  have aLRight : At K mg "_law_right" sLawRight := atOf X G (c.fact (f := (He.Fa.glo "_law_right").ok) 87 rfl) (c.def_ (d := dfN "_law_right" sLawRight) 52 rfl)
  have aLNoW : At K mg "_law_no_works" sLawNoWorks := atOf X G (c.fact (f := (He.Fa.glo "_law_no_works").ok) 88 rfl) (c.def_ (d := dfN "_law_no_works" sLawNoWorks) 53 rfl)
  have aLaw : At K mg "law" sLaw := atOf X G (c.fact (f := (He.Fa.glo "law").ok) 89 rfl) (c.def_ (d := dfN "law" sLaw) 54 rfl)
  have MO : MethO K := ⟨He.eqO_ok (c.fact (f := hnB) 90 rfl), of_decide_eq_true (c.fact (f := htB) 91 rfl)⟩
  have E1 := clB_ok (B := "ValueError") (q := "NoWorks.__init__") (st := mNoWorks_Init) X G fitV (by decide +kernel) (by decide +kernel) MO (c.fact (f := clB "NoWorks" "PanelError" "found" veT "ValueError.__new__") 94 rfl) (c.def_ (d := dfM "NoWorks" "__init__" "NoWorks.__init__" mNoWorks_Init) 56 rfl)
  have E4 := fmB_ok (B := "ValueError") (q := "PanelError.__init__") (st := mPanelError_Init) X G fitV (by decide +kernel) (by decide +kernel) MO (c.fact (f := fmB "PanelError" veT "ValueError.__new__") 93 rfl) (c.def_ (d := dfM "PanelError" "__init__" "PanelError.__init__" mPanelError_Init) 55 rfl)
  have ME : ErrW K mg (He.ga K "Works") (He.ga K "NoWorks") (He.ga K "PanelError") (He.ma K (He.ga K "PanelError") "__init__") := ⟨⟨nmV, PySem.W.mg_none_of X G z_ValueError, iniB_ok (c.fact (f := iniB "ValueError" "ValueError.__init__") 92 rfl)⟩, E4.1, E1.1, E1.2.2, typ_of_cl (c.fact (f := clB "NoWorks" "PanelError" "found" veT "ValueError.__new__") 94 rfl), of_decide_eq_true (c.fact (f := (fun K => decide (PySem.W.exmOne K (.ref (He.ga K "NoWorks")) (.ref (He.ga K "NoWorks")) = some true))) 95 rfl), (fun t ht => by simp only [List.mem_cons, List.not_mem_nil, or_false] at ht; rcases ht with rfl | rfl | rfl | rfl | rfl | rfl | rfl; exact of_decide_eq_true (c.fact (f := (fun K => decide (PySem.W.kitOne K (.type "NoneType") (.ref (He.ga K "Works")) = some false))) 96 rfl); exact of_decide_eq_true (c.fact (f := (fun K => decide (PySem.W.kitOne K (.type "bool") (.ref (He.ga K "Works")) = some false))) 97 rfl); exact of_decide_eq_true (c.fact (f := (fun K => decide (PySem.W.kitOne K (.type "int") (.ref (He.ga K "Works")) = some false))) 98 rfl); exact of_decide_eq_true (c.fact (f := (fun K => decide (PySem.W.kitOne K (.type "str") (.ref (He.ga K "Works")) = some false))) 99 rfl); exact of_decide_eq_true (c.fact (f := (fun K => decide (PySem.W.kitOne K (.type "list") (.ref (He.ga K "Works")) = some false))) 100 rfl); exact of_decide_eq_true (c.fact (f := (fun K => decide (PySem.W.kitOne K (.type "tuple") (.ref (He.ga K "Works")) = some false))) 101 rfl); exact of_decide_eq_true (c.fact (f := (fun K => decide (PySem.W.kitOne K (.type "dict") (.ref (He.ga K "Works")) = some false))) 102 rfl))⟩
  have hC : mg "Works" = some (.ref (He.ga K "Works")) := He.glo_ok X G (c.fact (f := (He.Fa.glo "Works").ok) 103 rfl)
  have W : WoC K (He.ga K "Works") := ⟨He.cls_ok (c.fact (f := (He.Fa.cls "Works").ok) 104 rfl), He.noat_ok (c.fact (f := (He.Fa.noat "Works" "_points").ok) 106 rfl), He.noat_ok (c.fact (f := (He.Fa.noat "Works" "_point_by_name").ok) 107 rfl), He.noat_ok (c.fact (f := (He.Fa.noat "Works" "_rules").ok) 108 rfl), He.noat_ok (c.fact (f := (He.Fa.noat "Works" "_rule_by_name").ok) 109 rfl), He.noat_ok (c.fact (f := (He.Fa.noat "Works" "_causes").ok) 110 rfl), He.noat_ok (c.fact (f := (He.Fa.noat "Works" "_commands").ok) 111 rfl), He.noat_ok (c.fact (f := (He.Fa.noat "Works" "_command_by_name").ok) 112 rfl), He.noat_ok (c.fact (f := (He.Fa.noat "Works" "_relations").ok) 113 rfl)⟩
  have Wq : WoQ K (He.ga K "Works") := ⟨He.eqO_ok (c.fact (f := (fun K => He.eqO (PySem.W.findIn K (.ref (He.ga K "Works")) "__class__") (some (some (.builtin "object.__class__"))))) 125 rfl), He.eqO_ok (c.fact (f := hnB) 90 rfl), of_decide_eq_true (c.fact (f := htB) 91 rfl), of_decide_eq_true (c.fact (f := (fun K => decide (PySem.W.mroIn K (He.ga K "Works") (.type "object") = some true))) 126 rfl), of_decide_eq_true (c.fact (f := (fun K => decide (PySem.W.kitOne K (.ref (He.ga K "Works")) (.ref (He.ga K "Works")) = some true))) 127 rfl)⟩
  obtain ⟨fdi, FI⟩ := (c.def_ (d := dfMK "Works" "__init__" "Works.__init__" mWorks_Init [("rules", .adr (dAd "rules")), ("causes", .adr (dAd "causes")), ("commands", .adr (dAd "commands")), ("relations", .adr (dAd "relations"))]) 64 rfl)
  have mPlaces : AtMt K (He.ga K "Works") "places" "Works.places" mWorks_Places := atMtOf (c.fact (f := (He.Fa.meth "Works" "places").ok) 114 rfl) (c.def_ (d := dfM "Works" "places" "Works.places" mWorks_Places) 57 rfl)
  have mPoint : AtMt K (He.ga K "Works") "point" "Works.point" mWorks_Point := atMtOf (c.fact (f := (He.Fa.meth "Works" "point").ok) 115 rfl) (c.def_ (d := dfM "Works" "point" "Works.point" mWorks_Point) 58 rfl)
  have mPtsAt : AtMt K (He.ga K "Works") "points_at" "Works.points_at" mWorks_PointsAt := atMtOf (c.fact (f := (He.Fa.meth "Works" "points_at").ok) 116 rfl) (c.def_ (d := dfM "Works" "points_at" "Works.points_at" mWorks_PointsAt) 59 rfl)
  have mIsW : AtMt K (He.ga K "Works") "is_worth" "Works.is_worth" mWorks_IsWorth := atMtOf (c.fact (f := (He.Fa.meth "Works" "is_worth").ok) 117 rfl) (c.def_ (d := dfM "Works" "is_worth" "Works.is_worth" mWorks_IsWorth) 60 rfl)
  have mHasP : AtMt K (He.ga K "Works") "has_point" "Works.has_point" mWorks_HasPoint := atMtOf (c.fact (f := (He.Fa.meth "Works" "has_point").ok) 118 rfl) (c.def_ (d := dfM "Works" "has_point" "Works.has_point" mWorks_HasPoint) 61 rfl)
  have mHasPl : AtMt K (He.ga K "Works") "has_place" "Works.has_place" mWorks_HasPlace := atMtOf (c.fact (f := (He.Fa.meth "Works" "has_place").ok) 119 rfl) (c.def_ (d := dfM "Works" "has_place" "Works.has_place" mWorks_HasPlace) 62 rfl)
  have mHasC : AtMt K (He.ga K "Works") "has_command" "Works.has_command" mWorks_HasCommand := atMtOf (c.fact (f := (He.Fa.meth "Works" "has_command").ok) 120 rfl) (c.def_ (d := dfM "Works" "has_command" "Works.has_command" mWorks_HasCommand) 63 rfl)
  exact fin hfa T W Wq hC (He.mkr_ok (c.fact (f := (He.Fa.mkr "Works").ok) 105 rfl)) FI (dNo_ok (c.fact (f := (dNo "rules")) 121 rfl)) (dNo_ok (c.fact (f := (dNo "causes")) 122 rfl)) (dNo_ok (c.fact (f := (dNo "commands")) 123 rfl)) (dNo_ok (c.fact (f := (dNo "relations")) 124 rfl)) ME mPlaces mPoint mPtsAt mIsW mHasP mHasPl mHasC aNumber aCheck aWhole aName aTime aMark aTerm aId aOneOf aTuple aList aListOf aLevel aPointS aOnce aByName aPoints aRules aRuleS aCauses aCauseS aLeads aCommands aCommandS aLockS aWorthOf aLocks aRelations aRelS aPtsRel aWorksC aSign aSigns aSignAt aOrder aLetter aTerms aAnswer aCell aBox aTake aLNames aLPoints aLRows aLLetter aLThing aLWhole aLText aLSign aLSigns aLBentS aLBentL aLRight aLNoW aLaw
end V10

set_option maxHeartbeats 0
namespace V10
open PySem PySem.Spec PyProof.Rows L2 Pw
theorem run (w : World) : HandSHeadRun.RunEq R (PySem.W.view R.prog [99]) hk ob 30000 loose w := by
  intro os
  kernel_rfl
end V10
open PySem PySem.W PySem.Calls PyProof.Rows
theorem PySem.Challenge.cw_panelwatch_k10_signs_and_their_letters_holds : PySem.Challenge.rw_panelwatch_k10_signs_and_their_letters.Holds := by
  w_on; o_law
  refine HandSHeadRun.head_any (r := OpenLaw.row PySem.Challenge.rw_panelwatch_k10_signs_and_their_letters) (q := view (OpenLaw.row PySem.Challenge.rw_panelwatch_k10_signs_and_their_letters).prog [99]) (H := V10.hk) (ob := V10.ob) (M := 30000) (loose := V10.loose)
    (d := HandSHeadRun.topDef (OpenLaw.row PySem.Challenge.rw_panelwatch_k10_signs_and_their_letters).prog 99) (kwd := []) V10.ob_eq
    (by kernel_rfl) (fun s => by kernel_rfl) V10.run (by kernel_rfl) (by kernel_rfl) (by kernel_rfl) (by rfl) (by first | assumption | decide +kernel) (by decide +kernel) ⟨rfl, rfl, rfl, rfl, rfl, by decide +kernel⟩ ?hw ?hc
  case hw => w_witness2
  case hc =>
    refine Pw.walkE (l := PySem.Challenge.rw_panelwatch_k10_signs_and_their_letters) (n := 63) (k := 16) (x := "_law_script") (CX := L2.CX0) rfl (by decide) (by kernel_rfl) ⟨rfl, by decide, by decide⟩ ?F (fun _ _ _ _ z => z)
    intro w mg fa h Y G hmg0
    obtain ⟨K, KX, c⟩ := Y
    have hmg : mg ("law" : PySem.Str) = some (.ref fa) := by
      have e : (HandSHeadRun.topDef (OpenLaw.row PySem.Challenge.rw_panelwatch_k10_signs_and_their_letters).prog 99).name = ("law" : PySem.Str) := by kernel_rfl
      rw [← e]
      exact hmg0
    obtain ⟨fd, hb, hF⟩ := V10.facts (P := (PySem.Challenge.rw_panelwatch_k10_signs_and_their_letters).prog) (w := w) KX G hmg c
    exact ⟨K, fd, V10.spLaw K, KX, hb, fun H a ns hl _ hS => ⟨a, ns, rfl, hS, hl, fun _ => rfl⟩, hF⟩

