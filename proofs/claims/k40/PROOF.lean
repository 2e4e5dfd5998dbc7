import PyProof.Rows.All
import Wide.All
import OpenK.AllK
import Wide.FinOn
import HandS.ForSpec
import HandS.Comp
import HandS.Dict
import HandS.Iter
import HandS.Text
import HandS.IsInst
import HandS.Wide
import HandS.ExcInit
import HandS.ExcIs
import PyProof.ExcStrAll.ValueError
import PyProof.ReprRoads
import PyProof.CallFns
import HandS.Walk
import HandS.Defaults
import HandS.Zip
import HandS.DictTup
import HandS.SortInts
import HandS.More
import PyProof.ExcBaseAll.LookupError
import PyProof.ExcBaseAll.ValueError
import KE.KExcInit
import HandS.MakeKw
import HandS.ExcField
import HandS.ExcValue
import HandS.TryMany
import HandS.Head0
import HandS.Head1
import HandS.Head2
import HandS.HeadEnd
import HandS.HeadHook1
import HandS.HeadHook2
import HandS.CallSlots
import HandS.WordsExc
import PySem.Challenge.RW_panelwatch_k40_fine_rows
import HandS.SetKeys
set_option Elab.async false
set_option linter.all false
set_option maxRecDepth 100000
set_option maxHeartbeats 4000000
/-! The layer of defs that are called where no display is under way (nothing is being shown around them). -/
namespace Pw
open PySem PySem.Spec PyProof.Rows L2

/-- a def's promise where nothing is being shown around its call -/
structure FnG (P : Program) (w : World) (K : PySem.W.Frag) (mg : Str → Option Value)
    (base : Heap) (CX : CXT) (k : Nat) (f : Addr) (fd : FuncData) (ps : List Str) (sp : Sp) : Prop where
  len : ∀ vs H Q E, sp vs H Q E →
    vs.length = ps.length
  run : ∀ (A : Around) (out : List Env) (s : Shared) (H : Hp) (ar : Args) (us : List Value)
    (vs : List V) (Q : VK) (E : XK), A.guards = some [] → Room k A →
    Env0 P w K mg base A out s H → BindsTo s fd ar (ps.zip us) → Vals vs us → sp vs H Q E →
    codeAny (model P w) A (.call (.ref f) ar) (CR CX out P w H s Q E) s

section
variable {P : Program} {w : World} {K : PySem.W.Frag} {mg : Str → Option Value} {base : Heap}

theorem FnG.of {CX : CXT} {k : Nat} {f : Addr} {fd : FuncData} {ps : List Str} {sp : Sp}
    (F : FnOk P w K mg base CX k f fd ps sp) : FnG P w K mg base CX k f fd ps sp :=
  ⟨F.len, fun A out s H ar us vs Q E _ hr e0 hb r hs => F.run A out s H ar us vs Q E hr e0 hb r hs⟩

theorem fnG_of {CX : CXT} {k : Nat} {f : Addr} {name qual : Str} {params : Arguments}
    {body : List Stmt} {scope : Scope} {dV kV doc pm cdv ct oc : Value} {an od : Option Addr}
    {osl : Array (Option Value)} {N ps : List Str} {sp : Sp}
    (lk : K.lookup f = some ⟨oc, od, .func (PySem.W.fnOf name qual params body scope dV kV doc pm an cdv ct), osl⟩)
    (hcd : PySem.W.codeIn K cdv qual = true) (S : FnScope N ps scope)
    (len : ∀ vs H Q E, sp vs H Q E → vs.length = ps.length)
    (hb0 : ∀ (A : Around) (out : List Env) (s : Shared) (H : Hp) (vs : List V) (Q : VK) (E : XK),
      A.guards = some [] → Room k (A.deeper (envOfC qual scope s.heap.objs.size f cdv)) → sp vs H Q E →
      ∃ t, PSs (cxOf CX P w K mg base N qual scope f cdv A out s H E) body t ∧
        t { nx := fun _ H' => Q .non H', rt := Q } (start N vs) H) :
    FnG P w K mg base CX (k + 1) f (PySem.W.fnOf name qual params body scope dV kV doc pm an cdv ct) ps sp := by
  refine ⟨len, fun A out s H ar us vs Q E gd hr e0 hbn r hs0 => ?_⟩
  have hlen := len _ _ _ _ hs0
  have old : ∀ b o, base.get? b = some o → s.heap.get? b = some o := fun b o e => (e0.bs b o e).1
  have KX : K.In s.heap := e0.mod.kin.keeps old
  have lim : s.heap.NoLimit := e0.mod.nolimit.keeps old
  have kinds : ∀ y ∈ ps.zip us, scope.names.lookup y.1 = some .local ∨
      (scope.names.lookup y.1 = some .cell ∧
        ((cellsFrom (s.heap.objs.size + 1) scope.names []).lookup y.1).isSome = true) := by
    intro ⟨n, v⟩ hy
    rcases S.par n (List.of_mem_zip hy).1 with z | z
    · exact .inl z
    · exact .inr ⟨z, PySem.W.cellsFrom_some _ _ _ (.inl z)⟩
  refine codeAny_call_function hr.depth (KX _ _ lk) rfl S.co S.gen rfl
    (PySem.W.codeRec_of KX hcd) (hbn _ _ _ _ ?_)
  refine wpAny_newFunctionEnv_cells S.kind kinds fun env he s1 x => ?_
  subst he
  refine ⟨lim.keeps x.toInCall.keep, codeAny_func ?_⟩
  obtain ⟨t, T, q0⟩ := hb0 A out s H vs Q E gd (hr.deeper _) hs0
  have J0 : Inv (cxOf CX P w K mg base N qual scope f cdv A out s H E) [] (start N vs) H s1 :=
    inv_start S hr.hd e0 hlen r x
  refine wpAny_mono (T.run [] s1 (start N vs) H _ J0 q0) (fun fl s' hs => ?_) fun e s' hs => hs
  have fin : ∀ {σ' : L2.St} {H' : Hp} {v : V} {u : Value},
      Inv (cxOf CX P w K mg base N qual scope f cdv A out s H E) [] σ' H' s' →
      RelV v u → Q v H' → CE out P w H s Q u s' :=
    fun {σ' H' v u} J rv q => ⟨v, H', J.os, J.bare, J.base, J.hok, rv, q⟩
  match fl, hs with
  | .ret u, ⟨v, σ', H', J, rv, q⟩ => exact fin J rv q
  | .next, ⟨σ', H', J, q⟩ => exact fin (v := V.non) (u := Value.none) J rfl q
  | .brk, ⟨_, _, _, q⟩ => exact False.elim q
  | .cont, ⟨_, _, _, q⟩ => exact False.elim q

/-- the rule for a def, where nothing is being shown around it -/
theorem okG {x qual : Str} {st : Stmt} {f : Addr} {fd : FuncData} {N ps : List Str} {k : Nat} {sp : Sp}
    (F : Fun K x qual st f fd) (S : FnScope N ps (defScope st))
    (len : ∀ vs H Q E, sp vs H Q E → vs.length = ps.length)
    (hb0 : ∀ (cdv : Value) (A : Around) (out : List Env) (s : Shared) (H : Hp) (vs : List V) (Q : VK) (E : XK),
      A.guards = some [] →
      Room k (A.deeper (envOfC qual (defScope st) s.heap.objs.size f cdv)) → sp vs H Q E →
      ∃ t, PSs (cxOf CX0 P w K mg base N qual (defScope st) f cdv A out s H E).nox (defBody st) t ∧
        t { nx := fun _ H' => Q .non H', rt := Q } (start N vs) H) :
    FnG P w K mg base CX0 (k + 1) f fd ps sp := by
  obtain ⟨oc, od, kV, doc, pm, an, cdv, ct, osl, rfl, lk, hcd⟩ := F.ex
  refine fnG_of lk hcd S len fun A out s H vs Q E gd hr hs0 => ?_
  obtain ⟨t, h, q⟩ := hb0 cdv A out s H vs Q E gd hr hs0
  exact ⟨t, h.nox, q⟩
end

section
variable {X : Cx} {CX : CXT} {k : Nat} {f : Addr} {fd : FuncData} {ps : List Str} {sp : Sp}
  {dvs : List V} {ds : List Value} {E : XK} {x : Str} {p pos : Pos} {e : Expr} {es : List Expr} {t : TA}

theorem run_fnG {pins : List (Addr × Obj)} {σ : L2.St} {H : Hp} {s : Shared} {Q : VK} {us : List Value} {vs : List V}
    (F : FnG X.prog X.w X.K X.mg X.base CX k f fd ps sp) (gd : X.A.guards = some []) (hr : Room k X.A)
    (hb : Binds X.K fd ps ds) (hd : Vals dvs ds) (hx : Passes CX X E)
    (I : Inv X pins σ H s) (r : Vals vs us) (h : sp (vs ++ dvs) H Q E) :
    wpAny (model X.prog X.w) X.A (call (.ref f) us) (EP X pins σ Q) X.xe s := by
  have r2 : Vals (vs ++ dvs) (us ++ ds) := r.append hd
  have hlen : (us ++ ds).length = ps.length := r2.length ▸ F.len _ _ _ _ h
  refine wpAny_call (codeAny_mono (F.run X.A X.stack s H ⟨us, []⟩ (us ++ ds) (vs ++ dvs) Q E gd hr
    I.env0 (hb s us I.kIn hlen) r2 h) fun r s' hq => ?_)
  match r, hq with
  | .error e, hq => exact hx pins σ H s e s' I hq
  | .ok (.ret u), hq => exact I.after hq
  | .ok .next, hq => exact False.elim hq
  | .ok .brk, hq => exact False.elim hq
  | .ok .cont, hq => exact False.elim hq

/-- f(..), f a def whose promise stands where nothing is being shown -/
theorem pe_callG (F : FnG X.prog X.w X.K X.mg X.base CX k f fd ps sp) (gd : X.A.guards = some []) (hr : Room k X.A)
    (hg : Gl X x) (hm : X.mg x = some (.ref f)) (hk : PySem.W.keepIn X.K (.ref f) = true)
    (hb : Binds X.K fd ps ds) (hd : Vals dvs ds) (hx : Passes CX X E) (ha : PA X (e :: es) t)
    (hdb : (x == ("__debug__" : Str)) = false := by decide)
    (he : starEach (e :: es) X.env = (false, eval e X.env) :: starEach es X.env := by rfl)
    (hpl : (backTo pos (starEach es X.env)).any (·.1) = false := by rfl) :
    PE X (.Call (.Name x p) (e :: es) [] pos) (tCall sp dvs E t) :=
  ⟨fun pins s σ H Q I h => wpAny_Call_Name_kw (ld_glob I hg hm (PySem.W.callWith_K (h₀ := X.base)
    I.ok.mod.kin hk (thn (ha.run pos pins s σ H _ I h) fun us s1 ⟨vs, H1, I1, r, q⟩ =>
      ⟨I1.kIn, run_fnG F gd hr hb hd hx I1 r q⟩) he hpl) hdb)⟩
end

/-- the end: the law's promise, at the heap behind the top, nothing being shown -/
theorem law_callG {P : Program} {w : World} {K : PySem.W.Frag} {mg mb : Str → Option Value} {CX : CXT} {k : Nat}
    {fa a : Addr} {fd : FuncData} {x : Str} {sp : Sp} {s₁ : Shared} {vs : List Value} {ns : List Int}
    (KX : K.In s₁.heap) (hns : s₁.heap.Ns mainGlobals mg) (hb : s₁.heap.Ns builtinsNs mb)
    (hbb : ∀ x : Str, x ≠ "__name__" → mb x = bootBuiltins x) (hlim : s₁.heap.NoLimit) (hg : s₁.gens = #[])
    (ha : s₁.heap.get? a = some { cls := .type "list", data := .seq vs.toArray }) (hi : IntsAre vs ns)
    (hl : ns.length ≤ sizeLine) (hr : Room k callerA)
    (F : ∀ base : Heap, K.In base → base.Ns mainGlobals mg → FnG P w K mg base CX k fa fd [x] sp)
    (hbind : ∀ (s : Shared) (u : Value), BindsTo s fd ⟨[u], []⟩ [(x, u)])
    (hsp : ∀ H : Hp, Only H → SqL K H a (ns.map V.int) → sp [.ref a] H (fun v _ => v = .bl true) fun _ _ _ => False)
    (hCX : ∀ H e s', CX [] H s₁ (fun _ _ _ => False) e s' → False) :
    codeAny (model P w) callerA (.call (.ref fa) ⟨[.ref a], []⟩)
      (fun r s' => r = .ok (.ret (.bool true)) ∧ OldK s₁.heap s'.heap ∧ s'.os = s₁.os ∧ AllBare s'.gens) s₁ := by
  have rv := vals_ints hi
  have lenV := hi.length
  have core : ∀ H : Hp, Only H → SqL K H a (ns.map V.int) → HOk P w H s₁.heap → (∀ b, H b ≠ none → b = a) →
      (H a ≠ none → K.lookup a = none) → codeAny (model P w) callerA (.call (.ref fa) ⟨[.ref a], []⟩)
      (fun r s' => r = .ok (.ret (.bool true)) ∧ OldK s₁.heap s'.heap ∧ s'.os = s₁.os ∧ AllBare s'.gens) s₁ := by
    intro H hO hS hok hA hK
    have loose : ∀ {b : Addr} {o : Obj} {es : Array DictEntry} {ep : Nat}, s₁.heap.get? b = some o →
        o.data = .dict es ep → H b = none := by
      intro b o es ep e d
      cases q : H b with
      | none => rfl
      | some u =>
        obtain rfl : b = a := hA b (fun z => nomatch q.symm.trans z)
        cases ha.symm.trans e
        exact nomatch (show Data.seq vs.toArray _ = Data.dict es ep from d)
    have nsK : ∀ {b : Addr} {m : Str → Option Value}, s₁.heap.Ns b m → (hidT s₁.heap H).Ns b m :=
      fun {b m} ⟨o, es, ep, e, d, r⟩ => ⟨o, es, ep, hidT_get e (loose e d), d, r⟩
    have hKb : K.In (hidT s₁.heap H) := by
      intro b o e
      refine hidT_get (KX b o e) ?_
      cases q : H b with
      | none => rfl
      | some u =>
        obtain rfl : b = a := hA b (fun z => nomatch q.symm.trans z)
        exact nomatch (hK (fun z => nomatch q.symm.trans z)).symm.trans e
    have hM : Mod K mg (hidT s₁.heap H) :=
      ⟨hKb, nsK hns, ⟨mb, nsK hb, hbb⟩, hlim.elim fun mc h => ⟨mc, nsK h.1, h.2⟩⟩
    have e0 : Env0 P w K mg (hidT s₁.heap H) callerA [] s₁ H :=
      ⟨rfl, hM, fun b o e => of_hidT e, Nat.le_of_eq (hidT_size _ _), trivial,
        fun b hb => (nomatch (show b ∈ ([] : List Addr) from hb)), hok, .of_eq hg⟩
    refine codeAny_mono ((F _ hKb (nsK hns)).run callerA [] s₁ H ⟨[.ref a], []⟩ [.ref a] [.ref a] _ _ rfl hr e0
      (hbind s₁ (.ref a)) (.cons rfl .nil) (hsp H hO hS)) fun r s' h => ?_
    match r, h with
    | .error e, h => exact (hCX H e s' h).elim
    | .ok .next, h => exact False.elim h
    | .ok .brk, h => exact False.elim h
    | .ok .cont, h => exact False.elim h
    | .ok (.ret u), ⟨v, H', os, bare, un, hok', r', q⟩ =>
      obtain rfl : v = .bl true := q
      obtain rfl : u = Value.bool true := r'
      refine ⟨rfl, OldK.of_keep fun b o e => ?_, os, bare⟩
      cases q : H b with
      | none => exact un.keep b o e q (fun z => (nomatch (show b ∈ ([] : List Addr) from z))) (by simp)
      | some u =>
        rcases hO b with z | ⟨ob, xs, z⟩
        · exact nomatch q.symm.trans z
        · have e1 := (hok b _ z).1
          have e2 := (hok' b _ (un.frzs b ob _ z)).1
          cases e.symm.trans e1
          exact e2
  cases hk : K.lookup a with
  | some o =>
    cases ha.symm.trans (KX a o hk)
    exact core (fun _ => none) (fun _ => .inl rfl)
      (.inr ⟨_, vs.toArray, _, hk, rfl, rfl, rfl, by rw [List.size_toArray, lenV]; exact hl, by simpa using rv⟩)
      (fun b u z => nomatch (show (none : Option HO) = some u from z)) (fun b z => absurd rfl z) fun z => absurd rfl z
  | none =>
    refine core (fun b => if b = a then
        some (.frz { cls := .type "list", data := .seq vs.toArray } (.lst (ns.map V.int))) else none) (fun b => ?_)
      (.inl (.inr ⟨{ cls := .type "list", data := .seq vs.toArray }, if_pos rfl⟩)) (fun b u z => ?_) (fun b z => ?_)
      fun _ => hk
    · by_cases hba : b = a
      · exact .inr ⟨_, _, if_pos hba⟩
      · exact .inl (if_neg hba)
    · by_cases hba : b = a
      · have z' := (if_pos hba).symm.trans z
        cases z'
        subst hba
        exact ⟨ha, by rw [List.length_map]; exact hl, vs, _, rv, ha⟩
      · exact nomatch (if_neg hba).symm.trans z
    · by_cases hba : b = a
      · exact hba
      · exact absurd (if_neg hba) z

theorem walkG {l : PySem.W.OpenLaw} {n k : Nat} {q : Program} {loose : List Str}
    {XP : (Str → Option Value) → Heap → Prop} {YP : World → Heap → Prop} {d : DefRec} {K : Params → PySem.W.Frag}
    {CX : World → CXT} {sp : World → Sp} {x : Str} (hn : l.most = some n) (hn2 : n ≤ sizeLine)
    (hdf : d.params.defaults = []) (hr : Room k callerA) (hY : ∀ (w : World) (h : Heap), YP w h → (K w.params).In h)
    (F : ∀ (w : World) (mg : Str → Option Value) (fa : Addr) (h : Heap), (K w.params).In h → h.Ns mainGlobals mg →
      mg d.name = some (.ref fa) → ∃ fd : FuncData, (∀ (s : Shared) (u : Value), BindsTo s fd ⟨[u], []⟩ [(x, u)]) ∧
        ∀ base : Heap, (K w.params).In base → base.Ns mainGlobals mg →
          FnG l.prog w (K w.params) mg base (CX w) k fa fd [x] (sp w))
    (hsp : ∀ (w : World) (H : Hp) (a : Addr) (ns : List Int), ns.length ≤ n → Only H →
      SqL (K w.params) H a (ns.map V.int) → sp w [.ref a] H (fun v _ => v = .bl true) fun _ _ _ => False)
    (hCX : ∀ (w : World) (H : Hp) (s : Shared) (e : Value) (s' : Shared), CX w [] H s (fun _ _ _ => False) e s' → False) :
    PySem.W.WalkO q loose XP YP l.row.toRowW d [] (fun f vs => PySem.call f vs) := by
  refine Att.attach_call hn hdf fun w s₀ s₁ mg mb fa o pm cd doc a vs ns G Y ho hd hcd hmg hobj hints hlen hg => ?_
  have KX := hY w _ Y
  obtain ⟨fd, hbn, hF⟩ := F w mg fa _ KX G.T.g hmg
  exact law_callG KX G.T.g G.T.b G.T.builtins G.T.nolimit hg hobj hints (Nat.le_trans hlen hn2) hr hF hbn
    (fun H hO hS => hsp w H a ns hlen hO hS) fun H e s' => hCX w H s₁ e s'
end Pw

/-! Exceptions of one's own as values: made by their own __init__, which calls that of the class above it by name; their args are tracked. -/
namespace Pw
open PySem PySem.Spec PyProof.Rows L2

/-- the object of an exception: its class, its dict, where its args lie -/
abbrev exOb (C : Addr) (d : Option Addr) (t : Addr) : Obj :=
  { cls := .ref C, dict := d, data := .fields #[.ref t, .none, .none, .none, .bool false, .none] }
/-- at e: an exception of the class at C; its args are the tuple at t -/
def exq (e C : Addr) (d : Option Addr) (t : Addr) : HO := .ext fun h => h.get? e = some (exOb C d t)
theorem exq_own {e C x t : Addr} {d : Option Addr} : exq e C d t ≠ .own x := fun z => by
  have z' : HO.ext _ = HO.own x := z
  cases z'
theorem exq_tup {e C t : Addr} {d : Option Addr} {xs : List V} : exq e C d t ≠ .tup xs := fun z => by
  have z' : HO.ext _ = HO.tup xs := z
  cases z'
theorem exq_lst {e C t : Addr} {d : Option Addr} {xs : List V} : exq e C d t ≠ .lst xs := fun z => by
  have z' : HO.ext _ = HO.lst xs := z
  cases z'
theorem exq_frz {e C t : Addr} {d : Option Addr} {o : Obj} {u : HO} : exq e C d t ≠ .frz o u := fun z => by
  have z' : HO.ext _ = HO.frz o u := z
  cases z'
theorem exq_tbl {e C t : Addr} {d : Option Addr} {ps : Array Value} : exq e C d t ≠ .tbl ps := fun z => by
  have z' : HO.ext _ = HO.tbl ps := z
  cases z'
theorem exq_ok {P : Program} {w : World} {H : Hp} {h : Heap} {e C t : Addr} {d : Option Addr}
    (he : h.get? e = some (exOb C d t)) : ObjOk P w H h e (exq e C d t) :=
  ⟨he, ⟨_, he⟩, fun _ _ z k => k _ z⟩
theorem exq_at {P : Program} {w : World} {H : Hp} {h : Heap} {e C t : Addr} {d : Option Addr} (hok : HOk P w H h)
    (he : H e = some (exq e C d t)) : h.get? e = some (exOb C d t) := by
  have x : ObjOk P w H h e (.ext fun h => h.get? e = some (exOb C d t)) := hok e _ he
  exact x.1

section
variable {X : Cx} {pins : List (Addr × Obj)} {σ : L2.St} {H : Hp} {s : Shared} {a C t1 : Addr} {f : Str} {y : V}
  {u : Value} {E : Value → Shared → Prop} {A : Around}

/-- self.f = y, the first attribute -/
theorem eq_new {Q : Unit → Shared → Prop} (T : OexC X.K C) (I : Inv X pins σ H s) (e : H a = some (exq a C none t1))
    (hno : PySem.W.findIn X.K (.ref C) f = some none) (ry : RelV y u)
    (h : ∀ dx s', H dx = none → dx ≠ a →
      Inv X pins σ (upd (upd H dx (exd dx [(f, y)])) a (exq a C (some dx) t1)) s' → Q () s') :
    wpAny (model X.prog X.w) A (setAttr (.ref a) f u) Q E s := by
  obtain ⟨nm, q, N, bs, bm, sn, sub, ab, col, dd, k0, k1, k2, k3, k5, hC, hbm⟩ := T.cls
  have hcl : PySem.W.clsIn X.K C = some { name := nm, bases := bs, mro := .ref C :: bm, ns := N, qualname := q, hasDict := true, slotNames := sn, subclasses := sub, abstract := ab, collection := col, hasDel := false } := by
    unfold PySem.W.clsIn
    rw [hC] <;> rfl
  have ho := exq_at I.hok e
  obtain ⟨hp, g, d, t, os⟩ := s
  refine PySem.W.set_plain I.kIn (ox := exOb C none t1) (od := none) ⟨ho, rfl, rfl, trivial⟩ T.sa ?_
  refine PySem.HandSPX.exc_osa I.kIn ho hcl
    (show PySem.HandSPX.refsVE (.ref C :: bm) = true from hbm) rfl hno (fun h' tk' dx k dn dne hx hn => ?_)
  have hnd : H dx = none := I.hok.fresh dn
  have nd : ∀ {b : Addr} {o : Obj}, hp.get? b = some o → b ≠ dx :=
    fun {b o} q => Nat.ne_of_lt (Nat.lt_of_lt_of_le (Heap.lt_size q) dn)
  have na : ∀ {b : Addr}, H b = none → b ≠ a := fun {b} n z => by rw [z, e] at n; cases n
  have Un1 : Un X.fs [] H (upd (upd H dx (exd dx [(f, y)])) a (exq a C (some dx) t1)) hp h' := {
    keep := fun b o q n _ _ => k b o (na n) q
    slot := fun b o q n _ _ => ⟨o.slots, k b o (na n) q⟩
    free := fun b o q n _ => ((upd_ne (na n)).trans (upd_ne (nd q))).trans n
    there := fun b o q _ => by
      by_cases hb : b = a
      · exact ⟨_, hb ▸ hx⟩
      · exact ⟨o, k b o hb q⟩
    tups := fun b xs q => ((upd_ne (at_ne e q exq_tup)).trans (upd_ne (ne_of_none q hnd))).trans q
    frzs := fun b o v q => ((upd_ne (at_ne e q exq_frz)).trans (upd_ne (ne_of_none q hnd))).trans q
    tbls := fun b ps q => ⟨#[], by rw [upd_ne (at_ne e q exq_tbl), upd_ne (ne_of_none q hnd), q]; simp⟩ }
  refine h dx _ hnd dne (I.un (t' := tk') Un1 fun b o q => ?_)
  by_cases hb : b = a
  · subst hb
    cases upd_same.symm.trans q
    exact exq_ok hx
  · rw [upd_ne hb] at q
    by_cases hd : b = dx
    · subst hd
      cases upd_same.symm.trans q
      exact exd_ok hn (relO_put (fs := []) ry fun g => True.intro)
    · rw [upd_ne hd] at q
      refine (I.hok b o q).stay (fun c v hc z => k c v ?_ z)
        (fun c hc => ((upd_ne (at_ne e hc exq_own)).trans (upd_ne (ne_of_none hc hnd))).trans hc)
        (fun c xs hc => ((upd_ne (at_ne e hc exq_tup)).trans (upd_ne (ne_of_none hc hnd))).trans hc)
      rcases hc with hc | hc
      · exact hc ▸ hb
      · exact at_ne e hc exq_own

/-- ValueError.__init__(e, ..): its args are laid anew, at a place of their own -/
theorem init_args {prog : Program} {w : World} {A : Around} {R : Result → Shared → Prop} {h : Heap}
    {g : Array GenState} {d : Drawn} {t : Nat} {os : OsState} {nm q : Str} {C N : Addr} {bs bm bmB : List Value}
    {hdct : Bool} {sn : List Str} {sub : List Value} {ab : Bool} {col : Option Bool} {dd : Option Addr}
    {k0 k1 k2 k3 k5 : Option Value} {B newId initId : String} (F : ExcBaseFacts B newId initId bmB)
    (hT : ∀ X : String, bm.contains (.type X) = bmB.contains (.type X)) {e t0 : Addr} {rest : List Value}
    (hC : h.get? C = some (excClassObj nm q C N bs bm hdct sn sub ab col dd k0 k1 k2 k3 k5 newId))
    (he : h.get? e = some (exOb C none t0)) (hrest : rest.length ≤ sizeLine)
    (hq : ∀ h' t1, h.objs.size ≤ t1 → (∀ b o, b ≠ e → h.get? b = some o → h'.get? b = some o) →
      h'.get? e = some (exOb C none t1) → h'.get? t1 = some (PySem.W.kdv_tup rest) →
      R (.ok (.ret .none)) ⟨h', g, d, t, os⟩) :
    codeAny (model prog w) A (.call (.builtin initId) ⟨.ref e :: rest, []⟩) R ⟨h, g, d, t, os⟩ := by
  refine codeAny_call_builtin F.init.plain F.initEntry (PySem.HandSPX.check_init_own F hT hC he rfl ?_)
  have hes : e ≠ h.objs.size := Nat.ne_of_lt (Heap.lt_size he)
  wp_walk
  refine hq _ h.objs.size (Nat.le_refl _) (fun b o hb ho => ?_) ?_ ?_
  · exact (Heap.get?_update_other _ _ (Ne.symm hb)).trans (Heap.get?_push_of_some _ ho)
  · exact (Heap.get?_update_self _ (Heap.get?_push_of_some _ he) rfl).trans rfl
  · exact (Heap.get?_update_other _ _ hes).trans (Heap.get?_push_size _ rfl)

theorem eq_init {us : List Value} {ws : List V} {Q : Value → Shared → Prop} (T : OexC X.K C) (I : Inv X pins σ H s)
    (e : H a = some (exq a C none t1)) (hl : us.length ≤ sizeLine) (rw' : Vals ws us)
    (h : ∀ t2 s', H t2 = none → t2 ≠ a → Inv X pins σ (upd (upd H t2 (.tup ws)) a (exq a C none t2)) s' → Q .none s') :
    wpAny (model X.prog X.w) A (call (.builtin "ValueError.__init__") (.ref a :: us)) Q E s := by
  obtain ⟨nm, q, N, bs, bm, sn, sub, ab, col, dd, k0, k1, k2, k3, k5, hC, hbm⟩ := T.cls
  have ho := exq_at I.hok e
  obtain ⟨hp, g, d, t, os⟩ := s
  refine wpAny_call (init_args F.excBase_ValueError (fun Y => PySem.HandSPX.refsVE_contains Y bm hbm)
    (I.kIn _ _ hC) ho hl fun h' t2 hsz k hx ht => ?_)
  have nt : H t2 = none := I.hok.fresh hsz
  have nea : t2 ≠ a := (ne_of_none e nt).symm
  have na : ∀ {b : Addr}, H b = none → b ≠ a := fun {b} n z => by rw [z, e] at n; cases n
  have nd : ∀ {b : Addr} {o : Obj}, hp.get? b = some o → b ≠ t2 :=
    fun {b o} q => Nat.ne_of_lt (Nat.lt_of_lt_of_le (Heap.lt_size q) hsz)
  have Un1 : Un X.fs [] H (upd (upd H t2 (.tup ws)) a (exq a C none t2)) hp h' := {
    keep := fun b o q n _ _ => k b o (na n) q
    slot := fun b o q n _ _ => ⟨o.slots, k b o (na n) q⟩
    free := fun b o q n _ => ((upd_ne (na n)).trans (upd_ne (nd q))).trans n
    there := fun b o q _ => by
      by_cases hb : b = a
      · exact ⟨_, hb ▸ hx⟩
      · exact ⟨o, k b o hb q⟩
    tups := fun b xs q => ((upd_ne (at_ne e q exq_tup)).trans (upd_ne (ne_of_none q nt))).trans q
    frzs := fun b o v q => ((upd_ne (at_ne e q exq_frz)).trans (upd_ne (ne_of_none q nt))).trans q
    tbls := fun b ps q => ⟨#[], by rw [upd_ne (at_ne e q exq_tbl), upd_ne (ne_of_none q nt), q]; simp⟩ }
  refine h t2 _ nt nea (I.un (t' := t) Un1 fun b o q => ?_)
  by_cases hb : b = a
  · subst hb
    cases upd_same.symm.trans q
    exact exq_ok hx
  · rw [upd_ne hb] at q
    by_cases hd : b = t2
    · subst hd
      cases upd_same.symm.trans q
      exact ⟨by rw [Paired.length rw']; exact hl, us, rw', _, ht, rfl, _, rfl⟩
    · rw [upd_ne hd] at q
      refine (I.hok b o q).stay (fun c v hc z => k c v ?_ z)
        (fun c hc => ((upd_ne (at_ne e hc exq_own)).trans (upd_ne (ne_of_none hc nt))).trans hc)
        (fun c xs hc => ((upd_ne (at_ne e hc exq_tup)).trans (upd_ne (ne_of_none hc nt))).trans hc)
      rcases hc with hc | hc
      · exact hc ▸ hb
      · exact at_ne e hc exq_own
end

/-! ### the rules -/
/-- ValueError.__init__(self, ..) -/
def tVeq (K : PySem.W.Frag) (ta : TA) : TE := fun σ H Q => ta σ H fun vs H1 =>
  ∃ (a C t0 : Addr) (ws : List V), vs = .ref a :: ws ∧ ws.length ≤ 1000 ∧ OexC K C ∧ H1 a = some (exq a C none t0) ∧
    ∀ t2, H1 t2 = none → t2 ≠ a → Q .non (upd (upd H1 t2 (.tup ws)) a (exq a C none t2))
/-- self.f = e, the first attribute -/
def tEst (K : PySem.W.Frag) (f : Str) (to te : TE) : TS := fun D σ H => te σ H fun y H1 => to σ H1 fun x H2 =>
  ∃ a C t1 : Addr, x = .ref a ∧ OexC K C ∧ PySem.W.findIn K (.ref C) f = some none ∧ H2 a = some (exq a C none t1) ∧
    ∀ dx, H2 dx = none → dx ≠ a → D.nx σ (upd (upd H2 dx (exd dx [(f, y)])) a (exq a C (some dx) t1))
/-- C(e, ..) as a value -/
def tMkq (C : Addr) (sp : Sp) (dvs : List V) (ta : TA) : TE := fun σ H Q => ta σ H fun vs H1 => vs.length ≤ 1000 ∧
  ∀ t0 a, H1 t0 = none → H1 a = none → t0 ≠ a →
    sp (.ref a :: (vs ++ dvs)) (upd (upd H1 t0 (.tup vs)) a (exq a C none t0))
      (fun v H2 => v = .non ∧ Q (.ref a) H2) (fun _ _ _ => False)

section
variable {X : Cx} {o e : Expr} {es : List Expr} {to te : TE} {ta : TA} {f : Str} {p p' p1 p2 pos : Pos}
theorem pe_veq {pl : Sem Bool} (hg : Gl X "ValueError") (hm : X.mg "ValueError" = none)
    (vV : PySem.W.findCls X.K (.type "ValueError") (.type "type") "__init__" = some (.val (.builtin "ValueError.__init__")))
    (ha : PA X (e :: es) ta)
    (hc : eval (.Call (.Attribute (.Name "ValueError" p1) "__init__" p2) (e :: es) [] pos) X.env = (do
      let ov ← eval (.Name "ValueError" p1) X.env
      standAt p2.atName
      let (f, first) ← holding [ov] (getMethod ov "__init__" pl)
      callWith pos f first (backTo pos (starEach (e :: es) X.env)) (backToKw pos (keywordEach [] X.env))) := by rfl)
    (he : starEach (e :: es) X.env = (false, eval e X.env) :: starEach es X.env := by rfl)
    (hpl : (backTo pos (starEach es X.env)).any (·.1) = false := by rfl) :
    PE X (.Call (.Attribute (.Name "ValueError" p1) "__init__" p2) (e :: es) [] pos) (tVeq X.K ta) := by
  refine ⟨fun pins s σ H Q I h => ?_⟩
  refine PySem.W.methodCall_KW (ld_blt I hg hm PyProof.Rows.Boot.«ValueError» ?_ (by decide) (by decide)) hc
  obtain ⟨m, fr⟩ := I.fr
  refine PySem.W.method_type fr I.ok.mod.kin PySem.OEX.typ_VE (by decide +kernel) vV (by decide +kernel) ?_
  refine PyProof.Rows.callWith_method1 (first := []) (thn (ha.run pos pins _ σ H _ (I.tok _) h)
    fun us s1 ⟨vs, H1, I1, r1, a, C, t0, ws, ev, hl, T, ea, q⟩ => ?_) he hpl
  subst ev
  cases r1 with
  | @cons _ u0 _ ur ra rw' =>
    obtain rfl : u0 = Value.ref a := ra
    have hlen : ur.length ≤ sizeLine := by
      rw [← Paired.length rw', sizeLine_eq]
      omega
    exact eq_init T I1 ea hlen rw' fun t2 s' n1 n2 J => ⟨.non, _, J, rfl, q t2 n1 n2⟩

theorem ps_est (ho : PE X o to) (he : PE X e te)
    (hs : swapsWith e (some (.Attribute o f p')) pos.line X.env = pure false := by rfl) :
    PS X (.Assign [.Attribute o f p'] e pos) (tEst X.K f to te) := by
  refine ⟨fun pins s σ H D I h => ?_⟩
  refine plainObj_wpAny_Assign_Attribute (thn (he.run pins s σ H _ I h) fun v s1 ⟨y, H1, I1, r1, q1⟩ =>
    thn (ho.run pins s1 σ H1 _ I1 q1) fun u s2 ⟨x, H2, I2, r2, a, C, t1, ex, T, hno, ea, q⟩ => ?_) hs
  subst ex
  obtain rfl : u = Value.ref a := r2
  exact eq_new T I2 ea hno r1 fun dx s' n ne J => ⟨σ, _, J, q dx n ne⟩

/-- C.m(e, ..), C an own class, m a def of it: read off the class -/
theorem pe_off {x m : Str} {CX : CXT} {k : Nat} {C g : Addr} {fd : FuncData} {ps : List Str} {sp : Sp} {E : XK}
    {dvs : List V} {ds : List Value} {pl : Sem Bool} (hg : Gl X x) (hm : X.mg x = some (.ref C))
    (sg : PySem.W.specialIn X.K (.ref C) "__getattribute__" = some (some (.builtin "type.__getattribute__")))
    (rd : PySem.W.readsIn X.K C (.type "type") = true)
    (at_ : PySem.W.findCls X.K (.ref C) (.type "type") m = some (.val (.ref g)))
    (kg : PySem.W.keepIn X.K (.ref g) = true)
    (F : FnOk X.prog X.w X.K X.mg X.base CX k g fd ps sp) (hr : Room k X.A) (hb : Binds X.K fd ps ds)
    (hd : Vals dvs ds) (hx : Passes CX X E) (ha : PA X (e :: es) ta)
    (hdb : (x == ("__debug__" : Str)) = false := by decide)
    (hc : eval (.Call (.Attribute (.Name x p1) m p2) (e :: es) [] pos) X.env = (do
      let ov ← eval (.Name x p1) X.env
      standAt p2.atName
      let (f, first) ← holding [ov] (getMethod ov m pl)
      callWith pos f first (backTo pos (starEach (e :: es) X.env)) (backToKw pos (keywordEach [] X.env))) := by rfl)
    (he : starEach (e :: es) X.env = (false, eval e X.env) :: starEach es X.env := by rfl)
    (hpl : (backTo pos (starEach es X.env)).any (·.1) = false := by rfl) :
    PE X (.Call (.Attribute (.Name x p1) m p2) (e :: es) [] pos) (tCall sp dvs E ta) := by
  refine ⟨fun pins s σ H Q I h => ?_⟩
  refine PySem.W.methodCall_KW (ld_glob I hg hm ?_ hdb) hc
  refine PySem.W.method_cls I.kIn sg (PySem.W.cls_value I.kIn rd at_ rfl ?_)
  refine PySem.W.callWith_K (first := []) (h₀ := X.base) I.ok.mod.kin kg
    (thn (ha.run pos pins _ σ H _ (I.tok _) h) fun us s1 ⟨vs, H1, I1, r, q⟩ => ⟨I1.kIn, ?_⟩) he hpl
  exact run_fn F hr hb hd hx I1 r q

theorem pe_mkq {x : Str} {C fI : Addr} {k : Nat} {CX : CXT} {fd : FuncData} {ps : List Str} {sp : Sp}
    {ds : List Value} {dvs : List V} (T : OexC X.K C)
    (iC : PySem.W.findIn X.K (.ref C) "__init__" = some (some (.ref fI)))
    (tI : PySem.W.typeIn X.K (.ref fI) = some (.type "function"))
    (F1 : FnOk X.prog X.w X.K X.mg X.base CX k fI fd ps sp) (hr : Room (k + 1) X.A) (hb : Binds X.K fd ps ds)
    (hd : Vals dvs ds) (hx : Passes CX X (fun _ _ _ => False)) (hg : Gl X x) (hm : X.mg x = some (.ref C))
    (ha : PA X (e :: es) ta) (hdb : (x == ("__debug__" : Str)) = false := by decide)
    (he : starEach (e :: es) X.env = (false, eval e X.env) :: starEach es X.env := by rfl)
    (hpl : (backTo pos (starEach es X.env)).any (·.1) = false := by rfl) :
    PE X (.Call (.Name x p) (e :: es) [] pos) (tMkq C sp dvs ta) := by
  refine ⟨fun pins s σ H Q I h => ?_⟩
  obtain ⟨nm, q, N, bs, bm, sn, sub, ab, col, dd, k0, k1, k2, k3, k5, hC, hbm⟩ := T.cls
  refine wpAny_Call_Name_kw (ld_glob I hg hm ?_ hdb)
  refine PySem.W.callWith_K (h₀ := X.base) I.ok.mod.kin T.kC
    (thn (ha.run pos pins s σ H _ I h) fun us s1 ⟨vs, H1, I1, r1, hz, q1⟩ => ⟨I1.kIn, ?_⟩) he hpl
  show wpAny _ _ (call (.ref C) us) _ _ _
  obtain ⟨hp, g, dr, tk, os⟩ := s1
  have n0 : H1 hp.objs.size = none := I1.hok.fresh (Nat.le_refl _)
  have n1 : H1 (hp.objs.size + 1) = none := I1.hok.fresh (Nat.le_succ _)
  have hne : hp.objs.size ≠ hp.objs.size + 1 := Nat.ne_of_lt (Nat.lt_succ_self _)
  have hq := q1 hp.objs.size (hp.objs.size + 1) n0 n1 hne
  have hus : us.length ≤ sizeLine := by
    rw [← Paired.length r1, sizeLine_eq]
    omega
  have I2 : Inv X pins σ (upd H1 hp.objs.size (.tup vs)) ⟨hp.push (PySem.W.kdv_tup us), g, dr, tk, os⟩ :=
    I1.laid (t' := tk) (a := hp.objs.size) (o := .tup vs) (h' := hp.push (PySem.W.kdv_tup us))
      (fun b o z => Heap.get?_push_of_some _ z) (Nat.le_refl _)
      ⟨by rw [Paired.length r1]; exact hus, us, r1, _, Heap.get?_push_size _ rfl, rfl, _, rfl⟩
  have hget : ((hp.push (PySem.W.kdv_tup us)).push (exOb C none hp.objs.size)).get? (hp.objs.size + 1) =
      some (exOb C none hp.objs.size) := by heap_get
  have hsz2 : (hp.push (PySem.W.kdv_tup us)).objs.size ≤ hp.objs.size + 1 := by
    simp [Heap.push]
  have I3 : Inv X pins σ (upd (upd H1 hp.objs.size (.tup vs)) (hp.objs.size + 1) (exq (hp.objs.size + 1) C none hp.objs.size))
      ⟨(hp.push (PySem.W.kdv_tup us)).push (exOb C none hp.objs.size), g, dr, tk, os⟩ :=
    I2.laid (t' := tk) (a := hp.objs.size + 1) (o := exq (hp.objs.size + 1) C none hp.objs.size)
      (h' := (hp.push (PySem.W.kdv_tup us)).push (exOb C none hp.objs.size))
      (fun b o z => Heap.get?_push_of_some _ z) hsz2 (exq_ok hget)
  have r2 : Vals (V.ref (hp.objs.size + 1) :: (vs ++ dvs)) (Value.ref (hp.objs.size + 1) :: (us ++ ds)) :=
    .cons rfl (r1.append hd)
  have hl : (Value.ref (hp.objs.size + 1) :: us ++ ds).length = ps.length :=
    r2.length.symm.trans (F1.len _ _ _ _ hq)
  refine wpAny_call (PySem.HandSPX.call_own F.excBase_ValueError (fun Y => PySem.HandSPX.refsVE_contains Y bm hbm)
    (I1.kIn _ _ hC) (PySem.W.looks_findIn I1.kIn iC) (fun self => PySem.W.bind_fn I1.kIn self tI) hus
    (codeAny_mono (F1.run _ X.stack _ _ ⟨Value.ref (hp.objs.size + 1) :: us, []⟩
      (Value.ref (hp.objs.size + 1) :: (us ++ ds)) _ _ (fun _ _ _ => False) (hr.make C us []) (I3.env0.make C us [])
      (hb _ (Value.ref (hp.objs.size + 1) :: us) I3.kIn hl) r2 hq) fun r s' hq' => ?_))
  match r, hq' with
  | .error er, hq' => exact hx pins σ _ _ er s' I3 hq'
  | .ok (.ret u), hq' =>
    obtain ⟨v, H', I4, rv, ev, q3⟩ := I3.after hq'
    subst ev
    exact ⟨rv, ⟨V.ref (hp.objs.size + 1), H', I4, rfl, q3⟩⟩
  | .ok .next, hq' => exact False.elim hq'
  | .ok .brk, hq' => exact False.elim hq'
  | .ok .cont, hq' => exact False.elim hq'
end
end Pw

/-! What repr tells of a value: of data that are tracked, with exceptions of one's own among them. -/
namespace Pw
open PySem PySem.Spec PyProof.Rows L2
open Sem (wp)
open Builtin Builtin.Str Builtin.BaseException Builtin.Exceptions

/-- how a class's name stands in what is shown -/
def clsHead (n : Str) : Str := Str.ofString ((n.toString.cutAt '.').getLastD "")
/-- what the class of an exception must say, so that it is shown by its name and its args -/
structure ExR (K : PySem.W.Frag) (C : Addr) (nm : Str) : Prop where
  rep : PySem.W.findIn K (.ref C) "__repr__" = some (some (.builtin "BaseException.__repr__"))
  sub : PySem.W.subIn K (.ref C) (.type "BaseException") = some true
  nam : ∃ cd, PySem.W.clsIn K C = some cd ∧ cd.name = nm

mutual
/-- repr of the value is the text; the first number: how deep it is; the second: no less than the text's length -/
inductive Shw (K : PySem.W.Frag) (H : Hp) : V → Nat → Nat → Str → Prop
  | non : Shw K H .non 0 5 "None"
  | bl (b : Bool) : Shw K H (.bl b) 0 5 (if b then "True" else "False")
  | int (i : Int) (h : i.natAbs.log2 < 1920) : Shw K H (.int i) 0 1921 (toString i)
  | str (x : Str) (m : Nat) (h : (reprText x).length ≤ m) : Shw K H (.str x) 0 m (reprText x)
  | lst {a : Addr} {xs : List V} {d n : Nat} {ts : List Str} (e : H a = some (.lst xs)) (h : ShwL K H xs d n ts) :
      Shw K H (.ref a) (d + 1) (n + 2) (listText ts)
  | tup {a : Addr} {xs : List V} {d n : Nat} {ts : List Str} (e : H a = some (.tup xs)) (h : ShwL K H xs d n ts) :
      Shw K H (.ref a) (d + 1) (n + 3) (tupleText ts)
  | dct {a : Addr} {kvs : List (Key × V)} {d1 d2 n1 n2 : Nat} {ks vs : List Str} (e : H a = some (.dK kvs))
      (h1 : ShwL K H (kvs.map fun p => kV p.1) d1 n1 ks) (h2 : ShwL K H (kvs.map fun p => p.2) d2 n2 vs) :
      Shw K H (.ref a) (max d1 d2 + 1) (n1 + n2 + 2) (dictText (List.zipWith (fun k v : Str => k ++ ": " ++ v) ks vs))
  | exc {a C t : Addr} {d : Option Addr} {x nm : Str} {n1 n2 : Nat} (e : H a = some (exq a C d t))
      (et : H t = some (.tup [.str x])) (c : ExR K C nm) (l1 : (clsHead nm).length ≤ n1) (l2 : (reprText x).length ≤ n2) :
      Shw K H (.ref a) 0 (n1 + n2 + 2) (clsHead nm ++ "(" ++ reprText x ++ ")")
inductive ShwL (K : PySem.W.Frag) (H : Hp) : List V → Nat → Nat → List Str → Prop
  | nil : ShwL K H [] 0 0 []
  | cons {v : V} {vs : List V} {d e n m : Nat} {t : Str} {ts : List Str} (h : Shw K H v d n t) (hs : ShwL K H vs e m ts) :
      ShwL K H (v :: vs) (max d e) (n + 2 + m) (t :: ts)
end

theorem dK_lst {kvs : List (Key × V)} {xs : List V} : HO.dK kvs ≠ HO.lst xs := fun z => nomatch z
theorem dK_exq {kvs : List (Key × V)} {e C t : Addr} {d : Option Addr} : HO.dK kvs ≠ exq e C d t := fun z => by
  have z' : HO.dK kvs = HO.ext _ := z
  cases z'
section
variable {K : PySem.W.Frag} {H : Hp}
mutual
/-- a value is as deep as it is -/
theorem Shw.one : ∀ {v : V} {d n d' n' : Nat} {t t' : Str}, Shw K H v d n t → Shw K H v d' n' t' → d = d'
  | _, _, _, _, _, _, _, .non, .non => rfl
  | _, _, _, _, _, _, _, .bl _, .bl _ => rfl
  | _, _, _, _, _, _, _, .int _ _, .int _ _ => rfl
  | _, _, _, _, _, _, _, .str _ _ _, .str _ _ _ => rfl
  | _, _, _, _, _, _, _, .lst e h, .lst e' h' => by
    cases e.symm.trans e'
    rw [ShwL.one h h']
  | _, _, _, _, _, _, _, .lst e h, .tup e' h' => nomatch e.symm.trans e'
  | _, _, _, _, _, _, _, .lst e h, .dct e' _ _ => nomatch e.symm.trans e'
  | _, _, _, _, _, _, _, .lst e h, .exc e' _ _ _ _ => absurd (Option.some.inj (e.symm.trans e')).symm exq_lst
  | _, _, _, _, _, _, _, .tup e h, .lst e' h' => nomatch e.symm.trans e'
  | _, _, _, _, _, _, _, .tup e h, .tup e' h' => by
    cases e.symm.trans e'
    rw [ShwL.one h h']
  | _, _, _, _, _, _, _, .tup e h, .dct e' _ _ => nomatch e.symm.trans e'
  | _, _, _, _, _, _, _, .tup e h, .exc e' _ _ _ _ => absurd (Option.some.inj (e.symm.trans e')).symm exq_tup
  | _, _, _, _, _, _, _, .dct e _ _, .lst e' h' => nomatch e.symm.trans e'
  | _, _, _, _, _, _, _, .dct e _ _, .tup e' h' => nomatch e.symm.trans e'
  | _, _, _, _, _, _, _, .dct e h1 h2, .dct e' h1' h2' => by
    cases e.symm.trans e'
    rw [ShwL.one h1 h1', ShwL.one h2 h2']
  | _, _, _, _, _, _, _, .dct e _ _, .exc e' _ _ _ _ => absurd (Option.some.inj (e.symm.trans e')) dK_exq
  | _, _, _, _, _, _, _, .exc e _ _ _ _, .lst e' h' => absurd (Option.some.inj (e.symm.trans e')) exq_lst
  | _, _, _, _, _, _, _, .exc e _ _ _ _, .tup e' h' => absurd (Option.some.inj (e.symm.trans e')) exq_tup
  | _, _, _, _, _, _, _, .exc e _ _ _ _, .dct e' _ _ => absurd (Option.some.inj (e.symm.trans e')).symm dK_exq
  | _, _, _, _, _, _, _, .exc e _ _ _ _, .exc e' _ _ _ _ => rfl
theorem ShwL.one : ∀ {vs : List V} {d n d' n' : Nat} {ts ts' : List Str}, ShwL K H vs d n ts → ShwL K H vs d' n' ts' → d = d'
  | _, _, _, _, _, _, _, .nil, .nil => rfl
  | _, _, _, _, _, _, _, .cons h hs, .cons h' hs' => by rw [Shw.one h h', ShwL.one hs hs']
end

/-- the length of a join of texts, each with two signs more -/
theorem join_le (sep : Str) (hsep : sep.length = 2) : ∀ ts : List Str, (Str.join sep ts).length ≤ (ts.map fun t => t.length + 2).sum
  | [] => by
    show (Str.join sep []).length ≤ 0
    exact Nat.le_of_eq rfl
  | [x] => by
    show x.length ≤ _
    simp only [List.map_cons, List.map_nil, List.sum_cons, List.sum_nil]
    omega
  | x :: y :: r => by
    have ih := join_le sep hsep (y :: r)
    show (x ++ sep ++ Str.join sep (y :: r)).length ≤ _
    rw [strLen_append, strLen_append, hsep]
    simp only [List.map_cons, List.sum_cons] at ih ⊢
    omega
theorem textFrom_le : ∀ (ts : List Str) (i : Nat) (b : Str), (textFrom i b ts).length ≤ b.length + (ts.map fun t => t.length + 2).sum := by
  intro ts
  induction ts with
  | nil =>
    intro i b
    exact Nat.le_add_right _ _
  | cons t r ih =>
    intro i b
    have h := ih (i + 1) (b ++ Str.ofString (if 0 < i then ", " else "") ++ t)
    have e : textFrom i b (t :: r) = textFrom (i + 1) (b ++ Str.ofString (if 0 < i then ", " else "") ++ t) r := rfl
    rw [e]
    refine Nat.le_trans h ?_
    rw [strLen_append, strLen_append]
    have h2 : (Str.ofString (if 0 < i then ", " else "")).length ≤ 2 := by
      split <;> decide +kernel
    simp only [List.map_cons, List.sum_cons]
    omega
mutual
theorem Shw.len : ∀ {v : V} {d n : Nat} {t : Str}, Shw K H v d n t → t.length ≤ n
  | _, _, _, _, .non => by decide +kernel
  | _, _, _, _, .bl b => by cases b <;> decide +kernel
  | _, _, _, _, .int i h => int_text_len_1921 h
  | _, _, _, _, .str x m h => h
  | _, _, _, _, .lst (ts := ts) e h => by
    have h1 := ShwL.len h
    have h2 := textFrom_le ts 0 "["
    have e1 : ("[" : Str).length = 1 := rfl
    have e2 : (listText ts).length = (textFrom 0 "[" ts).length + 1 := by
      show (textFrom 0 "[" ts ++ "]").length = _
      rw [strLen_append]; rfl
    omega
  | _, _, _, _, .tup (ts := ts) e h => by
    have h1 := ShwL.len h
    have h2 := join_le ", " rfl ts
    unfold tupleText
    rw [strLen_append, strLen_append]
    have e1 : ("(" : Str).length = 1 := rfl
    have e2 : (Str.ofString (if (ts.length == 1) = true then ",)" else ")")).length ≤ 2 := by split <;> decide +kernel
    omega
  | _, _, _, _, .dct (ks := ks) (vs := vs) e h1 h2 => by
    have q1 := ShwL.len h1
    have q2 := ShwL.len h2
    have q3 := join_le ", " rfl (List.zipWith (fun k v : Str => k ++ ": " ++ v) ks vs)
    have q4 : ∀ (ks vs : List Str), ((List.zipWith (fun k v : Str => k ++ ": " ++ v) ks vs).map fun t => t.length + 2).sum ≤ (ks.map fun t => t.length + 2).sum + (vs.map fun t => t.length + 2).sum := by
      intro ks
      induction ks with
      | nil => intro vs; simp
      | cons k r ih =>
        intro vs
        cases vs with
        | nil => simp
        | cons v r' =>
          have i1 := ih r'
          have i2 : (k ++ (": " : Str) ++ v).length = k.length + 2 + v.length := by
            rw [strLen_append, strLen_append]; rfl
          simp only [List.zipWith_cons_cons, List.map_cons, List.sum_cons] at i1 ⊢
          omega
    have q5 := q4 ks vs
    unfold dictText
    rw [strLen_append, strLen_append]
    have e1 : ("{" : Str).length = 1 := rfl
    have e2 : ("}" : Str).length = 1 := rfl
    omega
  | _, _, _, _, .exc e et c l1 l2 => by
    rw [strLen_append, strLen_append, strLen_append]
    have e1 : ("(" : Str).length = 1 := rfl
    have e2 : (")" : Str).length = 1 := rfl
    omega
theorem ShwL.len : ∀ {vs : List V} {d n : Nat} {ts : List Str}, ShwL K H vs d n ts → (ts.map fun t => t.length + 2).sum ≤ n
  | _, _, _, _, .nil => Nat.le_refl _
  | _, _, _, _, .cons h hs => by
    have h1 := Shw.len h
    have h2 := ShwL.len hs
    simp only [List.map_cons, List.sum_cons]
    omega
end
end

/-! ### an exception of one's own is shown -/
section
variable {prog : Program} {w : World} {h₀ : Heap} {K : PySem.W.Frag} {C : Addr} {nm : Str}
theorem typ_at {M : Model} {h : Heap} {e t : Addr} {d : Option Addr} (he : h.get? e = some (exOb C d t)) :
    PySem.W.Looks M h (typeOf (.ref e)) (.ref C) := by
  intro A' Q' E' s' k q
  unfold typeOf
  exact wpAny_bind (wpAny_loadPart (k _ _ he) (wpAny_pure q))
/-- the displayed class, by name -/
theorem name_of {M : Model} {A : Around} {E : Value → Shared → Prop} {s : Shared} {e t : Addr} {d : Option Addr}
    {cd : ClassData} {Q : String → Shared → Prop} (X : K.In s.heap) (he : s.heap.get? e = some (exOb C d t))
    (hc : PySem.W.clsIn K C = some cd) (hq : Q cd.name.toString s) : wpAny M A (typeNameOfWhole (.ref e)) Q E s := by
  unfold typeNameOfWhole shownTypeOf
  have L0 : PySem.W.Looks M s.heap (typeOf (.ref e)) (.ref C) := typ_at he
  refine wpAny_bind (wpAny_bind (L0.here ?_))
  have e0 : (Value.ref C == Value.type "builtin_function_or_method") = false := rfl
  simp only [e0, Bool.false_eq_true, if_false]
  refine wpAny_pure ?_
  unfold typeNameWhole
  exact wpAny_bind ((PySem.W.looks_clsIn X hc).here (wpAny_pure hq))

theorem exc_body {A : Around} {E : Value → Shared → Prop} {s : Shared} {e t : Addr} {d : Option Addr} {cd : ClassData}
    {x : Str} {tk : Tok} {Q : Fin → Shared → Prop} (b : Nat) (X : K.In s.heap) (he : s.heap.get? e = some (exOb C d t))
    (ht : s.heap.TupAt t [.str x tk]) (hc : PySem.W.clsIn K C = some cd)
    (hq : Q (.done (.ret (.str (clsHead cd.name ++ "(" ++ reprText x ++ ")") (s.toks + 1)))) { s with toks := s.toks + 1 + 1 })
    (hsz : b + (clsHead cd.name ++ "(" ++ reprText x ++ ")").length ≤ sizeLine) :
    wpAny (model prog w) A (Builtin.bexcReprAt b ⟨[.ref e], []⟩) Q E s := by
  have e1 : b + (clsHead cd.name ++ Str.ofString "(" ++ reprText x ++ Str.ofString ")").length ≤ sizeLine := hsz
  have hsz2 : (clsHead cd.name ++ Str.ofString "(" ++ reprText x ++ Str.ofString ")").length ≤ sizeLine := by omega
  have eP : (Str.ofString "(").length = 1 := rfl
  rw [strLen_append, strLen_append, strLen_append, eP] at e1
  have hsz1 : (reprText x).length ≤ sizeLine := by omega
  have hpile : b + ((clsHead cd.name).length + 1) ≤ sizeLine := by omega
  obtain ⟨ot, k, hto, _, htd⟩ := id ht
  have args : ∀ {A' : Around} {E' : Value → Shared → Prop} {Q' : Value × List Value → Shared → Prop},
      Q' (.ref t, [.str x tk]) s → wpAny (model prog w) A' (bexcArgs (.ref e)) Q' E' s := fun {A' E' Q'} q => by
    unfold bexcArgs
    exact wpAny_bind (wpAny_field he rfl rfl (wpAny_bind (wpAny_seqItems hto htd (wpAny_pure q))))
  unfold Builtin.bexcReprAt
  unfold clsHead at hpile hsz2
  repeat (first | with_reducible refine name_of X he hc ?_ | with_reducible refine args ?_ | rw [pyReprUnder_leaf (v := .str x tk) hpile (by intro a; nofun)] | with_reducible refine wpAny_pyRepr_str ?_ | wp_step)
  exact hq

theorem ReprK.exq {e t : Addr} {d : Option Addr} {x : Str} {tk : Tok} (X : K.In h₀) (he : h₀.get? e = some (exOb C d t))
    (ht : h₀.TupAt t [.str x tk]) (R : ExR K C nm) :
    ReprK prog w [] h₀ 0 (.ref e) (clsHead nm ++ "(" ++ reprText x ++ ")") := by
  intro base hb A g E s Q hg hcl hu hk0 hQ
  obtain ⟨cd, hc, rfl⟩ := R.nam
  have X' : K.In s.heap := fun a o z => hk0 a o (X a o z)
  have he' := hk0 _ _ he
  have ht' : s.heap.TupAt t [.str x tk] := let ⟨o, k, h1, h2⟩ := ht; ⟨o, k, hk0 _ _ h1, h2⟩
  have L0 : PySem.W.Looks (model prog w) s.heap (typeOf (.ref e)) (.ref C) := typ_at he'
  have L1 := PySem.W.looks_findIn (M := model prog w) X' R.rep
  have sub : PySem.W.Looks (model prog w) s.heap (isInstance (.ref e) (.type "BaseException")) true :=
    L0.andThen (PySem.W.looks_subIn X' R.sub)
  refine wpAny_pyReprUnder_ref (by omega) ?_
  unfold pyReprObjUnder pyReprObjBy
  refine wpAny_bind (wpAny_cRoomFor (by omega) ?_)
  refine wpAny_bind (wpAny_bind (L0.here (L1.here ?_)))
  have last : wpAny (model prog w) A (call (.builtin "BaseException.__repr__.under") [.ref e, rawInt base])
      (fun v s' => ∃ y u, v = .str y u ∧ Q y s') E s := by
    refine wpAny_call (codeAny_call_builtin F.plain_bexc_repr_under F.entry_bexc_repr_under ?_)
    rw [F.check_bexc_repr_under]
    refine wpAny_pure ?_
    show wpAny _ _ (reprTwin "BaseException.__repr__" Builtin.bexcReprAt ⟨[.ref e, rawInt base], []⟩) _ _ _
    rw [reprTwin_eq]
    refine wpAny_bind (PySem.W.check_slot (i := "BaseException.__repr__") (owner := "BaseException") (n := "__repr__")
      (by decide +kernel) (by decide +kernel) sub (F.args_bexc_repr _) ?_)
    refine exc_body base X' he' ht' hc ?_ hb
    exact ⟨_, _, rfl, hQ s.heap _ fun _ _ z => z⟩
  simp only [Option.isNone_some, Bool.false_eq_true, if_false, callSpecialIfBoundBy?, bindSpecialIfBound?]
  refine wpAny_bind (wpAny_holding (wpAny_bind (wpAny_bind (wpAny_bind (L0.here (L1.here ?_))))))
  have fin : wpAny (model prog w) A (call (.builtin "BaseException.__repr__.under") [.ref e, rawInt base] >>= fun v => pure (some v))
      (fun r s' => wpAny (model prog w) A (match r with
        | some r => do
          if (← isInstance r (.type "str")) = true then pure r else
            raiseError "TypeError" s!"__repr__ returned non-string (type {← typeNameOf r})"
        | none => unsupported "repr:special-get-raises") (fun v s' => ∃ y u, v = .str y u ∧ Q y s') E s') E s :=
    wpAny_bind (wpAny_mono last (fun v s' z => by
      obtain ⟨y, u, rfl, q⟩ := z
      exact wpAny_pure (wpAny_bind (wpAny_isInstance (T := "str") (b := true) rfl isSubtype_str_str (wpAny_pure ⟨y, u, rfl, q⟩))))
      fun _ _ z => z)
  have bd : bindSpecial (.builtin "BaseException.__repr__") (.ref e) = pure (.builtin "BaseException.__repr__", [.ref e]) :=
    F.excStr_ValueError.repr.bind _
  dsimp only
  simp only [bd]
  refine wpAny_bind (wpAny_askSetting (wpAny_ite ?_))
  split
  · exact wpAny_bind (wpAny_pure (wpAny_pure fin))
  · exact wpAny_tryCatch (wpAny_bind (wpAny_pure (wpAny_pure fin)))
end
end Pw

namespace Pw
open PySem PySem.Spec PyProof.Rows L2

/-- places that are shown no deeper than that -/
def AtM (K : PySem.W.Frag) (H : Hp) (n : Nat) (bs : List Addr) : Prop :=
  ∀ b ∈ bs, ∃ d m t, Shw K H (.ref b) d m t ∧ d ≤ n
theorem AtM.mono {K : PySem.W.Frag} {H : Hp} {n m : Nat} {bs : List Addr} (h : AtM K H n bs) (l : n ≤ m) : AtM K H m bs :=
  fun b hb => let ⟨d, k, t, s, z⟩ := h b hb; ⟨d, k, t, s, Nat.le_trans z l⟩
theorem AtM.app {K : PySem.W.Frag} {H : Hp} {n : Nat} {as bs : List Addr} (h : AtM K H n as) (g : AtM K H n bs) :
    AtM K H n (as ++ bs) := fun b hb => (List.mem_append.mp hb).elim (h b) (g b)
theorem AtM.out {K : PySem.W.Frag} {H : Hp} {n d m : Nat} {a : Addr} {t : Str} {bs : List Addr} (h : AtM K H n bs)
    (s : Shw K H (.ref a) d m t) (l : n < d) : a ∉ bs := fun hm => by
  obtain ⟨d', m', t', s', z⟩ := h a hm
  have e := Shw.one s s'
  omega
theorem AtM.con {K : PySem.W.Frag} {H : Hp} {n d m : Nat} {a : Addr} {t : Str} {bs : List Addr} (h : AtM K H n bs)
    (s : Shw K H (.ref a) d m t) (l : n ≤ d) : AtM K H d (a :: bs) := fun b hb => by
  rcases List.mem_cons.mp hb with e | hb
  · subst e
    exact ⟨d, m, t, s, Nat.le_refl _⟩
  · exact (h.mono l) b hb

theorem pairs_keys {P : Program} {w : World} : ∀ {kvs : List (Key × V)} {vs : List (Key × Value)} {es : List DictEntry},
    KV kvs vs → PySem.Pairs (mixKind P w) es vs →
    Vals (kvs.map fun p => kV p.1) (es.map (·.key)) ∧ Vals (kvs.map fun p => p.2) (es.map (·.val))
  | _, _, _, .nil, .nil => ⟨.nil, .nil⟩
  | _, _, _, .cons (a := p) (b := q) h hs, .cons (e := e) hk hv ps => by
    obtain ⟨h1, h2⟩ := pairs_keys hs ps
    refine ⟨.cons ?_ h1, .cons ?_ h2⟩
    · have hk' : keyIs q.1 e.key = true := hk
      show RelV (kV p.1) e.key
      rw [h.1]
      rcases keyIs_shape hk' with ⟨i, t, e1, e2⟩ | ⟨x, t, e1, e2⟩
      · rw [e1, e2]; exact ⟨t, rfl⟩
      · rw [e1, e2]; exact ⟨t, rfl⟩
    · show RelV p.2 e.val
      rw [hv]; exact h.2

section
variable {P : Program} {w : World} {K : PySem.W.Frag} {H : Hp} {h : Heap}
mutual
theorem Shw.run (hok : HOk P w H h) (X : K.In h) : ∀ {v : V} {d n : Nat} {t : Str}, Shw K H v d n t → n ≤ sizeLine →
    ∀ u, RelV v u → ∃ bs, AtM K H d bs ∧ ReprK P w bs h d u t
  | _, _, _, _, .non, _, u, r => by
    obtain rfl : u = Value.none := r
    exact ⟨[], (fun _ z => nomatch z), .of_is ReprIs.none _ _ _⟩
  | _, _, _, _, .bl b, _, u, r => by
    obtain rfl : u = Value.bool b := r
    exact ⟨[], (fun _ z => nomatch z), .of_is (ReprIs.bool b) _ _ _⟩
  | _, _, _, _, .int i hi, _, u, r => by
    obtain ⟨t, rfl⟩ := (show ∃ t, u = Value.int i t from r)
    exact ⟨[], (fun _ z => nomatch z), .of_is (ReprIs.int t hi) _ _ _⟩
  | _, _, _, _, .str x m hm, hl, u, r => by
    obtain ⟨t, rfl⟩ := (show ∃ t, u = Value.str x t from r)
    exact ⟨[], (fun _ z => nomatch z), .of_is (ReprIs.str x t (Nat.le_trans hm hl)) _ _ _⟩
  | _, _, _, _, .lst (a := a) (xs := xs) (d := d) (ts := ts) e hs, hl, u, r => by
    obtain rfl : u = Value.ref a := r
    obtain ⟨_, its, k, rv, h1⟩ := (show ObjOk P w H h a (.lst xs) from hok a _ e)
    obtain ⟨bs, hb, hk⟩ := ShwL.run hok X hs (by omega) its rv
    have sh := Shw.lst e hs
    have hna := hb.out sh (Nat.lt_succ_self _)
    refine ⟨a :: bs, hb.con sh (Nat.le_succ _), ?_⟩
    cases its with
    | nil =>
      cases hk
      rw [listText_nil]
      exact ReprK.listEmpty h1 rfl rfl
    | cons y l => exact ReprK.list h1 rfl rfl hna (by simpa using hk.length_eq) (fun i z q => hk.item i z (by simpa using q))
  | _, _, _, _, .tup (a := a) (xs := xs) (d := d) (ts := ts) e hs, hl, u, r => by
    obtain rfl : u = Value.ref a := r
    obtain ⟨_, its, rv, o, h1, h2, k, h3⟩ := (show ObjOk P w H h a (.tup xs) from hok a _ e)
    obtain ⟨bs, hb, hk⟩ := ShwL.run hok X hs (by omega) its rv
    have sh := Shw.tup e hs
    exact ⟨a :: bs, hb.con sh (Nat.le_succ _), ReprK.tuple h1 h2 h3 (hb.out sh (Nat.lt_succ_self _)) (by simpa using hk)⟩
  | _, _, _, _, .dct (a := a) (kvs := kvs) (ks := ks) (vs := vs) e hs1 hs2, hl, u, r => by
    obtain rfl : u = Value.ref a := r
    obtain ⟨_, hsys, us, hkv, o, es, ep, h1, h2, h3, _, h4, _⟩ := (show ObjOk P w H h a (.dK kvs) from hok a _ e)
    obtain ⟨r1, r2⟩ := pairs_keys hkv h4
    obtain ⟨b1, hb1, k1⟩ := ShwL.run hok X hs1 (by omega) _ r1
    obtain ⟨b2, hb2, k2⟩ := ShwL.run hok X hs2 (by omega) _ r2
    have sh := Shw.dct e hs1 hs2
    have hb := (hb1.mono (Nat.le_max_left _ _)).app (hb2.mono (Nat.le_max_right _ _))
    exact ⟨a :: (b1 ++ b2), hb.con sh (Nat.le_succ _), ReprK.dict h1 h2.1 h3 hsys (hb.out sh (Nat.lt_succ_self _))
      (ReprEntriesK.of_two es.toList _ _ (k1.more_le (fun b z => List.mem_append_left _ z) (Nat.le_max_left _ _))
        (k2.more_le (fun b z => List.mem_append_right _ z) (Nat.le_max_right _ _)))⟩
  | _, _, _, _, .exc (a := a) (C := C) (t := t) e et c l1 l2, hl, u, r => by
    obtain rfl : u = Value.ref a := r
    obtain ⟨_, its, rv, o, h1, h2, k, h3⟩ := (show ObjOk P w H h t (.tup _) from hok t _ et)
    cases rv with
    | cons rx rr =>
      cases rr
      obtain ⟨tk, rfl⟩ := (show ∃ tk, _ = Value.str _ tk from rx)
      exact ⟨[], (fun _ z => nomatch z), ReprK.exq X (exq_at hok e) ⟨o, k, h1, h2, h3⟩ c⟩
theorem ShwL.run (hok : HOk P w H h) (X : K.In h) : ∀ {vs : List V} {d n : Nat} {ts : List Str}, ShwL K H vs d n ts → n ≤ sizeLine →
    ∀ us, Vals vs us → ∃ bs, AtM K H d bs ∧ ReprAllK P w bs h d us ts
  | _, _, _, _, .nil, _, us, r => by
    cases r
    exact ⟨[], (fun _ z => nomatch z), .nil⟩
  | _, _, _, _, .cons s ss, hl, us, r => by
    cases r with
    | cons rx rr =>
      obtain ⟨b1, hb1, k1⟩ := Shw.run hok X s (by omega) _ rx
      obtain ⟨b2, hb2, k2⟩ := ShwL.run hok X ss (by omega) _ rr
      refine ⟨b1 ++ b2, (hb1.mono (Nat.le_max_left _ _)).app (hb2.mono (Nat.le_max_right _ _)), .cons ?_ ?_⟩
      · exact (k1.more fun b z => List.mem_append_left _ z).level_le (Nat.le_max_left _ _)
      · exact k2.more_le (fun b z => List.mem_append_right _ z) (Nat.le_max_right _ _)
end
end

/-- repr(x): its text -/
def rRepr (K : PySem.W.Frag) : List V → Hp → VK → Prop := fun xs H Q => ∃ (x : V) (d n : Nat) (t : Str),
  xs = [x] ∧ Shw K H x d n t ∧ (∀ a, x = .ref a → 0 < d) ∧ n ≤ sizeLine ∧ d ≤ 60 ∧ Q (.str t) H
theorem call_repr {X : Cx} (gd : X.A.guards = some []) (hu : X.A.units + 64 < cLine) : CallR X (.builtin "repr") (rRepr X.K) := by
  intro pins s σ H xs us Q I r h
  obtain ⟨x, d, n, t, rfl, sh, hpos, hl, hd, q⟩ := h
  have hlen := Shw.len sh
  cases r with
  | cons rx rr =>
    cases rr
    rename_i u
    have hback : ∀ h' uu tk, (∀ b o, s.heap.get? b = some o → h'.get? b = some o) →
        EP X pins σ Q (.str t uu) { s with heap := h', toks := tk } := fun h' uu tk k =>
      ⟨.str t, H, I.kept k, ⟨uu, rfl⟩, q⟩
    cases sh with
    | non =>
      obtain rfl : u = Value.none := rx
      exact PySem.P.repr_of_none (hback s.heap _ _ fun _ _ z => z)
    | bl b =>
      obtain rfl : u = Value.bool b := rx
      exact PySem.P.repr_of_bool (hback s.heap _ _ fun _ _ z => z)
    | int i hi =>
      obtain ⟨tk, rfl⟩ := (show ∃ tk, u = Value.int i tk from rx)
      exact PySem.P.repr_of_int hi (hback s.heap _ _ fun _ _ z => z)
    | str z m hm =>
      obtain ⟨tk, rfl⟩ := (show ∃ tk, u = Value.str z tk from rx)
      exact PySem.P.repr_of_str (hback s.heap _ _ fun _ _ z => z) (Nat.le_trans hm hl)
    | @lst a ys d0 n0 ts e hs =>
      obtain rfl : u = Value.ref a := rx
      obtain ⟨_, its, k, rv, h1⟩ := (show ObjOk X.prog X.w H s.heap a (.lst ys) from I.hok a _ e)
      obtain ⟨bs, hb, hk⟩ := ShwL.run I.hok I.kIn hs (by omega) its rv
      have hna := hb.out (Shw.lst e hs) (Nat.lt_succ_self _)
      refine call_repr_slot (by omega) ⟨_, h1, rfl⟩ F.slot_list_repr.toG ?_
      cases its with
      | nil =>
        cases hk
        rw [listText_nil] at hback
        exact call_list_repr_empty ⟨_, h1, rfl⟩ h1 rfl ⟨_, _, rfl, hback s.heap _ _ fun _ _ z => z⟩
      | cons y l =>
        exact call_list_reprK h1 rfl rfl hna (by simpa using hk.length_eq) (fun i z q => hk.item i z (by simpa using q))
          (g := []) gd (fun b _ => Clear.nil b) (by show X.A.units + 1 + _ < _; omega) (fun _ _ z => z)
          (fun h' uu tk k => ⟨_, _, rfl, hback h' uu tk k⟩) (Nat.le_trans hlen hl)
    | @tup a ys d0 n0 ts e hs =>
      obtain rfl : u = Value.ref a := rx
      obtain ⟨_, its, rv, o, h1, h2, k, h3⟩ := (show ObjOk X.prog X.w H s.heap a (.tup ys) from I.hok a _ e)
      obtain ⟨bs, hb, hk⟩ := ShwL.run I.hok I.kIn hs (by omega) its rv
      have hna := hb.out (Shw.tup e hs) (Nat.lt_succ_self _)
      refine call_repr_slot (by omega) ⟨_, h1, h2⟩ F.slot_tuple_repr ?_
      exact call_tuple_reprK h1 h2 h3 hna (by simpa using hk)
        (g := []) gd (fun b _ => Clear.nil b) (by show X.A.units + 1 + _ < _; omega) (fun _ _ z => z)
        (fun h' uu tk k => ⟨_, _, rfl, hback h' uu tk k⟩) (Nat.le_trans hlen hl)
    | @dct a kvs d1 d2 n1 n2 ks vs e hs1 hs2 =>
      obtain rfl : u = Value.ref a := rx
      obtain ⟨_, hsys, us, hkv, o, es, ep, h1, h2, h3, _, h4, _⟩ := (show ObjOk X.prog X.w H s.heap a (.dK kvs) from I.hok a _ e)
      obtain ⟨r1, r2⟩ := pairs_keys hkv h4
      obtain ⟨b1, hb1, k1⟩ := ShwL.run I.hok I.kIn hs1 (by omega) _ r1
      obtain ⟨b2, hb2, k2⟩ := ShwL.run I.hok I.kIn hs2 (by omega) _ r2
      have hb := (hb1.mono (Nat.le_max_left d1 d2)).app (hb2.mono (Nat.le_max_right d1 d2))
      have hna := hb.out (Shw.dct e hs1 hs2) (Nat.lt_succ_self _)
      refine call_repr_slot (by omega) ⟨_, h1, h2.1⟩ F.slot_dict_repr ?_
      exact call_dict_reprK h1 h2.1 h3 hsys hna
        (ReprEntriesK.of_two es.toList _ _ (k1.more_le (fun b z => List.mem_append_left _ z) (Nat.le_max_left _ _))
          (k2.more_le (fun b z => List.mem_append_right _ z) (Nat.le_max_right _ _)))
        (g := []) gd (fun b _ => Clear.nil b) (by show X.A.units + 1 + _ < _; omega) (fun _ _ z => z)
        (fun h' uu tk k => ⟨_, _, rfl, hback h' uu tk k⟩) (Nat.le_trans hlen hl)
    | exc e et c l1 l2 => exact absurd (hpos _ rfl) (Nat.lt_irrefl 0)

/-! ### what is shown stays while what is tracked stays -/
section
variable {K : PySem.W.Frag} {H H' : Hp}
mutual
theorem Shw.same (S : Same H H') : ∀ {v : V} {d n : Nat} {t : Str}, Shw K H v d n t → Shw K H' v d n t
  | _, _, _, _, .non => .non
  | _, _, _, _, .bl b => .bl b
  | _, _, _, _, .int i h => .int i h
  | _, _, _, _, .str x m h => .str x m h
  | _, _, _, _, .lst e h => .lst (S _ _ e) (ShwL.same S h)
  | _, _, _, _, .tup e h => .tup (S _ _ e) (ShwL.same S h)
  | _, _, _, _, .dct e h1 h2 => .dct (S _ _ e) (ShwL.same S h1) (ShwL.same S h2)
  | _, _, _, _, .exc e et c l1 l2 => .exc (S _ _ e) (S _ _ et) c l1 l2
theorem ShwL.same (S : Same H H') : ∀ {vs : List V} {d n : Nat} {ts : List Str}, ShwL K H vs d n ts → ShwL K H' vs d n ts
  | _, _, _, _, .nil => .nil
  | _, _, _, _, .cons h hs => .cons (Shw.same S h) (ShwL.same S hs)
end
end
end Pw

namespace PySem.W
open PySem PySem.Calls PyProof.Rows Builtin Builtin.ObjectAttr Builtin.Getset_descriptor
section
variable {prog : Program} {w : World} {A : Around} {E : Value → Shared → Prop} {s : Shared} {K : Frag} {D x : Addr}
  {ox oD : Obj}
/-- e.__class__, e an exception of one's own that has its dict -/
theorem pw_class {Q : Option Value → Shared → Prop}
    (hga : findIn K (.ref D) "__getattribute__" = some (some (.builtin "BaseException.__getattribute__")))
    (hgt : findIn K (.ref D) "__getattr__" = some none)
    (hsub : subIn K (.ref D) (.type "BaseException") = some true)
    (hf : findObj K D (some oD) "__class__" =
      some (.bind (.builtin "getset_descriptor.__get__") (.builtin "object.__class__")))
    (hm : mroIn K D (.type "object") = some true) (X : K.In s.heap) (I : InstAt s.heap x ox D (some oD))
    (h : Q (some (.ref D)) { s with toks := s.toks + 1 }) :
    wpAny (model prog w) A (getAttr? (.ref x) "__class__") Q E s := by
  obtain ⟨hp, g, d, t, os⟩ := s
  have T0 := I.type (M := model prog w)
  have T1 := looks_findIn (M := model prog w) X hga
  have T2 := looks_findIn (M := model prog w) X hgt
  have T3 := looks_find (M := model prog w) X I hf
  have isE : Looks (model prog w) hp (isInstance (.ref x) (.type "BaseException")) true :=
    T0.andThen (looks_subIn X hsub)
  have z0 : (false && onTheHeap (Value.builtin "BaseException.__getattribute__")) = false := rfl
  have z2 : (Value.builtin "BaseException.__getattribute__" ==
    Value.builtin "object.__getattribute__") = false := by decide +kernel
  have z1 : (onTheHeap (Value.ref D) && Value.builtin "BaseException.__getattribute__" ==
    Value.builtin "object.__getattribute__") = false := by rw [z2]; rfl
  unfold getAttr? getAttrBy? getAttrBy
  refine wpAny_bind (wpAny_mkText (wpAny_bind (wpAny_attempt (wpAny_holding (wpAny_bind
    (T0.at (wpAny_bind (T1.at ?_))))))))
  show wpAny _ _ (if (onTheHeap (Value.ref D) && Value.builtin "BaseException.__getattribute__" ==
    Value.builtin "object.__getattribute__") = true then _ else _) _ _ _
  rw [z1, if_neg Bool.false_ne_true]
  unfold getAttrByItsOwn hookBefore
  refine wpAny_bind ?_
  rw [if_pos (show onTheHeap (Value.ref D) = true from rfl)]
  refine T2.at (wpAny_bind (wpAny_attempt (wpAny_holding ?_)))
  unfold callGetattribute
  rw [z0, if_neg Bool.false_ne_true]
  unfold boundAndCalled
  rw [PySem.F.excAttr_ValueError.ga.bind (.ref x)]
  refine wpAny_bind (wpAny_pure ?_)
  show wpAny _ _ (call (.builtin "BaseException.__getattribute__")
    [.ref x, .str "__class__" t]) _ _ _
  refine wpAny_call (codeAny_call_builtin PySem.F.excAttr_ValueError.ga.plain
    PySem.F.entry_bexc_ga ?_)
  refine @check_slot (model prog w) _ _ ⟨hp, g, d, t + 1, os⟩ "BaseException.__getattribute__"
    "BaseException" "__getattribute__" (.ref x) [.str "__class__" t] [] _ (by decide +kernel)
    (by decide +kernel) isE (PySem.F.args_bexc_ga (.ref x) (.str "__class__" t)) ?_
  unfold Builtin.«object.__getattribute__»
  refine wpAny_bind (wpAny_of_eq (a := ((Value.ref x : Value), [Value.str "__class__" t]))
    (by first | rfl | (simp only [slotArgs]; rfl)) ?_)
  refine wpAny_bind (wpAny_pure (wpAny_bind (T0.at (wpAny_bind (T3.at ?_)))))
  show wpAny _ _ (holding [Value.builtin "object.__class__"] (call (.builtin "getset_descriptor.__get__")
    [.builtin "object.__class__", .ref x, .ref D]) >>= ret) _ _ _
  refine wpAny_bind (wpAny_holding (wpAny_call (class_get (s := ⟨hp, g, d, t + 1, os⟩)
    (ox := ox) (od := some oD) X I hm ?_)))
  refine wpAny_pure ?_
  show wpAny _ _ (handedOut (.ref D)) _ _ _
  rw [handedOut_of (v := .ref D) rfl]
  first
    | exact wpAny_pure (wpAny_pure h)
    | exact wpAny_pure h
    | exact wpAny_pure (wpAny_bind (wpAny_pure (wpAny_pure h)))
end
end PySem.W

namespace Pw
open PySem PySem.Spec PyProof.Rows L2

theorem cls_of_dict {K : PySem.W.Frag} {D : Addr} (hd : PySem.W.hasDictIn K D = true) :
    (PySem.W.clsIn K D).isSome = true := by
  cases e : PySem.W.clsIn K D with
  | some _ => rfl
  | none =>
    unfold PySem.W.hasDictIn at hd
    rw [e] at hd
    cases hd

theorem kit_exq {K : PySem.W.Frag} {x D t dx : Addr} {oD : Obj} (C : ExcC K D) :
    PySem.W.KitX K (.ref x) (.ref D) (fun h => PySem.W.InstAt h x (exOb D (some dx) t) D (some oD)) where
  ty := fun _ _ _ I => I.type
  it := fun M h X _ => by
    obtain ⟨cd, hc⟩ := Option.isSome_iff_exists.mp (cls_of_dict C.hd)
    unfold PySem.W.clsIn at hc
    split at hc
    · rename_i ho
      intro A' Q' E' s' k q
      unfold isType loadHead
      exact wpAny_bind (wpAny_loadPart (k _ _ (X _ _ ho)) (wpAny_pure q))
    · cases hc
  ne := fun h tp dd its n sl X htp => by
    obtain ⟨cd, hc⟩ := Option.isSome_iff_exists.mp (cls_of_dict C.hd)
    refine Bool.eq_false_iff.mpr fun q => ?_
    obtain rfl : D = tp := Value.ref.inj (beq_iff_eq.mp q)
    unfold PySem.W.clsIn at hc
    split at hc
    · rename_i ho
      cases (X _ _ ho).symm.trans htp
    · cases hc
  ca := fun X I k => PySem.W.pw_class C.hg C.hk C.hs
    (PySem.W.findObj_data (cls_of_dict C.hd) C.ha C.hn C.ht) C.hm X I k

/-- a value's type, exceptions of one's own too -/
inductive TyQ (K : PySem.W.Frag) (H : Hp) : V → Value → Prop where
  | base {x : V} {t : Value} (h : TyX K H x t) : TyQ K H x t
  | exc {a D t dx : Addr} {fs : List (Str × V)} (e : H a = some (exq a D (some dx) t)) (ed : H dx = some (exd dx fs))
      (c : ExcC K D) : TyQ K H (.ref a) (.ref D)

/-- isinstance(x, c): one class -/
def rIsA (K : PySem.W.Frag) : List V → Hp → VK → Prop := fun xs H Q => ∃ (x c : V) (t u : Value) (b : Bool),
  xs = [x, c] ∧ ClsV c u ∧ TyQ K H x t ∧ PySem.W.kitOne K t u = some b ∧ Q (.bl b) H
theorem call_isa {X : Cx} : CallR X (.builtin "isinstance") (rIsA X.K) := by
  intro pins s σ H xs us Q I r h
  obtain ⟨x, c, t, u, b, rfl, k, ty, e, q⟩ := h
  cases ty with
  | base ty => exact call_isi pins s σ H _ us Q I r ⟨x, c, t, u, b, rfl, k, ty, e, q⟩
  | exc ex ed C =>
    obtain ⟨u1, u2, rfl, r1, r2⟩ := vals2 r
    obtain rfl := k.eq r2
    obtain rfl : u1 = Value.ref _ := r1
    have ha := exq_at I.hok ex
    obtain ⟨mA, ⟨oD, es, ep, hd, hr⟩, _⟩ := exd_at I.hok ed
    refine PySem.W.kia_one (kit_exq (oD := oD) C) I.kIn ⟨ha, rfl, rfl, hd⟩ e (fun z => nomatch z)
      fun tk => ⟨.bl b, H, I.tok tk, rfl, q⟩
end Pw

/-! Kinds of things, and short words for defs. -/
namespace Pw
open PySem PySem.Spec PyProof.Rows L2

/-! ### the kinds of things -/
/-- what an exception's class must say, so that it is told from the built-in kinds -/
structure ExT (K : PySem.W.Frag) (D : Addr) : Prop where
  c : ExcC K D
  int : PySem.W.kitOne K (.ref D) (.type "int") = some false
  bool : PySem.W.kitOne K (.ref D) (.type "bool") = some false
  str : PySem.W.kitOne K (.ref D) (.type "str") = some false
  tuple : PySem.W.kitOne K (.ref D) (.type "tuple") = some false
/-- a thing and its type -/
inductive Ty (K : PySem.W.Frag) (H : Hp) : V → Value → Prop where
  | non : Ty K H .non (.type "NoneType")
  | bl (b : Bool) : Ty K H (.bl b) (.type "bool")
  | int (i : Int) : Ty K H (.int i) (.type "int")
  | str (s : Str) : Ty K H (.str s) (.type "str")
  | lst {a : Addr} {xs : List V} (e : H a = some (.lst xs)) : Ty K H (.ref a) (.type "list")
  | tup {a : Addr} {xs : List V} (e : H a = some (.tup xs)) : Ty K H (.ref a) (.type "tuple")
  | dct {a : Addr} {kvs : List (Key × V)} (e : H a = some (.dK kvs)) : Ty K H (.ref a) (.type "dict")
  | exc {a D t dx : Addr} {fs : List (Str × V)} (e : H a = some (exq a D (some dx) t)) (ed : H dx = some (exd dx fs))
      (c : ExT K D) : Ty K H (.ref a) (.ref D)
theorem Ty.q {K : PySem.W.Frag} {H : Hp} {x : V} {t : Value} (h : Ty K H x t) : TyQ K H x t := by
  cases h with
  | non => exact .base (.base .non)
  | bl b => exact .base (.base (.bl b))
  | int i => exact .base (.base (.int i))
  | str s => exact .base (.base (.str s))
  | lst e => exact .base (.base (.lst e))
  | tup e => exact .base (.base (.tup e))
  | dct e => exact .base (.base (.dK e))
  | exc e ed c => exact .exc e ed c.c
theorem Ty.same {K : PySem.W.Frag} {H H' : Hp} {x : V} {t : Value} (S : Same H H') (h : Ty K H x t) : Ty K H' x t := by
  cases h with
  | non => exact .non
  | bl b => exact .bl b
  | int i => exact .int i
  | str s => exact .str s
  | lst e => exact .lst (S _ _ e)
  | tup e => exact .tup (S _ _ e)
  | dct e => exact .dct (S _ _ e)
  | exc e ed c => exact .exc (S _ _ e) (S _ _ ed) c
def numB : V → Bool
  | .int _ => true
  | _ => false
def blB : V → Bool
  | .bl _ => true
  | _ => false
def strB : V → Bool
  | .str _ => true
  | _ => false
def tupB (H : Hp) : V → Bool
  | .ref a => match H a with
    | some (.tup _) => true
    | _ => false
  | _ => false
theorem Ty.isInt {K : PySem.W.Frag} {H : Hp} {x : V} {t : Value} (h : Ty K H x t) :
    PySem.W.kitOne K t (.type "int") = some (numB x || blB x) := by
  cases h with
  | non  => exact (kit_ty (a := "NoneType") (b := "int") (r := false) (by decide +kernel) : _ = some false)
  | bl b => exact (kit_ty (a := "bool") (b := "int") (r := true) (by decide +kernel) : _ = some true)
  | int i => exact (kit_ty (a := "int") (b := "int") (r := true) (by decide +kernel) : _ = some true)
  | str s => exact (kit_ty (a := "str") (b := "int") (r := false) (by decide +kernel) : _ = some false)
  | lst e => exact (kit_ty (a := "list") (b := "int") (r := false) (by decide +kernel) : _ = some false)
  | tup e => exact (kit_ty (a := "tuple") (b := "int") (r := false) (by decide +kernel) : _ = some false)
  | dct e => exact (kit_ty (a := "dict") (b := "int") (r := false) (by decide +kernel) : _ = some false)
  | exc e ed c => exact c.int
theorem Ty.isBool {K : PySem.W.Frag} {H : Hp} {x : V} {t : Value} (h : Ty K H x t) :
    PySem.W.kitOne K t (.type "bool") = some (blB x) := by
  cases h with
  | non  => exact (kit_ty (a := "NoneType") (b := "bool") (r := false) (by decide +kernel) : _ = some false)
  | bl b => exact (kit_ty (a := "bool") (b := "bool") (r := true) (by decide +kernel) : _ = some true)
  | int i => exact (kit_ty (a := "int") (b := "bool") (r := false) (by decide +kernel) : _ = some false)
  | str s => exact (kit_ty (a := "str") (b := "bool") (r := false) (by decide +kernel) : _ = some false)
  | lst e => exact (kit_ty (a := "list") (b := "bool") (r := false) (by decide +kernel) : _ = some false)
  | tup e => exact (kit_ty (a := "tuple") (b := "bool") (r := false) (by decide +kernel) : _ = some false)
  | dct e => exact (kit_ty (a := "dict") (b := "bool") (r := false) (by decide +kernel) : _ = some false)
  | exc e ed c => exact c.bool
theorem Ty.isStr {K : PySem.W.Frag} {H : Hp} {x : V} {t : Value} (h : Ty K H x t) :
    PySem.W.kitOne K t (.type "str") = some (strB x) := by
  cases h with
  | non  => exact (kit_ty (a := "NoneType") (b := "str") (r := false) (by decide +kernel) : _ = some false)
  | bl b => exact (kit_ty (a := "bool") (b := "str") (r := false) (by decide +kernel) : _ = some false)
  | int i => exact (kit_ty (a := "int") (b := "str") (r := false) (by decide +kernel) : _ = some false)
  | str s => exact (kit_ty (a := "str") (b := "str") (r := true) (by decide +kernel) : _ = some true)
  | lst e => exact (kit_ty (a := "list") (b := "str") (r := false) (by decide +kernel) : _ = some false)
  | tup e => exact (kit_ty (a := "tuple") (b := "str") (r := false) (by decide +kernel) : _ = some false)
  | dct e => exact (kit_ty (a := "dict") (b := "str") (r := false) (by decide +kernel) : _ = some false)
  | exc e ed c => exact c.str
theorem Ty.isTuple {K : PySem.W.Frag} {H : Hp} {x : V} {t : Value} (h : Ty K H x t) :
    PySem.W.kitOne K t (.type "tuple") = some (tupB H x) := by
  cases h with
  | non  => exact (kit_ty (a := "NoneType") (b := "tuple") (r := false) (by decide +kernel) : _ = some false)
  | bl b => exact (kit_ty (a := "bool") (b := "tuple") (r := false) (by decide +kernel) : _ = some false)
  | int i => exact (kit_ty (a := "int") (b := "tuple") (r := false) (by decide +kernel) : _ = some false)
  | str s => exact (kit_ty (a := "str") (b := "tuple") (r := false) (by decide +kernel) : _ = some false)
  | @lst ad xs e =>
    have z : tupB H (.ref ad) = false := by simp only [tupB, e]
    rw [z]
    exact kit_ty (a := "list") (b := "tuple") (r := false) (by decide +kernel)
  | @tup ad xs e =>
    have z : tupB H (.ref ad) = true := by simp only [tupB, e]
    rw [z]
    exact kit_ty (a := "tuple") (b := "tuple") (r := true) (by decide +kernel)
  | @dct ad xs e =>
    have z : tupB H (.ref ad) = false := by simp only [tupB, e]
    rw [z]
    exact kit_ty (a := "dict") (b := "tuple") (r := false) (by decide +kernel)
  | @exc ad D t dx fs e ed c =>
    have z : tupB H (.ref ad) = false := by simp only [tupB, e]; rfl
    rw [z]
    exact c.tuple

/-! ### defs by name -/
section
variable (P : Program) (w : World) (K : PySem.W.Frag) (mg : Str → Option Value) (base : Heap)
/-- the def st of the text stands under its name x -/
structure At (x : Str) (st : Stmt) : Prop where
  ex : ∃ f fd, Fun K x x st f fd ∧ mg x = some (.ref f)
/-- under its name x a def stands that keeps the promise sp -/
structure Def (x : Str) (k : Nat) (ps : List Str) (sp : Sp) : Prop where
  ex : ∃ f fd, mg x = some (.ref f) ∧ PySem.W.keepIn K (.ref f) = true ∧ Binds K fd ps [] ∧
    FnOk P w K mg base CX0 k f fd ps sp
structure DefG (x : Str) (k : Nat) (ps : List Str) (sp : Sp) : Prop where
  ex : ∃ f fd, mg x = some (.ref f) ∧ PySem.W.keepIn K (.ref f) = true ∧ Binds K fd ps [] ∧
    FnG P w K mg base CX0 k f fd ps sp
end
section
variable {P : Program} {w : World} {K : PySem.W.Frag} {mg : Str → Option Value} {base : Heap}
theorem Def.mono {x : Str} {k j : Nat} {ps : List Str} {sp : Sp} (d : Def P w K mg base x k ps sp) (h : k ≤ j) :
    Def P w K mg base x j ps sp :=
  let ⟨f, fd, a, b, c, F⟩ := d.ex
  ⟨f, fd, a, b, c, F.mono h⟩
theorem mkDef {x : Str} {st : Stmt} {N ps : List Str} {k : Nat} {sp : Sp} (A : At K mg x st)
    (S : FnScope N ps (defScope st))
    (hb : ∀ (kV doc pm : Value) (an : Option Addr) (cdv ct : Value) (us : List Value), us.length = ps.length →
      bindArgs (PySem.W.fnOf x x (defArgs st) (defBody st) (defScope st) .none kV doc pm an cdv ct) ⟨us, []⟩ = pure (ps.zip us))
    (len : ∀ vs H Q E, sp vs H Q E → vs.length = ps.length)
    (body : ∀ (f : Addr) (cdv : Value) (A : Around) (out : List Env) (s : Shared) (H : Hp) (vs : List V) (Q : VK) (E : XK),
      Room k (A.deeper (envOfC x (defScope st) s.heap.objs.size f cdv)) → sp vs H Q E →
      ∃ t, PSs (cxOf CX0 P w K mg base N x (defScope st) f cdv A out s H E).nox (defBody st) t ∧
        t { nx := fun _ H' => Q .non H', rt := Q } (start N vs) H) : Def P w K mg base x (k + 1) ps sp := by
  obtain ⟨f, fd, F, m⟩ := A.ex
  exact ⟨f, fd, m, F.kp, F.binds hb, F.ok S len (body f)⟩
theorem mkDefG {x : Str} {st : Stmt} {N ps : List Str} {k : Nat} {sp : Sp} (A : At K mg x st)
    (S : FnScope N ps (defScope st))
    (hb : ∀ (kV doc pm : Value) (an : Option Addr) (cdv ct : Value) (us : List Value), us.length = ps.length →
      bindArgs (PySem.W.fnOf x x (defArgs st) (defBody st) (defScope st) .none kV doc pm an cdv ct) ⟨us, []⟩ = pure (ps.zip us))
    (len : ∀ vs H Q E, sp vs H Q E → vs.length = ps.length)
    (body : ∀ (f : Addr) (cdv : Value) (A : Around) (out : List Env) (s : Shared) (H : Hp) (vs : List V) (Q : VK) (E : XK),
      A.guards = some [] → Room k (A.deeper (envOfC x (defScope st) s.heap.objs.size f cdv)) → sp vs H Q E →
      ∃ t, PSs (cxOf CX0 P w K mg base N x (defScope st) f cdv A out s H E).nox (defBody st) t ∧
        t { nx := fun _ H' => Q .non H', rt := Q } (start N vs) H) : DefG P w K mg base x (k + 1) ps sp := by
  obtain ⟨f, fd, F, m⟩ := A.ex
  exact ⟨f, fd, m, F.kp, F.binds hb, okG F S len (body f)⟩
end
section
variable {X : Cx} {x : Str} {k j : Nat} {ps : List Str} {sp : Sp} {p pos : Pos} {e : Expr} {es : List Expr} {t : TA}
/-- x(e, ..), by the promise of the def under that name -/
theorem pe_d (D : Def X.prog X.w X.K X.mg X.base x k ps sp) (hr : Room j X.A) (hk : k ≤ j) (hg : Gl X x) (ha : PA X (e :: es) t)
    (hdb : (x == ("__debug__" : Str)) = false := by decide)
    (he : starEach (e :: es) X.env = (false, eval e X.env) :: starEach es X.env := by rfl)
    (hpl : (backTo pos (starEach es X.env)).any (·.1) = false := by rfl) :
    PE X (.Call (.Name x p) (e :: es) [] pos) (tCall sp [] E0 t) := by
  obtain ⟨f, fd, m, kp, b, F⟩ := D.ex
  exact pe_call F (hr.mono hk) hg m kp b .nil pass0 ha hdb he hpl
theorem pe_dG (D : DefG X.prog X.w X.K X.mg X.base x k ps sp) (gd : X.A.guards = some []) (hr : Room j X.A) (hk : k ≤ j) (hg : Gl X x)
    (ha : PA X (e :: es) t) (hdb : (x == ("__debug__" : Str)) = false := by decide)
    (he : starEach (e :: es) X.env = (false, eval e X.env) :: starEach es X.env := by rfl)
    (hpl : (backTo pos (starEach es X.env)).any (·.1) = false := by rfl) :
    PE X (.Call (.Name x p) (e :: es) [] pos) (tCall sp [] E0 t) := by
  obtain ⟨f, fd, m, kp, b, F⟩ := D.ex
  exact pe_callG F gd (hr.mono hk) hg m kp b .nil pass0 ha hdb he hpl
end

/-! ### heaps: all but one place stays -/
/-- the heap without one place -/
def wo (H : Hp) (p : Addr) : Hp := fun b => if b = p then none else H b
theorem wo_ne {H : Hp} {p b : Addr} (h : b ≠ p) : wo H p b = H b := if_neg h
theorem wo_same {H : Hp} {p : Addr} : Same (wo H p) H := fun b o e => by
  unfold wo at e
  split at e
  · cases e
  · exact e
theorem wo_at {H : Hp} {p b : Addr} {o : HO} (e : wo H p b = some o) : b ≠ p ∧ H b = some o := by
  unfold wo at e
  split at e
  · cases e
  · rename_i n
    exact ⟨n, e⟩
theorem wo_of {H : Hp} {p b : Addr} {o : HO} (n : b ≠ p) (e : H b = some o) : wo H p b = some o := (wo_ne n).trans e
/-- all that is tracked, but at p, stays -/
def But (p : Addr) (H H' : Hp) : Prop := Same (wo H p) (wo H' p)
theorem But.refl {p : Addr} {H : Hp} : But p H H := fun _ _ e => e
theorem But.trans {p : Addr} {H H1 H2 : Hp} (a : But p H H1) (b : But p H1 H2) : But p H H2 := fun c o h => b c o (a c o h)
theorem But.of {p : Addr} {H H' : Hp} (h : ∀ b o, b ≠ p → H b = some o → H' b = some o) : But p H H' := fun b o e =>
  let ⟨n, z⟩ := wo_at e
  wo_of n (h b o n z)
theorem But.at {p : Addr} {H H' : Hp} (h : But p H H') {b : Addr} {o : HO} (n : b ≠ p) (e : H b = some o) : H' b = some o :=
  (wo_at (h b o (wo_of n e))).2
theorem Same.but {p : Addr} {H H' : Hp} (h : Same H H') : But p H H' := But.of fun b o _ e => h b o e
theorem Same.laid {H : Hp} {q : Addr} {o : HO} (n : H q = none) : Same H (upd H q o) := fun b u e =>
  (upd_ne (ne_of_none e n)).trans e
theorem But.laid {p : Addr} {H : Hp} {q : Addr} {o : HO} (n : H q = none) : But p H (upd H q o) := Same.but (Same.laid n)
theorem But.set {p : Addr} {H : Hp} {o : HO} : But p H (upd H p o) := But.of fun b u n e => (upd_ne n).trans e
end Pw

/-! Lists of tuples; comprehensions and loops that lay a new list, all else staying. -/
namespace Pw
open PySem PySem.Spec PyProof.Rows L2

/-! ### lists of tuples -/
/-- at each place of vs the tuple that f makes of the row -/
inductive Al {α : Type} (f : α → List V) (H : Hp) : List V → List α → Prop where
  | nil : Al f H [] []
  | cons {p : Addr} {vs : List V} {r : α} {rs : List α} (e : H p = some (.tup (f r))) (t : Al f H vs rs) : Al f H (.ref p :: vs) (r :: rs)
section
variable {α : Type} {f : α → List V} {H H' : Hp}
theorem Al.same {vs : List V} {rs : List α} (h : Al f H vs rs) (S : Same H H') : Al f H' vs rs := by
  induction h with
  | nil => exact .nil
  | cons e _ ih => exact .cons (S _ _ e) ih
theorem Al.imp {vs : List V} {rs : List α} (h : Al f H vs rs) (S : ∀ p xs, H p = some (.tup xs) → H' p = some (.tup xs)) : Al f H' vs rs := by
  induction h with
  | nil => exact .nil
  | cons e _ ih => exact .cons (S _ _ e) ih
theorem Al.length {vs : List V} {rs : List α} (h : Al f H vs rs) : vs.length = rs.length := by
  induction h with
  | nil => rfl
  | cons _ _ ih => simp only [List.length_cons, ih]
theorem Al.append {vs ws : List V} {rs ss : List α} (h : Al f H vs rs) (k : Al f H ws ss) : Al f H (vs ++ ws) (rs ++ ss) := by
  induction h with
  | nil => exact k
  | cons e _ ih => exact .cons e ih
theorem Al.one {p : Addr} {r : α} (e : H p = some (.tup (f r))) : Al f H [.ref p] [r] := .cons e .nil
theorem Al.snoc {vs : List V} {rs : List α} {p : Addr} {r : α} (h : Al f H vs rs) (e : H p = some (.tup (f r))) :
    Al f H (vs ++ [.ref p]) (rs ++ [r]) := h.append (.one e)
theorem Al.get {vs : List V} {rs : List α} (h : Al f H vs rs) : ∀ {i : Nat} {v : V}, vs[i]? = some v →
    ∃ p r, v = .ref p ∧ rs[i]? = some r ∧ H p = some (.tup (f r)) := by
  induction h with
  | nil => intro i v e; simp at e
  | @cons p _ r _ e _ ih =>
    intro i v z
    cases i with
    | zero =>
      simp only [List.getElem?_cons_zero, Option.some.injEq] at z
      exact ⟨p, r, z.symm, rfl, e⟩
    | succ i =>
      simp only [List.getElem?_cons_succ] at z
      obtain ⟨q, r', h1, h2, h3⟩ := ih z
      exact ⟨q, r', h1, by simpa using h2, h3⟩
theorem Al.at {vs : List V} {rs : List α} (h : Al f H vs rs) {i : Nat} {r : α} (e : rs[i]? = some r) :
    ∃ p, vs[i]? = some (.ref p) ∧ H p = some (.tup (f r)) := by
  have hi : i < vs.length := by
    rw [h.length]
    exact (List.getElem?_eq_some_iff.mp e).1
  have hv : vs[i]? = some vs[i] := List.getElem?_eq_getElem hi
  obtain ⟨p, r', h1, h2, h3⟩ := h.get hv
  rw [e] at h2
  cases h2
  exact ⟨p, by rw [hv, h1], h3⟩
theorem Al.mem {vs : List V} {rs : List α} (h : Al f H vs rs) {v : V} (m : v ∈ vs) : ∃ p r, v = .ref p ∧ r ∈ rs ∧ H p = some (.tup (f r)) := by
  obtain ⟨i, e⟩ := List.mem_iff_getElem?.mp m
  obtain ⟨p, r, h1, h2, h3⟩ := h.get e
  exact ⟨p, r, h1, List.mem_of_getElem? h2, h3⟩
theorem Al.take {vs : List V} {rs : List α} (h : Al f H vs rs) (n : Nat) : Al f H (vs.take n) (rs.take n) := by
  induction h generalizing n with
  | nil => simp; exact .nil
  | cons e _ ih =>
    cases n with
    | zero => exact .nil
    | succ n => exact .cons e (ih n)
end
/-- at a: a list of such tuples -/
structure LT {α : Type} (f : α → List V) (H : Hp) (a : Addr) (rs : List α) : Prop where
  ex : ∃ vs, H a = some (.lst vs) ∧ Al f H vs rs
section
variable {α : Type} {f : α → List V} {H H' : Hp}
theorem LT.same {a : Addr} {rs : List α} (h : LT f H a rs) (S : Same H H') : LT f H' a rs :=
  let ⟨vs, e, k⟩ := h.ex
  ⟨vs, S _ _ e, k.same S⟩
theorem LT.mk' {a : Addr} {vs : List V} {rs : List α} (e : H a = some (.lst vs)) (k : Al f H vs rs) : LT f H a rs := ⟨vs, e, k⟩
end

/-! ### data: rows of numbers and texts -/
mutual
theorem eqv_refl_ : ∀ d : PyData, d.canLay0 = true → PyData.eqv d d = true
  | .none, _ => rfl
  | .bool b, _ => by simp [PyData.eqv]
  | .int i, _ => by simp [PyData.eqv]
  | .str x, _ => by simp [PyData.eqv]
  | .list xs, h => by rw [PyData.eqv]; exact eqvAll_refl_ xs (by simpa [PyData.canLay0] using h)
  | .tuple xs, h => by rw [PyData.eqv]; exact eqvAll_refl_ xs (by simpa [PyData.canLay0] using h)
  | .dict _, h => by simp [PyData.canLay0] at h
theorem eqvAll_refl_ : ∀ xs : List PyData, PyData.canLayAll0 xs = true → PyData.eqvAll xs xs = true
  | [], _ => rfl
  | x :: xs, h => by
    have h' : x.canLay0 = true ∧ PyData.canLayAll0 xs = true := by simpa [PyData.canLayAll0] using h
    rw [PyData.eqvAll, eqv_refl_ x h'.1, eqvAll_refl_ xs h'.2]; rfl
end
/-- what a row's things are, as data, of rows that are ok -/
structure Dat {α : Type} (f : α → List V) (g : α → List PyData) (ok : α → Prop) : Prop where
  dp : ∀ (K : PySem.W.Frag) (H : Hp) (r : α), DpAll K H (f r) (g r)
  lay : ∀ r, ok r → PyData.canLayAll0 (g r) = true
  dep : ∀ r, PyData.depthAll (g r) = 0
section
variable {α : Type} {f : α → List V} {g : α → List PyData} {ok : α → Prop} {K : PySem.W.Frag} {H : Hp}
theorem Al.dp (D : Dat f g ok) {vs : List V} {rs : List α} (h : Al f H vs rs) : DpAll K H vs (rs.map fun r => .tuple (g r)) := by
  induction h with
  | nil => exact .nil
  | cons e _ ih => exact .cons (.tup (SqT.of e) (D.dp K H _)) ih
theorem lay_rows (D : Dat f g ok) : ∀ rs : List α, (∀ r ∈ rs, ok r) → PyData.canLayAll0 (rs.map fun r => .tuple (g r)) = true
  | [], _ => by simp only [List.map_nil, PyData.canLayAll0]
  | r :: t, h => by
    simp only [List.map_cons, PyData.canLayAll0, PyData.canLay0, lay_rows D t fun r' m => h r' (List.mem_cons_of_mem _ m), D.lay r (h r List.mem_cons_self), Bool.and_self]
theorem dep_rows (D : Dat f g ok) : ∀ rs : List α, PyData.depthAll (rs.map fun r => .tuple (g r)) ≤ 1
  | [] => by simp only [List.map_nil, PyData.depthAll]; exact Nat.zero_le _
  | r :: t => by
    have := dep_rows D t
    simp only [List.map_cons, PyData.depthAll, PyData.depth, D.dep r]
    omega
theorem shaped_rows (D : Dat f g ok) (rs : List α) (ho : ∀ r ∈ rs, ok r) : SeqAt.shaped (.list (rs.map fun r => .tuple (g r))) = true := by
  unfold SeqAt.shaped
  have h := dep_rows D rs
  have e1 : PyData.canLay0 (.list (rs.map fun r => .tuple (g r))) = true := by
    simp only [PyData.canLay0]
    exact lay_rows D rs ho
  have e2 : PyData.depth (.list (rs.map fun r => .tuple (g r))) ≤ 64 := by
    simp only [PyData.depth]
    omega
  rw [e1, decide_eq_true e2]
  rfl
theorem LT.dp (D : Dat f g ok) {a : Addr} {rs : List α} (h : LT f H a rs) : Dp K H (.ref a) (.list (rs.map fun r => .tuple (g r))) :=
  let ⟨_, e, k⟩ := h.ex
  .lst (SqL.of e) (k.dp D)
theorem eqv_rows (D : Dat f g ok) (rs : List α) (ho : ∀ r ∈ rs, ok r) : PyData.eqv (.list (rs.map fun r => .tuple (g r))) (.list (rs.map fun r => .tuple (g r))) = true :=
  eqv_refl_ _ (by simp only [PyData.canLay0]; exact lay_rows D rs ho)
/-- two lists of the same rows are equal -/
theorem eq_rows {Q : VK} (D : Dat f g ok) {a b : Addr} {rs : List α} (ho : ∀ r ∈ rs, ok r) (h : LT f H a rs) (k : LT f H b rs) (q : Q (.bl true) H) :
    rEqD K (.ref a) (.ref b) H Q :=
  ⟨_, _, h.dp D, k.dp D, shaped_rows D rs ho, shaped_rows D rs ho, by rw [eqv_rows D rs ho]; exact q⟩
theorem ne_rows {Q : VK} (D : Dat f g ok) {a b : Addr} {rs : List α} (ho : ∀ r ∈ rs, ok r) (h : LT f H a rs) (k : LT f H b rs) (q : Q (.bl false) H) :
    rNeD K (.ref a) (.ref b) H Q :=
  ⟨_, _, h.dp D, k.dp D, shaped_rows D rs ho, shaped_rows D rs ho, by rw [eqv_rows D rs ho]; exact q⟩
/-- such a list held against the empty one -/
theorem eqv_nil (g : α → List PyData) (rs : List α) : PyData.eqv (.list (rs.map fun r => PyData.tuple (g r))) (.list []) = rs.isEmpty := by
  cases rs <;> simp [PyData.eqv, PyData.eqvAll]
theorem ne_empty {Q : VK} (D : Dat f g ok) {a b : Addr} {rs : List α} (ho : ∀ r ∈ rs, ok r) (h : LT f H a rs) (k : H b = some (.lst [])) (q : Q (.bl !rs.isEmpty) H) :
    rNeD K (.ref a) (.ref b) H Q :=
  ⟨_, .list [], h.dp D, .lst (xs := []) (SqL.of k) .nil, shaped_rows D rs ho, rfl, by rw [eqv_nil]; exact q⟩
theorem eq_empty {Q : VK} (D : Dat f g ok) {a b : Addr} {rs : List α} (ho : ∀ r ∈ rs, ok r) (h : LT f H a rs) (k : H b = some (.lst [])) (q : Q (.bl rs.isEmpty) H) :
    rEqD K (.ref a) (.ref b) H Q :=
  ⟨_, .list [], h.dp D, .lst (xs := []) (SqL.of k) .nil, shaped_rows D rs ho, rfl, by rw [eqv_nil]; exact q⟩
/-- lists of numbers -/
theorem dp_ints {K : PySem.W.Frag} {H : Hp} : ∀ ns : List Int, DpAll K H (ns.map V.int) (ns.map .int)
  | [] => .nil
  | i :: r => .cons (.int i) (dp_ints r)
theorem lay_ints : ∀ ns : List Int, PyData.canLayAll0 (ns.map .int) = true
  | [] => by simp only [List.map_nil, PyData.canLayAll0]
  | r :: t => by simp only [List.map_cons, PyData.canLayAll0, PyData.canLay0, lay_ints t, Bool.and_self]
theorem dep_ints : ∀ ns : List Int, PyData.depthAll (ns.map .int) = 0
  | [] => by simp only [List.map_nil, PyData.depthAll]
  | r :: t => by simp only [List.map_cons, PyData.depthAll, PyData.depth, dep_ints t, Nat.max_self]
theorem shaped_ints (ns : List Int) : SeqAt.shaped (.list (ns.map .int)) = true := by
  unfold SeqAt.shaped
  simp only [PyData.canLay0, PyData.depth, lay_ints ns, dep_ints ns]
  rfl
theorem ne_ints {Q : VK} {a b : Addr} {ns : List Int} (h : H a = some (.lst (ns.map V.int))) (k : H b = some (.lst (ns.map V.int))) (q : Q (.bl false) H) :
    rNeD K (.ref a) (.ref b) H Q :=
  ⟨_, _, .lst (SqL.of h) (dp_ints ns), .lst (SqL.of k) (dp_ints ns), shaped_ints ns, shaped_ints ns, by
    rw [eqv_refl_ _ (by simp only [PyData.canLay0]; exact lay_ints ns)]; exact q⟩
end

/-- a number that the text's top keeps under a name -/
theorem pe_gi {X : Cx} {x : Str} {p : Pos} {n : Int} (h : ∃ t, X.mg x = some (.int n t)) (hg : Gl X x := by rfl)
    (hd : (x == ("__debug__" : Str)) = false := by decide) : PE X (.Name x p) (tC (.int n)) := by
  obtain ⟨t, h⟩ := h
  exact pe_glob (v := .int n) hg h ⟨_, rfl⟩ hd
/-- len(..) of a list or a tuple -/
def rLn (K : PySem.W.Frag) : List V → Hp → VK → Prop := fun xs H Q => ∃ p ys, xs = [V.ref p] ∧ (SqL K H p ys ∨ SqT K H p ys) ∧ Q (.int (ys.length : Int)) H
theorem kit_lt_list {K : PySem.W.Frag} : PySem.W.kitAny K (.type "list") [.type "list", .type "tuple"] = some true := by
  have e : PySem.W.kitOne K (.type "list") (.type "list") = some true := kit_ty (a := "list") (b := "list") (r := true) (by decide +kernel)
  simp only [PySem.W.kitAny, e]
theorem kit_lt_tuple {K : PySem.W.Frag} : PySem.W.kitAny K (.type "tuple") [.type "list", .type "tuple"] = some true := by
  have e : PySem.W.kitOne K (.type "tuple") (.type "list") = some false := kit_ty (a := "tuple") (b := "list") (r := false) (by decide +kernel)
  have e2 : PySem.W.kitOne K (.type "tuple") (.type "tuple") = some true := kit_ty (a := "tuple") (b := "tuple") (r := true) (by decide +kernel)
  simp only [PySem.W.kitAny, e, e2]

/-! ### a comprehension that lays a new list, all else staying -/
theorem Same.wo_upd {H H' : Hp} {D : Addr} {o : HO} (S : Same H H') (n : H D = none) : Same H (upd H' D o) := fun b u e =>
  (upd_ne (ne_of_none e n)).trans (S b u e)
theorem wo_upd {H : Hp} {D : Addr} {o : HO} : wo (upd H D o) D = wo H D := by
  funext b
  unfold wo
  split
  · rfl
  · rename_i h
    exact upd_ne h
theorem Same.wo {H H' : Hp} {p : Addr} (S : Same H H') : Same (wo H p) (wo H' p) := Same.but S
theorem wo_none {H : Hp} {D : Addr} (n : H D = none) : wo H D = H := by
  funext b
  unfold wo
  split
  · rename_i e
    rw [e, n]
  · rfl
theorem lc_acc {J : It} {n : Nat} {G : Hp → Prop} {Y : Nat → Hp → V → Hp → Prop} (w : Walk J n G Y) {g : TG} {tt : TT} {te : TE} {vs : List Nat} {σ : L2.St}
    {H1 : Hp} {D : Addr} {Qd : Hp → Prop} (hD : H1 D = none) (hn : n ≤ 1000000) (R : Nat → List V → Hp → Prop) (r0 : R 0 [] H1)
    (hG : ∀ H, Same H1 H → G H)
    (hs : ∀ i x H H' acc, i < n → Same H1 H → H D = some (.lst acc) → acc.length ≤ i → R i acc (wo H D) → Y i H x H' →
      ∀ (Fy : V → Hp → Prop) (Fn : Hp → Prop), (∀ y H4, Same H H4 → R (i + 1) (acc ++ [y]) (wo H4 D) → Fy y H4) →
        (∀ H3, Same H H3 → R (i + 1) acc (wo H3 D) → Fn H3) →
      g x (wipe σ vs) H' fun σ2 H2 => wipe σ2 vs = wipe σ vs ∧ tt σ2 H2 fun b H3 => if b = true then te σ2 H3 Fy else Fn H3)
    (hd : ∀ H acc, Same H1 H → H D = some (.lst acc) → R n acc (wo H D) → Qd H) :
    ∃ W : Nat → Nat → Hp → Prop, (∃ m, W 0 m (upd H1 D (.lst []))) ∧ ∀ i m H, W i m H →
      (J.stop i H ∧ Qd H) ∨ (J.go i H ∧ ∃ Nx : Hp → Prop, (∀ H', Nx H' → ∃ m', m' < m ∧ W (i + 1) m' H') ∧ ∀ x H', J.yld i H x H' → g x (wipe σ vs) H' fun σ2 H2 => wipe σ2 vs = wipe σ vs ∧ tt σ2 H2 fun b H3 =>
        if b = true then te σ2 H3 fun y H4 => ∃ acc, H4 D = some (.lst acc) ∧ acc.length < sizeLine ∧ Nx (upd H4 D (.lst (acc ++ [y]))) else Nx H3) := by
  have line : 1000000 < sizeLine := by decide
  refine lc_it w (fun i H => Same H1 H ∧ ∃ acc, H D = some (.lst acc) ∧ acc.length ≤ i ∧ R i acc (wo H D))
    ⟨Same.laid hD, [], upd_same, Nat.le_refl _, by rw [wo_upd, wo_none hD]; exact r0⟩ (fun i H _ h => hG H h.1) ?_ ?_
  · rintro i x H H' hi ⟨S, acc, e, hl, r⟩ y
    refine hs i x H H' acc hi S e hl r y _ _ (fun y H4 S4 r4 => ?_) fun H3 S3 r3 => ?_
    · refine ⟨acc, S4 _ _ e, Nat.lt_of_le_of_lt hl (Nat.lt_of_lt_of_le hi (Nat.le_trans hn (Nat.le_of_lt line))), Same.wo_upd (S.trans S4) hD, acc ++ [y], upd_same, ?_, ?_⟩
      · rw [List.length_append, List.length_singleton]
        omega
      · rw [wo_upd]
        exact r4
    · exact ⟨S.trans S3, acc, S3 _ _ e, by omega, r3⟩
  · rintro H ⟨S, acc, e, _, r⟩
    exact hd H acc S e r
/-- a while by a measure, its end told to the test -/
theorem while_m {c : TT} {tb : TS} {D : Ends} {σ : L2.St} {H : Hp} (Pv : Nat → L2.St → Hp → Prop) (m0 : Nat) (h0 : Pv m0 σ H)
    (hs : ∀ m σ H, Pv m σ H → ∀ F : Bool → Hp → Prop,
      (∀ H1, (∀ N : L2.St → Hp → Prop, (∀ m' σ' H', m' < m → Pv m' σ' H' → N σ' H') → tb { D with nx := N, ct := N, bk := D.nx } σ H1) → F true H1) →
      (∀ H1, D.nx σ H1 → F false H1) → c σ H F) : tWhile c tb D σ H := by
  refine ⟨Pv, ⟨m0, h0⟩, fun m σ H p => hs m σ H p _ (fun H1 h => ?_) fun H1 h => ?_⟩
  · rw [if_pos rfl]
    exact ⟨fun σ' H' => ∃ m', m' < m ∧ Pv m' σ' H', fun _ _ h => h, h _ fun m' σ' H' l p => ⟨m', l, p⟩⟩
  · rw [if_neg Bool.false_ne_true]
    exact h

/-- what is laid since then -/
def fre (H G : Hp) : Hp := fun b => match H b with
  | none => G b
  | some _ => none
theorem fre_at {H G : Hp} {b : Addr} {o : HO} (e : fre H G b = some o) : H b = none ∧ G b = some o := by
  unfold fre at e
  cases q : H b with
  | none => rw [q] at e; exact ⟨rfl, e⟩
  | some u => rw [q] at e; cases e
theorem fre_of {H G : Hp} {b : Addr} {o : HO} (n : H b = none) (e : G b = some o) : fre H G b = some o := by
  unfold fre
  rw [n]
  exact e
theorem Same.no {H G : Hp} {b : Addr} (S : Same H G) (n : G b = none) : H b = none := by
  cases q : H b with
  | none => rfl
  | some o => rw [S _ _ q] at n; cases n

/-! ### dicts with number keys -/
theorem valV_none_of {kvs : List (Key × V)} {k : Key} (h : ∀ kv ∈ kvs, kv.1 ≠ k) : valV kvs k = none := by
  induction kvs with
  | nil => rfl
  | cons p r ih =>
    rw [valV_neg (h p (by simp))]
    exact ih fun kv m => h kv (by simp [m])
theorem valV_last {kvs : List (Key × V)} {k : Key} {v : V} (h : ∀ kv ∈ kvs, kv.1 ≠ k) : valV (kvs ++ [(k, v)]) k = some v := by
  rw [valV_snoc k k v kvs (valV_none_of h), if_pos rfl]

/-! ### defs with keyword-only defaults -/
section
variable (P : Program) (w : World) (K : PySem.W.Frag) (mg : Str → Option Value) (base : Heap)
structure AtD (x : Str) (st : Stmt) (kws : List (Str × V)) : Prop where
  ex : ∃ f fd, FunD K x x (defArgs st) (defBody st) (defScope st) [] kws f fd ∧ mg x = some (.ref f)
/-- under its name x a def stands that keeps the promise sp; ds fill up what is left out -/
structure DefD (x : Str) (k : Nat) (ps : List Str) (ds : List V) (sp : Sp) : Prop where
  ex : ∃ f fd us, mg x = some (.ref f) ∧ PySem.W.keepIn K (.ref f) = true ∧ Vals ds us ∧ Binds K fd ps us ∧
    FnOk P w K mg base CX0 k f fd ps sp
/-- the same, the keywords ks told behind n things -/
structure DefK (x : Str) (k : Nat) (ps : List Str) (n : Nat) (ks : List Str) (gV : List V → List V → List V) (sp : Sp) : Prop where
  ex : ∃ f fd g, mg x = some (.ref f) ∧ PySem.W.keepIn K (.ref f) = true ∧ KBn K fd ps n ks g gV ∧
    FnOk P w K mg base CX0 k f fd ps sp
end
section
variable {P : Program} {w : World} {K : PySem.W.Frag} {mg : Str → Option Value} {base : Heap}
theorem mkFnD {x : Str} {st : Stmt} {kws : List (Str × V)} {f : Addr} {fd : FuncData} {N ps : List Str} {k : Nat} {sp : Sp}
    (F : FunD K x x (defArgs st) (defBody st) (defScope st) [] kws f fd) (S : FnScope N ps (defScope st))
    (len : ∀ vs H Q E, sp vs H Q E → vs.length = ps.length)
    (body : ∀ (f : Addr) (cdv : Value) (A : Around) (out : List Env) (s : Shared) (H : Hp) (vs : List V) (Q : VK) (E : XK),
      Room k (A.deeper (envOfC x (defScope st) s.heap.objs.size f cdv)) → sp vs H Q E →
      ∃ t, PSs (cxOf CX0 P w K mg base N x (defScope st) f cdv A out s H E).nox (defBody st) t ∧
        t { nx := fun _ H' => Q .non H', rt := Q } (start N vs) H) : FnOk P w K mg base CX0 (k + 1) f fd ps sp :=
  F.ok S len fun cdv A out s H vs Q E hr hs =>
    let ⟨t, h, q⟩ := body f cdv A out s H vs Q E hr hs
    ⟨t, h.nox, q⟩
theorem mkDefD {x : Str} {st : Stmt} {kws : List (Str × V)} {N ps : List Str} {k n : Nat} {sp : Sp} (A : AtD K mg x st kws)
    (S : FnScope N ps (defScope st)) (hk : kws ≠ []) (hn : n + kws.length = ps.length)
    (hb : ∀ (D : Addr) (doc pm : Value) (an : Option Addr) (cdv ct : Value) (us ks : List Value), us.length = n → ks.length = kws.length →
      KwChain D ((kws.map (·.1)).zip ks) (bindArgs (PySem.W.fnOf x x (defArgs st) (defBody st) (defScope st) .none (.ref D) doc pm an cdv ct) ⟨us, []⟩) (ps.zip (us ++ ks)))
    (len : ∀ vs H Q E, sp vs H Q E → vs.length = ps.length)
    (body : ∀ (f : Addr) (cdv : Value) (A : Around) (out : List Env) (s : Shared) (H : Hp) (vs : List V) (Q : VK) (E : XK),
      Room k (A.deeper (envOfC x (defScope st) s.heap.objs.size f cdv)) → sp vs H Q E →
      ∃ t, PSs (cxOf CX0 P w K mg base N x (defScope st) f cdv A out s H E).nox (defBody st) t ∧
        t { nx := fun _ H' => Q .non H', rt := Q } (start N vs) H) : DefD P w K mg base x (k + 1) ps (kws.map (·.2)) sp := by
  obtain ⟨f, fd, F, m⟩ := A.ex
  obtain ⟨us, hv, b⟩ := F.binds0 n hk hn hb
  exact ⟨f, fd, us, m, F.kp, hv, b, mkFnD F S len body⟩
/-- all keyword-only ones are told -/
theorem mkDefK {x : Str} {st : Stmt} {kws : List (Str × V)} {N ps ks : List Str} {k n : Nat} {sp : Sp} {g : {α : Type} → List α → List α → List α} (A : AtD K mg x st kws)
    (S : FnScope N ps (defScope st))
    (hb : ∀ (kV doc pm : Value) (an : Option Addr) (cdv ct : Value) (us ws : List Value), us.length = n → ws.length = ks.length →
      bindArgs (PySem.W.fnOf x x (defArgs st) (defBody st) (defScope st) .none kV doc pm an cdv ct) ⟨us, ks.zip ws⟩ = pure (ps.zip (g us ws)))
    (hg : ∀ {vs : List V} {us : List Value} {zs : List V} {ws : List Value}, Vals vs us → Vals zs ws → Vals (g vs zs) (g us ws))
    (len : ∀ vs H Q E, sp vs H Q E → vs.length = ps.length)
    (body : ∀ (f : Addr) (cdv : Value) (A : Around) (out : List Env) (s : Shared) (H : Hp) (vs : List V) (Q : VK) (E : XK),
      Room k (A.deeper (envOfC x (defScope st) s.heap.objs.size f cdv)) → sp vs H Q E →
      ∃ t, PSs (cxOf CX0 P w K mg base N x (defScope st) f cdv A out s H E).nox (defBody st) t ∧
        t { nx := fun _ H' => Q .non H', rt := Q } (start N vs) H) : DefK P w K mg base x (k + 1) ps n ks g sp := by
  obtain ⟨f, fd, F, m⟩ := A.ex
  have F' := F
  obtain ⟨oc, od, dV, kV, doc, pm, an, cdv, ct, osl, rfl, lk, hcd, hD, hK⟩ := F.ex
  rcases hD with ⟨_, rfl⟩ | ⟨e, _⟩
  · exact ⟨f, _, fun us ws => g us ws, m, F'.kp, ⟨fun s us ws X l1 l2 => .of_eq (hb kV doc pm an cdv ct us ws l1 l2), hg⟩, mkFnD F' S len body⟩
  · exact absurd rfl e
end
section
variable {X : Cx} {x : Str} {k j n : Nat} {ps ks : List Str} {ds : List V} {sp : Sp} {p pos : Pos} {e : Expr} {es : List Expr} {t tk : TA} {gV : List V → List V → List V}
  {kws : List Keyword}
theorem pe_dD (D : DefD X.prog X.w X.K X.mg X.base x k ps ds sp) (hr : Room j X.A) (hk : k ≤ j) (hg : Gl X x) (ha : PA X (e :: es) t)
    (hdb : (x == ("__debug__" : Str)) = false := by decide)
    (he : starEach (e :: es) X.env = (false, eval e X.env) :: starEach es X.env := by rfl)
    (hpl : (backTo pos (starEach es X.env)).any (·.1) = false := by rfl) :
    PE X (.Call (.Name x p) (e :: es) [] pos) (tCall sp ds E0 t) := by
  obtain ⟨f, fd, us, m, kp, hv, b, F⟩ := D.ex
  exact pe_call F (hr.mono hk) hg m kp b hv pass0 ha hdb he hpl
theorem pe_dK (D : DefK X.prog X.w X.K X.mg X.base x k ps n ks gV sp) (hr : Room j X.A) (hk : k ≤ j) (hg : Gl X x) (ha : PA X (e :: es) t) (hkw : PK X kws tk)
    (hall : (backToKw pos (keywordEach kws X.env)).all (·.1.isSome) = true := by rfl) (hks : (backToKw pos (keywordEach kws X.env)).filterMap (·.1) = ks := by rfl)
    (hdb : (x == ("__debug__" : Str)) = false := by decide)
    (he : starEach (e :: es) X.env = (false, eval e X.env) :: starEach es X.env := by rfl)
    (hpl : ((backTo pos (starEach (e :: es) X.env)).any (·.1) || (backToKw pos (keywordEach kws X.env)).any (·.1.isNone)) = false := by rfl) :
    PE X (.Call (.Name x p) (e :: es) kws pos) (tCallN n ks.length sp gV E0 t tk) := by
  obtain ⟨f, fd, g, m, kp, b, F⟩ := D.ex
  exact pe_callN F (hr.mono hk) hg m kp b pass0 ha hkw hall hks hdb he hpl
end
end Pw

/-! sorted(d.items()) of a dict whose keys are numbers that rise. -/
namespace Pw
open PySem PySem.Spec PyProof.Rows L2 L2.DX

/-- the number that stands first in the tuple at v -/
def fstI (h : Heap) : Value → Int
  | .ref a => match h.get? a with
    | some o => match o.data with
      | .seq xs _ => match (xs[0]? : Option Value) with
        | some (Value.int x _) => x
        | _ => 0
      | _ => 0
    | none => 0
  | _ => 0
/-- a pair of a number and any thing -/
def PairR (h : Heap) (v : Value) (x : Int) (u : Value) : Prop := ∃ a o t n, v = .ref a ∧ h.get? a = some o ∧ o.cls = .type "tuple" ∧ o.data = .seq #[.int x t, u] n
theorem PairR.fst {h : Heap} {v u : Value} {x : Int} (p : PairR h v x u) : fstI h v = x := by
  obtain ⟨a, o, t, n, rfl, ho, hc, hd⟩ := p
  simp only [fstI, ho, hd]
  rfl
theorem PairR.keeps {h h' : Heap} {v u : Value} {x : Int} (p : PairR h v x u) (k : ∀ b o, h.get? b = some o → o.cls = .type "tuple" → h'.get? b = some o) : PairR h' v x u := by
  obtain ⟨a, o, t, n, e, ho, hc, hd⟩ := p
  exact ⟨a, o, t, n, e, k _ _ ho hc, hc, hd⟩
theorem firsts_ofR {h : Heap} : ∀ {vs : List Value}, (∀ v ∈ vs, ∃ x u, PairR h v x u) → ∃ fs : List Value, PySem.W.KatTups h vs fs ∧ fs.length = vs.length ∧ ∀ f ∈ fs, ∃ x t, f = Value.int x t
  | [], _ => ⟨[], PySem.W.KatTups.nil, rfl, fun _ hm => by simp at hm⟩
  | v :: vs, hp => by
    obtain ⟨fs, h1, h2, h3⟩ := firsts_ofR (vs := vs) fun v' hm => hp v' (List.mem_cons_of_mem _ hm)
    obtain ⟨x, u, a, o, t, n, e, ho, hc, hd⟩ := hp v (List.mem_cons_self ..)
    subst e
    refine ⟨.int x t :: fs, PySem.W.KatTups.cons ho hc hd rfl h1, by rw [List.length_cons, List.length_cons, h2], fun f hm => ?_⟩
    rcases List.mem_cons.mp hm with rfl | hm
    · exact ⟨x, t, rfl⟩
    · exact h3 f hm
theorem swo_by (k : Value → Int) : SrtO.Swo fun v u => decide (k v < k u) := by
  refine ⟨fun x y h => ?_, fun x y z h1 h2 => ?_⟩
  · have := of_decide_eq_true h
    exact decide_eq_false (by omega)
  · have a := of_decide_eq_false h1
    have b := of_decide_eq_false h2
    exact decide_eq_false (by omega)
section
variable {prog : Program} {w : World} {A : Around} {s : Shared}
theorem pairR_cmp {vs : List Value} {k : Value → Int} (hp : ∀ v ∈ vs, ∃ u, PairR s.heap v (k v) u) (hi : ∀ v ∈ vs, ∀ u ∈ vs, k v = k u → v = u) :
    SrtO.Cmp prog w A s (tuples' true) (fun p => p.1 ∈ vs) (SrtO.lt2 fun v u => decide (k v < k u)) := by
  intro p q hm hm'
  obtain ⟨y, a, o, t, n, e, ho, hc, hd⟩ := hp _ hm
  obtain ⟨y', a', o', t', n', e', ho', hc', hd'⟩ := hp _ hm'
  have hinj := hi _ hm _ hm'
  show wpAny (model prog w) A (keyLt' (tuples' true) p.1 q.1) (fun r s' => s' = s ∧ r = decide (k p.1 < k q.1)) (fun _ _ => False) s
  generalize k p.1 = x at hd hinj ⊢
  generalize k q.1 = x' at hd' hinj ⊢
  rw [e, e'] at hinj ⊢
  refine PySem.W.kat_lt ho hd ho' hd' ?_
  show PySem.W.KatLex prog w A true (decide (2 < 2)) _ [(.int x t, .int x' t'), (y, y')] 0 s
  refine PySem.W.kat_cons (SeqAt.EqAt.int_int x t x' t' prog w _ _ ?_)
  refine PySem.W.kat_go (fun e1 => ?_) (fun e1 => ?_)
  · have ex : x = x' := by simpa using e1
    have ea := hinj ex
    cases ea
    rw [ho] at ho'
    cases ho'
    rw [hd] at hd'
    injection hd' with h1 h2
    have hy : y = y' := by
      have := congrArg (fun z : Array Value => z[1]?) h1
      simpa using this
    subst hy
    refine PySem.W.kat_yes (PySem.W.kat_cons (SeqAt.EqAt.same y prog w _ _ ?_))
    refine PySem.W.kat_yes (PySem.W.kat_nil ⟨rfl, ?_⟩)
    rw [ex]
    exact (decide_eq_false (Int.lt_irrefl _)).symm
  · exact PySem.W.kat_no (oneLt_int ⟨rfl, rfl⟩)
theorem pairsR_sortable {a : Addr} {vs : List Value} {k : Value → Int} (h0 : 0 < vs.length) (hp : ∀ v ∈ vs, ∃ u, PairR s.heap v (k v) u) (hi : ∀ v ∈ vs, ∀ u ∈ vs, k v = k u → v = u)
    (ha : ∀ o, s.heap.get? a = some o → o.cls ≠ .type "tuple") : SrtO.SortableO prog w A s a vs fun v u => decide (k v < k u) := by
  intro h' keep
  have hp' : ∀ v ∈ vs, ∃ u, PairR h' v (k v) u := fun v hm => let ⟨u, z⟩ := hp v hm; ⟨u, z.keeps fun b o e c => keep b o (fun z => by subst z; exact ha o e c) e⟩
  obtain ⟨fs, h1, h2, h3⟩ := firsts_ofR fun v hm => let ⟨u, z⟩ := hp' v hm; ⟨_, u, z⟩
  refine ⟨tuples' true, fun Q E hq => ?_, pairR_cmp hp' hi⟩
  refine PySem.W.kat_kind (T := .type "int") h1 (by omega) (fun f hm => ?_) (by rfl) ?_
  · obtain ⟨x, t, rfl⟩ := h3 f hm
    exact PySem.W.Looks.now
  · have e : (Value.type "int" != Value.type "tuple") = true := by first | decide +kernel | rfl | decide
    rw [e]
    exact hq
end
theorem perm_rise {α : Type} (f : α → Int) : ∀ (l m : List α), l.Perm m → l.Pairwise (fun a b => f a ≤ f b) → m.Pairwise (fun a b => f a < f b) → l = m
  | [], m, p, _, _ => p.nil_eq
  | y :: l, [], p, _, _ => by cases p.length_eq
  | y :: l, x :: m, p, h1, h2 => by
    have hy : y ∈ x :: m := p.mem_iff.mp (List.mem_cons_self ..)
    have hx : x ∈ y :: l := p.mem_iff.mpr (List.mem_cons_self ..)
    have e : y = x := by
      rcases List.mem_cons.mp hy with e | hy
      · exact e
      · rcases List.mem_cons.mp hx with e | hx
        · exact e.symm
        · have a := (List.pairwise_cons.mp h1).1 x hx
          have b := (List.pairwise_cons.mp h2).1 y hy
          omega
    subst e
    rw [perm_rise f l m p.cons_inv (List.pairwise_cons.mp h1).2 (List.pairwise_cons.mp h2).2]

section
variable {X : Cx}
/-- d.items(), d a dict with number or text keys -/
def rItemsK : V → List V → Hp → VK → Prop := fun x xs H Q => ∃ (a : Addr) (kvs : List (Key × V)), x = .ref a ∧ xs = [] ∧ H a = some (.dK kvs) ∧ ∀ p, H p = none → Q (.ref p) (upd H p (itemsO p a))
theorem mt_itemsK : MtR X "dict.items" rItemsK := by
  intro pins s σ H x xs v us Q I rx rxs h
  obtain ⟨a, kvs, rfl, rfl, ha, q⟩ := h
  cases rx
  cases rxs
  obtain ⟨_, hsys, us, hkv, o, es, ep, h1, h2, h3, _⟩ := (show ObjOk X.prog X.w H s.heap a (.dK kvs) from I.hok a _ ha)
  refine DT.callItems (es := es) (ep := ep) hsys ⟨o, h1, h2, h3⟩ ?_
  have hf : H s.heap.objs.size = none := I.hok.fresh (Nat.le_refl _)
  exact ⟨.ref s.heap.objs.size, upd H s.heap.objs.size (itemsO s.heap.objs.size a), I.laid (t' := s.toks) (fun b u e => Heap.get?_push_of_some _ e) (Nat.le_refl _) (itemsO_ok (Heap.get?_push_size _ rfl)), rfl, q _ hf⟩

/-- sorted(d.items()): the keys are numbers that rise -/
def rSortK : List V → Hp → VK → Prop := fun xs H Q => ∃ (p a : Addr) (kvs : List (Key × V)) (ks : List Int), xs = [.ref p] ∧ H p = some (itemsO p a) ∧ H a = some (.dK kvs) ∧
  kvs.map Prod.fst = ks.map Sum.inl ∧ ks.Pairwise (· < ·) ∧ kvs.length ≤ 1000000 ∧
  ∀ (H' : Hp) (l : Addr) (as : List Addr), Same H H' → H l = none → H' l = some (.lst (as.map V.ref)) → as.length = kvs.length →
    (∀ (j : Nat) (b : Addr) (k : Int) (v : V), as[j]? = some b → kvs[j]? = some (.inl k, v) → H b = none ∧ H' b = some (.tup [.int k, v])) → Q (.ref l) H'
theorem cr_sortK (hc : X.calm = true) : CallR X (.builtin "sorted") rSortK := by
  intro pins s σ H xs us Q I r h
  obtain ⟨p, a, kvs, ks, rfl, hp, ha, hk, hri, hl, q⟩ := h
  obtain rfl := Vals.ref1 r
  have view : s.heap.IsItemsView p a := (show ObjOk X.prog X.w H s.heap p (itemsO p a) from I.hok p _ hp).1
  obtain ⟨_, hsys, ws, hkv, o, es, ep, h1, h2, h3, _, h4, _⟩ := (show ObjOk X.prog X.w H s.heap a (.dK kvs) from I.hok a _ ha)
  obtain ⟨r1, r2⟩ := pairs_keys hkv h4
  have hh : X.A.handled = none := I.ok.hd hc
  have les : es.size = kvs.length := by
    have := r2.length
    simpa using this.symm
  have lks : ks.length = kvs.length := by
    have := congrArg List.length hk
    simpa using this.symm
  have big : (1000000 : Nat) < sizeLine := by decide
  refine DT.sortedI (es := es) (ep := ep) hh view ⟨o, h1, h2, h3⟩ (by omega) fun h' tk as hk' hlt hl' hG => ?_
  have lak : as.length = kvs.length := by omega
  have nd : as.Nodup := List.Pairwise.imp (fun h => Nat.ne_of_lt h) hG.rise
  have pr : ∀ (j : Nat) (b : Addr), as[j]? = some b → ∃ (k : Int) (v : V) (t : Tok) (u : Value), kvs[j]? = some (.inl k, v) ∧ ks[j]? = some k ∧ RelV v u ∧ h'.get? b = some { cls := .type "tuple", data := .seq #[.int k t, u] } := by
    intro j b hj
    obtain ⟨en, he, hg⟩ := hG.pairs j b hj
    have hj2 : j < kvs.length := by rw [← lak]; exact (List.getElem?_eq_some_iff.mp hj).1
    have he' : es.toList[j]? = some en := by rw [Array.getElem?_toList]; exact he
    obtain ⟨u1, hu1, rv1⟩ := r1.get (i := j) (x := kV (kvs[j]).1) (by rw [List.getElem?_map, List.getElem?_eq_getElem hj2]; rfl)
    obtain ⟨u2, hu2, rv2⟩ := r2.get (i := j) (x := (kvs[j]).2) (by rw [List.getElem?_map, List.getElem?_eq_getElem hj2]; rfl)
    rw [List.getElem?_map, he'] at hu1 hu2
    have hkj : ks[j]? = some ks[j] := List.getElem?_eq_getElem (by omega)
    have ek : (kvs[j]).1 = Sum.inl ks[j] := by
      have := congrArg (fun z => z[j]?) hk
      simp only [List.getElem?_map, List.getElem?_eq_getElem hj2, hkj, Option.map_some, Option.some.injEq] at this
      exact this
    cases hu1
    cases hu2
    rw [ek] at rv1
    obtain ⟨t, et⟩ := (show ∃ t, en.key = Value.int ks[j] t from rv1)
    rw [et] at hg
    refine ⟨ks[j], (kvs[j]).2, t, en.val, ?_, hkj, rv2, hg⟩
    rw [List.getElem?_eq_getElem hj2, ← ek]
  have hob : (h'.push { cls := .type "list", data := .seq (as.map Value.ref).toArray }).get? h'.objs.size = some (seqObj "list" (as.map Value.ref).toArray 0) := Heap.get?_push_size _ rfl
  have ne0 : ∀ b o, h'.get? b = some o → b ≠ h'.objs.size := fun b o e => Nat.ne_of_lt (Heap.lt_size e)
  generalize hh2 : h'.push { cls := .type "list", data := .seq (as.map Value.ref).toArray } = h2' at hob ⊢
  have ka : ∀ b o, h'.get? b = some o → h2'.get? b = some o := fun b o e => by rw [← hh2]; exact Heap.get?_push_of_some _ e
  have kb : ∀ b o, s.heap.get? b = some o → h2'.get? b = some o := fun b o e => ka _ _ (hk' _ _ e)
  have pin : ∀ (j : Nat) (b : Addr) (k : Int), as[j]? = some b → ks[j]? = some k → ∃ u, PairR h2' (.ref b) k u := by
    intro j b k hj hkj
    obtain ⟨k', v, t, u, _, e2, _, e4⟩ := pr j b hj
    rw [hkj] at e2
    cases e2
    exact ⟨u, b, _, t, 0, rfl, ka _ _ e4, rfl, rfl⟩
  have fk : ∀ (j : Nat) (b : Addr) (k : Int), as[j]? = some b → ks[j]? = some k → fstI h2' (.ref b) = k := fun j b k hj hkj =>
    let ⟨u, z⟩ := pin j b k hj hkj
    z.fst
  have at_ : ∀ v ∈ as.map Value.ref, ∃ (j : Nat) (b : Addr) (k : Int), v = .ref b ∧ as[j]? = some b ∧ ks[j]? = some k := by
    intro v hv'
    obtain ⟨b, hb, rfl⟩ := List.mem_map.mp hv'
    obtain ⟨j, hj⟩ := List.mem_iff_getElem?.mp hb
    obtain ⟨k, _, _, _, _, e2, _⟩ := pr j b hj
    exact ⟨j, b, k, rfl, hj, e2⟩
  have fits : (as.map Value.ref).length ≤ sizeLine := by rw [List.length_map]; omega
  have ndk : ks.Nodup := List.Pairwise.imp (fun h => Int.ne_of_lt h) hri
  have rise : (as.map Value.ref).Pairwise fun v u => fstI h2' v < fstI h2' u := by
    refine List.pairwise_iff_getElem.mpr fun i j hi hj hij => ?_
    rw [List.length_map] at hi hj
    have hi' : i < ks.length := by omega
    have hj' : j < ks.length := by omega
    rw [List.getElem_map, List.getElem_map, fk i _ ks[i] (List.getElem?_eq_getElem hi) (List.getElem?_eq_getElem hi'), fk j _ ks[j] (List.getElem?_eq_getElem hj) (List.getElem?_eq_getElem hj')]
    exact List.pairwise_iff_getElem.mp hri i j hi' hj' hij
  refine wpAny_call_entry PyProof.Rows.slot_list_sort ⟨_, hob, rfl⟩ PyProof.Rows.entry_list_sort
    (SrtO.list_sort_ord (s := { s with heap := h2', toks := tk }) (swo_by (fstI h2')) hob fits (fun h2 => ?_) fun out g1 g2 => ⟨.none, rfl, ?_⟩) (PyProof.Rows.args_list_sort _)
  · refine pairsR_sortable (s := { s with heap := h2', toks := tk }) (by omega) (fun v hv' => ?_) (fun v hv' u hu' e => ?_) (fun o e => ?_)
    · obtain ⟨j, b, k, rfl, hj, hkj⟩ := at_ v hv'
      rw [fk j b k hj hkj]
      exact pin j b k hj hkj
    · obtain ⟨j, b, k, rfl, hj, hkj⟩ := at_ v hv'
      obtain ⟨j2, b2, k2, rfl, hj2, hkj2⟩ := at_ u hu'
      rw [fk j b k hj hkj, fk j2 b2 k2 hj2 hkj2] at e
      subst e
      have := (List.getElem?_inj (List.getElem?_eq_some_iff.mp hkj).1 ndk).mp (hkj.trans hkj2.symm)
      subst this
      rw [hj] at hj2
      cases hj2
      rfl
    · have e' : some o = some (seqObj "list" (as.map Value.ref).toArray 0) := e.symm.trans hob
      cases e'
      intro c
      exact absurd (Value.type.inj c) (by decide)
  · show EP X pins σ Q (.ref h'.objs.size) { s with heap := sortedHeap h2' h'.objs.size (as.map Value.ref) out.toArray, toks := tk }
    have eo : out = as.map Value.ref := by
      refine perm_rise (fstI h2') _ _ g2.perm (g1.imp fun {x y} z => ?_) rise
      have := of_decide_eq_false z
      omega
    subst eo
    have kF : ∀ b o, b ≠ h'.objs.size → h2'.get? b = some o → (sortedHeap h2' h'.objs.size (as.map Value.ref) (as.map Value.ref).toArray).get? b = some o := fun b o hb e => (PyProof.Rows.sortedHeap_old hb (Heap.lt_size e)).trans e
    have kS : ∀ b o, s.heap.get? b = some o → (sortedHeap h2' h'.objs.size (as.map Value.ref) (as.map Value.ref).toArray).get? b = some o := fun b o e => kF b o (ne0 _ _ (hk' b o e)) (kb b o e)
    obtain ⟨eF, heF⟩ := PyProof.Rows.sortedHeap_at (vs := as.map Value.ref) (out := (as.map Value.ref).toArray) hob
    generalize sortedHeap h2' h'.objs.size (as.map Value.ref) (as.map Value.ref).toArray = h5 at kF kS heF ⊢
    have I1 : Inv X pins σ H { s with heap := h5, toks := tk } := I.kept (t' := tk) kS
    have hn0 : H h'.objs.size = none := I.hok.fresh (Nat.le_of_lt hlt)
    have hlen : (as.map V.ref).length ≤ sizeLine := by rw [List.length_map]; omega
    have rv : Vals (as.map V.ref) (as.map Value.ref) := vals_maps V.ref Value.ref as fun _ _ => rfl
    have I2 : Inv X pins σ (upd H h'.objs.size (.lst (as.map V.ref))) { s with heap := h5, toks := tk } :=
      I1.take (h' := h5) (t' := tk) (fun b ob _ e => e) (I.fpOk (Nat.le_of_lt hlt) hn0) ⟨hlen, as.map Value.ref, eF, rv, by simpa using heF⟩
    obtain ⟨H2, I3, g, qt⟩ := takeT (P := fun b vs => ∃ (j : Nat) (k : Int) (v : V), as[j]? = some b ∧ kvs[j]? = some (.inl k, v) ∧ vs = [.int k, v]) I as _ I2 nd fun b hb => by
      obtain ⟨j, hj⟩ := List.mem_iff_getElem?.mp hb
      obtain ⟨k, v, t, u, e1, _, e3, e4⟩ := pr j b hj
      have hbl : s.heap.objs.size ≤ b := Nat.le_of_lt (hG.above b hb)
      refine ⟨hbl, ?_, [.int k, v], ⟨j, k, v, hj, e1, rfl⟩, fun H3 => ⟨(by show 2 ≤ sizeLine; decide), [Value.int k t, u], .cons ⟨t, rfl⟩ (.cons e3 .nil), ⟨_, kF _ _ (ne0 _ _ e4) (ka _ _ e4), rfl, 0, rfl⟩⟩⟩
      rw [upd_ne (ne0 _ _ e4)]
      exact I.hok.fresh hbl
    have gr : ∀ b o, H b = some o → H2 b = some o := fun b o e => g b o (by rw [upd_ne (ne_of_none e hn0)]; exact e)
    refine ⟨.ref h'.objs.size, H2, I3, rfl, q H2 h'.objs.size as gr hn0 (g _ _ upd_same) lak fun j b k v hj hkv' => ?_⟩
    obtain ⟨vs, ⟨i, k', v', i1, i2, ev⟩, hH⟩ := qt b (List.mem_of_getElem? hj)
    have eij : i = j := (List.getElem?_inj (List.getElem?_eq_some_iff.mp i1).1 nd).mp (i1.trans hj.symm)
    subst eij
    rw [hkv'] at i2
    cases i2
    rw [ev] at hH
    exact ⟨I.hok.fresh (Nat.le_of_lt (hG.above b (List.mem_of_getElem? hj))), hH⟩
end
end Pw

/-! Rows in a list or in a tuple; how lists of rows are shown. -/
namespace Pw
open PySem PySem.Spec PyProof.Rows L2
/-- at a a tuple of tuples -/
def TT {α : Type} (f : α → List V) (H : Hp) (a : Addr) (rs : List α) : Prop := ∃ vs, H a = some (.tup vs) ∧ Al f H vs rs
/-- at a a list or a tuple of tuples -/
def LS {α : Type} (f : α → List V) (H : Hp) (a : Addr) (rs : List α) : Prop := LT f H a rs ∨ TT f H a rs
section
variable {α : Type} {f : α → List V} {H H' : Hp} {K : PySem.W.Frag}
theorem TT.same {a : Addr} {rs : List α} (h : TT f H a rs) (S : Same H H') : TT f H' a rs := let ⟨vs, e, al⟩ := h; ⟨vs, S _ _ e, al.same S⟩
theorem LS.same {a : Addr} {rs : List α} (h : LS f H a rs) (S : Same H H') : LS f H' a rs := h.imp (fun l => l.same S) fun t => t.same S
theorem LT.ls {a : Addr} {rs : List α} (h : LT f H a rs) : LS f H a rs := .inl h
theorem TT.ls {a : Addr} {rs : List α} (h : TT f H a rs) : LS f H a rs := .inr h
/-- rows are shown by their texts, none longer than N -/
def ShR (f : α → List V) (tx : α → Str) (ok : α → Prop) (N : Nat) : Prop :=
  ∀ (K : PySem.W.Frag) (H : Hp) (p : Addr) (r : α), ok r → H p = some (.tup (f r)) → Shw K H (.ref p) 1 N (tx r)
theorem shl_rows {tx : α → Str} {ok : α → Prop} {N : Nat} (S : ShR f tx ok N) {vs : List V} {rs : List α} (h : Al f H vs rs) (ho : ∀ r ∈ rs, ok r) :
    ∃ d, d ≤ 1 ∧ ShwL K H vs d (rs.length * (N + 2)) (rs.map tx) := by
  induction h with
  | nil => exact ⟨0, by decide, by simpa using ShwL.nil⟩
  | @cons p vs r rs e t ih =>
    obtain ⟨d, hd, s⟩ := ih fun r hr => ho r (by simp [hr])
    refine ⟨max 1 d, by omega, ?_⟩
    have := ShwL.cons (S K H p r (ho r (by simp)) e) s
    have e2 : N + 2 + rs.length * (N + 2) = (r :: rs).length * (N + 2) := by
      rw [List.length_cons, Nat.succ_mul]
      omega
    rw [e2] at this
    exact this
/-- a list of rows is shown -/
theorem shw_rows {tx : α → Str} {ok : α → Prop} {N : Nat} (K : PySem.W.Frag) (S : ShR f tx ok N) {a : Addr} {rs : List α} (h : LT f H a rs) (ho : ∀ r ∈ rs, ok r)
    (hl : rs.length * (N + 2) + 2 ≤ sizeLine) : ∃ d n, Shw K H (.ref a) (d + 1) n (listText (rs.map tx)) ∧ n ≤ sizeLine ∧ d + 1 ≤ 60 := by
  obtain ⟨vs, e, al⟩ := h.ex
  obtain ⟨d, hd, s⟩ := shl_rows (K := K) S al ho
  exact ⟨d, _, .lst e s, hl, by omega⟩
theorem sm60 {i : Int} (h : -1000000000000 ≤ i) (k : i ≤ 1000000000000) : i.natAbs.log2 < 1920 := by
  by_cases hz : i.natAbs = 0
  · rw [hz]
    decide
  · rw [Nat.log2_lt hz]
    exact Nat.lt_of_lt_of_le (show i.natAbs < 2 ^ 60 by omega) (Nat.pow_le_pow_right (by decide) (by decide))
/-- what follows two ways that meet -/
theorem seq_join {A B : TS} {D : Ends} {σ : L2.St} {H : Hp} (P : L2.St → Hp → Prop) (h2 : ∀ N' : L2.St → Hp → Prop, (∀ σ' H', P σ' H' → N' σ' H') → A { D with nx := N' } σ H)
    (h1 : ∀ σ' H', P σ' H' → B D σ' H') : tSeq A B D σ H := h2 _ h1
end
end Pw

/-! sorted of a dict with number keys, of any number. -/
namespace Pw
open PySem PySem.Spec PyProof.Rows L2
/-- what sorted(d) asks of a dict whose keys are numbers -/
def rSortD : List V → Hp → VK → Prop := fun xs H Q => ∃ (a : Addr) (kvs : List (Key × V)) (ks : List Int), xs = [.ref a] ∧ Rd H a (.dK kvs) ∧
  kvs.map Prod.fst = ks.map Sum.inl ∧ ks.length ≤ 1000000 ∧
  ∀ (ys : List Int) (p : Addr), ys.Perm ks → ys.Pairwise (· ≤ ·) → H p = none → Q (.ref p) (upd H p (.lst (ys.map V.int)))
theorem cr_sortD {X : Cx} (calm : X.calm = true) : CallR X (.builtin "sorted") rSortD := by
  intro pins st σ H xs us Q I rel0 hq
  obtain ⟨a, kvs, ks, rfl, hrd, hkeys, hsm, hq⟩ := hq
  have small : ks.length ≤ sizeLine := Nat.le_trans hsm (by decide)
  obtain ⟨u, rfl, ru⟩ := vals1 rel0
  obtain rfl : u = Value.ref a := ru
  obtain ⟨_, low, vs, rel, there⟩ := dk_rd I.hok hrd
  obtain ⟨ep, at_⟩ := there.dictAt
  have names : vs.map Prod.fst = ks.map Sum.inl := Eq.trans rel.keys.symm hkeys
  have many : vs.length = ks.length := by
    have := congrArg List.length names
    simpa using this
  refine Calls.call_function_entry PyProof.Rows.kind_sorted PyProof.Rows.plain_sorted
    PyProof.Rows.entry_sorted (PyProof.Rows.args_sorted1 _) ?_
  unfold Builtin.«sorted»
  refine wpAny_bind (m := checkCount "sorted" 1 1 _) (wpAny_pure (wpAny_bind ?_))
  refine PySem.W.kdu_collect (A := X.A.in1)
    (PySem.W.kdl_dict (knd := mixKind X.prog X.w) (kvs := vs) (ep := ep) low) (I.ok.hd calm) at_
    (by rw [many]; exact small) fun h1 tk got keep hgot => ?_
  have lgot : got.toList.length = ks.length := by
    rw [Array.length_toList, hgot.1]
    exact many
  have nums : IntsAre got.toList ks := by
    refine ints_each lgot fun j v ej => ?_
    obtain ⟨k, _, q1, q2⟩ := hgot.2 j v ((Array.getElem?_toList).symm.trans ej)
    have q3 : (ks.map (Sum.inl (β := Str)))[j]? = some k := by
      rw [← names, List.getElem?_map, q1]
      rfl
    rw [List.getElem?_map] at q3
    cases q4 : ks[j]? with
    | none => simp [q4] at q3
    | some y =>
      simp only [q4, Option.map_some, Option.some.injEq] at q3
      subst q3
      rcases keyIs_shape (show keyIs (Sum.inl y) v = true from q2) with ⟨i, t, ek, ev⟩ | ⟨_, _, ek, _⟩
      · cases ek
        exact ⟨_, t, rfl, ev⟩
      · cases ek
  have J : Inv X pins σ H { st with heap := h1, toks := tk } := I.kept keep
  have fits : got.toList.length ≤ sizeLine := by
    rw [lgot]
    exact small
  refine wpAny_bind (wpAny_newList ?_ fits)
  have laid_ : (h1.push (seqObj "list" got.toList.toArray 0)).get? h1.objs.size =
    some (seqObj "list" got.toList.toArray 0) := Heap.get?_push_size _ rfl
  show wpAny _ _ _ _ _
    { st with heap := h1.push (seqObj "list" got.toList.toArray 0), toks := tk }
  refine wpAny_bind (wpAny_holding (wpAny_call_entry PyProof.Rows.slot_list_sort
    ⟨_, laid_, rfl⟩ PyProof.Rows.entry_list_sort ?_ (PyProof.Rows.args_list_sort _)))
  refine SrtO.list_sort_ord SrtO.swo_int laid_ fits (fun h2 => SrtO.ints_sortable nums h2)
    fun out g1 g2 => ⟨_, rfl, ?_⟩
  obtain ⟨z1, z2, z3⟩ := SrtO.ints_out nums g1 g2
  obtain ⟨e', at'⟩ := PyProof.Rows.sortedHeap_at (vs := got.toList) (out := out.toArray) laid_
  have fits2 : ((out.map SrtO.iv).map V.int).length ≤ sizeLine := by
    rw [List.length_map, z2.length_eq]
    exact small
  refine wpAny_pure ⟨_, rfl, .ref h1.objs.size, upd H h1.objs.size (.lst ((out.map SrtO.iv).map V.int)), ?_, rfl, ?_⟩
  · refine J.laid (t' := tk) (fun b u e => ?_) (Nat.le_refl _) ⟨fits2, out, e', vals_of_ints z1, at'⟩
    have lt : b < h1.objs.size := Heap.lt_size e
    refine (PyProof.Rows.sortedHeap_old (Nat.ne_of_lt lt) ?_).trans (Heap.get?_push_of_some _ e)
    rw [size_push']
    exact Nat.lt_succ_of_lt lt
  · exact hq _ _ z2 z3 (J.hok.fresh (Nat.le_refl _))
end Pw

/-! Trends: the mathematics of fine and coarse rows. -/
namespace Tr
/-- the worth of the last row, of those ahead, that is no later than t -/
def lastW (rs : List (Int × Int)) (t : Int) : Option Int := ((rs.takeWhile fun r => decide (r.1 ≤ t)).getLast?).map (·.2)
def tickRow (rs : List (Int × Int)) (t : Int) : Option (Int × Int) := (lastW rs t).map fun w => (t, w)
def fineM (rs : List (Int × Int)) (lo : Int) (n : Nat) : List (Int × Int) := (List.range n).filterMap fun (i : Nat) => tickRow rs (lo + (i : Int))
theorem fineM_zero (rs : List (Int × Int)) (lo : Int) : fineM rs lo 0 = [] := rfl
theorem fineM_succ (rs : List (Int × Int)) (lo : Int) (n : Nat) : fineM rs lo (n + 1) = fineM rs lo n ++ (tickRow rs (lo + n)).toList := by
  unfold fineM
  rw [List.range_succ, List.filterMap_append]
  cases h : tickRow rs (lo + n) <;> simp [h]
theorem fineM_append (rs : List (Int × Int)) (lo : Int) (n m : Nat) : fineM rs lo n ++ fineM rs (lo + n) m = fineM rs lo (n + m) := by
  induction m with
  | zero => simp [fineM_zero]
  | succ m ih =>
    rw [fineM_succ, ← List.append_assoc, ih, show n + (m + 1) = (n + m) + 1 from rfl, fineM_succ]
    congr 3
    omega
theorem fineM_mem {rs : List (Int × Int)} {lo : Int} {n : Nat} {r : Int × Int} (h : r ∈ fineM rs lo n) :
    lo ≤ r.1 ∧ r.1 < lo + n ∧ ∃ q ∈ rs, q.2 = r.2 := by
  unfold fineM at h
  obtain ⟨i, hi, e⟩ := List.mem_filterMap.mp h
  have hi := List.mem_range.mp hi
  unfold tickRow lastW at e
  cases q : (rs.takeWhile fun r => decide (r.1 ≤ lo + i)).getLast? with
  | none => rw [q] at e; cases e
  | some z =>
    rw [q] at e
    cases e
    refine ⟨by show lo ≤ lo + i; omega, by show lo + i < lo + n; omega, z, ?_, rfl⟩
    exact (List.takeWhile_sublist _).subset (List.mem_of_getLast? q)
theorem fineM_len (rs : List (Int × Int)) (lo : Int) (n : Nat) : (fineM rs lo n).length ≤ n := by
  unfold fineM
  exact Nat.le_trans (List.length_filterMap_le _ _) (by simp)
/-- ticks rising -/
def Rise (l : List (Int × Int)) : Prop := l.Pairwise fun a b => a.1 < b.1
theorem fineM_rise (rs : List (Int × Int)) (lo : Int) (n : Nat) : Rise (fineM rs lo n) := by
  induction n with
  | zero => exact .nil
  | succ n ih =>
    rw [fineM_succ]
    refine List.pairwise_append.mpr ⟨ih, ?_, ?_⟩
    · cases tickRow rs (lo + n) <;> simp
    · intro a ha b hb
      have h1 := (fineM_mem ha).2.1
      unfold tickRow at hb
      cases q : lastW rs (lo + n) with
      | none => rw [q] at hb; simp at hb
      | some z =>
        rw [q] at hb
        simp at hb
        rw [hb]
        exact h1

/-! ### coarse rows -/
structure G5 where
  k : Int
  n : Int
  s : Int
  lo : Int
  hi : Int
deriving DecidableEq
def key (z t : Int) : Int := t - t % z
def one (r : Int × Int) : G5 := ⟨r.1, 1, r.2, r.2, r.2⟩
def mrg (a b : G5) : G5 := ⟨a.k, a.n + b.n, a.s + b.s, min a.lo b.lo, max a.hi b.hi⟩
def atKey (z : Int) (r : G5) : G5 := { r with k := key z r.k }
def stp (z : Int) (C : List G5) (r : G5) : List G5 := match C.getLast? with
  | some g => if g.k = key z r.k then C.dropLast ++ [mrg g r] else C ++ [atKey z r]
  | none => [atKey z r]
def coarseM (z : Int) (rs : List G5) : List G5 := rs.foldl (stp z) []
theorem stp_nil (z : Int) (r : G5) : stp z [] r = [atKey z r] := rfl
theorem stp_snoc (z : Int) (C : List G5) (g r : G5) : stp z (C ++ [g]) r = if g.k = key z r.k then C ++ [mrg g r] else C ++ [g] ++ [atKey z r] := by
  unfold stp
  rw [List.getLast?_concat]
  simp
theorem snoc_cases {α : Type} (l : List α) : l = [] ∨ ∃ l' a, l = l' ++ [a] := by
  rcases List.eq_nil_or_concat l with h | ⟨l', a, h⟩
  · exact .inl h
  · exact .inr ⟨l', a, by simpa using h⟩
theorem mrg_assoc (a b c : G5) : mrg (mrg a b) c = mrg a (mrg b c) := by
  unfold mrg
  simp only [G5.mk.injEq, true_and]
  refine ⟨by omega, by omega, by omega, by omega⟩
theorem stp_stp {f : Int} {g r : G5} (h : key f g.k = key f r.k) (D : List G5) : stp f (stp f D g) r = stp f D (mrg g r) := by
  have hk : (mrg g r).k = g.k := rfl
  have e2 : mrg (atKey f g) r = atKey f (mrg g r) := rfl
  have ek : (atKey f g).k = key f g.k := rfl
  rcases snoc_cases D with rfl | ⟨D', d, rfl⟩
  · rw [stp_nil, stp_nil, show [atKey f g] = [] ++ [atKey f g] from rfl, stp_snoc, if_pos (by rw [ek]; exact h), e2]
    rfl
  · rw [stp_snoc, stp_snoc, hk]
    by_cases c : d.k = key f g.k
    · rw [if_pos c, if_pos c, stp_snoc, if_pos (show (mrg d g).k = _ from c.trans h), mrg_assoc]
    · rw [if_neg c, if_neg c, stp_snoc, if_pos (by rw [ek]; exact h), e2]
theorem stp_atKey {f g : Int} (hfg : ∀ t, key f (key g t) = key f t) (D : List G5) (r : G5) : stp f D (atKey g r) = stp f D r := by
  have e1 : (atKey g r).k = key g r.k := rfl
  have e2 : atKey f (atKey g r) = atKey f r := by
    unfold atKey
    simp only [hfg]
  rcases snoc_cases D with rfl | ⟨D', d, rfl⟩
  · rw [stp_nil, stp_nil, e2]
  · rw [stp_snoc, stp_snoc, e1, hfg, e2]
    rfl
theorem fold_coarse {f g : Int} (hfg : ∀ t, key f (key g t) = key f t) (D : List G5) : ∀ n (B : List G5), B.length = n →
    (coarseM g B).foldl (stp f) D = B.foldl (stp f) D := by
  intro n
  induction n with
  | zero =>
    intro B h
    rw [List.length_eq_zero_iff.mp h]
    rfl
  | succ n ih =>
    intro B h
    rcases snoc_cases B with rfl | ⟨B', r, rfl⟩
    · cases h
    · have hl : B'.length = n := by simpa using h
      have e := ih B' hl
      have c1 : coarseM g (B' ++ [r]) = stp g (coarseM g B') r := by
        unfold coarseM
        rw [List.foldl_append]
        rfl
      rw [c1, List.foldl_append, ← e]
      show _ = stp f (List.foldl (stp f) D (coarseM g B')) r
      generalize coarseM g B' = C
      rcases snoc_cases C with rfl | ⟨C', c, rfl⟩
      · rw [stp_nil]
        exact stp_atKey hfg D r
      · rw [stp_snoc]
        by_cases q : c.k = key g r.k
        · rw [if_pos q, List.foldl_append, List.foldl_append]
          show stp f (List.foldl (stp f) D C') (mrg c r) = stp f (stp f (List.foldl (stp f) D C') c) r
          rw [stp_stp]
          rw [q, hfg]
        · rw [if_neg q, List.foldl_append]
          exact stp_atKey hfg _ r
theorem coarse_parts {z : Int} (hz : ∀ t, key z (key z t) = key z t) (A B : List G5) : coarseM z (coarseM z A ++ coarseM z B) = coarseM z (A ++ B) := by
  unfold coarseM
  rw [List.foldl_append, List.foldl_append]
  have h1 := fold_coarse hz [] _ A rfl
  have h2 := fold_coarse hz (List.foldl (stp z) [] A) _ B rfl
  unfold coarseM at h1 h2
  rw [h1, h2]
theorem coarse_coarse {f g : Int} (hfg : ∀ t, key f (key g t) = key f t) (B : List G5) : coarseM f (coarseM g B) = coarseM f B :=
  fold_coarse hfg [] _ B rfl
theorem key_key (z m : Int) (hz : 0 < z) (hm : 0 < m) (t : Int) : key (z * m) (key z t) = key (z * m) t := by
  have e : ∀ (q s : Int), q - q % s = s * (q / s) := fun q s => by
    have := Int.mul_ediv_add_emod q s
    omega
  unfold key
  rw [e t z, e, e t, Int.mul_ediv_mul_of_pos _ _ hz, Int.ediv_ediv_of_nonneg (by omega)]
theorem key_idem (z : Int) (hz : 0 < z) (t : Int) : key z (key z t) = key z t := by
  have := key_key z 1 hz (by omega) t
  rwa [Int.mul_one] at this
theorem key_mono {z : Int} (hz : 0 < z) {a b : Int} (h : a ≤ b) : key z a ≤ key z b := by
  have e : ∀ (q : Int), q - q % z = z * (q / z) := fun q => by
    have := Int.mul_ediv_add_emod q z
    omega
  unfold key
  rw [e, e]
  exact Int.mul_le_mul_of_nonneg_left (Int.ediv_le_ediv hz h) (by omega)
theorem key_one (t : Int) : key 1 t = t := by
  unfold key
  omega
theorem coarse_one {l : List (Int × Int)} (h : Rise l) : coarseM 1 (l.map one) = l.map one := by
  have : ∀ n (l : List (Int × Int)), l.length = n → Rise l → coarseM 1 (l.map one) = l.map one := by
    intro n
    induction n with
    | zero => intro l h _; rw [List.length_eq_zero_iff.mp h]; rfl
    | succ n ih =>
      intro l hl h
      rcases snoc_cases l with rfl | ⟨l', r, rfl⟩
      · cases hl
      · have hp := List.pairwise_append.mp h
        have e := ih l' (by simpa using hl) hp.1
        rw [List.map_append]
        show coarseM 1 (l'.map one ++ [one r]) = l'.map one ++ [one r]
        have c1 : coarseM 1 (l'.map one ++ [one r]) = stp 1 (coarseM 1 (l'.map one)) (one r) := by
          unfold coarseM
          rw [List.foldl_append]
          rfl
        have e2 : atKey 1 (one r) = one r := by
          unfold atKey
          rw [key_one]
        rw [c1, e]
        rcases snoc_cases l' with rfl | ⟨l2, q, rfl⟩
        · rw [List.map_nil, stp_nil, e2]
          rfl
        · rw [List.map_append, List.map_cons, List.map_nil, stp_snoc, if_neg, e2]
          rw [key_one]
          have := hp.2.2 q (by simp) r (by simp)
          show ¬ q.1 = r.1
          omega
  exact this _ l rfl h
def sumN (C : List G5) : Int := (C.map (·.n)).sum
def sumS (C : List G5) : Int := (C.map (·.s)).sum
theorem sum_append (a b : List Int) : (a ++ b).sum = a.sum + b.sum := by
  induction a with
  | nil => simp
  | cons x r ih => simp only [List.cons_append, List.sum_cons, ih]; omega
theorem sumN_stp (z : Int) (C : List G5) (r : G5) : sumN (stp z C r) = sumN C + r.n := by
  rcases snoc_cases C with rfl | ⟨C', c, rfl⟩
  · simp [stp_nil, sumN, atKey]
  · rw [stp_snoc]
    split <;> simp [sumN, sum_append, mrg, atKey] <;> omega
theorem sumS_stp (z : Int) (C : List G5) (r : G5) : sumS (stp z C r) = sumS C + r.s := by
  rcases snoc_cases C with rfl | ⟨C', c, rfl⟩
  · simp [stp_nil, sumS, atKey]
  · rw [stp_snoc]
    split <;> simp [sumS, sum_append, mrg, atKey] <;> omega
theorem sumN_coarse (z : Int) (B : List G5) : sumN (coarseM z B) = sumN B := by
  have : ∀ D, sumN (B.foldl (stp z) D) = sumN D + sumN B := by
    induction B with
    | nil => intro D; simp [sumN]
    | cons r B ih =>
      intro D
      rw [List.foldl_cons, ih, sumN_stp]
      simp only [sumN, List.map_cons, List.sum_cons]
      omega
  have h := this []
  simpa [coarseM, sumN] using h
theorem sumS_coarse (z : Int) (B : List G5) : sumS (coarseM z B) = sumS B := by
  have : ∀ D, sumS (B.foldl (stp z) D) = sumS D + sumS B := by
    induction B with
    | nil => intro D; simp [sumS]
    | cons r B ih =>
      intro D
      rw [List.foldl_cons, ih, sumS_stp]
      simp only [sumS, List.map_cons, List.sum_cons]
      omega
  have h := this []
  simpa [coarseM, sumS] using h
theorem sumN_ones (l : List (Int × Int)) : sumN (l.map one) = l.length := by
  induction l with
  | nil => rfl
  | cons r l ih =>
    simp only [sumN, List.map_cons, List.sum_cons, List.length_cons] at ih ⊢
    rw [ih]
    show (1 : Int) + _ = _
    omega
theorem sumS_ones (l : List (Int × Int)) : sumS (l.map one) = (l.map (·.2)).sum := by
  induction l with
  | nil => rfl
  | cons r l ih =>
    simp only [sumS, List.map_cons, List.sum_cons] at ih ⊢
    rw [ih]
    rfl
/-- starts rising -/
def RiseK (C : List G5) : Prop := C.Pairwise fun a b => a.k < b.k
/-- one step more, of a row no earlier than all ahead: the starts rise on -/
theorem stp_rise {z : Int} {C : List G5} {r : G5} (h : RiseK C) (hl : ∀ g ∈ C, g.k ≤ key z r.k) : RiseK (stp z C r) ∧ ∀ g ∈ stp z C r, g.k ≤ key z r.k := by
  rcases snoc_cases C with rfl | ⟨C', c, rfl⟩
  · rw [stp_nil]
    refine ⟨by unfold RiseK; simp, ?_⟩
    intro g hg
    simp only [List.mem_singleton] at hg
    rw [hg]
    exact Int.le_refl _
  · rw [stp_snoc]
    have hp := List.pairwise_append.mp h
    by_cases q : c.k = key z r.k
    · rw [if_pos q]
      refine ⟨List.pairwise_append.mpr ⟨hp.1, by simp, fun a ha b hb => ?_⟩, fun g hg => ?_⟩
      · simp only [List.mem_singleton] at hb
        rw [hb]
        exact hp.2.2 a ha c (by simp)
      · rcases List.mem_append.mp hg with hg | hg
        · exact hl g (by simp [hg])
        · simp only [List.mem_singleton] at hg
          rw [hg]
          exact hl c (by simp)
    · rw [if_neg q]
      have lt : c.k < key z r.k := by
        have := hl c (by simp)
        omega
      refine ⟨List.pairwise_append.mpr ⟨h, by simp, fun a ha b hb => ?_⟩, fun g hg => ?_⟩
      · simp only [List.mem_singleton] at hb
        rw [hb]
        show a.k < key z r.k
        rcases List.mem_append.mp ha with ha | ha
        · have := hp.2.2 a ha c (by simp)
          omega
        · simp only [List.mem_singleton] at ha
          rw [ha]
          exact lt
      · rcases List.mem_append.mp hg with hg | hg
        · exact hl g hg
        · simp only [List.mem_singleton] at hg
          rw [hg]
          exact Int.le_refl _
/-- rows that never go back -/
def Nd (rs : List G5) : Prop := rs.Pairwise fun a b => a.k ≤ b.k
theorem coarse_snoc (z : Int) (B : List G5) (r : G5) : coarseM z (B ++ [r]) = stp z (coarseM z B) r := by
  unfold coarseM
  rw [List.foldl_append]
  rfl
theorem coarse_rise {z : Int} (hz : 0 < z) : ∀ (n : Nat) (rs : List G5), rs.length = n → Nd rs → RiseK (coarseM z rs) ∧ ∀ g ∈ coarseM z rs, ∃ r ∈ rs, g.k = key z r.k := by
  intro n
  induction n with
  | zero =>
    intro rs h _
    rw [List.length_eq_zero_iff.mp h]
    exact ⟨List.Pairwise.nil, fun g hg => by cases hg⟩
  | succ n ih =>
    intro rs h nd
    rcases snoc_cases rs with rfl | ⟨B, r, rfl⟩
    · cases h
    · have hp := List.pairwise_append.mp nd
      obtain ⟨h1, h2⟩ := ih B (by simpa using h) hp.1
      rw [coarse_snoc]
      have hl : ∀ g ∈ coarseM z B, g.k ≤ key z r.k := fun g hg => by
        obtain ⟨q, hq, e⟩ := h2 g hg
        rw [e]
        exact key_mono hz (hp.2.2 q hq r (by simp))
      refine ⟨(stp_rise h1 hl).1, fun g hg => ?_⟩
      generalize coarseM z B = C at *
      rcases snoc_cases C with rfl | ⟨C', c, rfl⟩
      · rw [stp_nil] at hg
        simp only [List.mem_singleton] at hg
        exact ⟨r, by simp, by rw [hg]; rfl⟩
      · rw [stp_snoc] at hg
        by_cases q : c.k = key z r.k
        · rw [if_pos q] at hg
          rcases List.mem_append.mp hg with hg | hg
          · obtain ⟨r', hr, e⟩ := h2 g (by simp [hg])
            exact ⟨r', by simp [hr], e⟩
          · simp only [List.mem_singleton] at hg
            exact ⟨r, by simp, by rw [hg]; exact q⟩
        · rw [if_neg q] at hg
          rcases List.mem_append.mp hg with hg | hg
          · obtain ⟨r', hr, e⟩ := h2 g hg
            exact ⟨r', by simp [hr], e⟩
          · simp only [List.mem_singleton] at hg
            exact ⟨r, by simp, by rw [hg]; rfl⟩
theorem coarse_len (z : Int) (rs : List G5) : (coarseM z rs).length ≤ rs.length := by
  have : ∀ D : List G5, (rs.foldl (stp z) D).length ≤ D.length + rs.length := by
    induction rs with
    | nil => intro D; simp
    | cons r rs ih =>
      intro D
      rw [List.foldl_cons]
      refine Nat.le_trans (ih _) ?_
      have : (stp z D r).length ≤ D.length + 1 := by
        rcases snoc_cases D with rfl | ⟨D', d, rfl⟩
        · rw [stp_nil]; simp
        · rw [stp_snoc]; split <;> simp
      simp only [List.length_cons]
      omega
  have h := this []
  simpa [coarseM] using h
theorem nd_ones {l : List (Int × Int)} (h : Rise l) : Nd (l.map one) :=
  List.pairwise_map.mpr (h.imp fun q => Int.le_of_lt q)
theorem RiseK.nd {C : List G5} (h : RiseK C) : Nd C := h.imp fun q => Int.le_of_lt q
/-- the stats of some worths -/
structure St (g : G5) (ws : List Int) : Prop where
  n : g.n = ws.length
  s : g.s = ws.sum
  lo : g.lo ∈ ws ∧ ∀ x ∈ ws, g.lo ≤ x
  hi : g.hi ∈ ws ∧ ∀ x ∈ ws, x ≤ g.hi
theorem St.one (z : Int) (r : Int × Int) : St (atKey z (Tr.one r)) [r.2] :=
  ⟨rfl, by simp [atKey, Tr.one], by simp [atKey, Tr.one], by simp [atKey, Tr.one]⟩
theorem St.snoc {g : G5} {ws : List Int} (h : St g ws) (r : Int × Int) : St (mrg g (Tr.one r)) (ws ++ [r.2]) := by
  refine ⟨?_, ?_, ?_, ?_⟩
  · show g.n + 1 = _
    rw [h.n, List.length_append]
    rfl
  · show g.s + r.2 = _
    rw [h.s, sum_append]
    simp
  · show min g.lo r.2 ∈ _ ∧ _
    refine ⟨?_, fun x hx => ?_⟩
    · rcases Int.le_total g.lo r.2 with q | q
      · rw [Int.min_eq_left q]
        simp [h.lo.1]
      · rw [Int.min_eq_right q]
        simp
    · show min g.lo r.2 ≤ x
      rcases List.mem_append.mp hx with hx | hx
      · have := h.lo.2 x hx
        omega
      · simp only [List.mem_singleton] at hx
        omega
  · show max g.hi r.2 ∈ _ ∧ _
    refine ⟨?_, fun x hx => ?_⟩
    · rcases Int.le_total g.hi r.2 with q | q
      · rw [Int.max_eq_right q]
        simp
      · rw [Int.max_eq_left q]
        simp [h.hi.1]
    · show x ≤ max g.hi r.2
      rcases List.mem_append.mp hx with hx | hx
      · have := h.hi.2 x hx
        omega
      · simp only [List.mem_singleton] at hx
        omega
end Tr

/-! Exceptions over ValueError, LookupError and KeyError: as values, and raised. -/
namespace Pw
open PySem
/-- what __init__ of a built-in error must be -/
structure IniF (B initId : String) : Prop where
  split : splitId initId = some (B, "__init__")
  kind : builtinKind initId = some .slot
  row : Manifest.signature? initId =
    some ⟨.positional, "*", B, .self, [⟨"args", .varPos, false⟩]⟩
  plain : plainId initId = true
  star : (B != "*") = true
  entry : entryFor table initId = some Builtin.«BaseException.__init__»
theorem iniV : IniF "ValueError" "ValueError.__init__" :=
  ⟨F.excBase_ValueError.initSplit, F.excBase_ValueError.initKind, F.excBase_ValueError.initRow, F.excBase_ValueError.init.plain, by decide, F.excBase_ValueError.initEntry⟩
theorem iniL : IniF "LookupError" "LookupError.__init__" :=
  ⟨F.excBase_LookupError.initSplit, F.excBase_LookupError.initKind, F.excBase_LookupError.initRow, F.excBase_LookupError.init.plain, by decide, F.excBase_LookupError.initEntry⟩
theorem iniK : IniF "KeyError" "KeyError.__init__" where
  split := by kernel_rfl
  kind := by kernel_rfl
  row := by kernel_rfl
  plain := by decide +kernel
  star := by decide
  entry := entryFor_alias (id' := "BaseException.__init__") (by rw [fastTable_eq_tree]; kernel_rfl)
    (by first | rfl | decide +kernel) (by decide +kernel)
    (by rw [fastTable_eq_tree]; kernel_rfl)
abbrev veT : List Value := [.type "ValueError", .type "Exception", .type "BaseException", .type "object"]
abbrev leT : List Value := [.type "LookupError", .type "Exception", .type "BaseException", .type "object"]
abbrev keT : List Value := [.type "KeyError", .type "LookupError", .type "Exception", .type "BaseException", .type "object"]
/-- the classes behind an own one, and the maker of its instances -/
structure Fit (newId : String) (bm : List Value) : Prop where
  maker : ∃ B i bmB, ExcBaseFacts B newId i bmB ∧ bm.contains (.type B) = true
  noA : bm.contains (.type "AttributeError") = false
  noN : bm.contains (.type "NameError") = false
  obj : bm.contains (.type "object") = true
  pass : ∀ self, refuseLoop self "__setattr__" bm = pure ()
theorem fitV : Fit "ValueError.__new__" veT :=
  ⟨⟨_, _, _, F.excBase_ValueError, by decide +kernel⟩, by decide +kernel, by decide +kernel, by decide +kernel, F.store_ValueError.passes⟩
theorem fitL : Fit "LookupError.__new__" leT :=
  ⟨⟨_, _, _, F.excBase_LookupError, by decide +kernel⟩, by decide +kernel, by decide +kernel, by decide +kernel, F.store_LookupError.passes⟩
theorem fitK : Fit "LookupError.__new__" keT :=
  ⟨⟨_, _, _, F.excBase_LookupError, by decide +kernel⟩, by decide +kernel, by decide +kernel, by decide +kernel, fun self => by kernel_rfl⟩
theorem Fit.up {newId : String} {bm : List Value} (c : Addr) (h : Fit newId bm) : Fit newId (.ref c :: bm) := by
  obtain ⟨B, i, bmB, F, hB⟩ := h.maker
  have e : ∀ X : String, (Value.ref c :: bm).contains (.type X) = bm.contains (.type X) := fun X => by
    rw [List.contains_cons]; rfl
  exact ⟨⟨B, i, bmB, F, (e B).trans hB⟩, (e _).trans h.noA, (e _).trans h.noN, (e _).trans h.obj, fun self => by
    rw [refuseLoop_ref]
    exact h.pass self⟩
end Pw

namespace Pw
open PySem PySem.Spec PyProof.Rows L2

/-! ### such a class is called -/
section
variable {prog : Program} {w : World} {A : Around} {R : Result → Shared → Prop} {h : Heap} {g : Array GenState}
  {d : Drawn} {t : Nat} {os : OsState} {nm q : Str} {C N : Addr} {bs bm bmB : List Value} {hdct : Bool} {sn : List Str}
  {sub : List Value} {ab : Bool} {col : Option Bool} {dd : Option Addr} {k0 k1 k2 k3 k5 : Option Value} {B newId initId : String} {kw : List (Str × Value)}

theorem new_checkF {M : Model} {E : Value → Shared → Prop} (F : ExcBaseFacts B newId initId bmB)
    (hB : (Value.ref C :: bm).contains (.type B) = true) {rest : List Value} {Q : Unit → Shared → Prop}
    (hC : h.get? C = some (excClassObj nm q C N bs bm hdct sn sub ab col dd k0 k1 k2 k3 k5 newId)) (hq : Q () ⟨h, g, d, t, os⟩) :
    wpAny M A (checkBuiltinCall newId ⟨.ref C :: rest, kw⟩) Q E ⟨h, g, d, t, os⟩ := by
  have star := F.noStar
  simp only [checkBuiltinCall, F.newKind, F.newSplit, F.newRow]
  repeat (first
    | refine wpAny_loadPart_at hC ?_
    | (refine wpAny_isSubtype_exc hC ?_; rw [hB])
    | refine wpAny_staticBase_exc hC ?_
    | refine wpAny_madeBy_exc hC ?_
    | simp only [bne_self_eq_false, Bool.false_eq_true, if_false]
    | wp_step)
  exact hq

theorem newF (F : ExcBaseFacts B newId initId bmB) (hB : (Value.ref C :: bm).contains (.type B) = true)
    (hA : (Value.ref C :: bm).contains (.type "AttributeError") = false)
    (hN : (Value.ref C :: bm).contains (.type "NameError") = false) {rest : List Value}
    (hC : h.get? C = some (excClassObj nm q C N bs bm hdct sn sub ab col dd k0 k1 k2 k3 k5 newId))
    (hq : R (.ok (.ret (.ref (h.objs.size + 1)))) ⟨(h.push (PySem.W.kdv_tup rest)).push (exOb C none h.objs.size), g, d, t, os⟩)
    (hrest : rest.length ≤ sizeLine) :
    codeAny (model prog w) A (.builtin newId ⟨.ref C :: rest, kw⟩) R ⟨h, g, d, t, os⟩ := by
  have ends := F.ends
  refine codeAny_builtinAt F.entry ?_
  unfold Builtin.«BaseException.__new__»
  refine PySem.wpAt_bind ?_
  show PySem.wpAt _ _ _ (stack >>= _) _ _ _
  refine PySem.wpAt_bind (PySem.wpAt_stack fun p below => PySem.wpAt_of_wpAny ?_)
  wp_walk
  refine PySem.wpAt_of_wpAny ?_
  rw [F.owner]
  repeat (first
    | with_reducible refine wpAny_madeHere_exc F.canon hC ?_
    | with_reducible refine wpAny_loadPart_at hC ?_
    | (with_reducible refine wpAny_isSubtype_exc hC ?_; first | rw [hB] | rw [hA] | rw [hN])
    | wp_step)
  show R _ _
  rw [Heap.size_push]
  exact hq

theorem type_callF {E : Value → Shared → Prop} (F : ExcBaseFacts B newId initId bmB) (hB : (Value.ref C :: bm).contains (.type B) = true)
    (hA : (Value.ref C :: bm).contains (.type "AttributeError") = false)
    (hN : (Value.ref C :: bm).contains (.type "NameError") = false) {rest : List Value} {fI : Addr} {Q : Fin → Shared → Prop}
    (hC : h.get? C = some (excClassObj nm q C N bs bm hdct sn sub ab col dd k0 k1 k2 k3 k5 newId))
    (hi : PySem.W.Looks (model prog w) h (typeLookup (.ref C) "__init__") (some (.ref fI)))
    (hb : ∀ self, PySem.W.Looks (model prog w) h (bindSpecial (.ref fI) self) (.ref fI, [self])) (hrest : rest.length ≤ sizeLine)
    (hq : codeAny (model prog w) A (.call (.ref fI) ⟨.ref (h.objs.size + 1) :: rest, kw⟩)
      (fun r s' => match r with
        | .ok (.ret v) => v = .none ∧ Q (.done (.ret (.ref (h.objs.size + 1)))) s'
        | .ok _ => False
        | .error e => E e s')
      ⟨(h.push (PySem.W.kdv_tup rest)).push (exOb C none h.objs.size), g, d, t, os⟩) :
    wpAny (model prog w) A (Builtin.«type.__call__» ⟨.ref C :: rest, kw⟩) Q E ⟨h, g, d, t, os⟩ := by
  repeat (first
    | with_reducible refine wpAny_loadPart_at hC ?_
    | with_reducible refine wpAny_madeBy_exc hC ?_
    | wp_step)
  refine codeAny_call_builtin_code (Code.quiet_builtin _ F.quiet) (new_checkF F hB hC ?_)
  refine newF F hB hA hN hC ?_ hrest
  show wpAny _ _ _ _ _ _
  have k : ∀ b o, h.get? b = some o → ((h.push (PySem.W.kdv_tup rest)).push (exOb C none h.objs.size)).get? b = some o :=
    fun b o e => Heap.get?_push_of_some _ (Heap.get?_push_of_some _ e)
  have hC1 := k _ _ hC
  have hget : ((h.push (PySem.W.kdv_tup rest)).push (exOb C none h.objs.size)).get? (h.objs.size + 1) =
    some (exOb C none h.objs.size) := by heap_get
  have hcC : (Value.ref C :: bm).contains (.ref C) = true := by simp
  have i1 := hi.keeps k
  have b1 := (hb (.ref (h.objs.size + 1))).keeps k
  unfold isInstance
  repeat (first
    | with_reducible refine wpAny_loadPart_at hget ?_
    | (with_reducible refine wpAny_isSubtype_exc hC1 ?_; rw [hcC])
    | wp_step)
  show wpAny _ _ (typeLookup (.ref C) _) _ _ _
  refine i1.at (wpAny_holding (wpAny_bind (b1.at ?_)))
  refine wpAny_bind (wpAny_call (codeAny_mono hq fun r s' z => ?_))
  match r, z with
  | .error e, z => exact z
  | .ok (.ret v), ⟨hv, z⟩ =>
    subst hv
    first
      | exact wpAny_pure (wpAny_pure z)
      | (wp_walk; exact z)
  | .ok .next, z => exact z.elim
  | .ok .brk, z => exact z.elim
  | .ok .cont, z => exact z.elim

theorem call_ownF (F : ExcBaseFacts B newId initId bmB) (hB : (Value.ref C :: bm).contains (.type B) = true)
    (hA : (Value.ref C :: bm).contains (.type "AttributeError") = false)
    (hN : (Value.ref C :: bm).contains (.type "NameError") = false) {rest : List Value} {fI : Addr}
    (hC : h.get? C = some (excClassObj nm q C N bs bm hdct sn sub ab col dd k0 k1 k2 k3 k5 newId))
    (hi : PySem.W.Looks (model prog w) h (typeLookup (.ref C) "__init__") (some (.ref fI)))
    (hb : ∀ self, PySem.W.Looks (model prog w) h (bindSpecial (.ref fI) self) (.ref fI, [self])) (hrest : rest.length ≤ sizeLine)
    (hq : codeAny (model prog w) (A.under (.builtin "type.__call__" ⟨.ref C :: rest, kw⟩))
      (.call (.ref fI) ⟨.ref (h.objs.size + 1) :: rest, kw⟩) (PySem.W.InitBack (h.objs.size + 1) R)
      ⟨(h.push (PySem.W.kdv_tup rest)).push (exOb C none h.objs.size), g, d, t, os⟩) :
    codeAny (model prog w) A (.call (.ref C) ⟨rest, kw⟩) R ⟨h, g, d, t, os⟩ := by
  have f1 := tc_lookup
  have f2 := tc_bind (.ref C)
  have hTy : (⟨h, g, d, t, os⟩ : Shared).TypeIs (.ref C) "type" := ⟨_, hC, rfl⟩
  refine codeAny_of_tree ?_
  show wpAny _ _ (callAny (.ref C) _) _ _ _
  repeat (any_goals (first
    | assumption
    | with_reducible refine wpAny_loadPart_at hC ?_
    | wp_step))
  refine ⟨rfl, ?_⟩
  refine codeAny_call_builtin_at (Code.quiet_builtin _ (by decide +kernel)) entry_typeCall
    (wpAny_check_type_call_sub hC (type_callF F hB hA hN hC hi hb hrest ?_))
  refine codeAny_mono hq fun r s' z => ?_
  match r, z with
  | .error e, z => exact z
  | .ok (.ret v), z => exact z
  | .ok .next, z => exact z
  | .ok .brk, z => exact z
  | .ok .cont, z => exact z

/-- B.__init__(e, ..): the args are laid anew -/
theorem init_argsF (I : IniF B initId) (hB : (Value.ref C :: bm).contains (.type B) = true) {e t0 : Addr} {rest : List Value}
    (hC : h.get? C = some (excClassObj nm q C N bs bm hdct sn sub ab col dd k0 k1 k2 k3 k5 newId))
    (he : h.get? e = some (exOb C none t0)) (hrest : rest.length ≤ sizeLine)
    (hq : ∀ h' t1, h.objs.size ≤ t1 → (∀ b o, b ≠ e → h.get? b = some o → h'.get? b = some o) →
      h'.get? e = some (exOb C none t1) → h'.get? t1 = some (PySem.W.kdv_tup rest) →
      R (.ok (.ret .none)) ⟨h', g, d, t, os⟩) :
    codeAny (model prog w) A (.call (.builtin initId) ⟨.ref e :: rest, []⟩) R ⟨h, g, d, t, os⟩ := by
  refine codeAny_call_builtin I.plain I.entry ?_
  simp only [checkBuiltinCall, I.kind, I.split, I.row]
  have star := I.star
  repeat (first
    | with_reducible refine wpAny_loadPart_at he ?_
    | with_reducible refine wpAny_loadPart_at hC ?_
    | (with_reducible refine wpAny_isSubtype_exc hC ?_; rw [hB])
    | wp_step)
  refine wpAny_onRaise ?_
  have chk : ∀ (a b : String) (n : Nat), Bind.check ⟨.positional, "*", B, .self, [⟨"args", .varPos, false⟩]⟩ a b n
      (List.map (fun x => x.fst) ({ pos := Value.ref e :: rest } : Args).kw) = pure () :=
    fun a b n => check_star_args _ _ _ _ _ _
  rw [chk]
  refine wpAny_pure ?_
  have hes : e ≠ h.objs.size := Nat.ne_of_lt (Heap.lt_size he)
  wp_walk
  refine hq _ h.objs.size (Nat.le_refl _) (fun b o hb ho => ?_) ?_ ?_
  · exact (Heap.get?_update_other _ _ (Ne.symm hb)).trans (Heap.get?_push_of_some _ ho)
  · exact (Heap.get?_update_self _ (Heap.get?_push_of_some _ he) rfl).trans rfl
  · exact (Heap.get?_update_other _ _ hes).trans (Heap.get?_push_size _ rfl)
end
end Pw

/-! Exceptions of one's own over any of the three bases: stored in, made, read. -/
namespace Pw
open PySem PySem.Spec PyProof.Rows L2

/-- what the written part says of the class at C -/
structure OexF (K : PySem.W.Frag) (C : Addr) : Prop where
  cls : ∃ newId nm q N bs bm sn sub ab col dd k0 k1 k2 k3 k5,
    K.lookup C = some (excClassObj nm q C N bs bm true sn sub ab col dd k0 k1 k2 k3 k5 newId) ∧ Fit newId (.ref C :: bm)
  sa : PySem.W.findIn K (.ref C) "__setattr__" = some (some (.builtin "object.__setattr__"))
  exC : PySem.W.subIn K (.ref C) (.type "BaseException") = some true
  tyC : PySem.W.typeIn K (.ref C) = some (.type "type")
  kC : PySem.W.keepIn K (.ref C) = true

section
variable {prog : Program} {w : World} {A : Around} {R : Result → Shared → Prop} {hp : Heap} {g : Array GenState}
  {d : Drawn} {t : Nat} {os : OsState}
open PySem.Builtin PySem.Builtin.ObjectAttr in
/-- object.__setattr__ on an exception that has no dict yet -/
theorem osaF {K : PySem.W.Frag} {name : Str} {tk : Tok} {v : Value} {x C : Addr} {fv : Array Value} {cd : ClassData}
    (X : K.In hp) (hx : hp.get? x = some { cls := .ref C, data := .fields fv })
    (hcd : PySem.W.clsIn K C = some cd) (hne : cd.mro.isEmpty = false) (hob : cd.mro.contains (.type "object") = true)
    (hps : ∀ self, refuseLoop self "__setattr__" cd.mro = pure ()) (hh : cd.hasDict = true)
    (ha : PySem.W.findIn K (.ref C) name = some none)
    (hq : ∀ h' tk' dx, (∀ b o, b ≠ x → hp.get? b = some o → h'.get? b = some o) → hp.objs.size ≤ dx → dx ≠ x →
      h'.get? x = some { cls := .ref C, dict := some dx, data := .fields fv } →
      h'.Ns1 dx (fun y => if y = name then some v else none) → R (.ok (.ret .none)) ⟨h', g, d, tk', os⟩) :
    codeAny (model prog w) A (.call (.builtin "object.__setattr__") ⟨[.ref x, .str name tk, v], []⟩) R ⟨hp, g, d, t, os⟩ := by
  have I : PySem.W.InstAt hp x { cls := .ref C, data := .fields fv } C none := ⟨hx, rfl, rfl, trivial⟩
  have SF := F.store_object
  have hxs : x ≠ hp.objs.size := Nat.ne_of_lt (Heap.lt_size hx)
  have mo : PySem.W.mroIn K C (.type "object") = some true := by
    unfold PySem.W.mroIn
    rw [hcd, Option.bind_some, if_neg (by rw [hne]; decide), hob]
  have sub : PySem.W.Looks (model prog w) hp (isInstance (.ref x) (.type "object")) true :=
    I.type.andThen (PySem.W.looks_mroIn X mo)
  refine codeAny_call_builtin SF.slot.plain SF.entry ?_
  refine @PySem.W.check_slot (model prog w) _ _ ⟨hp, g, d, t, os⟩ "object.__setattr__" "object" "__setattr__" (.ref x)
    [.str name tk, v] [] _ SF.kind SF.split sub (SF.args (.ref x) (.str name tk) v) ?_
  have hmr : PySem.W.Looks (model prog w) hp (mroOf (.ref C)) cd.mro := (PySem.W.looks_clsIn X hcd).andThen .now
  have nt : PySem.W.Looks (model prog w) hp (storeTaker? none) none := .now
  have lc : PySem.W.Looks (model prog w) hp (classData C) cd := PySem.W.looks_clsIn X hcd
  rw [PySem.W.osa_eq, refuse_eq]
  refine wpAny_bind (wpAny_bind (I.type.at (wpAny_bind (hmr.at ?_))))
  rw [hps]
  refine wpAny_pure (wpAny_bind (I.type.at (wpAny_bind ((PySem.W.looks_findIn X ha).at (wpAny_bind (nt.at ?_))))))
  show wpAny _ _ (storeInOwnDict (.ref x) (.ref C) (.str name tk) name v false) _ _ _
  obtain ⟨nm, bs, mro, ns, qn, hd, sn, sb, ab, col, del⟩ := cd
  dsimp only at hh
  subst hh
  unfold storeInOwnDict ownDictForStores
  repeat (first
    | with_reducible refine PySem.HandSPX.store_in_new ?_ ?_
    | with_reducible refine wpAny_loadPart_at hx ?_
    | with_reducible refine lc.at ?_
    | wp_step)
  · exact ⟨_, #[], _, (Heap.get?_update_ne _ _ _ _ hxs.symm).trans (Heap.get?_push_at rfl rfl), rfl,
      fun e he => absurd he (by simp), fun _ => rfl⟩
  · intro h' tk' hn' hs
    have hx₁ : (hp.push { cls := .type "dict", data := .dict #[] }).get? x = some { cls := .ref C, data := .fields fv } :=
      Heap.get?_push_of_some _ hx
    refine hq h' tk' hp.objs.size (fun b o hb ho => ?_) (Nat.le_refl _) hxs.symm ?_ hn'
    · exact (hs.2 b (Nat.ne_of_lt (Heap.lt_size ho))).trans
        ((Heap.get?_update_ne _ _ _ _ hb).trans (Heap.get?_push_of_some _ ho))
    · exact (hs.2 x hxs).trans (Heap.get?_update_self _ hx₁ rfl)
end

section
variable {X : Cx} {pins : List (Addr × Obj)} {σ : L2.St} {H : Hp} {s : Shared} {a C t1 : Addr} {f : Str} {y : V}
  {u : Value} {E : Value → Shared → Prop} {A : Around}

/-- self.f = y, the first attribute -/
theorem eq_newF {Q : Unit → Shared → Prop} (T : OexF X.K C) (I : Inv X pins σ H s) (e : H a = some (exq a C none t1))
    (hno : PySem.W.findIn X.K (.ref C) f = some none) (ry : RelV y u)
    (h : ∀ dx s', H dx = none → dx ≠ a →
      Inv X pins σ (upd (upd H dx (exd dx [(f, y)])) a (exq a C (some dx) t1)) s' → Q () s') :
    wpAny (model X.prog X.w) A (setAttr (.ref a) f u) Q E s := by
  obtain ⟨newId, nm, q, N, bs, bm, sn, sub, ab, col, dd, k0, k1, k2, k3, k5, hC, ft⟩ := T.cls
  have hcl : PySem.W.clsIn X.K C = some { name := nm, bases := bs, mro := .ref C :: bm, ns := N, qualname := q, hasDict := true, slotNames := sn, subclasses := sub, abstract := ab, collection := col, hasDel := false } := by
    unfold PySem.W.clsIn
    rw [hC] <;> rfl
  have ho := exq_at I.hok e
  obtain ⟨hp, g, d, t, os⟩ := s
  refine PySem.W.set_plain I.kIn (ox := exOb C none t1) (od := none) ⟨ho, rfl, rfl, trivial⟩ T.sa ?_
  refine osaF I.kIn ho hcl rfl ft.obj ft.pass rfl hno (fun h' tk' dx k dn dne hx hn => ?_)
  have hnd : H dx = none := I.hok.fresh dn
  have nd : ∀ {b : Addr} {o : Obj}, hp.get? b = some o → b ≠ dx :=
    fun {b o} q => Nat.ne_of_lt (Nat.lt_of_lt_of_le (Heap.lt_size q) dn)
  have na : ∀ {b : Addr}, H b = none → b ≠ a := fun {b} n z => by rw [z, e] at n; cases n
  have Un1 : Un X.fs [] H (upd (upd H dx (exd dx [(f, y)])) a (exq a C (some dx) t1)) hp h' := {
    keep := fun b o q n _ _ => k b o (na n) q
    slot := fun b o q n _ _ => ⟨o.slots, k b o (na n) q⟩
    free := fun b o q n _ => ((upd_ne (na n)).trans (upd_ne (nd q))).trans n
    there := fun b o q _ => by
      by_cases hb : b = a
      · exact ⟨_, hb ▸ hx⟩
      · exact ⟨o, k b o hb q⟩
    tups := fun b xs q => ((upd_ne (at_ne e q exq_tup)).trans (upd_ne (ne_of_none q hnd))).trans q
    frzs := fun b o v q => ((upd_ne (at_ne e q exq_frz)).trans (upd_ne (ne_of_none q hnd))).trans q
    tbls := fun b ps q => ⟨#[], by rw [upd_ne (at_ne e q exq_tbl), upd_ne (ne_of_none q hnd), q]; simp⟩ }
  refine h dx _ hnd dne (I.un (t' := tk') Un1 fun b o q => ?_)
  by_cases hb : b = a
  · subst hb
    cases upd_same.symm.trans q
    exact exq_ok hx
  · rw [upd_ne hb] at q
    by_cases hd : b = dx
    · subst hd
      cases upd_same.symm.trans q
      exact exd_ok hn (relO_put (fs := []) ry fun g => True.intro)
    · rw [upd_ne hd] at q
      refine (I.hok b o q).stay (fun c v hc z => k c v ?_ z)
        (fun c hc => ((upd_ne (at_ne e hc exq_own)).trans (upd_ne (ne_of_none hc hnd))).trans hc)
        (fun c xs hc => ((upd_ne (at_ne e hc exq_tup)).trans (upd_ne (ne_of_none hc hnd))).trans hc)
      rcases hc with hc | hc
      · exact hc ▸ hb
      · exact at_ne e hc exq_own

/-- what the class stands above, from its own list -/
theorem has_of {K : PySem.W.Frag} {newId : String} {nm q : Str} {N : Addr} {bs bm : List Value} {sn : List Str}
    {sub : List Value} {ab : Bool} {col : Option Bool} {dd : Option Addr} {k0 k1 k2 k3 k5 : Option Value} {T : Value}
    (hC : K.lookup C = some (excClassObj nm q C N bs bm true sn sub ab col dd k0 k1 k2 k3 k5 newId))
    (m : PySem.W.mroIn K C T = some true) : (Value.ref C :: bm).contains T = true := by
  have hcl : PySem.W.clsIn K C = some { name := nm, bases := bs, mro := .ref C :: bm, ns := N, qualname := q, hasDict := true, slotNames := sn, subclasses := sub, abstract := ab, collection := col, hasDel := false } := by
    unfold PySem.W.clsIn
    rw [hC] <;> rfl
  unfold PySem.W.mroIn at m
  rw [hcl, Option.bind_some, if_neg (by show ¬ (false = true); decide)] at m
  exact Option.some.inj m

theorem eq_initF {B initId : String} {us : List Value} {ws : List V} {Q : Value → Shared → Prop} (J : IniF B initId)
    (T : OexF X.K C) (hB : PySem.W.mroIn X.K C (.type B) = some true) (I : Inv X pins σ H s)
    (e : H a = some (exq a C none t1)) (hl : us.length ≤ sizeLine) (rw' : Vals ws us)
    (h : ∀ t2 s', H t2 = none → t2 ≠ a → Inv X pins σ (upd (upd H t2 (.tup ws)) a (exq a C none t2)) s' → Q .none s') :
    wpAny (model X.prog X.w) A (call (.builtin initId) (.ref a :: us)) Q E s := by
  obtain ⟨newId, nm, q, N, bs, bm, sn, sub, ab, col, dd, k0, k1, k2, k3, k5, hC, ft⟩ := T.cls
  have ho := exq_at I.hok e
  obtain ⟨hp, g, d, t, os⟩ := s
  refine wpAny_call (init_argsF J (has_of hC hB) (I.kIn _ _ hC) ho hl fun h' t2 hsz k hx ht => ?_)
  have nt : H t2 = none := I.hok.fresh hsz
  have nea : t2 ≠ a := (ne_of_none e nt).symm
  have na : ∀ {b : Addr}, H b = none → b ≠ a := fun {b} n z => by rw [z, e] at n; cases n
  have nd : ∀ {b : Addr} {o : Obj}, hp.get? b = some o → b ≠ t2 :=
    fun {b o} q => Nat.ne_of_lt (Nat.lt_of_lt_of_le (Heap.lt_size q) hsz)
  have Un1 : Un X.fs [] H (upd (upd H t2 (.tup ws)) a (exq a C none t2)) hp h' := {
    keep := fun b o q n _ _ => k b o (na n) q
    slot := fun b o q n _ _ => ⟨o.slots, k b o (na n) q⟩
    free := fun b o q n _ => ((upd_ne (na n)).trans (upd_ne (nd q))).trans n
    there := fun b o q _ => by
      by_cases hb : b = a
      · exact ⟨_, hb ▸ hx⟩
      · exact ⟨o, k b o hb q⟩
    tups := fun b xs q => ((upd_ne (at_ne e q exq_tup)).trans (upd_ne (ne_of_none q nt))).trans q
    frzs := fun b o v q => ((upd_ne (at_ne e q exq_frz)).trans (upd_ne (ne_of_none q nt))).trans q
    tbls := fun b ps q => ⟨#[], by rw [upd_ne (at_ne e q exq_tbl), upd_ne (ne_of_none q nt), q]; simp⟩ }
  refine h t2 _ nt nea (I.un (t' := t) Un1 fun b o q => ?_)
  by_cases hb : b = a
  · subst hb
    cases upd_same.symm.trans q
    exact exq_ok hx
  · rw [upd_ne hb] at q
    by_cases hd : b = t2
    · subst hd
      cases upd_same.symm.trans q
      exact ⟨by rw [Paired.length rw']; exact hl, us, rw', _, ht, rfl, _, rfl⟩
    · rw [upd_ne hd] at q
      refine (I.hok b o q).stay (fun c v hc z => k c v ?_ z)
        (fun c hc => ((upd_ne (at_ne e hc exq_own)).trans (upd_ne (ne_of_none hc nt))).trans hc)
        (fun c xs hc => ((upd_ne (at_ne e hc exq_tup)).trans (upd_ne (ne_of_none hc nt))).trans hc)
      rcases hc with hc | hc
      · exact hc ▸ hb
      · exact at_ne e hc exq_own
end

/-! ### the rules -/
/-- B.__init__(self, ..) -/
def tBeq (K : PySem.W.Frag) (B : String) (ta : TA) : TE := fun σ H Q => ta σ H fun vs H1 =>
  ∃ (a C t0 : Addr) (ws : List V), vs = .ref a :: ws ∧ ws.length ≤ 1000 ∧ OexF K C ∧
    PySem.W.mroIn K C (.type B) = some true ∧ H1 a = some (exq a C none t0) ∧
    ∀ t2, H1 t2 = none → t2 ≠ a → Q .non (upd (upd H1 t2 (.tup ws)) a (exq a C none t2))
/-- self.f = e, the first attribute -/
def tEstF (K : PySem.W.Frag) (f : Str) (to te : TE) : TS := fun D σ H => te σ H fun y H1 => to σ H1 fun x H2 =>
  ∃ a C t1 : Addr, x = .ref a ∧ OexF K C ∧ PySem.W.findIn K (.ref C) f = some none ∧ H2 a = some (exq a C none t1) ∧
    ∀ dx, H2 dx = none → dx ≠ a → D.nx σ (upd (upd H2 dx (exd dx [(f, y)])) a (exq a C (some dx) t1))
/-- the names of the three bases as the text reads them -/
structure BaseNm (B : String) (x : Str) (initId : String) : Prop where
  ini : IniF B initId
  boot : bootBuiltins x = some (.type B)
  typ : typeOf (.type B) = pure (.type "type")
  stub : Manifest.isStub B = false
  hand : PySem.W.handedIn (.builtin initId) = true
  dbg : (x == ("__debug__" : Str)) = false
  nme : x ≠ "__name__"
theorem nmV : BaseNm "ValueError" "ValueError" "ValueError.__init__" :=
  ⟨iniV, PyProof.Rows.Boot.«ValueError», by kernel_rfl, by decide +kernel, by decide +kernel, by decide, by decide⟩
theorem nmL : BaseNm "LookupError" "LookupError" "LookupError.__init__" :=
  ⟨iniL, by kernel_rfl, by kernel_rfl, by decide +kernel, by decide +kernel, by decide, by decide⟩
theorem nmK : BaseNm "KeyError" "KeyError" "KeyError.__init__" :=
  ⟨iniK, by kernel_rfl, by kernel_rfl, by decide +kernel, by decide +kernel, by decide, by decide⟩

section
variable {X : Cx} {o e : Expr} {es : List Expr} {to te : TE} {ta : TA} {f : Str} {p p' p1 p2 pos : Pos}
theorem pe_beq {B initId : String} {x : Str} {pl : Sem Bool} (N : BaseNm B x initId) (hg : Gl X x) (hm : X.mg x = none)
    (vV : PySem.W.findCls X.K (.type B) (.type "type") "__init__" = some (.val (.builtin initId)))
    (ha : PA X (e :: es) ta)
    (hc : eval (.Call (.Attribute (.Name x p1) "__init__" p2) (e :: es) [] pos) X.env = (do
      let ov ← eval (.Name x p1) X.env
      standAt p2.atName
      let (f, first) ← holding [ov] (getMethod ov "__init__" pl)
      callWith pos f first (backTo pos (starEach (e :: es) X.env)) (backToKw pos (keywordEach [] X.env))) := by rfl)
    (he : starEach (e :: es) X.env = (false, eval e X.env) :: starEach es X.env := by rfl)
    (hpl : (backTo pos (starEach es X.env)).any (·.1) = false := by rfl) :
    PE X (.Call (.Attribute (.Name x p1) "__init__" p2) (e :: es) [] pos) (tBeq X.K B ta) := by
  refine ⟨fun pins s σ H Q I h => ?_⟩
  refine PySem.W.methodCall_KW (ld_blt I hg hm N.boot ?_ N.nme N.dbg) hc
  obtain ⟨m, fr⟩ := I.fr
  refine PySem.W.method_type fr I.ok.mod.kin N.typ N.stub vV N.hand ?_
  refine PyProof.Rows.callWith_method1 (first := []) (thn (ha.run pos pins _ σ H _ (I.tok _) h)
    fun us s1 ⟨vs, H1, I1, r1, a, C, t0, ws, ev, hl, T, hB, ea, q⟩ => ?_) he hpl
  subst ev
  cases r1 with
  | @cons _ u0 _ ur ra rw' =>
    obtain rfl : u0 = Value.ref a := ra
    have hlen : ur.length ≤ sizeLine := by
      rw [← Paired.length rw', sizeLine_eq]
      omega
    exact eq_initF N.ini T hB I1 ea hlen rw' fun t2 s' n1 n2 J => ⟨.non, _, J, rfl, q t2 n1 n2⟩

theorem ps_estF (ho : PE X o to) (he : PE X e te)
    (hs : swapsWith e (some (.Attribute o f p')) pos.line X.env = pure false := by rfl) :
    PS X (.Assign [.Attribute o f p'] e pos) (tEstF X.K f to te) := by
  refine ⟨fun pins s σ H D I h => ?_⟩
  refine plainObj_wpAny_Assign_Attribute (thn (he.run pins s σ H _ I h) fun v s1 ⟨y, H1, I1, r1, q1⟩ =>
    thn (ho.run pins s1 σ H1 _ I1 q1) fun u s2 ⟨x, H2, I2, r2, a, C, t1, ex, T, hno, ea, q⟩ => ?_) hs
  subst ex
  obtain rfl : u = Value.ref a := r2
  exact eq_newF T I2 ea hno r1 fun dx s' n ne J => ⟨σ, _, J, q dx n ne⟩

/-- the class called, its own __init__ keeping sp: us by place, kw by name; as: what its __init__ binds behind self -/
theorem own_call {pins : List (Addr × Obj)} {σ : L2.St} {H1 : Hp} {s1 : Shared} {C fI : Addr} {k : Nat} {CX : CXT} {fd : FuncData}
    {ps : List Str} {sp : Sp} {us as : List Value} {kw : List (Str × Value)} {vs avs : List V} {Q : VK} (T : OexF X.K C)
    (iC : PySem.W.findIn X.K (.ref C) "__init__" = some (some (.ref fI)))
    (tI : PySem.W.typeIn X.K (.ref fI) = some (.type "function"))
    (F1 : FnOk X.prog X.w X.K X.mg X.base CX k fI fd ps sp) (hr : Room (k + 1) X.A)
    (hb : ∀ (s : Shared) (self : Value), X.K.In s.heap → (self :: as).length = ps.length →
      BindsTo s fd ⟨self :: us, kw⟩ (ps.zip (self :: as)))
    (hx : Passes CX X (fun _ _ _ => False)) (I1 : Inv X pins σ H1 s1) (r1 : Vals vs us) (r2 : Vals avs as)
    (hz : vs.length ≤ 1000)
    (q1 : ∀ t0 a, H1 t0 = none → H1 a = none → t0 ≠ a →
      sp (.ref a :: avs) (upd (upd H1 t0 (.tup vs)) a (exq a C none t0))
        (fun v H2 => v = .non ∧ Q (.ref a) H2) (fun _ _ _ => False)) :
    wpAny (model X.prog X.w) X.A (call (.ref C) us kw) (EP X pins σ Q) X.xe s1 := by
  obtain ⟨newId, nm, q, N, bs, bm, sn, sub, ab, col, dd, k0, k1, k2, k3, k5, hC, ft⟩ := T.cls
  obtain ⟨B, i, bmB, EF, hB⟩ := ft.maker
  obtain ⟨hp, g, dr, tk, os⟩ := s1
  have n0 : H1 hp.objs.size = none := I1.hok.fresh (Nat.le_refl _)
  have n1 : H1 (hp.objs.size + 1) = none := I1.hok.fresh (Nat.le_succ _)
  have hne : hp.objs.size ≠ hp.objs.size + 1 := Nat.ne_of_lt (Nat.lt_succ_self _)
  have hq := q1 hp.objs.size (hp.objs.size + 1) n0 n1 hne
  have hus : us.length ≤ sizeLine := by
    rw [← Paired.length r1, sizeLine_eq]
    omega
  have I2 : Inv X pins σ (upd H1 hp.objs.size (.tup vs)) ⟨hp.push (PySem.W.kdv_tup us), g, dr, tk, os⟩ :=
    I1.laid (t' := tk) (a := hp.objs.size) (o := .tup vs) (h' := hp.push (PySem.W.kdv_tup us))
      (fun b o z => Heap.get?_push_of_some _ z) (Nat.le_refl _)
      ⟨by rw [Paired.length r1]; exact hus, us, r1, _, Heap.get?_push_size _ rfl, rfl, _, rfl⟩
  have hget : ((hp.push (PySem.W.kdv_tup us)).push (exOb C none hp.objs.size)).get? (hp.objs.size + 1) =
      some (exOb C none hp.objs.size) := by heap_get
  have hsz2 : (hp.push (PySem.W.kdv_tup us)).objs.size ≤ hp.objs.size + 1 := by
    simp [Heap.push]
  have I3 : Inv X pins σ (upd (upd H1 hp.objs.size (.tup vs)) (hp.objs.size + 1) (exq (hp.objs.size + 1) C none hp.objs.size))
      ⟨(hp.push (PySem.W.kdv_tup us)).push (exOb C none hp.objs.size), g, dr, tk, os⟩ :=
    I2.laid (t' := tk) (a := hp.objs.size + 1) (o := exq (hp.objs.size + 1) C none hp.objs.size)
      (h' := (hp.push (PySem.W.kdv_tup us)).push (exOb C none hp.objs.size))
      (fun b o z => Heap.get?_push_of_some _ z) hsz2 (exq_ok hget)
  have r3 : Vals (V.ref (hp.objs.size + 1) :: avs) (Value.ref (hp.objs.size + 1) :: as) := .cons rfl r2
  have hl : (Value.ref (hp.objs.size + 1) :: as).length = ps.length :=
    r3.length.symm.trans (F1.len _ _ _ _ hq)
  refine wpAny_call (call_ownF EF hB ft.noA ft.noN (I1.kIn _ _ hC) (PySem.W.looks_findIn I1.kIn iC)
    (fun self => PySem.W.bind_fn I1.kIn self tI) hus
    (codeAny_mono (F1.run _ X.stack _ _ ⟨Value.ref (hp.objs.size + 1) :: us, kw⟩
      (Value.ref (hp.objs.size + 1) :: as) _ _ (fun _ _ _ => False) (hr.make C us kw) (I3.env0.make C us kw)
      (hb _ (Value.ref (hp.objs.size + 1)) I3.kIn hl) r3 hq) fun r s' hq' => ?_))
  match r, hq' with
  | .error er, hq' => exact hx pins σ _ _ er s' I3 hq'
  | .ok (.ret u), hq' =>
    obtain ⟨v, H', I4, rv, ev, q3⟩ := I3.after hq'
    subst ev
    exact ⟨rv, ⟨V.ref (hp.objs.size + 1), H', I4, rfl, q3⟩⟩
  | .ok .next, hq' => exact False.elim hq'
  | .ok .brk, hq' => exact False.elim hq'
  | .ok .cont, hq' => exact False.elim hq'

/-- C(e, ..) -/
theorem pe_mkqF {x : Str} {C fI : Addr} {k : Nat} {CX : CXT} {fd : FuncData} {ps : List Str} {sp : Sp}
    {ds : List Value} {dvs : List V} (T : OexF X.K C)
    (iC : PySem.W.findIn X.K (.ref C) "__init__" = some (some (.ref fI)))
    (tI : PySem.W.typeIn X.K (.ref fI) = some (.type "function"))
    (F1 : FnOk X.prog X.w X.K X.mg X.base CX k fI fd ps sp) (hr : Room (k + 1) X.A) (hb : Binds X.K fd ps ds)
    (hd : Vals dvs ds) (hx : Passes CX X (fun _ _ _ => False)) (hg : Gl X x) (hm : X.mg x = some (.ref C))
    (ha : PA X (e :: es) ta) (hdb : (x == ("__debug__" : Str)) = false := by decide)
    (he : starEach (e :: es) X.env = (false, eval e X.env) :: starEach es X.env := by rfl)
    (hpl : (backTo pos (starEach es X.env)).any (·.1) = false := by rfl) :
    PE X (.Call (.Name x p) (e :: es) [] pos) (tMkq C sp dvs ta) := by
  refine ⟨fun pins s σ H Q I h => ?_⟩
  refine wpAny_Call_Name_kw (ld_glob I hg hm ?_ hdb)
  exact PySem.W.callWith_K (h₀ := X.base) I.ok.mod.kin T.kC
    (thn (ha.run pos pins s σ H _ I h) fun us s1 ⟨vs, H1, I1, r1, hz, q1⟩ =>
      ⟨I1.kIn, own_call T iC tI F1 hr (fun s self X hl => hb s (self :: us) X hl) hx I1 r1 (r1.append hd) hz q1⟩) he hpl

/-- C(f = e): by the name of its field -/
def tMkqK (C : Addr) (sp : Sp) (te : TE) : TE := fun σ H Q => tCons te tNil σ H fun zs H1 => ∃ v, zs = [v] ∧
  ∀ t0 a, H1 t0 = none → H1 a = none → t0 ≠ a →
    sp [.ref a, v] (upd (upd H1 t0 (.tup [])) a (exq a C none t0)) (fun v H2 => v = .non ∧ Q (.ref a) H2) (fun _ _ _ => False)
theorem pe_mkqK {x n self : Str} {C fI : Addr} {k : Nat} {CX : CXT} {fd : FuncData} {sp : Sp} {kp : Pos} (T : OexF X.K C)
    (iC : PySem.W.findIn X.K (.ref C) "__init__" = some (some (.ref fI)))
    (tI : PySem.W.typeIn X.K (.ref fI) = some (.type "function"))
    (F1 : FnOk X.prog X.w X.K X.mg X.base CX k fI fd [self, n] sp) (hr : Room (k + 1) X.A)
    (hb : ∀ (s : Shared) (a b : Value), X.K.In s.heap → BindsTo s fd ⟨[a], [(n, b)]⟩ [(self, a), (n, b)])
    (hx : Passes CX X (fun _ _ _ => False)) (hg : Gl X x) (hm : X.mg x = some (.ref C))
    (he : PE X e te) (hdb : (x == ("__debug__" : Str)) = false := by decide)
    (hall : (backToKw pos (keywordEach [⟨some n, e, kp⟩] X.env)).all (·.1.isSome) = true := by rfl)
    (hks : (backToKw pos (keywordEach [⟨some n, e, kp⟩] X.env)).filterMap (·.1) = [n] := by rfl)
    (hpl : ((backTo pos (starEach [] X.env)).any (·.1) || (backToKw pos (keywordEach [⟨some n, e, kp⟩] X.env)).any (·.1.isNone)) = false := by rfl) :
    PE X (.Call (.Name x p) [] [⟨some n, e, kp⟩] pos) (tMkqK C sp te) := by
  refine ⟨fun pins s σ H Q I h => ?_⟩
  refine wpAny_Call_Name_kw (ld_glob I hg hm ?_ hdb)
  refine PySem.W.callWith_KW0 (h₀ := X.base) I.ok.mod.kin T.kC hall ?_ hpl
  have P : PK X [⟨some n, e, kp⟩] (tCons te tNil) := pk_cons he pk_nil
  refine thn (P.run pos pins s σ H _ I h) fun ws s2 ⟨zs, H2, I2, rz, v, ev, q2⟩ => ⟨I2.kIn, ?_⟩
  subst ev
  obtain ⟨u, rfl, ru⟩ : ∃ u, ws = [u] ∧ RelV v u := by
    cases rz with
    | cons r1 r2 => cases r2; exact ⟨_, rfl, r1⟩
  rw [hks]
  exact own_call (us := []) (as := [u]) T iC tI F1 hr (fun s a X _ => hb s a u X) hx I2 .nil (.cons ru .nil) (Nat.zero_le _) q2

/-- e.f, the error at e with its dict -/
def tQget (K : PySem.W.Frag) (f : Str) (te : TE) : TE := fun σ H Q => te σ H fun x H1 =>
  ∃ (a C d t : Addr) (fs : List (Str × V)) (v : V), x = .ref a ∧ XfC K C ∧ PySem.W.findIn K (.ref C) f = some none ∧
    H1 a = some (exq a C (some d) t) ∧ H1 d = some (exd d fs) ∧ fs.lookup f = some v ∧ Q v H1
theorem pe_qget {te : TE} (he : PE X e te)
    (hb : attributeBase e f X.env (eval e X.env) = eval e X.env := by rfl) :
    PE X (.Attribute e f pos) (tQget X.K f te) := by
  refine ⟨fun pins s σ H Q I h => ?_⟩
  refine attr_of hb (thn (he.run pins s σ H _ I h) fun u s1 hh => ?_)
  obtain ⟨x, H1, I1, rx, a, C, dd, t, fs, v, rfl, T, hno, ea, ed, l, q⟩ := hh
  obtain rfl : u = Value.ref a := rx
  obtain ⟨mA, hns, hr⟩ := exd_at I1.hok ed
  obtain ⟨od, ho, hl⟩ := lookIn_ns hns
  obtain ⟨u, hu, ru⟩ := RelO.some_of (v := v) (o := mA f) (by rw [← l]; exact hr f)
  have J : PySem.W.InstAt s1.heap a (exOb C (some dd) t) C (some od) := ⟨exq_at I1.hok ea, rfl, rfl, ho⟩
  exact PySem.HandSPX.exc_get I1.kIn J T.ga T.gg T.exC (PySem.W.findObj_own T.hdC hno rfl (by rw [hl, hu])) (handed_of ru)
    ⟨v, H1, I1.tok _, ru, q⟩
end

/-! ### isinstance, the error may be without a dict -/
inductive TyE (K : PySem.W.Frag) (H : Hp) : V → Value → Prop where
  | base {x : V} {t : Value} (h : TyQ K H x t) : TyE K H x t
  | bare {a D t : Addr} (e : H a = some (exq a D none t)) (c : ExcC K D) : TyE K H (.ref a) (.ref D)
def rIsE2 (K : PySem.W.Frag) : List V → Hp → VK → Prop := fun xs H Q => ∃ (x c : V) (t u : Value) (b : Bool),
  xs = [x, c] ∧ ClsV c u ∧ TyE K H x t ∧ PySem.W.kitOne K t u = some b ∧ Q (.bl b) H
theorem call_ise {X : Cx} : CallR X (.builtin "isinstance") (rIsE2 X.K) := by
  intro pins s σ H xs us Q I r h
  obtain ⟨x, c, t, u, b, rfl, k, ty, e, q⟩ := h
  cases ty with
  | base ty => exact call_isa pins s σ H _ us Q I r ⟨x, c, t, u, b, rfl, k, ty, e, q⟩
  | bare ex C =>
    obtain ⟨u1, u2, rfl, r1, r2⟩ := vals2 r
    obtain rfl := k.eq r2
    obtain rfl : u1 = Value.ref _ := r1
    have ha := exq_at I.hok ex
    refine PySem.W.kia_one (PySem.W.handS_kitx_exc C.hg C.hk C.hs C.hd C.ha C.hn C.ht C.hm) I.kIn ⟨ha, rfl, rfl, trivial⟩ e (fun z => nomatch z)
      fun tk => ⟨.bl b, H, I.tok tk, rfl, q⟩
end Pw

/-! Such an error is raised: what was known of it as a value is let go, its dict stands as an error's dict. -/
namespace Pw
open PySem PySem.Spec PyProof.Rows L2
theorem exd_frz' {e : Addr} {fs : List (Str × V)} {o : Obj} {u : HO} : exd e fs ≠ .frz o u := fun z => by
  have z' : HO.ext _ = HO.frz o u := z
  cases z'
theorem exd_tbl' {e : Addr} {fs : List (Str × V)} {ps : Array Value} : exd e fs ≠ .tbl ps := fun z => by
  have z' : HO.ext _ = HO.tbl ps := z
  cases z'
section
variable {X : Cx} {pins : List (Addr × Obj)} {σ : L2.St} {H : Hp} {s : Shared}
theorem toXd {d : Addr} {fs : List (Str × V)} (I : Inv X pins σ H s) (ed : H d = some (exd d fs)) :
    Inv X pins σ (upd H d (.xd fs)) s := by
  have nd : ∀ {b : Addr}, H b = none → b ≠ d := fun {b} n z => by rw [z, ed] at n; cases n
  have U : Un X.fs [] H (upd H d (.xd fs)) s.heap s.heap := {
    keep := fun b o q n _ _ => q
    slot := fun b o q n _ _ => ⟨o.slots, q⟩
    free := fun b o q n _ => (upd_ne (nd n)).trans n
    there := fun b o q _ => ⟨o, q⟩
    tups := fun b xs q => (upd_ne (at_ne ed q exd_tup)).trans q
    frzs := fun b o v q => (upd_ne (at_ne ed q exd_frz')).trans q
    tbls := fun b ps q => ⟨#[], by rw [upd_ne (at_ne ed q exd_tbl'), q]; simp⟩ }
  have hk : HOk X.prog X.w (upd H d (.xd fs)) s.heap := fun b o q => by
    by_cases hb : b = d
    · subst hb
      cases upd_same.symm.trans q
      exact exd_at I.hok ed
    · rw [upd_ne hb] at q
      exact (I.hok b o q).stay (fun c v _ z => z) (fun c hc => (upd_ne (at_ne ed hc exd_own)).trans hc)
        (fun c xs hc => (upd_ne (at_ne ed hc exd_tup)).trans hc)
  exact I.un (t' := s.toks) U hk
/-- what is asked where such an error is raised -/
def tRq (H0 : Hp) (K0 : PySem.W.Frag) (te : TE) : L2.St → Hp → XK → Prop := fun σ H Q => te σ H fun x H1 => ∃ a C t : Addr, x = .ref a ∧ Fr0 H0 a ∧
  PySem.W.subIn K0 (.ref C) (.type "BaseException") = some true ∧ PySem.W.typeIn K0 (.ref C) = some (.type "type") ∧ ((H1 a = some (exq a C none t) ∧ Q (.ref C) none (delH H1 a)) ∨
    ∃ (d : Addr) (fs : List (Str × V)), d ≠ a ∧ H1 a = some (exq a C (some d) t) ∧ H1 d = some (exd d fs) ∧
      Q (.ref C) (some d) (upd (delH H1 a) d (.xd fs)))
theorem pmk_q {e : Expr} {te : TE} {H0 : Hp} {K0 : PySem.W.Frag} (hH : X.H_0 = H0) (hK : X.K = K0) (hx : X.ex = []) (he : PE X e te) : PMk X e (tRq H0 K0 te) := by
  subst hH
  subst hK
  intro pins s σ H Q I h
  refine wpAny_mono (he.run pins s σ H _ I h) (fun u s1 hu => ?_) fun _ _ x => x
  obtain ⟨v, H1, I1, r1, a, C, t, rfl, h0, r2, r3, q | ⟨d, fs, hda, ea, ed, q⟩⟩ := hu
  · have hr : Raises X (.ref C) := raises_own r2 r3
    obtain ⟨ea, q⟩ := q
    cases r1
    have ho := exq_at I1.hok ea
    obtain ⟨G, gs, ga, J⟩ := I1.untrack ea h0 hx
    exact ⟨a, _, _, { s1 with heap := G }, delH H1 a, .ref C, none, rfl, J, gs, ga, ho, ⟨rfl, rfl⟩, rfl, rfl, delH_same, rfl, I1.bare, hr, q⟩
  · have hr : Raises X (.ref C) := raises_own r2 r3
    cases r1
    have ho := exq_at I1.hok ea
    obtain ⟨G, gs, ga, J⟩ := I1.untrack ea h0 hx
    have J2 := toXd (d := d) (fs := fs) J ((delH_ne hda).trans ed)
    exact ⟨a, _, _, { s1 with heap := G }, upd (delH H1 a) d (.xd fs), .ref C, some d, rfl, J2, gs, ga, ho, ⟨rfl, rfl⟩, rfl, rfl,
      (upd_ne hda.symm).trans delH_same, rfl, I1.bare, hr, q⟩
end
end Pw

/-! A head of which nothing is written out: facts of one's own, each told by a truth over the part of the heap that the names reach. -/
namespace Pw
open PySem PySem.Spec PyProof.Rows L2

abbrev Fb := PySem.W.Frag → Bool
def obsB (fb : List Fb) (fn : List He.DefD) (K : PySem.W.Frag) : He.AlD := ((fb.all fun f => f K) && fn.all fun d => d.ok K, fn.map fun d => He.fnW K d.at_)
def SaysB (fb : List Fb) (fn : List He.DefD) (K : PySem.W.Frag) : Prop := obsB fb fn K = He.valD fn
/-- what an object names: a def's code and defaults; a class's names, its methods, their code -/
def kid1 (g : Addr → Option Obj) (a : Addr) : List Addr := match g a with
  | some ⟨_, _, .func fd, _⟩ => He.refV fd.code ++ (He.refV fd.defaults ++ He.refV fd.kwdefaults)
  | _ => []
def kids (g : Addr → Option Obj) (a : Addr) : List Addr := match g a with
  | some ⟨_, _, .dict es _, _⟩ => es.toList.flatMap fun e => He.refV e.val
  | _ => []
def kid2 (g : Addr → Option Obj) (a : Addr) : List Addr := match g a with
  | some ⟨_, _, .cls cd, _⟩ => cd.ns :: (kids g cd.ns).flatMap fun f => f :: kid1 g f
  | _ => kid1 g a
/-- what the module's names reach -/
def reachB (g : Addr → Option Obj) : List Addr := PySem.cStatics :: mainGlobals :: (kids g mainGlobals).flatMap fun a => a :: kid2 g a
def obsBG (n : Nat) (fb : List Fb) (fn : List He.DefD) (g : Addr → Option Obj) : He.AlD := obsB fb fn (He.frG g (reachB g))
def hookB (n : Nat) (fb : List Fb) (fn : List He.DefD) : PySem.W.Hook where
  α := He.AlD
  obs := fun s => obsBG n fb fn s.heap.get?
  val := fun _ => He.valD fn
  says := fun _ h => ∃ K : PySem.W.Frag, K.In h ∧ SaysB fb fn K
  of := fun _ _ e => ⟨_, He.frG_in, e⟩
  keeps := fun _ _ _ ⟨K, hK, c⟩ k => ⟨K, PySem.W.Frag.In.keeps hK k, c⟩
theorem obsBG_eq {n : Nat} {fb : List Fb} {fn : List He.DefD} {g : Addr → Option Obj} {s : Shared} (h : ∀ a, g a = s.heap.get? a) : obsBG n fb fn g = (hookB n fb fn).obs s := by
  have e : g = s.heap.get? := funext h
  rw [e] <;> rfl
section
variable {fb : List Fb} {fn : List He.DefD} {K : PySem.W.Frag}
theorem SaysB.fact (c : SaysB fb fn K) {f : Fb} (i : Nat) (h : fb[i]? = some f) : f K = true := by
  have c1 := (He.ba (show ((fb.all fun f => f K) && fn.all fun d => d.ok K) = true from congrArg (fun z : He.AlD => z.1) c)).1
  exact List.all_eq_true.mp c1 f (List.mem_of_getElem? h)
theorem SaysB.def_ (c : SaysB fb fn K) {d : He.DefD} (i : Nat) (h : fn[i]? = some d) : ∃ fd, FunD K d.name d.qual d.params d.body d.scope (d.dvs K) (d.kws K) (He.fAd K d.at_) fd := by
  have c2 := (He.ba (show ((fb.all fun f => f K) && fn.all fun d => d.ok K) = true from congrArg (fun z : He.AlD => z.1) c)).2
  have e : fn.map (fun d => He.fnW K d.at_) = fn.map He.DefD.val := congrArg (fun z : He.AlD => z.2) c
  have e2 : (fn.map fun d => He.fnW K d.at_)[i]? = (fn.map He.DefD.val)[i]? := by rw [e]
  rw [List.getElem?_map, List.getElem?_map, h] at e2
  exact He.DefD.funD (Option.some.inj e2) (List.all_eq_true.mp c2 d (List.mem_of_getElem? h))
end
/-- a def without defaults, as the layer has it -/
theorem funOf {K : PySem.W.Frag} {x q : Str} {st : Stmt} {f : Addr} {fd : FuncData} (F : FunD K x q (defArgs st) (defBody st) (defScope st) [] [] f fd) : Fun K x q st f fd := by
  obtain ⟨oc, od, dV, kV, doc, pm, an, cdv, ct, osl, e, lk, hcd, hD, _⟩ := F.ex
  rcases hD with ⟨_, rfl⟩ | ⟨h, _⟩
  · subst e
    exact ⟨⟨oc, od, kV, doc, pm, an, cdv, ct, osl, rfl, lk, hcd⟩, F.kp⟩
  · exact absurd rfl h
theorem atOf {K : PySem.W.Frag} {h : Heap} {mg : Str → Option Value} {x : Str} {st : Stmt} (X : K.In h) (G : h.Ns mainGlobals mg) (g : (He.Fa.glo x).ok K = true)
    (F : ∃ fd, FunD K x x (defArgs st) (defBody st) (defScope st) [] [] (He.ga K x) fd) : At K mg x st :=
  let ⟨fd, F⟩ := F
  ⟨_, fd, funOf F, He.glo_ok X G g⟩
/-- a class that is an exception, as it stands -/
def xcB (K : PySem.W.Frag) (C : Addr) (bm : List Value) (newId : String) (x : Str) : Bool := match K.lookup C with
  | some ⟨.type "type", _, .cls cd, sl⟩ => (match sl.toList with
    | [_, _, _, _, some (.builtin n), _] => decide (cd.mro = .ref C :: bm) && (decide (n = newId) && (!cd.hasDel && (cd.hasDict && decide (cd.name = x))))
    | _ => false)
  | _ => false
theorem xcB_ok {K : PySem.W.Frag} {C : Addr} {bm : List Value} {newId : String} {x : Str} (q : xcB K C bm newId x = true) :
    ∃ qn N bs sn sub ab col dd m0 m1 m2 m3 m5, K.lookup C = some (excClassObj x qn C N bs bm true sn sub ab col dd m0 m1 m2 m3 m5 newId) := by
  unfold xcB at q
  split at q
  · rename_i dd cd sl ho
    split at q
    · rename_i k0 k1 k2 k3 n k5 hs
      obtain ⟨nm, bs, mro, ns, qn, hd, sn, sub, ab, col, del⟩ := cd
      simp only [Bool.and_eq_true, decide_eq_true_eq, Bool.not_eq_true'] at q
      obtain ⟨rfl, rfl, rfl, rfl, rfl⟩ := q
      have hsl : sl = #[k0, k1, k2, k3, some (.builtin n), k5] := by
        obtain ⟨l⟩ := sl
        simp only at hs
        rw [hs]
      subst hsl
      exact ⟨qn, ns, bs, sn, sub, ab, col, dd, k0, k1, k2, k3, k5, ho⟩
    · cases q
  · cases q
/-- a law: F gives the written part, the function object, the promise over every base, where nothing is being shown -/
theorem walkE {l : PySem.W.OpenLaw} {n k : Nat} {q : Program} {loose : List Str} {XP : (Str → Option Value) → Heap → Prop} {YP : World → Heap → Prop} {d : DefRec} {CX : CXT} {x : Str}
    (hn : l.most = some n) (hn2 : n ≤ sizeLine) (hdf : d.params.defaults = []) (hr : Room k callerA)
    (F : ∀ (w : World) (mg : Str → Option Value) (fa : Addr) (h : Heap), YP w h → h.Ns mainGlobals mg → mg d.name = some (.ref fa) →
      ∃ (K : PySem.W.Frag) (fd : FuncData) (sp : Sp), K.In h ∧ (∀ (s : Shared) (u : Value), BindsTo s fd ⟨[u], []⟩ [(x, u)]) ∧
        (∀ (H : Hp) (a : Addr) (ns : List Int), ns.length ≤ n → Only H → SqL K H a (ns.map V.int) → sp [.ref a] H (fun v _ => v = .bl true) fun _ _ _ => False) ∧
        ∀ base : Heap, K.In base → base.Ns mainGlobals mg → FnG l.prog w K mg base CX k fa fd [x] sp)
    (hCX : ∀ (H : Hp) (s : Shared) (e : Value) (s' : Shared), CX [] H s (fun _ _ _ => False) e s' → False) :
    PySem.W.WalkO q loose XP YP l.row.toRowW d [] (fun f vs => PySem.call f vs) := by
  refine Att.attach_call hn hdf fun w s₀ s₁ mg mb fa o pm cd doc a vs ns G Y ho hd hcd hmg hobj hints hlen hg => ?_
  obtain ⟨K, fd, sp, KX, hb, hsp, hF⟩ := F w mg fa _ Y G.T.g hmg
  exact law_callG KX G.T.g G.T.b G.T.builtins G.T.nolimit hg hobj hints (Nat.le_trans hlen hn2) hr hF hb (fun H hO hS => hsp H a ns hlen hO hS) fun H e s' => hCX H s₁ e s'
end Pw

/-! Own errors raised, let through, and held by a suite. -/
namespace Pw
open PySem PySem.Spec PyProof.Rows L2
theorem kit_xd {K : PySem.W.Frag} {x D : Addr} {ox oD : Obj} (C : ExcC K D) :
    PySem.W.KitX K (.ref x) (.ref D) (fun h => PySem.W.InstAt h x ox D (some oD)) where
  ty := fun _ _ _ I => I.type
  it := fun M h X _ => by
    obtain ⟨cd, hc⟩ := Option.isSome_iff_exists.mp (cls_of_dict C.hd)
    unfold PySem.W.clsIn at hc
    split at hc
    · rename_i ho
      intro A' Q' E' s' k q
      unfold isType loadHead
      exact wpAny_bind (wpAny_loadPart (k _ _ (X _ _ ho)) (wpAny_pure q))
    · cases hc
  ne := fun h tp dd its n sl X htp => by
    obtain ⟨cd, hc⟩ := Option.isSome_iff_exists.mp (cls_of_dict C.hd)
    refine Bool.eq_false_iff.mpr fun q => ?_
    obtain rfl : D = tp := Value.ref.inj (beq_iff_eq.mp q)
    unfold PySem.W.clsIn at hc
    split at hc
    · rename_i ho
      cases (X _ _ ho).symm.trans htp
    · cases hc
  ca := fun X I k => PySem.W.pw_class C.hg C.hk C.hs
    (PySem.W.findObj_data (cls_of_dict C.hd) C.ha C.hn C.ht) C.hm X I k
/-- isinstance(e, c), e the error that the suite holds, with its dict -/
def rIsD (K : PySem.W.Frag) (a : Addr) (cls : Value) (d : Option Addr) : List V → Hp → VK → Prop := fun xs H Q => ∃ (D dd : Addr) (fs : List (Str × V)) (c : V) (cv : Value) (b : Bool),
  cls = .ref D ∧ d = some dd ∧ ExcC K D ∧ xs = [.ref a, c] ∧ (∀ u, RelV c u → u = cv) ∧ PySem.W.kitOne K (.ref D) cv = some b ∧ H dd = some (.xd fs) ∧ Q (.bl b) H
theorem call_isD {X : Cx} {a : Addr} {oe : Obj} {cls : Value} {d : Option Addr} {pn : List (Addr × Obj)} (hz : Zc cls d oe) (hf : ∃ vs, oe.data = .fields vs) :
    CallR (X.suite a ((a, oe) :: pn)) (.builtin "isinstance") (rIsD X.K a cls d) := by
  intro pins s σ H xs us Q I r h
  obtain ⟨D, dd, fs, c, cv, b, rfl, rfl, C, rfl, hcv, e, ed, q⟩ := h
  cases r with
  | cons rx rr =>
    cases rr with
    | cons rt rr =>
      cases rr
      cases rx
      have ec := hcv _ rt
      subst ec
      obtain ⟨hget, _⟩ := I.pin (a, oe) (List.mem_append.mpr (.inl List.mem_cons_self))
      obtain ⟨vs, hv⟩ := hf
      have hx : ObjOk X.prog X.w H s.heap dd (.xd fs) := I.hok dd _ ed
      obtain ⟨mA, hns, hr⟩ := hx
      obtain ⟨od, ho, hl⟩ := lookIn_ns hns
      have J : PySem.W.InstAt s.heap a oe D (some od) := ⟨hget, hz.1, by unfold PySem.W.notCls; rw [hv] <;> rfl, by rw [hz.2]; exact ho⟩
      exact PySem.W.kia_one (kit_xd C) I.kIn J e (fun z => nomatch z) fun tk => ⟨.bl b, H, I.kept (t' := tk) fun _ _ z => z, rfl, q⟩
/-- a family of refusals, by its name: read as a class, and made -/
structure Fam (K : PySem.W.Frag) (mg : Str → Option Value) (x : Str) (q : Str) (B : String) (st : Stmt) (C f : Addr) : Prop where
  mgC : mg x = some (.ref C)
  oex : OexF K C
  hB : PySem.W.mroIn K C (.type B) = some true
  sg : PySem.W.specialIn K (.ref C) "__getattribute__" = some (some (.builtin "type.__getattribute__"))
  rd : PySem.W.readsIn K C (.type "type") = true
  at_ : PySem.W.findCls K (.ref C) (.type "type") "__init__" = some (.val (.ref f))
  iC : PySem.W.findIn K (.ref C) "__init__" = some (some (.ref f))
  tI : PySem.W.typeIn K (.ref f) = some (.type "function")
  fn : ∃ fd, Fun K "__init__" q st f fd
/-- how a built-in base's __init__ is read -/
structure Bas (K : PySem.W.Frag) (mg : Str → Option Value) (B : String) (x : Str) (initId : String) : Prop where
  nm : BaseNm B x initId
  free : mg x = none
  vV : PySem.W.findCls K (.type B) (.type "type") "__init__" = some (.val (.builtin initId))
/-- a refusal's class as it stands -/
structure Cl (K : PySem.W.Frag) (mg : Str → Option Value) (x q field : Str) (B : String) (st : Stmt) (C : Addr) : Prop where
  mgC : mg x = some (.ref C)
  oex : OexF K C
  hB : PySem.W.mroIn K C (.type B) = some true
  nF : PySem.W.findIn K (.ref C) field = some none
  fn : ∃ f fd, PySem.W.findIn K (.ref C) "__init__" = some (some (.ref f)) ∧
    PySem.W.typeIn K (.ref f) = some (.type "function") ∧ Fun K "__init__" q st f fd

section
variable {P : Program} {w : World} {K : PySem.W.Frag} {mg : Str → Option Value} {base : Heap}
/-- a family's __init__(self, text) -/
def spFam (K : PySem.W.Frag) (B : String) : Sp := fun vs H Q _ => ∃ a C t0 x, vs = [.ref a, .str x] ∧ OexF K C ∧
  PySem.W.mroIn K C (.type B) = some true ∧ H a = some (exq a C none t0) ∧
  ∀ t2, H t2 = none → t2 ≠ a → Q .non (upd (upd H t2 (.tup [.str x])) a (exq a C none t2))
/-- a refusal's __init__(self, field): the text x0 becomes its args -/
def spX (K : PySem.W.Frag) (B : String) (field x0 : Str) : Sp := fun vs H Q _ => ∃ a C t0 y, vs = [.ref a, y] ∧ OexF K C ∧
  PySem.W.mroIn K C (.type B) = some true ∧ H a = some (exq a C none t0) ∧
  PySem.W.findIn K (.ref C) field = some none ∧
  ∀ t2 dx, H t2 = none → t2 ≠ a → H dx = none → dx ≠ a → dx ≠ t2 →
    Q .non (upd (upd (upd (upd H t2 (.tup [.str x0])) a (exq a C none t2)) dx (exd dx [(field, y)])) a (exq a C (some dx) t2))
theorem fin_x {field x0 : Str} {H : Hp} {a C : Addr} {y : V} {Q : V → Hp → Prop} {σ : L2.St}
    {D : Ends} (hD : ∀ H', Q .non H' → D.nx σ H')
    (k : ∀ t2 dx, H t2 = none → t2 ≠ a → H dx = none → dx ≠ a → dx ≠ t2 →
      Q .non (upd (upd (upd (upd H t2 (.tup [.str x0])) a (exq a C none t2)) dx (exd dx [(field, y)])) a (exq a C (some dx) t2)))
    {t2 : Addr} (n2 : H t2 = none) (ne : t2 ≠ a) {dx : Addr}
    (nx : upd (upd H t2 (.tup [.str x0])) a (exq a C none t2) dx = none) (nxa : dx ≠ a) :
    D.nx σ (upd (upd (upd (upd H t2 (.tup [.str x0])) a (exq a C none t2)) dx (exd dx [(field, y)])) a (exq a C (some dx) t2)) := by
  have e1 : dx ≠ t2 := fun z => by
    rw [z, upd_ne ne, upd_same] at nx
    cases nx
  have e2 : H dx = none := by
    rw [upd_ne nxa, upd_ne e1] at nx
    exact nx
  exact hD _ (k t2 dx n2 ne e2 nxa e1)
end
/-- the same, K told -/
theorem call_isDK {X : Cx} {K : PySem.W.Frag} {a : Addr} {oe : Obj} {cls : Value} {d : Option Addr} {pn : List (Addr × Obj)} (hK : X.K = K) (hz : Zc cls d oe) (hf : ∃ vs, oe.data = .fields vs) :
    CallR (X.suite a ((a, oe) :: pn)) (.builtin "isinstance") (rIsD K a cls d) := by
  subst hK
  exact call_isD hz hf
theorem call_reprK {X : Cx} {K : PySem.W.Frag} (hK : X.K = K) (gd : X.A.guards = some []) (hu : X.A.units + 64 < cLine) : CallR X (.builtin "repr") (rRepr K) := by
  subst hK
  exact call_repr gd hu
/-! ### defs that let errors out -/
section
variable (P : Program) (w : World) (K : PySem.W.Frag) (mg : Str → Option Value) (base : Heap)
/-- under its name x a def stands that keeps the promise sp, errors too; ds fill up what is left out -/
structure DefE (x : Str) (k : Nat) (ps : List Str) (ds : List V) (sp : Sp) : Prop where
  ex : ∃ f fd us, mg x = some (.ref f) ∧ PySem.W.keepIn K (.ref f) = true ∧ Vals ds us ∧ Binds K fd ps us ∧
    FnOk P w K mg base (L2.CX P w) k f fd ps sp
end
section
variable {P : Program} {w : World} {K : PySem.W.Frag} {mg : Str → Option Value} {base : Heap}
theorem mkDefE {x : Str} {st : Stmt} {N ps : List Str} {k : Nat} {sp : Sp} (A : At K mg x st)
    (S : FnScope N ps (defScope st))
    (hb : ∀ (kV doc pm : Value) (an : Option Addr) (cdv ct : Value) (us : List Value), us.length = ps.length →
      bindArgs (PySem.W.fnOf x x (defArgs st) (defBody st) (defScope st) .none kV doc pm an cdv ct) ⟨us, []⟩ = pure (ps.zip us))
    (len : ∀ vs H Q E, sp vs H Q E → vs.length = ps.length)
    (body : ∀ (f : Addr) (cdv : Value) (A : Around) (out : List Env) (s : Shared) (H : Hp) (vs : List V) (Q : VK) (E : XK),
      Room k (A.deeper (envOfC x (defScope st) s.heap.objs.size f cdv)) → sp vs H Q E →
      ∃ t, PSs (cxOf (L2.CX P w) P w K mg base N x (defScope st) f cdv A out s H E) (defBody st) t ∧
        t { nx := fun _ H' => Q .non H', rt := Q } (start N vs) H) : DefE P w K mg base x (k + 1) ps [] sp := by
  obtain ⟨f, fd, F, m⟩ := A.ex
  exact ⟨f, fd, [], m, F.kp, .nil, F.binds hb, F.okX S len (body f)⟩
theorem mkDefED {x : Str} {st : Stmt} {kws : List (Str × V)} {N ps : List Str} {k n : Nat} {sp : Sp} (A : AtD K mg x st kws)
    (S : FnScope N ps (defScope st)) (hk : kws ≠ []) (hn : n + kws.length = ps.length)
    (hb : ∀ (D : Addr) (doc pm : Value) (an : Option Addr) (cdv ct : Value) (us ks : List Value), us.length = n → ks.length = kws.length →
      KwChain D ((kws.map (·.1)).zip ks) (bindArgs (PySem.W.fnOf x x (defArgs st) (defBody st) (defScope st) .none (.ref D) doc pm an cdv ct) ⟨us, []⟩) (ps.zip (us ++ ks)))
    (len : ∀ vs H Q E, sp vs H Q E → vs.length = ps.length)
    (body : ∀ (f : Addr) (cdv : Value) (A : Around) (out : List Env) (s : Shared) (H : Hp) (vs : List V) (Q : VK) (E : XK),
      Room k (A.deeper (envOfC x (defScope st) s.heap.objs.size f cdv)) → sp vs H Q E →
      ∃ t, PSs (cxOf (L2.CX P w) P w K mg base N x (defScope st) f cdv A out s H E) (defBody st) t ∧
        t { nx := fun _ H' => Q .non H', rt := Q } (start N vs) H) : DefE P w K mg base x (k + 1) ps (kws.map (·.2)) sp := by
  obtain ⟨f, fd, F, m⟩ := A.ex
  obtain ⟨us, hv, b⟩ := F.binds0 n hk hn hb
  exact ⟨f, fd, us, m, F.kp, hv, b, F.ok S len fun cdv A out s H vs Q E hr hs => body f cdv A out s H vs Q E hr hs⟩
end
theorem pe_dE {X : Cx} {x : Str} {k j : Nat} {ps : List Str} {ds : List V} {sp : Sp} {W : WX} {p pos : Pos} {e : Expr} {es : List Expr} {t : TA}
    (D : DefE X.prog X.w X.K X.mg X.base x k ps ds sp) (tk : Takes X W) (hr : Room j X.A) (hk : k ≤ j) (hg : Gl X x) (ha : PA X (e :: es) t)
    (hdb : (x == ("__debug__" : Str)) = false := by decide)
    (he : starEach (e :: es) X.env = (false, eval e X.env) :: starEach es X.env := by rfl)
    (hpl : (backTo pos (starEach es X.env)).any (·.1) = false := by rfl) :
    PE X (.Call (.Name x p) (e :: es) [] pos) (tCallSD sp ds (WE W) t) := by
  obtain ⟨f, fd, us, m, kp, hv, b, F⟩ := D.ex
  exact pe_callSD F (hr.mono hk) hg m kp b hv (passAt tk) ha hdb he hpl
end Pw

/-! What a head by facts tells of own errors. -/
namespace Pw
open PySem PySem.Spec PyProof.Rows L2
/-- a class as it stands: what it stands above -/
structure Look (K : PySem.W.Frag) (C : Addr) (m : List Value) : Prop where
  cls : ∃ cd, PySem.W.clsIn K C = some cd ∧ cd.mro = .ref C :: m
  tyC : PySem.W.typeIn K (.ref C) = some (.type "type")
section
variable {K : PySem.W.Frag} {C D : Addr} {m m' : List Value}
theorem Look.mro (h : Look K C m) (v : Value) : PySem.W.mroIn K C v = some ((Value.ref C :: m).contains v) := by
  obtain ⟨cd, h1, h2⟩ := h.cls
  unfold PySem.W.mroIn
  rw [h1, Option.bind_some, h2]
  rfl
theorem Look.kit (h : Look K C m) (g : Look K D m') :
    PySem.W.kitOne K (.ref C) (.ref D) = some ((Value.ref C :: m).contains (.ref D)) := by
  obtain ⟨cd, h1, h2⟩ := g.cls
  unfold PySem.W.kitOne PySem.W.kitCls
  by_cases e : (Value.ref C == Value.ref D) = true
  · rw [if_pos e]
    obtain rfl := Value.ref.inj (beq_iff_eq.mp e)
    simp
  · rw [if_neg e]
    have e2 : ((PySem.W.clsIn K D).isSome && PySem.W.typeIn K (.ref D) == some (.type "type")) = true := by
      rw [h1, g.tyC]
      rfl
    simp only [e2, if_true]
    exact h.mro _
theorem Look.exm (h : Look K C m) (g : Look K D m') (hb : m'.contains (.type "BaseException") = true) (hne : C ≠ D) :
    PySem.W.exmOne K (.ref C) (.ref D) = some ((Value.ref C :: m).contains (.ref D)) := by
  obtain ⟨cd, h1, h2⟩ := g.cls
  have e2 : ((PySem.W.clsIn K D).isSome && PySem.W.typeIn K (.ref D) == some (.type "type")) = true := by
    rw [h1, g.tyC]
    rfl
  have e1 : PySem.W.subIn K (.ref D) (.type "BaseException") = some true := by
    show PySem.W.mroIn K D _ = _
    rw [g.mro, List.contains_cons, hb, Bool.or_true]
  unfold PySem.W.exmOne PySem.W.kitCls
  rw [e1, if_pos (by decide)]
  simp only [e2, if_true]
  exact h.mro _
theorem Look.exs (g : Look K D m') (hb : m'.contains (.type "BaseException") = true) :
    PySem.W.exmOne K (.ref D) (.ref D) = some true := by
  obtain ⟨cd, h1, h2⟩ := g.cls
  have e2 : ((PySem.W.clsIn K D).isSome && PySem.W.typeIn K (.ref D) == some (.type "type")) = true := by
    rw [h1, g.tyC]
    rfl
  have e1 : PySem.W.subIn K (.ref D) (.type "BaseException") = some true := by
    show PySem.W.mroIn K D _ = _
    rw [g.mro, List.contains_cons, hb, Bool.or_true]
  unfold PySem.W.exmOne PySem.W.kitCls
  rw [e1, if_pos (by decide)]
  simp only [e2, if_true]
  show PySem.W.mroIn K D _ = _
  rw [g.mro]
  simp
theorem Look.kitT (h : Look K C m) {T : String} (hk : PySem.W.kitMeta T = true) :
    PySem.W.kitOne K (.ref C) (.type T) = some (m.contains (.type T)) := by
  have e : (Value.ref C == Value.type T) = false := rfl
  unfold PySem.W.kitOne PySem.W.kitCls
  rw [e, if_neg Bool.false_ne_true]
  simp only [hk, if_true]
  show PySem.W.mroIn K C _ = _
  have e' : (Value.type T == Value.ref C) = false := rfl
  rw [h.mro, List.contains_cons, e', Bool.false_or]
end

section
variable {K : PySem.W.Frag} {mg : Str → Option Value} {h : Heap}
/-- what is the same of all errors -/
structure MethO (K : PySem.W.Frag) : Prop where
  hn : PySem.W.specialIn K (.builtin "object.__class__") "__get__" = some (some (.builtin "getset_descriptor.__get__"))
  ht : PySem.W.takesIn K (.builtin "object.__class__") = some true
theorem look_mk {x qn : Str} {C N : Addr} {bs bm : List Value} {sn : List Str} {sub : List Value} {ab : Bool} {col : Option Bool} {dd : Option Addr} {m0 m1 m2 m3 m5 : Option Value} {newId : String}
    (xL : K.lookup C = some (excClassObj x qn C N bs bm true sn sub ab col dd m0 m1 m2 m3 m5 newId))
    (tC : PySem.W.typeIn K (.ref C) = some (.type "type")) : Look K C bm :=
  ⟨⟨{ name := x, bases := bs, mro := .ref C :: bm, ns := N, qualname := qn, hasDict := true, slotNames := sn, subclasses := sub, abstract := ab, collection := col, hasDel := false },
    by unfold PySem.W.clsIn; rw [xL] <;> rfl, rfl⟩, tC⟩
theorem cl_mk {x q field qn : Str} {B newId : String} {st : Stmt} {C CB f N : Addr} {bs tl : List Value} {sn : List Str} {sub : List Value} {ab : Bool} {col : Option Bool} {dd : Option Addr} {m0 m1 m2 m3 m5 : Option Value}
    {oc : Value} {od an : Option Addr} {osl : Array (Option Value)} {kV doc pm cdv ct : Value} (X : K.In h) (G : h.Ns mainGlobals mg) (F : Fit newId tl) (hBt : tl.contains (.type B) = true) (hOb : tl.contains (.type "object") = true) (M : MethO K)
    (aC : PySem.W.nsIn K mainGlobals x = some (some (.ref C)))
    (xL : K.lookup C = some (excClassObj x qn C N bs (.ref CB :: tl) true sn sub ab col dd m0 m1 m2 m3 m5 newId))
    (sa : PySem.W.findIn K (.ref C) "__setattr__" = some (some (.builtin "object.__setattr__")))
    (eC : PySem.W.subIn K (.ref C) (.type "BaseException") = some true) (tC : PySem.W.typeIn K (.ref C) = some (.type "type"))
    (kC : PySem.W.keepIn K (.ref C) = true) (i1 : PySem.W.findIn K (.ref C) "__init__" = some (some (.ref f)))
    (t1 : PySem.W.typeIn K (.ref f) = some (.type "function"))
    (l1 : K.lookup f = some ⟨oc, od, .func (PySem.W.fnOf "__init__" q (defArgs st) (defBody st) (defScope st) .none kV doc pm an cdv ct), osl⟩)
    (c1 : PySem.W.codeIn K cdv q = true) (k1 : PySem.W.keepIn K (.ref f) = true)
    (hg : PySem.W.findIn K (.ref C) "__getattribute__" = some (some (.builtin "BaseException.__getattribute__")))
    (hk : PySem.W.findIn K (.ref C) "__getattr__" = some none) (hd : PySem.W.hasDictIn K C = true)
    (ha : PySem.W.findIn K (.ref C) "__class__" = some (some (.builtin "object.__class__")))
    (nF : PySem.W.findIn K (.ref C) field = some none) : Cl K mg x q field B st C ∧ Look K C (.ref CB :: tl) ∧ ExcC K C := by
  have L := look_mk xL tC
  refine ⟨⟨PySem.W.mg_of X G aC, ⟨⟨newId, x, qn, N, bs, _, sn, sub, ab, col, dd, m0, m1, m2, m3, m5, xL, (F.up CB).up C⟩, sa, eC, tC, kC⟩, ?_, nF, f, _, i1, t1, fun_mk (st := st) l1 c1 k1⟩,
    L, ⟨hg, hk, eC, hd, ha, M.hn, M.ht, ?_⟩⟩
  · rw [L.mro, List.contains_cons, List.contains_cons, hBt, Bool.or_true, Bool.or_true]
  · rw [L.mro, List.contains_cons, List.contains_cons, hOb, Bool.or_true, Bool.or_true]
theorem fam_mk {x q qn : Str} {B newId : String} {st : Stmt} {C f N : Addr} {bs tl : List Value} {sn : List Str} {sub : List Value} {ab : Bool} {col : Option Bool} {dd : Option Addr} {m0 m1 m2 m3 m5 : Option Value}
    {oc : Value} {od an : Option Addr} {osl : Array (Option Value)} {kV doc pm cdv ct : Value} (X : K.In h) (G : h.Ns mainGlobals mg) (F : Fit newId tl) (hBt : tl.contains (.type B) = true) (hOb : tl.contains (.type "object") = true) (M : MethO K)
    (aC : PySem.W.nsIn K mainGlobals x = some (some (.ref C)))
    (xL : K.lookup C = some (excClassObj x qn C N bs tl true sn sub ab col dd m0 m1 m2 m3 m5 newId))
    (sa : PySem.W.findIn K (.ref C) "__setattr__" = some (some (.builtin "object.__setattr__")))
    (eC : PySem.W.subIn K (.ref C) (.type "BaseException") = some true) (tC : PySem.W.typeIn K (.ref C) = some (.type "type"))
    (kC : PySem.W.keepIn K (.ref C) = true) (i1 : PySem.W.findIn K (.ref C) "__init__" = some (some (.ref f)))
    (t1 : PySem.W.typeIn K (.ref f) = some (.type "function"))
    (l1 : K.lookup f = some ⟨oc, od, .func (PySem.W.fnOf "__init__" q (defArgs st) (defBody st) (defScope st) .none kV doc pm an cdv ct), osl⟩)
    (c1 : PySem.W.codeIn K cdv q = true) (k1 : PySem.W.keepIn K (.ref f) = true)
    (hg : PySem.W.findIn K (.ref C) "__getattribute__" = some (some (.builtin "BaseException.__getattribute__")))
    (hk : PySem.W.findIn K (.ref C) "__getattr__" = some none) (hd : PySem.W.hasDictIn K C = true)
    (ha : PySem.W.findIn K (.ref C) "__class__" = some (some (.builtin "object.__class__")))
    (sg : PySem.W.specialIn K (.ref C) "__getattribute__" = some (some (.builtin "type.__getattribute__")))
    (rd : PySem.W.readsIn K C (.type "type") = true)
    (at_ : PySem.W.findCls K (.ref C) (.type "type") "__init__" = some (.val (.ref f))) : Fam K mg x q B st C f ∧ Look K C tl ∧ ExcC K C := by
  have L := look_mk xL tC
  refine ⟨⟨PySem.W.mg_of X G aC, ⟨⟨newId, x, qn, N, bs, _, sn, sub, ab, col, dd, m0, m1, m2, m3, m5, xL, F.up C⟩, sa, eC, tC, kC⟩, ?_, sg, rd, at_, i1, t1, _, fun_mk (st := st) l1 c1 k1⟩,
    L, ⟨hg, hk, eC, hd, ha, M.hn, M.ht, ?_⟩⟩
  · rw [L.mro, List.contains_cons, hBt, Bool.or_true]
  · rw [L.mro, List.contains_cons, hOb, Bool.or_true]
end
def iniB (B initId : String) : Fb := fun K => match PySem.W.findCls K (.type B) (.type "type") "__init__" with
  | some (.val v) => decide (v = .builtin initId)
  | _ => false
def hnB : Fb := fun K => He.eqO (PySem.W.specialIn K (.builtin "object.__class__") "__get__") (some (some (.builtin "getset_descriptor.__get__")))
def htB : Fb := fun K => decide (PySem.W.takesIn K (.builtin "object.__class__") = some true)
def clC (x : Str) : Fb := fun K => He.eqO (PySem.W.findIn K (.ref (He.ga K x)) "__setattr__") (some (some (.builtin "object.__setattr__"))) &&
  (decide (PySem.W.subIn K (.ref (He.ga K x)) (.type "BaseException") = some true) && (decide (PySem.W.typeIn K (.ref (He.ga K x)) = some (.type "type")) && (PySem.W.keepIn K (.ref (He.ga K x)) &&
  (He.eqO (PySem.W.findIn K (.ref (He.ga K x)) "__init__") (some (some (.ref (He.ma K (He.ga K x) "__init__")))) && (decide (PySem.W.typeIn K (.ref (He.ma K (He.ga K x) "__init__")) = some (.type "function")) &&
  (He.eqO (PySem.W.findIn K (.ref (He.ga K x)) "__getattribute__") (some (some (.builtin "BaseException.__getattribute__"))) && (He.eqO (PySem.W.findIn K (.ref (He.ga K x)) "__getattr__") (some none) &&
  (PySem.W.hasDictIn K (He.ga K x) && He.eqO (PySem.W.findIn K (.ref (He.ga K x)) "__class__") (some (some (.builtin "object.__class__")))))))))))
def clB (x fam field : Str) (tl : List Value) (newId : String) : Fb := fun K => (He.Fa.glo x).ok K && (xcB K (He.ga K x) (.ref (He.ga K fam) :: tl) newId x && (clC x K &&
  He.eqO (PySem.W.findIn K (.ref (He.ga K x)) field) (some none)))
def fmB (x : Str) (tl : List Value) (newId : String) : Fb := fun K => (He.Fa.glo x).ok K && (xcB K (He.ga K x) tl newId x && (clC x K &&
  (He.eqO (PySem.W.specialIn K (.ref (He.ga K x)) "__getattribute__") (some (some (.builtin "type.__getattribute__"))) && (PySem.W.readsIn K (He.ga K x) (.type "type") &&
  (match PySem.W.findCls K (.ref (He.ga K x)) (.type "type") "__init__" with
  | some (.val v) => decide (v = .ref (He.ma K (He.ga K x) "__init__"))
  | _ => false)))))
abbrev dfN (x : Str) (st : Stmt) : He.DefD := ⟨(x, none), x, x, defArgs st, defBody st, defScope st, [], []⟩
abbrev dfI (x q : Str) (st : Stmt) : He.DefD := ⟨(x, some "__init__"), "__init__", q, defArgs st, defBody st, defScope st, [], []⟩
section
variable {K : PySem.W.Frag} {h : Heap} {mg : Str → Option Value}
theorem iniB_ok {B initId : String} (c : iniB B initId K = true) : PySem.W.findCls K (.type B) (.type "type") "__init__" = some (.val (.builtin initId)) := by
  unfold iniB at c
  split at c
  · rename_i v e
    rw [e, of_decide_eq_true c]
  · cases c
theorem clB_ok {x q field fam : Str} {B newId : String} {st : Stmt} {tl : List Value} (X : K.In h) (G : h.Ns mainGlobals mg) (F : Fit newId tl) (hBt : tl.contains (.type B) = true) (hOb : tl.contains (.type "object") = true) (M : MethO K)
    (c : clB x fam field tl newId K = true) (D : ∃ fd, FunD K "__init__" q (defArgs st) (defBody st) (defScope st) [] [] (He.ma K (He.ga K x) "__init__") fd) :
    Cl K mg x q field B st (He.ga K x) ∧ Look K (He.ga K x) (.ref (He.ga K fam) :: tl) ∧ ExcC K (He.ga K x) := by
  obtain ⟨c1, c⟩ := He.ba c
  obtain ⟨c2, c⟩ := He.ba c
  obtain ⟨c3, c4⟩ := He.ba c
  obtain ⟨e1, c3⟩ := He.ba c3
  obtain ⟨e2, c3⟩ := He.ba c3
  obtain ⟨e3, c3⟩ := He.ba c3
  obtain ⟨e4, c3⟩ := He.ba c3
  obtain ⟨e5, c3⟩ := He.ba c3
  obtain ⟨e6, c3⟩ := He.ba c3
  obtain ⟨e7, c3⟩ := He.ba c3
  obtain ⟨e8, c3⟩ := He.ba c3
  obtain ⟨e9, e10⟩ := He.ba c3
  obtain ⟨qn, N, bs, sn, sub, ab, col, dd, m0, m1, m2, m3, m5, xL⟩ := xcB_ok c2
  obtain ⟨fd, DF⟩ := D
  obtain ⟨oc, od, dV, kV, doc, pm, an, cdv, ct, osl, rfl, lk, hcd, hD, _⟩ := DF.ex
  rcases hD with ⟨_, rfl⟩ | ⟨z, _⟩
  · exact cl_mk X G F hBt hOb M (He.eqO_ok c1) xL (He.eqO_ok e1) (of_decide_eq_true e2) (of_decide_eq_true e3) e4 (He.eqO_ok e5) (of_decide_eq_true e6) lk hcd DF.kp (He.eqO_ok e7) (He.eqO_ok e8) e9 (He.eqO_ok e10) (He.eqO_ok c4)
  · exact absurd rfl z
theorem fmB_ok {x q : Str} {B newId : String} {st : Stmt} {tl : List Value} (X : K.In h) (G : h.Ns mainGlobals mg) (F : Fit newId tl) (hBt : tl.contains (.type B) = true) (hOb : tl.contains (.type "object") = true) (M : MethO K)
    (c : fmB x tl newId K = true) (D : ∃ fd, FunD K "__init__" q (defArgs st) (defBody st) (defScope st) [] [] (He.ma K (He.ga K x) "__init__") fd) :
    Fam K mg x q B st (He.ga K x) (He.ma K (He.ga K x) "__init__") ∧ Look K (He.ga K x) tl ∧ ExcC K (He.ga K x) := by
  obtain ⟨c1, c⟩ := He.ba c
  obtain ⟨c2, c⟩ := He.ba c
  obtain ⟨c3, c⟩ := He.ba c
  obtain ⟨s1, c⟩ := He.ba c
  obtain ⟨s2, s3⟩ := He.ba c
  obtain ⟨e1, c3⟩ := He.ba c3
  obtain ⟨e2, c3⟩ := He.ba c3
  obtain ⟨e3, c3⟩ := He.ba c3
  obtain ⟨e4, c3⟩ := He.ba c3
  obtain ⟨e5, c3⟩ := He.ba c3
  obtain ⟨e6, c3⟩ := He.ba c3
  obtain ⟨e7, c3⟩ := He.ba c3
  obtain ⟨e8, c3⟩ := He.ba c3
  obtain ⟨e9, e10⟩ := He.ba c3
  obtain ⟨qn, N, bs, sn, sub, ab, col, dd, m0, m1, m2, m3, m5, xL⟩ := xcB_ok c2
  obtain ⟨fd, DF⟩ := D
  obtain ⟨oc, od, dV, kV, doc, pm, an, cdv, ct, osl, rfl, lk, hcd, hD, _⟩ := DF.ex
  have at_ : PySem.W.findCls K (.ref (He.ga K x)) (.type "type") "__init__" = some (.val (.ref (He.ma K (He.ga K x) "__init__"))) := by
    split at s3
    · rename_i v e
      rw [e, of_decide_eq_true s3]
    · cases s3
  rcases hD with ⟨_, rfl⟩ | ⟨z, _⟩
  · exact fam_mk X G F hBt hOb M (He.eqO_ok c1) xL (He.eqO_ok e1) (of_decide_eq_true e2) (of_decide_eq_true e3) e4 (He.eqO_ok e5) (of_decide_eq_true e6) lk hcd DF.kp (He.eqO_ok e7) (He.eqO_ok e8) e9 (He.eqO_ok e10) (He.eqO_ok s1) s2 at_
  · exact absurd rfl z
end
theorem typ_of_cl {x fam field : Str} {tl : List Value} {newId : String} {K : PySem.W.Frag} (c : clB x fam field tl newId K = true) : PySem.W.typeIn K (.ref (He.ga K x)) = some (.type "type") := by
  obtain ⟨_, c⟩ := He.ba c
  obtain ⟨_, c⟩ := He.ba c
  obtain ⟨c3, _⟩ := He.ba c
  obtain ⟨_, c3⟩ := He.ba c3
  obtain ⟨_, c3⟩ := He.ba c3
  obtain ⟨e3, _⟩ := He.ba c3
  exact of_decide_eq_true e3
/-- what the head finds of a def with keyword-only defaults -/
theorem atDOf {K : PySem.W.Frag} {h : Heap} {mg : Str → Option Value} {x : Str} {st : Stmt} {kws : List (Str × V)} (X : K.In h) (G : h.Ns mainGlobals mg) (g : (He.Fa.glo x).ok K = true)
    (F : ∃ fd, FunD K x x (defArgs st) (defBody st) (defScope st) [] kws (He.ga K x) fd) : AtD K mg x st kws :=
  let ⟨fd, F⟩ := F
  ⟨_, fd, F, He.glo_ok X G g⟩
end Pw

namespace T40
open PySem PySem.Spec PyProof.Rows L2 Pw
def top (i : Nat) : Stmt := PySem.Challenge.pw_panelwatch_k40_fine_rows.main.body.getD i (.Pass ⟨0, 0, 0, 0⟩)
abbrev sIsNumber : Stmt := top 11
theorem scIsNumber : FnScope ["thing"] ["thing"] (defScope sIsNumber) := ⟨rfl, rfl, rfl, by decide +kernel, rfl, by decide +kernel, by decide +kernel⟩
abbrev sCheckNumber : Stmt := top 12
theorem scCheckNumber : FnScope ["thing"] ["thing"] (defScope sCheckNumber) := ⟨rfl, rfl, rfl, by decide +kernel, rfl, by decide +kernel, by decide +kernel⟩
abbrev sIsWhole : Stmt := top 13
theorem scIsWhole : FnScope ["thing", "low", "high"] ["thing", "low", "high"] (defScope sIsWhole) := ⟨rfl, rfl, rfl, by decide +kernel, rfl, by decide +kernel, by decide +kernel⟩
abbrev sIsTime : Stmt := top 14
theorem scIsTime : FnScope ["thing"] ["thing"] (defScope sIsTime) := ⟨rfl, rfl, rfl, by decide +kernel, rfl, by decide +kernel, by decide +kernel⟩
abbrev sIsMark : Stmt := top 15
theorem scIsMark : FnScope ["thing"] ["thing"] (defScope sIsMark) := ⟨rfl, rfl, rfl, by decide +kernel, rfl, by decide +kernel, by decide +kernel⟩
abbrev sIsOneOf : Stmt := top 16
theorem scIsOneOf : FnScope ["thing", "words"] ["thing", "words"] (defScope sIsOneOf) := ⟨rfl, rfl, rfl, by decide +kernel, rfl, by decide +kernel, by decide +kernel⟩
abbrev sIsTuple : Stmt := top 17
theorem scIsTuple : FnScope ["thing", "many"] ["thing", "many"] (defScope sIsTuple) := ⟨rfl, rfl, rfl, by decide +kernel, rfl, by decide +kernel, by decide +kernel⟩
abbrev sIsRising : Stmt := top 18
theorem scIsRising : FnScope ["numbers", "one", "other"] ["numbers"] (defScope sIsRising) := ⟨rfl, rfl, rfl, by decide +kernel, rfl, by decide +kernel, by decide +kernel⟩
abbrev sCheckTime : Stmt := top 19
theorem scCheckTime : FnScope ["thing"] ["thing"] (defScope sCheckTime) := ⟨rfl, rfl, rfl, by decide +kernel, rfl, by decide +kernel, by decide +kernel⟩
abbrev sCheckWhole : Stmt := top 20
theorem scCheckWhole : FnScope ["thing", "low", "high"] ["thing", "low", "high"] (defScope sCheckWhole) := ⟨rfl, rfl, rfl, by decide +kernel, rfl, by decide +kernel, by decide +kernel⟩
abbrev sCheckTruth : Stmt := top 21
theorem scCheckTruth : FnScope ["thing"] ["thing"] (defScope sCheckTruth) := ⟨rfl, rfl, rfl, by decide +kernel, rfl, by decide +kernel, by decide +kernel⟩
abbrev sIsLevel : Stmt := top 23
theorem scIsLevel : FnScope ["thing"] ["thing"] (defScope sIsLevel) := ⟨rfl, rfl, rfl, by decide +kernel, rfl, by decide +kernel, by decide +kernel⟩
abbrev sIsRow : Stmt := top 25
theorem scIsRow : FnScope ["thing", "time", "worth", "mark"] ["thing"] (defScope sIsRow) := ⟨rfl, rfl, rfl, by decide +kernel, rfl, by decide +kernel, by decide +kernel⟩
abbrev sIsHistory : Stmt := top 26
theorem scIsHistory : FnScope ["thing", "row"] ["thing"] (defScope sIsHistory) := ⟨rfl, rfl, rfl, by decide +kernel, rfl, by decide +kernel, by decide +kernel⟩
abbrev sCheckHistory : Stmt := top 27
theorem scCheckHistory : FnScope ["thing"] ["thing"] (defScope sCheckHistory) := ⟨rfl, rfl, rfl, by decide +kernel, rfl, by decide +kernel, by decide +kernel⟩
abbrev sGoodRows : Stmt := top 28
theorem scGoodRows : FnScope ["history", "row"] ["history"] (defScope sGoodRows) := ⟨rfl, rfl, rfl, by decide +kernel, rfl, by decide +kernel, by decide +kernel⟩
abbrev sFine : Stmt := top 32
theorem scFine : FnScope ["history", "since", "till", "odd"] ["history", "since", "till", "odd"] (defScope sFine) := ⟨rfl, rfl, rfl, by decide +kernel, rfl, by decide +kernel, by decide +kernel⟩
abbrev sCoarseOf : Stmt := top 33
theorem scCoarseOf : FnScope ["rows", "size"] ["rows", "size"] (defScope sCoarseOf) := ⟨rfl, rfl, rfl, by decide +kernel, rfl, by decide +kernel, by decide +kernel⟩
abbrev sCheckSize : Stmt := top 34
theorem scCheckSize : FnScope ["size"] ["size"] (defScope sCheckSize) := ⟨rfl, rfl, rfl, by decide +kernel, rfl, by decide +kernel, by decide +kernel⟩
abbrev sCheckWindow : Stmt := top 35
theorem scCheckWindow : FnScope ["since", "till", "odd", "many"] ["since", "till", "odd"] (defScope sCheckWindow) := ⟨rfl, rfl, rfl, by decide +kernel, rfl, by decide +kernel, by decide +kernel⟩
abbrev sAreFineRows : Stmt := top 36
theorem scAreFineRows : FnScope ["thing", "row"] ["thing"] (defScope sAreFineRows) := ⟨rfl, rfl, rfl, by decide +kernel, rfl, by decide +kernel, by decide +kernel⟩
abbrev sIsFineRow : Stmt := top 37
theorem scIsFineRow : FnScope ["thing"] ["thing"] (defScope sIsFineRow) := ⟨rfl, rfl, rfl, by decide +kernel, rfl, by decide +kernel, by decide +kernel⟩
abbrev sFineRows : Stmt := top 38
theorem scFineRows : FnScope ["history", "since", "till", "odd", "signs", "rows", "worth", "heard", "tick"] ["history", "since", "till", "odd"] (defScope sFineRows) := ⟨rfl, rfl, rfl, by decide +kernel, rfl, by decide +kernel, by decide +kernel⟩
abbrev sCoarseRows : Stmt := top 39
theorem scCoarseRows : FnScope ["rows", "size", "stretches", "tick", "worth", "start", "worths"] ["rows", "size"] (defScope sCoarseRows) := ⟨rfl, rfl, rfl, by decide +kernel, rfl, by decide +kernel, by decide +kernel⟩
abbrev sLawCell : Stmt := top 41
theorem scLawCell : FnScope ["_law_script", "_law_k"] ["_law_script", "_law_k"] (defScope sLawCell) := ⟨rfl, rfl, rfl, by decide +kernel, rfl, by decide +kernel, by decide +kernel⟩
abbrev sLawBox : Stmt := top 42
theorem scLawBox : FnScope ["_law_cell_here"] ["_law_cell_here"] (defScope sLawBox) := ⟨rfl, rfl, rfl, by decide +kernel, rfl, by decide +kernel, by decide +kernel⟩
abbrev sLawTake : Stmt := top 43
theorem scLawTake : FnScope ["_law_box_here", "_law_many", "_law_digit", "_law_turn"] ["_law_box_here", "_law_many"] (defScope sLawTake) := ⟨rfl, rfl, rfl, by decide +kernel, rfl, by decide +kernel, by decide +kernel⟩
abbrev sLawHistory : Stmt := top 44
theorem scLawHistory : FnScope ["_law_box_here", "_law_many", "_law_time", "_law_rows", "_law_k", "_law_worth"] ["_law_box_here", "_law_many"] (defScope sLawHistory) := ⟨rfl, rfl, rfl, by decide +kernel, rfl, by decide +kernel, by decide +kernel⟩
abbrev sLawWindow : Stmt := top 45
theorem scLawWindow : FnScope ["_law_box_here", "_law_rows", "_law_base", "_law_since", "_law_till"] ["_law_box_here", "_law_rows"] (defScope sLawWindow) := ⟨rfl, rfl, rfl, by decide +kernel, rfl, by decide +kernel, by decide +kernel⟩
abbrev sLawFine : Stmt := top 46
theorem scLawFine : FnScope ["_law_rows", "_law_since", "_law_till", "_law_all_count", "_law_known", "_law_found", "_law_tick", "_law_some", "_law_time", "_law_worth", "_law_mark"] ["_law_rows", "_law_since", "_law_till", "_law_all_count"] (defScope sLawFine) := ⟨rfl, rfl, rfl, by decide +kernel, rfl, by decide +kernel, by decide +kernel⟩
abbrev sLawRight : Stmt := top 47
theorem scLawRight : FnScope ["_law_rows", "_law_since", "_law_till", "_law_held", "_law_all_count", "_law_due", "_law_told"] ["_law_rows", "_law_since", "_law_till"] (defScope sLawRight) := ⟨rfl, rfl, rfl, by decide +kernel, rfl, by decide +kernel, by decide +kernel⟩
abbrev sLawManyRight : Stmt := top 48
theorem scLawManyRight : FnScope ["_law_rows", "_law_since", "_law_told", "_law_known", "_law_due", "_law_whole", "e", "_law_row"] ["_law_rows", "_law_since"] (defScope sLawManyRight) := ⟨rfl, rfl, rfl, by decide +kernel, rfl, by decide +kernel, by decide +kernel⟩
abbrev sLawLongRight : Stmt := top 49
theorem scLawLongRight : FnScope ["_law_box_here", "_law_base", "_law_rows", "_law_at", "_law_told"] ["_law_box_here"] (defScope sLawLongRight) := ⟨rfl, rfl, rfl, by decide +kernel, rfl, by decide +kernel, by decide +kernel⟩
abbrev sLaw : Stmt := top 50
theorem scLaw : FnScope ["_law_script", "_law_k", "_law_box_here", "_law_rows", "_law_since", "_law_till"] ["_law_script"] (defScope sLaw) := ⟨rfl, rfl, rfl, by decide +kernel, rfl, by decide +kernel, by decide +kernel⟩
abbrev mPanelError_Init : Stmt := inClass (top 1) 0
theorem scmPanelError_Init : FnScope ["self", "text"] ["self", "text"] (defScope mPanelError_Init) := ⟨rfl, rfl, rfl, by decide +kernel, rfl, by decide +kernel, by decide +kernel⟩
abbrev mTooMany_Init : Stmt := inClass (top 2) 0
theorem scmTooMany_Init : FnScope ["self", "many"] ["self", "many"] (defScope mTooMany_Init) := ⟨rfl, rfl, rfl, by decide +kernel, rfl, by decide +kernel, by decide +kernel⟩
abbrev mNoTime_Init : Stmt := inClass (top 3) 0
theorem scmNoTime_Init : FnScope ["self", "found"] ["self", "found"] (defScope mNoTime_Init) := ⟨rfl, rfl, rfl, by decide +kernel, rfl, by decide +kernel, by decide +kernel⟩
abbrev mNoNumber_Init : Stmt := inClass (top 4) 0
theorem scmNoNumber_Init : FnScope ["self", "found"] ["self", "found"] (defScope mNoNumber_Init) := ⟨rfl, rfl, rfl, by decide +kernel, rfl, by decide +kernel, by decide +kernel⟩
abbrev mNoTruth_Init : Stmt := inClass (top 5) 0
theorem scmNoTruth_Init : FnScope ["self", "found"] ["self", "found"] (defScope mNoTruth_Init) := ⟨rfl, rfl, rfl, by decide +kernel, rfl, by decide +kernel, by decide +kernel⟩
abbrev mNoList_Init : Stmt := inClass (top 6) 0
theorem scmNoList_Init : FnScope ["self", "found"] ["self", "found"] (defScope mNoList_Init) := ⟨rfl, rfl, rfl, by decide +kernel, rfl, by decide +kernel, by decide +kernel⟩
abbrev mNoHistory_Init : Stmt := inClass (top 7) 0
theorem scmNoHistory_Init : FnScope ["self", "found"] ["self", "found"] (defScope mNoHistory_Init) := ⟨rfl, rfl, rfl, by decide +kernel, rfl, by decide +kernel, by decide +kernel⟩
/-- the built-in names that the text calls, and its constants -/
structure Txt (mg : Str → Option Value) : Prop where
  ValueError : mg "ValueError" = none
  all : mg "all" = none
  bool : mg "bool" = none
  int : mg "int" = none
  isinstance : mg "isinstance" = none
  len : mg "len" = none
  list : mg "list" = none
  max : mg "max" = none
  min : mg "min" = none
  range : mg "range" = none
  repr : mg "repr" = none
  str : mg "str" = none
  sum : mg "sum" = none
  tuple : mg "tuple" = none
  zip : mg "zip" = none
  cMOST_TIME : ∃ t, mg "MOST_TIME" = some (.int 9999 t)
  cMOST_LEVEL : ∃ t, mg "MOST_LEVEL" = some (.int 63 t)
  c_MOST_TICKS : ∃ t, mg "_MOST_TICKS" = some (.int 1000 t)
  c_MOST_SIZE : ∃ t, mg "_MOST_SIZE" = some (.int 400 t)
end T40

namespace T40
open PySem PySem.Spec PyProof.Rows L2 Pw
/-! ### what is told of a thing -/
def wholeB (x : V) (lo hi : Int) : Bool := match x with
  | .int i => decide (lo ≤ i) && decide (i ≤ hi)
  | _ => false
def oneB (x : V) (ws : List Str) : Bool := match x with
  | .str s => ws.any fun y => y == s
  | _ => false
/-- is it a tuple of so many things -/
def tupNB (H : Hp) (x : V) (n : Int) : Bool := match x with
  | .ref a => match H a with
    | some (.tup xs) => decide ((xs.length : Int) = n)
    | _ => false
  | _ => false
section
variable {P : Program} {w : World} {K : PySem.W.Frag} {mg : Str → Option Value} {base : Heap}
/-- isinstance(slot i, T) -/
theorem pe_is {X : Cx} {i : Nat} {x T : Str} {Tn : String} {p p1 p2 p3 : Pos} (hm : X.mg "isinstance" = none) (hg : Gl X "isinstance")
    (hx : PE X (.Name x p2) (tVar i)) (hT : X.mg T = none) (hgT : Gl X T) (hv : bootBuiltins T = some (.type Tn))
    (hn : T ≠ "__name__" := by decide) (hd : (T == ("__debug__" : Str)) = false := by decide)
    (he : starEach [.Name x p2, .Name T p3] X.env = (false, eval (.Name x p2) X.env) :: starEach [.Name T p3] X.env := by rfl)
    (he2 : starEach [.Name T p3] X.env = (false, eval (.Name T p3) X.env) :: starEach [] X.env := by rfl)
    (hpl : (backTo p (starEach [.Name T p3] X.env)).any (·.1) = false := by rfl) :
    PE X (.Call (.Name "isinstance" p1) [.Name x p2, .Name T p3] [] p)
      (tCB (rIsA X.K) (tCons (tVar i) (tCons (tC (.ty Tn)) tNil))) :=
  pe_callB call_isa hg hm PyProof.Rows.boot_isinstance
    (pa_cons hx (pa_cons (pe_bltn hgT hT hv rfl hn hd) pa_nil he2) he) (by decide) (by decide) he hpl

def spNumber (K : PySem.W.Frag) : Sp := fun vs H Q _ => ∃ x t, vs = [x] ∧ Ty K H x t ∧ Q (.bl (numB x)) H
theorem d_number (T : Txt mg) (A : At K mg "_is_number" sIsNumber) :
    Def P w K mg base "_is_number" 1 ["thing"] (spNumber K) := by
  refine mkDef A scIsNumber (fun _ _ _ _ _ _ us hl => match us, hl with | [_], _ => rfl) (fun vs H Q E h => ?_)
    (fun f cdv A out s H vs Q E hr h => ?_)
  · obtain ⟨x, t, rfl, _⟩ := h
    rfl
  · obtain ⟨x, t, rfl, ty, k⟩ := h
    refine ⟨_, pss_one (ps_ret (pe_and (pe_is T.isinstance (by rfl) (pv 0) T.int (by rfl) (Tn := "int") (by decide +kernel))
      (pe_one (pe_not (pe_is T.isinstance (by rfl) (pv 0) T.bool (by rfl) (Tn := "bool") (by decide +kernel)))))), ?_⟩
    refine ⟨_, rfl, x, .ty "int", t, .type "int", _, rfl, .ty "int", ty.q, ty.isInt, _, rfl, ?_⟩
    have e : numB x = ((numB x || blB x) && !blB x) := by cases x <;> rfl
    cases hb : numB x || blB x with
    | false =>
      refine iteF ?_
      rw [hb] at e
      rw [e] at k
      exact k
    | true =>
      refine iteT ?_
      refine ⟨_, rfl, x, .ty "bool", t, .type "bool", _, rfl, .ty "bool", ty.q, ty.isBool, _, rfl, ?_⟩
      rw [hb, Bool.true_and] at e
      rw [e] at k
      exact k

def spCheck (K : PySem.W.Frag) : Sp := fun vs H Q _ => ∃ i, vs = [.int i] ∧ Q .non H
theorem d_check (A : At K mg "_check_number" sCheckNumber) (dn : Def P w K mg base "_is_number" 1 ["thing"] (spNumber K)) :
    Def P w K mg base "_check_number" 2 ["thing"] (spCheck K) := by
  refine mkDef A scCheckNumber (fun _ _ _ _ _ _ us hl => match us, hl with | [_], _ => rfl) (fun vs H Q E h => ?_)
    (fun f cdv A out s H vs Q E hr h => ?_)
  · obtain ⟨x, rfl, _⟩ := h
    rfl
  · obtain ⟨i, rfl, k⟩ := h
    refine ⟨_, pss_one (ps_if (pt_not (pt_val (pe_d dn hr (by decide) (by rfl) (pa_cons (pv 0) pa_nil))))
      (pss_one ps_never) pss_nil), ?_⟩
    refine ⟨_, rfl, _, _, rfl, .int i, true, rfl, ?_⟩
    exact iteF k

def spWhole (K : PySem.W.Frag) : Sp := fun vs H Q _ => ∃ x t lo hi, vs = [x, .int lo, .int hi] ∧ Ty K H x t ∧
  Q (.bl (wholeB x lo hi)) H
theorem d_whole (A : At K mg "is_whole" sIsWhole) (dn : Def P w K mg base "_is_number" 1 ["thing"] (spNumber K))
    (dc : Def P w K mg base "_check_number" 2 ["thing"] (spCheck K)) :
    Def P w K mg base "is_whole" 3 ["thing", "low", "high"] (spWhole K) := by
  refine mkDef A scIsWhole (fun _ _ _ _ _ _ us hl => match us, hl with | [_, _, _], _ => rfl) (fun vs H Q E h => ?_)
    (fun f cdv A out s H vs Q E hr h => ?_)
  · obtain ⟨x, t, lo, hi, rfl, _⟩ := h
    rfl
  · obtain ⟨x, t, lo, hi, rfl, ty, k⟩ := h
    refine ⟨_, pss_cons (ps_expr (pe_d dc hr (by decide) (by rfl) (pa_cons (pv 1) pa_nil)))
      (pss_cons (ps_expr (pe_d dc hr (by decide) (by rfl) (pa_cons (pv 2) pa_nil)))
      (pss_one (ps_ret (pe_and (pe_d dn hr (by decide) (by rfl) (pa_cons (pv 0) pa_nil))
        (pe_one (pe_chain op_le op_le (pv 1) (pv 0) (pv 2))))))), ?_⟩
    refine ⟨_, rfl, lo, rfl, _, rfl, hi, rfl, _, rfl, x, t, rfl, ty, _, rfl, ?_⟩
    cases x with
    | int i =>
      refine iteT ⟨_, rfl, _, rfl, lo, i, rfl, rfl, _, rfl, ?_⟩
      by_cases hlo : lo ≤ i
      · rw [decide_eq_true hlo]
        refine iteT ⟨_, rfl, i, hi, rfl, rfl, ?_⟩
        have e : wholeB (.int i) lo hi = decide (i ≤ hi) := by
          show (decide (lo ≤ i) && decide (i ≤ hi)) = _
          rw [decide_eq_true hlo, Bool.true_and]
        rw [e] at k
        exact k
      · rw [decide_eq_false hlo]
        refine iteF ?_
        have e : wholeB (.int i) lo hi = false := by
          show (decide (lo ≤ i) && decide (i ≤ hi)) = _
          rw [decide_eq_false hlo, Bool.false_and]
        rw [e] at k
        exact k
    | _ => exact iteF k
def spRange (K : PySem.W.Frag) (lo hi : Int) : Sp := fun vs H Q _ => ∃ x t, vs = [x] ∧ Ty K H x t ∧ Q (.bl (wholeB x lo hi)) H
theorem d_time (T : Txt mg) (A : At K mg "is_time" sIsTime) (dw : Def P w K mg base "is_whole" 3 ["thing", "low", "high"] (spWhole K)) :
    Def P w K mg base "is_time" 4 ["thing"] (spRange K 0 9999) := by
  refine mkDef A scIsTime (fun _ _ _ _ _ _ us hl => match us, hl with | [_], _ => rfl) (fun vs H Q E ⟨x, t, e, _⟩ => by rw [e]; rfl)
    (fun f cdv A out s H vs Q E hr h => ?_)
  obtain ⟨x, t, rfl, ty, k⟩ := h
  exact ⟨_, pss_one (ps_ret (pe_d dw hr (by decide) (by rfl) (pa_cons (pv 0) (pa_cons pe_int
    (pa_cons (pe_gi T.cMOST_TIME) pa_nil))))), _, rfl, x, t, 0, 9999, rfl, ty, k⟩
def spOne (K : PySem.W.Frag) : Sp := fun vs H Q _ => ∃ x t p ws, vs = [x, .ref p] ∧ Ty K H x t ∧
  H p = some (.tup (ws.map V.str)) ∧ Q (.bl (oneB x ws)) H
theorem d_oneof (T : Txt mg) (A : At K mg "is_one_of" sIsOneOf) : Def P w K mg base "is_one_of" 1 ["thing", "words"] (spOne K) := by
  refine mkDef A scIsOneOf (fun _ _ _ _ _ _ us hl => match us, hl with | [_, _], _ => rfl) (fun vs H Q E ⟨x, t, p, ws, e, _⟩ => by rw [e]; rfl)
    (fun f cdv A out s H vs Q E hr h => ?_)
  obtain ⟨x, t, p, ws, rfl, ty, hp, k⟩ := h
  refine ⟨_, pss_one (ps_ret (pe_and (pe_is T.isinstance (by rfl) (pv 0) T.str (by rfl) (Tn := "str") (by decide +kernel))
    (pe_one (pe_cmpR op_in_seq (pv 0) (pv 1) (by rfl))))), ?_⟩
  refine ⟨_, rfl, x, .ty "str", t, .type "str", _, rfl, .ty "str", ty.q, ty.isStr, _, rfl, ?_⟩
  cases x with
  | str z =>
    refine iteT ?_
    refine ⟨_, rfl, _, rfl, p, ws.map V.str, rfl, .inr (SqT.of hp), rfl, ?_, ?_⟩
    · rw [List.all_eq_true]
      intro y hy
      obtain ⟨z', _, rfl⟩ := List.mem_map.mp hy
      rfl
    · have e : inV (.str z) (ws.map V.str) = oneB (.str z) ws := by
        show (ws.map V.str).any (fun y => eqV y (.str z)) = ws.any fun y => y == z
        rw [List.any_map]
        rfl
      show Q (.bl (inV (.str z) (ws.map V.str))) H
      rw [e]
      exact k
  | _ => exact iteF k

def spMark (K : PySem.W.Frag) : Sp := fun vs H Q _ => ∃ x t, vs = [x] ∧ Ty K H x t ∧ ∀ H', Same H H' → Q (.bl (oneB x ["good", "odd"])) H'
theorem d_mark (A : At K mg "is_mark" sIsMark) (d1 : Def P w K mg base "is_one_of" 1 ["thing", "words"] (spOne K)) :
    Def P w K mg base "is_mark" 2 ["thing"] (spMark K) := by
  refine mkDef A scIsMark (fun _ _ _ _ _ _ us hl => match us, hl with | [_], _ => rfl) (fun vs H Q E ⟨x, t, e, _⟩ => by rw [e]; rfl)
    (fun f cdv A out s H vs Q E hr h => ?_)
  obtain ⟨x, t, rfl, ty, k⟩ := h
  refine ⟨_, pss_one (ps_ret (pe_d d1 hr (by decide) (by rfl) (pa_cons (pv 0) (pa_cons (pe_tup (pa_cons pe_str (pa_cons pe_str pa_nil))) pa_nil)))), ?_⟩
  refine ⟨_, rfl, by show 2 ≤ sizeLine; decide, fun q hq => ?_⟩
  exact ⟨x, t, q, ["good", "odd"], rfl, ty.same (Same.laid hq), upd_same, k _ (Same.laid hq)⟩

def spTupN (K : PySem.W.Frag) : Sp := fun vs H Q _ => ∃ x t n, vs = [x, .int n] ∧ Ty K H x t ∧ Q (.bl (tupNB H x n)) H
theorem d_tuple (T : Txt mg) (A : At K mg "is_tuple" sIsTuple) : Def P w K mg base "is_tuple" 1 ["thing", "many"] (spTupN K) := by
  refine mkDef A scIsTuple (fun _ _ _ _ _ _ us hl => match us, hl with | [_, _], _ => rfl) (fun vs H Q E ⟨x, t, n, e, _⟩ => by rw [e]; rfl)
    (fun f cdv A out s H vs Q E hr h => ?_)
  obtain ⟨x, t, n, rfl, ty, k⟩ := h
  refine ⟨_, pss_one (ps_ret (pe_and (pe_is T.isinstance (by rfl) (pv 0) T.tuple (by rfl) (Tn := "tuple") (by decide +kernel))
    (pe_one (pe_cmpR op_eq (pe_callB call_len_seq (by rfl) T.len PySem.boot_len (pa_cons (pv 0) pa_nil)) (pv 1) (nomark _))))), ?_⟩
  refine ⟨_, rfl, x, .ty "tuple", t, .type "tuple", _, rfl, .ty "tuple", ty.q, ty.isTuple, _, rfl, ?_⟩
  cases ty with
  | @tup a xs e =>
    have e1 : tupB H (.ref a) = true := by simp only [tupB, e]
    have e2 : tupNB H (.ref a) n = decide ((xs.length : Int) = n) := by simp only [tupNB, e]
    rw [e1]
    rw [e2] at k
    refine iteT ?_
    refine ⟨_, rfl, a, xs, rfl, .inr (SqT.of e), _, rfl, ?_⟩
    have e3 : decide (V.int (xs.length : Int) = V.int n) = decide ((xs.length : Int) = n) :=
      decide_eq_decide.mpr ⟨V.int.inj, congrArg V.int⟩
    refine ⟨rfl, ?_⟩
    show Q (V.bl (decide (V.int (xs.length : Int) = V.int n))) H
    rw [e3]
    exact k
  | @lst a xs e =>
    have e1 : tupB H (.ref a) = false := by simp only [tupB, e]
    have e2 : tupNB H (.ref a) n = false := by simp only [tupNB, e]
    rw [e1]
    rw [e2] at k
    exact iteF k
  | @dct a xs e =>
    have e1 : tupB H (.ref a) = false := by simp only [tupB, e]
    have e2 : tupNB H (.ref a) n = false := by simp only [tupNB, e]
    rw [e1]
    rw [e2] at k
    exact iteF k
  | @exc a D t dx fs e ed c =>
    have e1 : tupB H (.ref a) = false := by simp only [tupB, e]; rfl
    have e2 : tupNB H (.ref a) n = false := by simp only [tupNB, e]; rfl
    rw [e1]
    rw [e2] at k
    exact iteF k
  | _ => exact iteF k

end
end T40

namespace T40
open PySem PySem.Spec PyProof.Rows L2 Pw
abbrev R3 := Int × Int × Str
def f3 (r : R3) : List V := [.int r.1, .int r.2.1, .str r.2.2]
def f2 (r : Int × Int) : List V := [.int r.1, .int r.2]
structure GoodR (r : R3) : Prop where
  t0 : 0 ≤ r.1
  t1 : r.1 ≤ 9999
  w0 : 0 ≤ r.2.1
  w1 : r.2.1 ≤ 63
  m : r.2.2 = "good" ∨ r.2.2 = "odd"
structure GoodH (rs : List R3) : Prop where
  all : ∀ r ∈ rs, GoodR r
  rise : rs.Pairwise fun a b => a.1 < b.1
  len : rs.length ≤ 1000
theorem whole_in {i lo hi : Int} (h : lo ≤ i) (k : i ≤ hi) : wholeB (.int i) lo hi = true := by
  show (decide (lo ≤ i) && decide (i ≤ hi)) = true
  rw [decide_eq_true h, decide_eq_true k]
  rfl
theorem cut1 (xs : List V) : cutV xs (some 1) none = xs.drop 1 := by
  unfold cutV
  rw [HT.sIx_none, show (1 : Int) = ((1 : Nat) : Int) from rfl, HT.sIx_nat]
  cases xs with
  | nil => rfl
  | cons x r =>
    have e : min 1 (x :: r).length = 1 := by
      rw [List.length_cons]
      omega
    rw [e, List.take_of_length_le]
    rw [List.length_drop]
    exact Nat.le_refl _
section
variable {P : Program} {w : World} {K : PySem.W.Frag} {mg : Str → Option Value} {base : Heap}
theorem d_level (T : Txt mg) (A : At K mg "is_level" sIsLevel) (dw : Def P w K mg base "is_whole" 3 ["thing", "low", "high"] (spWhole K)) :
    Def P w K mg base "is_level" 4 ["thing"] (spRange K 0 63) := by
  refine mkDef A scIsLevel (fun _ _ _ _ _ _ us hl => match us, hl with | [_], _ => rfl) (fun vs H Q E ⟨x, t, e, _⟩ => by rw [e]; rfl)
    (fun f cdv A out s H vs Q E hr h => ?_)
  obtain ⟨x, t, rfl, ty, k⟩ := h
  exact ⟨_, pss_one (ps_ret (pe_d dw hr (by decide) (by rfl) (pa_cons (pv 0) (pa_cons pe_int (pa_cons (pe_gi T.cMOST_LEVEL) pa_nil))))),
    _, rfl, x, t, 0, 63, rfl, ty, k⟩

def spRow : Sp := fun vs H Q _ => ∃ p r, vs = [.ref p] ∧ H p = some (.tup (f3 r)) ∧ GoodR r ∧ ∀ H', Same H H' → Q (.bl true) H'
theorem d_row (A : At K mg "is_row" sIsRow) (dt : Def P w K mg base "is_tuple" 1 ["thing", "many"] (spTupN K))
    (dti : Def P w K mg base "is_time" 4 ["thing"] (spRange K 0 9999)) (dl : Def P w K mg base "is_level" 4 ["thing"] (spRange K 0 63))
    (dm : Def P w K mg base "is_mark" 2 ["thing"] (spMark K)) : Def P w K mg base "is_row" 5 ["thing"] spRow := by
  refine mkDef A scIsRow (fun _ _ _ _ _ _ us hl => match us, hl with | [_], _ => rfl) (fun vs H Q E ⟨p, r, e, _⟩ => by rw [e]; rfl)
    (fun f cdv A out s H vs Q E hr h => ?_)
  obtain ⟨p, r, rfl, e, g, k⟩ := h
  refine ⟨_, (pss_cons (ps_if (pt_not (pt_val (pe_d dt hr (by decide) (by rfl) (pa_cons (pv 0) (pa_cons pe_int pa_nil)))))
      (pss_one (ps_ret pe_bl))
      pss_nil)
    (pss_cons (ps_asg (pv 0) (pg_tup (by rfl) (pgs_cons (pg_name (i := 1) scIsRow.nd rfl (.inl rfl)) (pgs_cons (pg_name (i := 2) scIsRow.nd rfl (.inl rfl)) (pgs_cons (pg_name (i := 3) scIsRow.nd rfl (.inl rfl)) pgs_nil)))))
    (pss_one (ps_ret (pe_and (pe_d dti hr (by decide) (by rfl) (pa_cons (pv 1) pa_nil)) (pe_and (pe_d dl hr (by decide) (by rfl) (pa_cons (pv 2) pa_nil)) (pe_one (pe_d dm hr (by decide) (by rfl) (pa_cons (pv 3) pa_nil))))))))), ?_⟩
  have eT : tupNB H (.ref p) 3 = true := by simp only [tupNB, e]; rfl
  refine ⟨_, rfl, .ref p, _, 3, rfl, .tup e, true, congrArg V.bl eT, iteF ?_⟩
  refine ⟨_, rfl, p, f3 r, rfl, SqT.of e, rfl, _, _, rfl, _, _, rfl, _, _, rfl, rfl, ?_⟩
  refine ⟨_, rfl, .int r.1, _, rfl, .int _, true, congrArg V.bl (whole_in g.t0 g.t1), iteT ?_⟩
  refine ⟨_, rfl, .int r.2.1, _, rfl, .int _, true, congrArg V.bl (whole_in g.w0 g.w1), iteT ?_⟩
  refine ⟨_, rfl, .str r.2.2, _, rfl, .str _, fun H' S => ?_⟩
  have eM : oneB (.str r.2.2) ["good", "odd"] = true := by
    rcases g.m with z | z <;> rw [z] <;> decide +kernel
  rw [eM]
  exact k H' S

def spRis (K : PySem.W.Frag) : Sp := fun vs H Q _ => ∃ (a : Addr) (ns : List Int), vs = [.ref a] ∧ SqL K H a (ns.map V.int) ∧ ns.length ≤ 2000 ∧ ns.Pairwise (· < ·) ∧
  ∀ H', Same H H' → Q (.bl true) H'
theorem d_rising (T : Txt mg) (A : At K mg "is_rising" sIsRising) : Def P w K mg base "is_rising" 1 ["numbers"] (spRis K) := by
  refine mkDef A scIsRising (fun _ _ _ _ _ _ us hl => match us, hl with | [_], _ => rfl) (fun vs H Q E ⟨_, _, e, _⟩ => by rw [e]; rfl)
    (fun f cdv A out s H vs Q E hr h => ?_)
  obtain ⟨a, ns, rfl, hS, hl, hp, k⟩ := h
  refine ⟨_, (pss_one (ps_ret (pe_callB (cr_all rfl) (by rfl) T.all PyProof.Rows.boot_all (pa_cons (pe_lc (own := [("one", 1), ("other", 2)]) (g := gTup K 2 (gCons (gName 1) (gCons (gName 2) gNil))) (tt := tYes) rfl scIsRising.nd (pi_zip (by rfl) T.zip (pa_cons (pv 0) (pa_cons (pe_slice sl_list (pv 0) (po_some pe_int) po_none) pa_nil)))
        (blkOk_by (own := [("one", 1), ("other", 2)]) (N := ["numbers", "one", "other"]) (sc := defScope sIsRising) (by decide +kernel))
        (fun _ _ _ _ _ => (pg_tup (by rfl) (pgs_cons (pg_name (i := 1) scIsRising.nd rfl (.inl rfl)) (pgs_cons (pg_name (i := 2) scIsRising.nd rfl (.inl rfl)) pgs_nil)))) (fun _ _ _ _ _ => pts_nil)
        (fun _ _ _ _ _ => (pe_cmpR op_lt (pv 1) (pv 2) (nomark _)))) pa_nil)))), ?_⟩
  refine ⟨_, rfl, _, rfl, 1, rfl, a, ns.map V.int, rfl, hS, fun b nb => ?_⟩
  rw [cut1]
  generalize q1 : upd H b (.lst ((ns.map V.int).drop 1)) = H1
  have S1 : Same H H1 := q1 ▸ Same.laid nb
  have e1 : H1 b = some (.lst ((ns.map V.int).drop 1)) := q1 ▸ upd_same
  refine ⟨a, b, ns.map V.int, (ns.map V.int).drop 1, rfl, S1.seq hS, SqL.of e1, fun D hD => ?_⟩
  have hn : min (ns.map V.int).length ((ns.map V.int).drop 1).length ≤ 1000000 := by
    rw [List.length_map]
    omega
  refine lc_acc (walk_zip (xs := ns.map V.int) (ys := (ns.map V.int).drop 1) rfl) hD hn (fun i acc H => acc = (List.replicate i true).map V.bl) rfl
    (fun H' S => ⟨S.seq (S1.seq hS), SqL.of (S _ _ e1)⟩) ?_ ?_
  · rintro i v H2 H3 acc hi S2 eD hl2 rfl ⟨Tt, x, y, rfl, nT, rfl, hx, hy⟩ Fy Fn hy1 _
    have hx' : (ns.map V.int)[i]? = some x := hx
    have hy' : ((ns.map V.int).drop 1)[i]? = some y := hy
    rw [List.getElem?_map] at hx'
    rw [List.getElem?_drop, List.getElem?_map] at hy'
    cases qa : ns[i]? with
    | none => rw [qa] at hx'; cases hx'
    | some i1 =>
      cases qb : ns[1 + i]? with
      | none => rw [qb] at hy'; cases hy'
      | some i2 =>
        rw [qa] at hx'; rw [qb] at hy'
        cases hx'; cases hy'
        refine ⟨Tt, _, rfl, SqT.of upd_same, rfl, _, _, rfl, _, _, rfl, rfl, rfl, ?_⟩
        unfold tYes
        refine iteT ?_
        refine ⟨_, rfl, _, rfl, i1, i2, rfl, rfl, ?_⟩
        have hlt : i1 < i2 := by
          obtain ⟨ha, ea⟩ := List.getElem?_eq_some_iff.mp qa
          obtain ⟨hb, eb⟩ := List.getElem?_eq_some_iff.mp qb
          have := List.pairwise_iff_getElem.mp hp i (1 + i) ha hb (by omega)
          rw [ea, eb] at this
          exact this
        show Fy (V.bl (decide (i1 < i2))) _
        rw [decide_eq_true hlt]
        refine hy1 _ _ (Same.laid nT) ?_
        show _ ++ [V.bl true] = _
        rw [List.replicate_succ', List.map_append]
        rfl
  · rintro H2 acc S2 eD rfl
    refine ⟨D, List.replicate _ true, rfl, SqL.of eD, ?_⟩
    have : (List.replicate (min (ns.map V.int).length ((ns.map V.int).drop 1).length) true).all id = true := by
      rw [List.all_eq_true]
      intro x hx
      rw [List.eq_of_mem_replicate hx]
      rfl
    rw [this]
    exact k _ (S1.trans S2)
end
end T40

namespace T40
open PySem PySem.Spec PyProof.Rows L2 Pw
theorem reps_all (n : Nat) : (List.replicate n true).all id = true := by
  rw [List.all_eq_true]
  intro x hx
  rw [List.eq_of_mem_replicate hx]
  rfl
theorem reps_succ (n : Nat) : (List.replicate n true).map V.bl ++ [V.bl true] = (List.replicate (n + 1) true).map V.bl := by
  rw [List.replicate_succ', List.map_append]
  rfl
section
variable {P : Program} {w : World} {K : PySem.W.Frag} {mg : Str → Option Value} {base : Heap}
def spHist : Sp := fun vs H Q _ => ∃ (a : Addr) (rs : List R3), vs = [.ref a] ∧ LS f3 H a rs ∧ GoodH rs ∧ ∀ H', Same H H' → Q (.bl true) H'
theorem d_history (T : Txt mg) (A : At K mg "is_history" sIsHistory) (dr : Def P w K mg base "is_row" 5 ["thing"] spRow)
    (di : Def P w K mg base "is_rising" 1 ["numbers"] (spRis K)) : Def P w K mg base "is_history" 6 ["thing"] spHist := by
  refine mkDef A scIsHistory (fun _ _ _ _ _ _ us hl => match us, hl with | [_], _ => rfl) (fun vs H Q E ⟨_, _, e, _⟩ => by rw [e]; rfl)
    (fun f cdv A out s H vs Q E hr h => ?_)
  obtain ⟨a, rs, rfl, hH, hg, k⟩ := h
  rcases hH with hL | hT
  · obtain ⟨vs, eL, al⟩ := hL.ex
    refine ⟨_, (pss_cons (ps_if (PW.pt (pw_or (pt_not (pt_val (pe_callB call_isiT (by rfl) T.isinstance PyProof.Rows.boot_isinstance (pa_cons (pv 0) (pa_cons (pe_tup (pa_cons (pe_bltn (v := .ty "list") (u := .type "list") (by rfl) T.list (by decide +kernel) rfl) (pa_cons (pe_bltn (v := .ty "tuple") (u := .type "tuple") (by rfl) T.tuple (by decide +kernel) rfl) pa_nil))) pa_nil))))) (pw_or1 (pt_not (pt_val (pe_callB (cr_all rfl) (by rfl) T.all PyProof.Rows.boot_all (pa_cons (pe_lc (own := [("row", 1)]) (g := gName 1) (tt := tYes) rfl scIsHistory.nd (pi_list (pv 0))
          (blkOk_by (own := [("row", 1)]) (N := ["thing", "row"]) (sc := defScope sIsHistory) (by decide +kernel))
          (fun _ _ _ _ _ => (pg_name (i := 1) scIsHistory.nd rfl (.inl rfl))) (fun _ _ _ _ _ => pts_nil)
          (fun _ _ _ _ _ => (pe_d dr hr (by decide) (by rfl) (pa_cons (pv 1) pa_nil)))) pa_nil)))))))
        (pss_one (ps_ret pe_bl))
        pss_nil)
      (pss_one (ps_ret (pe_d di hr (by decide) (by rfl) (pa_cons (pe_lc (own := [("row", 1)]) (g := gName 1) (tt := tYes) rfl scIsHistory.nd (pi_list (pv 0))
          (blkOk_by (own := [("row", 1)]) (N := ["thing", "row"]) (sc := defScope sIsHistory) (by decide +kernel))
          (fun _ _ _ _ _ => (pg_name (i := 1) scIsHistory.nd rfl (.inl rfl))) (fun _ _ _ _ _ => pts_nil)
          (fun _ _ _ _ _ => (pe_ix (r := rIxT K) ix_tup (pv 1) pe_int (fun _ _ => rfl)))) pa_nil))))), ?_⟩
    refine ⟨_, rfl, by show 2 ≤ sizeLine; decide, fun q hq => ?_⟩
    generalize q1 : upd H q (.tup [.ty "list", .ty "tuple"]) = H1
    have S1 : Same H H1 := q1 ▸ Same.laid hq
    have e1 : H1 q = some (.tup [.ty "list", .ty "tuple"]) := q1 ▸ upd_same
    refine ⟨.ref a, q, [.ty "list", .ty "tuple"], .type "list", [.type "list", .type "tuple"], true, rfl, e1, .cons (.ty _) (.cons (.ty _) .nil),
      .base (.lst (S1 _ _ eL)), kit_lt_list, true, rfl, iteF ?_⟩
    have al1 := al.same S1
    have hn : vs.length ≤ 1000000 := by
      rw [al.length]
      exact Nat.le_trans hg.len (by decide)
    refine ⟨_, rfl, a, rfl, ⟨_, SqL.of (S1 _ _ eL)⟩, fun D hD => ?_⟩
    refine lc_acc (walk_list (K := K) (a := a) (xs := vs)) hD hn (fun i acc H => acc = (List.replicate i true).map V.bl) rfl
      (fun H' S => SqL.of (S _ _ (S1 _ _ eL))) ?_ ?_
    · rintro i v H2 H3 acc hi S2 eD hl2 rfl ⟨rfl, hx⟩ Fy Fn hy1 _
      obtain ⟨p, r, rfl, hr', ep⟩ := (al1.same S2).get hx
      refine ⟨rfl, ?_⟩
      unfold tYes
      refine iteT ?_
      exact ⟨_, rfl, p, r, rfl, ep, hg.all r (List.mem_of_getElem? hr'), fun H4 S4 => hy1 _ _ S4 (reps_succ i)⟩
    · rintro H2 acc S2 eD rfl
      refine ⟨D, List.replicate _ true, rfl, SqL.of eD, true, congrArg V.bl (reps_all _), iteF ?_⟩
      have eL2 := S2 _ _ (S1 _ _ eL)
      have al2 := al1.same S2
      refine ⟨_, rfl, a, rfl, ⟨_, SqL.of eL2⟩, fun D2 hD2 => ?_⟩
      refine lc_acc (walk_list (K := K) (a := a) (xs := vs)) hD2 hn (fun i acc H => acc = ((rs.take i).map (·.1)).map V.int) rfl
        (fun H' S => SqL.of (S _ _ eL2)) ?_ ?_
      · rintro i v H3 H4 acc hi S3 eD2 hl3 rfl ⟨rfl, hx⟩ Fy Fn hy1 _
        obtain ⟨p, r, rfl, hr', ep⟩ := (al2.same S3).get hx
        refine ⟨rfl, ?_⟩
        unfold tYes
        refine iteT ?_
        refine ⟨_, rfl, p, f3 r, 0, .int r.1, rfl, rfl, SqT.of ep, rfl, ?_⟩
        refine hy1 _ _ (Same.refl _) ?_
        rw [List.take_add_one, hr', List.map_append, List.map_append]
        rfl
      · rintro H3 acc S3 eD2 rfl
        rw [al.length, List.take_length] at eD2
        refine ⟨D2, rs.map (·.1), rfl, SqL.of eD2, by rw [List.length_map]; exact Nat.le_trans hg.len (by decide), List.pairwise_map.mpr hg.rise, fun H4 S4 => ?_⟩
        exact k _ (S1.trans (S2.trans (S3.trans S4)))
  · obtain ⟨vs, eL, al⟩ := hT
    refine ⟨_, (pss_cons (ps_if (PW.pt (pw_or (pt_not (pt_val (pe_callB call_isiT (by rfl) T.isinstance PyProof.Rows.boot_isinstance (pa_cons (pv 0) (pa_cons (pe_tup (pa_cons (pe_bltn (v := .ty "list") (u := .type "list") (by rfl) T.list (by decide +kernel) rfl) (pa_cons (pe_bltn (v := .ty "tuple") (u := .type "tuple") (by rfl) T.tuple (by decide +kernel) rfl) pa_nil))) pa_nil))))) (pw_or1 (pt_not (pt_val (pe_callB (cr_all rfl) (by rfl) T.all PyProof.Rows.boot_all (pa_cons (pe_lc (own := [("row", 1)]) (g := gName 1) (tt := tYes) rfl scIsHistory.nd (pi_tup (pv 0))
          (blkOk_by (own := [("row", 1)]) (N := ["thing", "row"]) (sc := defScope sIsHistory) (by decide +kernel))
          (fun _ _ _ _ _ => (pg_name (i := 1) scIsHistory.nd rfl (.inl rfl))) (fun _ _ _ _ _ => pts_nil)
          (fun _ _ _ _ _ => (pe_d dr hr (by decide) (by rfl) (pa_cons (pv 1) pa_nil)))) pa_nil)))))))
        (pss_one (ps_ret pe_bl))
        pss_nil)
      (pss_one (ps_ret (pe_d di hr (by decide) (by rfl) (pa_cons (pe_lc (own := [("row", 1)]) (g := gName 1) (tt := tYes) rfl scIsHistory.nd (pi_tup (pv 0))
          (blkOk_by (own := [("row", 1)]) (N := ["thing", "row"]) (sc := defScope sIsHistory) (by decide +kernel))
          (fun _ _ _ _ _ => (pg_name (i := 1) scIsHistory.nd rfl (.inl rfl))) (fun _ _ _ _ _ => pts_nil)
          (fun _ _ _ _ _ => (pe_ix (r := rIxT K) ix_tup (pv 1) pe_int (fun _ _ => rfl)))) pa_nil))))), ?_⟩
    refine ⟨_, rfl, by show 2 ≤ sizeLine; decide, fun q hq => ?_⟩
    generalize q1 : upd H q (.tup [.ty "list", .ty "tuple"]) = H1
    have S1 : Same H H1 := q1 ▸ Same.laid hq
    have e1 : H1 q = some (.tup [.ty "list", .ty "tuple"]) := q1 ▸ upd_same
    refine ⟨.ref a, q, [.ty "list", .ty "tuple"], .type "tuple", [.type "list", .type "tuple"], true, rfl, e1, .cons (.ty _) (.cons (.ty _) .nil),
      .base (.tup (S1 _ _ eL)), kit_lt_tuple, true, rfl, iteF ?_⟩
    have al1 := al.same S1
    have hn : vs.length ≤ 1000000 := by
      rw [al.length]
      exact Nat.le_trans hg.len (by decide)
    refine ⟨_, rfl, a, rfl, ⟨_, SqT.of (S1 _ _ eL)⟩, fun D hD => ?_⟩
    refine lc_acc (walk_tup (K := K) (a := a) (xs := vs)) hD hn (fun i acc H => acc = (List.replicate i true).map V.bl) rfl
      (fun H' S => SqT.of (S _ _ (S1 _ _ eL))) ?_ ?_
    · rintro i v H2 H3 acc hi S2 eD hl2 rfl ⟨rfl, hx⟩ Fy Fn hy1 _
      obtain ⟨p, r, rfl, hr', ep⟩ := (al1.same S2).get hx
      refine ⟨rfl, ?_⟩
      unfold tYes
      refine iteT ?_
      exact ⟨_, rfl, p, r, rfl, ep, hg.all r (List.mem_of_getElem? hr'), fun H4 S4 => hy1 _ _ S4 (reps_succ i)⟩
    · rintro H2 acc S2 eD rfl
      refine ⟨D, List.replicate _ true, rfl, SqL.of eD, true, congrArg V.bl (reps_all _), iteF ?_⟩
      have eL2 := S2 _ _ (S1 _ _ eL)
      have al2 := al1.same S2
      refine ⟨_, rfl, a, rfl, ⟨_, SqT.of eL2⟩, fun D2 hD2 => ?_⟩
      refine lc_acc (walk_tup (K := K) (a := a) (xs := vs)) hD2 hn (fun i acc H => acc = ((rs.take i).map (·.1)).map V.int) rfl
        (fun H' S => SqT.of (S _ _ eL2)) ?_ ?_
      · rintro i v H3 H4 acc hi S3 eD2 hl3 rfl ⟨rfl, hx⟩ Fy Fn hy1 _
        obtain ⟨p, r, rfl, hr', ep⟩ := (al2.same S3).get hx
        refine ⟨rfl, ?_⟩
        unfold tYes
        refine iteT ?_
        refine ⟨_, rfl, p, f3 r, 0, .int r.1, rfl, rfl, SqT.of ep, rfl, ?_⟩
        refine hy1 _ _ (Same.refl _) ?_
        rw [List.take_add_one, hr', List.map_append, List.map_append]
        rfl
      · rintro H3 acc S3 eD2 rfl
        rw [al.length, List.take_length] at eD2
        refine ⟨D2, rs.map (·.1), rfl, SqL.of eD2, by rw [List.length_map]; exact Nat.le_trans hg.len (by decide), List.pairwise_map.mpr hg.rise, fun H4 S4 => ?_⟩
        exact k _ (S1.trans (S2.trans (S3.trans S4)))

def spHistC : Sp := fun vs H Q _ => ∃ (a : Addr) (rs : List R3), vs = [.ref a] ∧ LS f3 H a rs ∧ GoodH rs ∧ ∀ H', Same H H' → Q .non H'
theorem d_chistory (A : At K mg "check_history" sCheckHistory) (dh : Def P w K mg base "is_history" 6 ["thing"] spHist) :
    Def P w K mg base "check_history" 7 ["thing"] spHistC := by
  refine mkDef A scCheckHistory (fun _ _ _ _ _ _ us hl => match us, hl with | [_], _ => rfl) (fun vs H Q E ⟨_, _, e, _⟩ => by rw [e]; rfl)
    (fun f cdv A out s H vs Q E hr h => ?_)
  obtain ⟨a, rs, rfl, hL, hg, k⟩ := h
  refine ⟨_, (pss_one (ps_if (pt_not (pt_val (pe_d dh hr (by decide) (by rfl) (pa_cons (pv 0) pa_nil))))
      (pss_one ps_never)
      pss_nil)), ?_⟩
  exact ⟨_, rfl, a, rs, rfl, hL, hg, fun H' S => ⟨true, rfl, iteF (k H' S)⟩⟩

def spIn (lo hi : Int) : Sp := fun vs H Q _ => ∃ i, vs = [.int i] ∧ lo ≤ i ∧ i ≤ hi ∧ Q .non H
theorem d_ctime (A : At K mg "check_time" sCheckTime) (d : Def P w K mg base "is_time" 4 ["thing"] (spRange K 0 9999)) :
    Def P w K mg base "check_time" 5 ["thing"] (spIn 0 9999) := by
  refine mkDef A scCheckTime (fun _ _ _ _ _ _ us hl => match us, hl with | [_], _ => rfl) (fun vs H Q E ⟨_, e, _⟩ => by rw [e]; rfl)
    (fun f cdv A out s H vs Q E hr h => ?_)
  obtain ⟨i, rfl, h0, h1, k⟩ := h
  refine ⟨_, (pss_one (ps_if (pt_not (pt_val (pe_d d hr (by decide) (by rfl) (pa_cons (pv 0) pa_nil))))
      (pss_one ps_never)
      pss_nil)), ?_⟩
  exact ⟨_, rfl, .int i, _, rfl, .int i, true, congrArg V.bl (whole_in h0 h1), iteF k⟩
def spWholeC : Sp := fun vs H Q _ => ∃ i lo hi, vs = [.int i, .int lo, .int hi] ∧ lo ≤ i ∧ i ≤ hi ∧ Q .non H
theorem d_cwhole (A : At K mg "check_whole" sCheckWhole) (d : Def P w K mg base "is_whole" 3 ["thing", "low", "high"] (spWhole K)) :
    Def P w K mg base "check_whole" 4 ["thing", "low", "high"] spWholeC := by
  refine mkDef A scCheckWhole (fun _ _ _ _ _ _ us hl => match us, hl with | [_, _, _], _ => rfl) (fun vs H Q E ⟨_, _, _, e, _⟩ => by rw [e]; rfl)
    (fun f cdv A out s H vs Q E hr h => ?_)
  obtain ⟨i, lo, hi, rfl, h0, h1, k⟩ := h
  refine ⟨_, (pss_one (ps_if (pt_not (pt_val (pe_d d hr (by decide) (by rfl) (pa_cons (pv 0) (pa_cons (pv 1) (pa_cons (pv 2) pa_nil))))))
      (pss_one ps_never)
      pss_nil)), ?_⟩
  exact ⟨_, rfl, _, rfl, _, rfl, .int i, _, lo, hi, rfl, .int i, true, congrArg V.bl (whole_in h0 h1), iteF k⟩
def spTruth : Sp := fun vs H Q _ => ∃ b, vs = [.bl b] ∧ Q .non H
theorem d_ctruth (T : Txt mg) (A : At K mg "check_truth" sCheckTruth) : Def P w K mg base "check_truth" 1 ["thing"] spTruth := by
  refine mkDef A scCheckTruth (fun _ _ _ _ _ _ us hl => match us, hl with | [_], _ => rfl) (fun vs H Q E ⟨_, e, _⟩ => by rw [e]; rfl)
    (fun f cdv A out s H vs Q E hr h => ?_)
  obtain ⟨b, rfl, k⟩ := h
  refine ⟨_, (pss_one (ps_if (pt_not (pt_val (pe_is T.isinstance (by rfl) (pv 0) T.bool (by rfl) (Tn := "bool") (by decide +kernel))))
      (pss_one ps_never)
      pss_nil)), ?_⟩
  exact ⟨_, rfl, .bl b, .ty "bool", _, .type "bool", true, rfl, .ty "bool", (Ty.bl b).q (K := K), (Ty.bl (K := K) (H := H) b).isBool, true, rfl, iteF k⟩
theorem d_csize (T : Txt mg) (A : At K mg "_check_size" sCheckSize) (d : Def P w K mg base "check_whole" 4 ["thing", "low", "high"] spWholeC) :
    Def P w K mg base "_check_size" 5 ["size"] (spIn 1 400) := by
  refine mkDef A scCheckSize (fun _ _ _ _ _ _ us hl => match us, hl with | [_], _ => rfl) (fun vs H Q E ⟨_, e, _⟩ => by rw [e]; rfl)
    (fun f cdv A out s H vs Q E hr h => ?_)
  obtain ⟨i, rfl, h0, h1, k⟩ := h
  refine ⟨_, (pss_one (ps_expr (pe_d d hr (by decide) (by rfl) (pa_cons (pv 0) (pa_cons pe_int (pa_cons (pe_gi T.c_MOST_SIZE) pa_nil)))))), ?_⟩
  exact ⟨_, rfl, i, 1, 400, rfl, h0, h1, k⟩
def spWin : Sp := fun vs H Q _ => ∃ s t b, vs = [.int s, .int t, .bl b] ∧ (0 ≤ s ∧ s ≤ 9999) ∧ (0 ≤ t ∧ t ≤ 9999) ∧ t - s < 1000 ∧ Q .non H
theorem d_cwin (T : Txt mg) (A : At K mg "_check_window" sCheckWindow) (dt : Def P w K mg base "check_time" 5 ["thing"] (spIn 0 9999))
    (db : Def P w K mg base "check_truth" 1 ["thing"] spTruth) : Def P w K mg base "_check_window" 6 ["since", "till", "odd"] spWin := by
  refine mkDef A scCheckWindow (fun _ _ _ _ _ _ us hl => match us, hl with | [_, _, _], _ => rfl) (fun vs H Q E ⟨_, _, _, e, _⟩ => by rw [e]; rfl)
    (fun f cdv A out s H vs Q E hr h => ?_)
  obtain ⟨i, j, b, rfl, hi, hj, hw, k⟩ := h
  refine ⟨_, (pss_cons (ps_expr (pe_d dt hr (by decide) (by rfl) (pa_cons (pv 0) pa_nil)))
    (pss_cons (ps_expr (pe_d dt hr (by decide) (by rfl) (pa_cons (pv 1) pa_nil)))
    (pss_cons (ps_expr (pe_d db hr (by decide) (by rfl) (pa_cons (pv 2) pa_nil)))
    (pss_cons (ps_set (i := 3) scCheckWindow.nd rfl (.inl rfl) (pe_op op_add (pe_op op_sub (pv 1) (pv 0)) pe_int))
    (pss_one (ps_if (pt_cmpR op_gt (pv 3) (pe_gi T.c_MOST_TICKS) (nomark _))
      (pss_one ps_never)
      pss_nil)))))), ?_⟩
  refine ⟨_, rfl, i, rfl, hi.1, hi.2, _, rfl, j, rfl, hj.1, hj.2, _, rfl, b, rfl, _, rfl, _, rfl, _, _, rfl, rfl, _, _, rfl, rfl, _, rfl, _, _, rfl, rfl, false, ?_, iteF k⟩
  exact congrArg V.bl (decide_eq_false (by omega))
end
end T40

namespace T40
open PySem PySem.Spec PyProof.Rows L2 Pw Tr
theorem tw_step {α : Type} (p : α → Bool) : ∀ (xs : List α) (h : Nat) (x : α), h ≤ (xs.takeWhile p).length → xs[h]? = some x → p x = true → h + 1 ≤ (xs.takeWhile p).length
  | [], h, x, _, e, _ => by simp at e
  | y :: r, h, x, l, e, q => by
    rw [List.takeWhile_cons] at l ⊢
    cases c : p y with
    | false =>
      rw [c, if_neg (by decide)] at l
      have : h = 0 := by simpa using l
      subst this
      simp only [List.getElem?_cons_zero, Option.some.injEq] at e
      rw [e, q] at c
      cases c
    | true =>
      rw [c, if_pos rfl] at l
      rw [if_pos rfl, List.length_cons]
      cases h with
      | zero => omega
      | succ h =>
        simp only [List.getElem?_cons_succ] at e
        have := tw_step p r h x (by simpa using l) e q
        omega
theorem tw_stop {α : Type} (p : α → Bool) : ∀ (xs : List α) (h : Nat), h ≤ (xs.takeWhile p).length → (∀ x, xs[h]? = some x → p x = false) → h = (xs.takeWhile p).length
  | [], h, l, _ => by simpa using l
  | y :: r, h, l, q => by
    rw [List.takeWhile_cons] at l ⊢
    cases c : p y with
    | false =>
      rw [c, if_neg (by decide)] at l
      rw [if_neg (by decide)]
      simpa using l
    | true =>
      rw [c, if_pos rfl] at l
      rw [if_pos rfl, List.length_cons]
      cases h with
      | zero =>
        have := q y rfl
        rw [c] at this
        cases this
      | succ h =>
        have := tw_stop p r h (by simpa using l) fun x e => q x (by simpa using e)
        omega
theorem tw_take {α : Type} (p : α → Bool) : ∀ xs : List α, xs.take (xs.takeWhile p).length = xs.takeWhile p
  | [] => rfl
  | y :: r => by
    rw [List.takeWhile_cons]
    cases c : p y with
    | false => rw [if_neg (by decide)]; rfl
    | true => rw [if_pos rfl, List.length_cons, List.take_succ_cons, tw_take p r]
theorem tw_mono {α : Type} {p q : α → Bool} (h : ∀ x, p x = true → q x = true) : ∀ xs : List α, (xs.takeWhile p).length ≤ (xs.takeWhile q).length
  | [] => Nat.le_refl _
  | y :: r => by
    rw [List.takeWhile_cons, List.takeWhile_cons]
    cases c : p y with
    | false => rw [if_neg (by decide)]; exact Nat.zero_le _
    | true =>
      rw [if_pos rfl, h y c, if_pos rfl, List.length_cons, List.length_cons]
      have := tw_mono h r
      omega
def pr (rs : List R3) : List (Int × Int) := rs.map fun r => (r.1, r.2.1)
def cnt (ss : List R3) (t : Int) : Nat := ((pr ss).takeWhile fun r => decide (r.1 ≤ t)).length
def wvO : Option (Int × Int) → V
  | none => .non
  | some r => .int r.2
def wv (ss : List R3) (h : Nat) : V := wvO ((pr ss).take h).getLast?
theorem cnt_mono (ss : List R3) (t : Int) : cnt ss t ≤ cnt ss (t + 1) :=
  tw_mono (fun x e => decide_eq_true (by have := of_decide_eq_true e; omega)) _
theorem cnt_step {ss : List R3} {t : Int} {h : Nat} {r : R3} (l : h ≤ cnt ss t) (e : ss[h]? = some r) (q : r.1 ≤ t) : h + 1 ≤ cnt ss t :=
  tw_step _ _ _ (r.1, r.2.1) l (by unfold pr; rw [List.getElem?_map, e]; rfl) (decide_eq_true q)
theorem cnt_stop {ss : List R3} {t : Int} {h : Nat} (l : h ≤ cnt ss t) (q : ∀ r, ss[h]? = some r → ¬ r.1 ≤ t) : h = cnt ss t := by
  refine tw_stop _ _ _ l fun x e => ?_
  unfold pr at e
  rw [List.getElem?_map] at e
  cases z : ss[h]? with
  | none => rw [z] at e; cases e
  | some r =>
    rw [z] at e
    cases e
    exact decide_eq_false (q r z)
theorem wv_cnt (ss : List R3) (t : Int) : wv ss (cnt ss t) = match lastW (pr ss) t with
    | none => .non
    | some w => .int w := by
  unfold wv cnt lastW
  rw [tw_take]
  cases ((pr ss).takeWhile fun r => decide (r.1 ≤ t)).getLast? <;> rfl
theorem wv_succ {ss : List R3} {h : Nat} {r : R3} (e : ss[h]? = some r) : wv ss (h + 1) = .int r.2.1 := by
  have e' : (pr ss)[h]? = some (r.1, r.2.1) := by unfold pr; rw [List.getElem?_map, e]; rfl
  unfold wv
  rw [List.take_add_one, e']
  show wvO (_ ++ [(r.1, r.2.1)]).getLast? = _
  rw [List.getLast?_concat]
  rfl
def goods (rs : List R3) : List R3 := rs.filter fun r => decide (r.2.2 = "good")
section
variable {P : Program} {w : World} {K : PySem.W.Frag} {mg : Str → Option Value} {base : Heap}
def spGoods (K : PySem.W.Frag) : Sp := fun vs H Q _ => ∃ (a : Addr) (rs : List R3), vs = [.ref a] ∧ LT f3 H a rs ∧ rs.length ≤ 1000 ∧
  ∀ b H', Same H H' → LT f3 H' b (goods rs) → Q (.ref b) H'
theorem d_goods (A : At K mg "good_rows" sGoodRows) : Def P w K mg base "good_rows" 1 ["history"] (spGoods K) := by
  refine mkDef A scGoodRows (fun _ _ _ _ _ _ us hl => match us, hl with | [_], _ => rfl) (fun vs H Q E ⟨_, _, e, _⟩ => by rw [e]; rfl)
    (fun f cdv A out s H vs Q E hr h => ?_)
  obtain ⟨a, rs, rfl, hL, hl, k⟩ := h
  obtain ⟨vs, eL, al⟩ := hL.ex
  refine ⟨_, (pss_one (ps_ret (pe_lc (own := [("row", 1)]) (g := gName 1) rfl scGoodRows.nd (pi_list (pv 0))
        (blkOk_by (own := [("row", 1)]) (N := ["history", "row"]) (sc := defScope sGoodRows) (by decide +kernel))
        (fun _ _ _ _ _ => (pg_name (i := 1) scGoodRows.nd rfl (.inl rfl))) (fun _ _ _ _ _ => (pts_one (pt_cmpR op_eq (pe_ix (r := rIxT K) ix_tup (pv 1) pe_int (fun _ _ => rfl)) pe_str (nomark _))))
        (fun _ _ _ _ _ => (pv 1))))), ?_⟩
  refine ⟨_, rfl, a, rfl, ⟨_, SqL.of eL⟩, fun D hD => ?_⟩
  refine lc_acc (walk_list (K := K) (a := a) (xs := vs)) hD (by rw [al.length]; exact Nat.le_trans hl (by decide)) (fun i acc H => Al f3 H acc (goods (rs.take i))) .nil
    (fun H' S => SqL.of (S _ _ eL)) ?_ ?_
  · rintro i v H2 H3 acc hi S2 eD hl2 hA ⟨rfl, hx⟩ Fy Fn hy1 hn1
    obtain ⟨p, r, rfl, hr', ep⟩ := (al.same S2).get hx
    have et : rs.take (i + 1) = rs.take i ++ [r] := by rw [List.take_add_one, hr']; rfl
    refine ⟨rfl, ?_⟩
    refine ⟨_, rfl, p, f3 r, 2, .str r.2.2, rfl, rfl, SqT.of ep, rfl, rfl, _, rfl, ?_⟩
    show if decide (V.str r.2.2 = V.str "good") = true then _ else _
    by_cases hm : r.2.2 = "good"
    · rw [decide_eq_true (congrArg V.str hm)]
      refine iteT ⟨_, rfl, hy1 _ _ (Same.refl _) ?_⟩
      have pD : p ≠ D := fun z => by rw [z, eD] at ep; cases ep
      have : goods (rs.take (i + 1)) = goods (rs.take i) ++ [r] := by
        unfold goods
        rw [et, List.filter_append, List.filter_cons, decide_eq_true hm]
        rfl
      rw [this]
      exact hA.snoc (wo_of pD ep)
    · rw [decide_eq_false (fun z => hm (V.str.inj z))]
      refine iteF (hn1 _ (Same.refl _) ?_)
      have : goods (rs.take (i + 1)) = goods (rs.take i) := by
        unfold goods
        rw [et, List.filter_append, List.filter_cons, decide_eq_false hm]
        simp
      rw [this]
      exact hA
  · rintro H2 acc S2 eD hA
    rw [al.length, List.take_length] at hA
    exact k D H2 S2 ⟨acc, eD, hA.same wo_same⟩

def spFineR : Sp := fun vs H Q _ => ∃ (a : Addr) (rs : List R3) (lo hi : Int) (o : Bool), vs = [.ref a, .int lo, .int hi, .bl o] ∧ (LT f3 H a rs ∨ (TT f3 H a rs ∧ o = true)) ∧ rs.length ≤ 1000 ∧
  (0 ≤ lo ∧ lo ≤ 10000) ∧ (0 ≤ hi ∧ hi ≤ 10000) ∧ hi - lo ≤ 2000 ∧
  ∀ b H', Same H H' → H b = none → LT f2 H' b (fineM (pr (if o = true then rs else goods rs)) lo (hi + 1 - lo).toNat) → Q (.ref b) H'
theorem d_fineR (T : Txt mg) (A : At K mg "_fine_rows" sFineRows) (dg : Def P w K mg base "good_rows" 1 ["history"] (spGoods K)) :
    Def P w K mg base "_fine_rows" 2 ["history", "since", "till", "odd"] spFineR := by
  refine mkDef A scFineRows (fun _ _ _ _ _ _ us hl => match us, hl with | [_, _, _, _], _ => rfl) (fun vs H Q E ⟨_, _, _, _, _, e, _⟩ => by rw [e]; rfl)
    (fun f cdv A out s H vs Q E hr h => ?_)
  obtain ⟨a, rs, lo, hi, o, rfl, hLo, hl, hlo, hhi, hw, k⟩ := h
  rcases hLo with hL | ⟨hT, ho⟩
  · refine ⟨_, (pss_cons (ps_set (i := 4) scFineRows.nd rfl (.inl rfl) (pe_ifExp (pt_val (pv 3)) (pv 0) (pe_d dg hr (by decide) (by rfl) (pa_cons (pv 0) pa_nil))))
      (pss_cons (ps_set (i := 5) scFineRows.nd rfl (.inl rfl) (pe_lst pa_nil))
      (pss_cons (ps_set (i := 6) scFineRows.nd rfl (.inl rfl) pe_non)
      (pss_cons (ps_set (i := 7) scFineRows.nd rfl (.inl rfl) pe_int)
      (pss_cons (ps_for PassesOwn.never rfl (pi_range2 (by rfl) T.range (pa_cons (pv 1) (pa_cons (pe_op op_add (pv 2) pe_int) pa_nil))) (pg_name (i := 8) scFineRows.nd rfl (.inl rfl))
        (pss_cons (ps_while PassesOwn.never (PW.pt (pw_and (pt_cmpR op_lt (pv 7) (pe_callB call_len_seq (by rfl) T.len PySem.boot_len (pa_cons (pv 4) pa_nil)) (nomark _)) (pw_and1 (pt_cmpR op_le (pe_ix ix_tup (pe_ix ix_list (pv 4) (pv 7) (fun _ _ => rfl)) pe_int (fun _ _ => rfl)) (pv 8) (nomark _)))))
          (pss_cons (ps_set (i := 6) scFineRows.nd rfl (.inl rfl) (pe_ix ix_tup (pe_ix ix_list (pv 4) (pv 7) (fun _ _ => rfl)) pe_int (fun _ _ => rfl)))
          (pss_one (ps_aug (i := 7) scFineRows.nd rfl (.inl rfl) pe_int ip_add))))
        (pss_one (ps_if (pt_cmpR op_notN (pv 6) pe_non (nomark _))
          (pss_one (ps_expr (pe_bm PySem.F.plainAttrs_list PySem.F.slot_list_append PySem.F.type_list_append mt_append (pv 5) (pa_cons (pe_tup (pa_cons (pv 8) (pa_cons (pv 6) pa_nil))) pa_nil))))
          pss_nil))))
      (pss_one (ps_ret (pv 5)))))))), ?_⟩
    have split : ∀ (σ : L2.St) (Qc : VK), σ[0]? = some (some (.ref a)) → (∀ (b : Addr) (ss : List R3) (H1 : Hp), Same H H1 → LT f3 H1 b ss → ss.length ≤ 1000 →
        ss = (if o = true then rs else goods rs) → Qc (.ref b) H1) →
        (if o = true then tVar 0 σ H Qc else tCall (spGoods K) [] E0 (tCons (tVar 0) tNil) σ H Qc) := by
      intro σ Qc e0 hq
      cases o with
      | true => exact iteT ⟨_, e0, hq a rs H (Same.refl _) hL hl rfl⟩
      | false => exact iteF ⟨_, e0, a, rs, rfl, hL, hl, fun b H' S h => hq b _ H' S h (Nat.le_trans (List.length_filter_le _ _) hl) rfl⟩
    refine ⟨_, rfl, o, rfl, ?_⟩
    refine split _ _ rfl fun b ss H1 S1 hLs hls hss => ?_
    rw [← hss] at k
    clear split hss
    obtain ⟨vs, eb, al⟩ := hLs.ex
    refine ⟨by show 0 ≤ sizeLine; decide, fun R hR => ?_⟩
    refine ⟨_, rfl, _, rfl, _, _, rfl, rfl, lo, hi + 1, rfl, ⟨by omega, by omega, by omega, by omega⟩, ?_⟩
    refine for_range (lo := lo) (n := (hi + 1 - lo).toNat) (fun i σ G => ∃ (h : Nat) (tv : Option V) (ws : List V),
      σ = [some (.ref a), some (.int lo), some (.int hi), some (.bl o), some (.ref b), some (.ref R), some (wv ss h), some (.int h), tv] ∧
      h ≤ cnt ss (lo + i) ∧ Same H1 G ∧ G R = some (.lst ws) ∧ Al f2 (wo G R) ws (fineM (pr ss) lo i)) ?_ ?_ ?_
    · exact ⟨0, none, [], rfl, Nat.zero_le _, Same.laid hR, upd_same, .nil⟩
    · rintro i σ G hi' ⟨h, tv, ws, rfl, hc, S2, eR, hA⟩
      have eb2 := S2 _ _ eb
      have al2 := al.same S2
      refine while_m (fun m σ G' => G' = G ∧ ∃ h : Nat, m = cnt ss (lo + i) - h ∧ h ≤ cnt ss (lo + i) ∧
        σ = [some (.ref a), some (.int lo), some (.int hi), some (.bl o), some (.ref b), some (.ref R), some (wv ss h), some (.int h), some (.int (lo + i))])
        _ ⟨rfl, h, rfl, hc, rfl⟩ ?_
      rintro m σ G' ⟨rfl, h, rfl, hc, rfl⟩ F hT hF
      have fin : h = cnt ss (lo + i) → F false G' := by
        intro eh
        refine hF _ ?_
        have ew := wv_cnt ss (lo + i)
        rw [← eh] at ew
        have e1 : fineM (pr ss) lo (i + 1) = fineM (pr ss) lo i ++ (tickRow (pr ss) (lo + i)).toList := fineM_succ _ _ _
        have hm := cnt_mono ss (lo + i)
        have hc2 : h ≤ cnt ss (lo + ((i + 1 : Nat) : Int)) := by
          have : lo + ((i + 1 : Nat) : Int) = lo + i + 1 := by omega
          rw [this]
          omega
        refine ⟨_, rfl, rfl, _, rfl, ?_⟩
        cases hL : lastW (pr ss) (lo + i) with
        | none =>
          rw [hL] at ew
          have ew' : wv ss h = V.non := ew
          rw [ew']
          refine iteF ?_
          refine ⟨h, some (.int (lo + i)), ws, ?_, hc2, S2, eR, ?_⟩
          · rw [ew']
          · rw [e1]
            unfold tickRow
            rw [hL]
            simpa using hA
        | some w =>
          rw [hL] at ew
          have ew' : wv ss h = V.int w := ew
          rw [ew']
          refine iteT ?_
          refine ⟨_, rfl, .inl ⟨rfl, _, SqL.of eR⟩, _, rfl, _, rfl, by show 2 ≤ sizeLine; decide, fun q hq => ?_⟩
          have hRq : q ≠ R := fun z => by rw [z, eR] at hq; cases hq
          have hlen : ws.length ≤ 2001 := by
            rw [hA.length]
            refine Nat.le_trans (fineM_len _ _ _) ?_
            omega
          refine ⟨R, ws, .ref q, rfl, rfl, (upd_ne (Ne.symm hRq)).trans eR, Nat.lt_of_le_of_lt hlen (by decide), ?_⟩
          refine ⟨h, some (.int (lo + i)), ws ++ [.ref q], ?_, hc2, Same.wo_upd (S2.trans (Same.laid hq)) hR, upd_same, ?_⟩
          · rw [ew']
          · rw [wo_upd, e1]
            unfold tickRow
            rw [hL]
            refine Al.snoc (hA.same (Pw.Same.wo (Same.laid hq))) (r := (lo + (i : Int), w)) ?_
            exact wo_of hRq upd_same
      refine ⟨_, rfl, _, rfl, b, vs, rfl, .inl (SqL.of eb2), (h : Int), (vs.length : Int), rfl, rfl, _, rfl, ?_⟩
      by_cases hlt : (h : Int) < (vs.length : Int)
      · rw [decide_eq_true hlt]
        refine iteT ?_
        have hlt' : h < vs.length := by omega
        obtain ⟨p, r, ev, er, ep⟩ := al2.get (List.getElem?_eq_getElem hlt')
        have ai : atI vs (h : Int) = some (.ref p) := atI_nat (by rw [List.getElem?_eq_getElem hlt', ev])
        refine ⟨_, rfl, _, rfl, b, vs, (h : Int), .ref p, rfl, rfl, SqL.of eb2, ai, p, f3 r, 0, .int r.1, rfl, rfl, SqT.of ep, rfl, _, rfl, r.1, lo + i, rfl, rfl, _, rfl, ?_⟩
        by_cases hle : r.1 ≤ lo + i
        · rw [decide_eq_true hle]
          refine hT _ fun N hN => ?_
          refine ⟨_, rfl, _, rfl, b, vs, (h : Int), .ref p, rfl, rfl, SqL.of eb2, ai, p, f3 r, 1, .int r.2.1, rfl, rfl, SqT.of ep, rfl, ?_⟩
          refine ⟨_, rfl, _, _, rfl, rfl, ?_⟩
          have hs := cnt_step hc er hle
          refine hN (cnt ss (lo + i) - (h + 1)) _ _ (by omega) ⟨rfl, h + 1, rfl, hs, ?_⟩
          rw [wv_succ er]
          rfl
        · rw [decide_eq_false hle]
          refine fin (cnt_stop hc fun r' er' => ?_)
          rw [er] at er'
          cases er'
          exact hle
      · rw [decide_eq_false hlt]
        refine iteF (fin (cnt_stop hc fun r' er' => ?_))
        have := (List.getElem?_eq_some_iff.mp er').1
        rw [← al2.length] at this
        omega
    · rintro σ G ⟨h, tv, ws, rfl, hc, S2, eR, hA⟩
      refine ⟨_, rfl, k R G (S1.trans S2) ?_ ⟨ws, eR, hA.same wo_same⟩⟩
      cases q : H R with
      | none => rfl
      | some o => rw [S1 _ _ q] at hR; cases hR
  · refine ⟨_, (pss_cons (ps_set (i := 4) scFineRows.nd rfl (.inl rfl) (pe_ifExp (pt_val (pv 3)) (pv 0) (pe_d dg hr (by decide) (by rfl) (pa_cons (pv 0) pa_nil))))
      (pss_cons (ps_set (i := 5) scFineRows.nd rfl (.inl rfl) (pe_lst pa_nil))
      (pss_cons (ps_set (i := 6) scFineRows.nd rfl (.inl rfl) pe_non)
      (pss_cons (ps_set (i := 7) scFineRows.nd rfl (.inl rfl) pe_int)
      (pss_cons (ps_for PassesOwn.never rfl (pi_range2 (by rfl) T.range (pa_cons (pv 1) (pa_cons (pe_op op_add (pv 2) pe_int) pa_nil))) (pg_name (i := 8) scFineRows.nd rfl (.inl rfl))
        (pss_cons (ps_while PassesOwn.never (PW.pt (pw_and (pt_cmpR op_lt (pv 7) (pe_callB call_len_seq (by rfl) T.len PySem.boot_len (pa_cons (pv 4) pa_nil)) (nomark _)) (pw_and1 (pt_cmpR op_le (pe_ix ix_tup (pe_ix (r := rIxT K) ix_tup (pv 4) (pv 7) (fun _ _ => rfl)) pe_int (fun _ _ => rfl)) (pv 8) (nomark _)))))
          (pss_cons (ps_set (i := 6) scFineRows.nd rfl (.inl rfl) (pe_ix ix_tup (pe_ix (r := rIxT K) ix_tup (pv 4) (pv 7) (fun _ _ => rfl)) pe_int (fun _ _ => rfl)))
          (pss_one (ps_aug (i := 7) scFineRows.nd rfl (.inl rfl) pe_int ip_add))))
        (pss_one (ps_if (pt_cmpR op_notN (pv 6) pe_non (nomark _))
          (pss_one (ps_expr (pe_bm PySem.F.plainAttrs_list PySem.F.slot_list_append PySem.F.type_list_append mt_append (pv 5) (pa_cons (pe_tup (pa_cons (pv 8) (pa_cons (pv 6) pa_nil))) pa_nil))))
          pss_nil))))
      (pss_one (ps_ret (pv 5)))))))), ?_⟩
    have split : ∀ (σ : L2.St) (Qc : VK), σ[0]? = some (some (.ref a)) → (∀ (b : Addr) (ss : List R3) (H1 : Hp), Same H H1 → TT f3 H1 b ss → ss.length ≤ 1000 →
        ss = (if o = true then rs else goods rs) → Qc (.ref b) H1) →
        (if o = true then tVar 0 σ H Qc else tCall (spGoods K) [] E0 (tCons (tVar 0) tNil) σ H Qc) := by
      intro σ Qc e0 hq
      cases o with
      | true => exact iteT ⟨_, e0, hq a rs H (Same.refl _) hT hl rfl⟩
      | false => cases ho
    refine ⟨_, rfl, o, rfl, ?_⟩
    refine split _ _ rfl fun b ss H1 S1 hLs hls hss => ?_
    rw [← hss] at k
    clear split hss
    obtain ⟨vs, eb, al⟩ := hLs
    refine ⟨by show 0 ≤ sizeLine; decide, fun R hR => ?_⟩
    refine ⟨_, rfl, _, rfl, _, _, rfl, rfl, lo, hi + 1, rfl, ⟨by omega, by omega, by omega, by omega⟩, ?_⟩
    refine for_range (lo := lo) (n := (hi + 1 - lo).toNat) (fun i σ G => ∃ (h : Nat) (tv : Option V) (ws : List V),
      σ = [some (.ref a), some (.int lo), some (.int hi), some (.bl o), some (.ref b), some (.ref R), some (wv ss h), some (.int h), tv] ∧
      h ≤ cnt ss (lo + i) ∧ Same H1 G ∧ G R = some (.lst ws) ∧ Al f2 (wo G R) ws (fineM (pr ss) lo i)) ?_ ?_ ?_
    · exact ⟨0, none, [], rfl, Nat.zero_le _, Same.laid hR, upd_same, .nil⟩
    · rintro i σ G hi' ⟨h, tv, ws, rfl, hc, S2, eR, hA⟩
      have eb2 := S2 _ _ eb
      have al2 := al.same S2
      refine while_m (fun m σ G' => G' = G ∧ ∃ h : Nat, m = cnt ss (lo + i) - h ∧ h ≤ cnt ss (lo + i) ∧
        σ = [some (.ref a), some (.int lo), some (.int hi), some (.bl o), some (.ref b), some (.ref R), some (wv ss h), some (.int h), some (.int (lo + i))])
        _ ⟨rfl, h, rfl, hc, rfl⟩ ?_
      rintro m σ G' ⟨rfl, h, rfl, hc, rfl⟩ F hT hF
      have fin : h = cnt ss (lo + i) → F false G' := by
        intro eh
        refine hF _ ?_
        have ew := wv_cnt ss (lo + i)
        rw [← eh] at ew
        have e1 : fineM (pr ss) lo (i + 1) = fineM (pr ss) lo i ++ (tickRow (pr ss) (lo + i)).toList := fineM_succ _ _ _
        have hm := cnt_mono ss (lo + i)
        have hc2 : h ≤ cnt ss (lo + ((i + 1 : Nat) : Int)) := by
          have : lo + ((i + 1 : Nat) : Int) = lo + i + 1 := by omega
          rw [this]
          omega
        refine ⟨_, rfl, rfl, _, rfl, ?_⟩
        cases hL : lastW (pr ss) (lo + i) with
        | none =>
          rw [hL] at ew
          have ew' : wv ss h = V.non := ew
          rw [ew']
          refine iteF ?_
          refine ⟨h, some (.int (lo + i)), ws, ?_, hc2, S2, eR, ?_⟩
          · rw [ew']
          · rw [e1]
            unfold tickRow
            rw [hL]
            simpa using hA
        | some w =>
          rw [hL] at ew
          have ew' : wv ss h = V.int w := ew
          rw [ew']
          refine iteT ?_
          refine ⟨_, rfl, .inl ⟨rfl, _, SqL.of eR⟩, _, rfl, _, rfl, by show 2 ≤ sizeLine; decide, fun q hq => ?_⟩
          have hRq : q ≠ R := fun z => by rw [z, eR] at hq; cases hq
          have hlen : ws.length ≤ 2001 := by
            rw [hA.length]
            refine Nat.le_trans (fineM_len _ _ _) ?_
            omega
          refine ⟨R, ws, .ref q, rfl, rfl, (upd_ne (Ne.symm hRq)).trans eR, Nat.lt_of_le_of_lt hlen (by decide), ?_⟩
          refine ⟨h, some (.int (lo + i)), ws ++ [.ref q], ?_, hc2, Same.wo_upd (S2.trans (Same.laid hq)) hR, upd_same, ?_⟩
          · rw [ew']
          · rw [wo_upd, e1]
            unfold tickRow
            rw [hL]
            refine Al.snoc (hA.same (Pw.Same.wo (Same.laid hq))) (r := (lo + (i : Int), w)) ?_
            exact wo_of hRq upd_same
      refine ⟨_, rfl, _, rfl, b, vs, rfl, .inr (SqT.of eb2), (h : Int), (vs.length : Int), rfl, rfl, _, rfl, ?_⟩
      by_cases hlt : (h : Int) < (vs.length : Int)
      · rw [decide_eq_true hlt]
        refine iteT ?_
        have hlt' : h < vs.length := by omega
        obtain ⟨p, r, ev, er, ep⟩ := al2.get (List.getElem?_eq_getElem hlt')
        have ai : atI vs (h : Int) = some (.ref p) := atI_nat (by rw [List.getElem?_eq_getElem hlt', ev])
        refine ⟨_, rfl, _, rfl, b, vs, (h : Int), .ref p, rfl, rfl, SqT.of eb2, ai, p, f3 r, 0, .int r.1, rfl, rfl, SqT.of ep, rfl, _, rfl, r.1, lo + i, rfl, rfl, _, rfl, ?_⟩
        by_cases hle : r.1 ≤ lo + i
        · rw [decide_eq_true hle]
          refine hT _ fun N hN => ?_
          refine ⟨_, rfl, _, rfl, b, vs, (h : Int), .ref p, rfl, rfl, SqT.of eb2, ai, p, f3 r, 1, .int r.2.1, rfl, rfl, SqT.of ep, rfl, ?_⟩
          refine ⟨_, rfl, _, _, rfl, rfl, ?_⟩
          have hs := cnt_step hc er hle
          refine hN (cnt ss (lo + i) - (h + 1)) _ _ (by omega) ⟨rfl, h + 1, rfl, hs, ?_⟩
          rw [wv_succ er]
          rfl
        · rw [decide_eq_false hle]
          refine fin (cnt_stop hc fun r' er' => ?_)
          rw [er] at er'
          cases er'
          exact hle
      · rw [decide_eq_false hlt]
        refine iteF (fin (cnt_stop hc fun r' er' => ?_))
        have := (List.getElem?_eq_some_iff.mp er').1
        rw [← al2.length] at this
        omega
    · rintro σ G ⟨h, tv, ws, rfl, hc, S2, eR, hA⟩
      refine ⟨_, rfl, k R G (S1.trans S2) ?_ ⟨ws, eR, hA.same wo_same⟩⟩
      cases q : H R with
      | none => rfl
      | some o => rw [S1 _ _ q] at hR; cases hR
end
end T40

namespace T40
open PySem PySem.Spec PyProof.Rows L2 Pw Tr
def f5 (g : G5) : List V := [.int g.k, .int g.n, .int g.s, .int g.lo, .int g.hi]
structure GoodF (fr : List (Int × Int)) : Prop where
  all : ∀ r ∈ fr, (0 ≤ r.1 ∧ r.1 ≤ 9999) ∧ (0 ≤ r.2 ∧ r.2 ≤ 63)
  rise : Rise fr
  len : fr.length ≤ 2000
/-- a dict of lists of worths, each list at a place of its own -/
inductive Gr : Hp → List (Key × V) → List G5 → Prop where
  | nil {H : Hp} : Gr H [] []
  | snoc {H : Hp} {kvs : List (Key × V)} {C : List G5} {l : Addr} {ws : List Int} {g : G5} (t : Gr (wo H l) kvs C)
      (e : H l = some (.lst (ws.map V.int))) (s : St g ws) : Gr H (kvs ++ [(.inl g.k, .ref l)]) (C ++ [g])
theorem Gr.same {H : Hp} {kvs : List (Key × V)} {C : List G5} (h : Gr H kvs C) : ∀ {H' : Hp}, Same H H' → Gr H' kvs C := by
  induction h with
  | nil => intro H' _; exact .nil
  | snoc _ e s ih => intro H' S; exact .snoc (ih (Pw.Same.wo S)) (S _ _ e) s
theorem Gr.keys {H : Hp} {kvs : List (Key × V)} {C : List G5} (h : Gr H kvs C) : kvs.map (·.1) = C.map fun g => Sum.inl g.k := by
  induction h with
  | nil => rfl
  | snoc _ _ _ ih => rw [List.map_append, List.map_append, ih]; rfl
theorem Gr.length {H : Hp} {kvs : List (Key × V)} {C : List G5} (h : Gr H kvs C) : kvs.length = C.length := by
  have := congrArg List.length h.keys
  simpa using this
theorem Gr.last {H : Hp} {kvs : List (Key × V)} {C : List G5} {g : G5} (h : Gr H kvs (C ++ [g])) :
    ∃ kvs' l ws, kvs = kvs' ++ [(.inl g.k, .ref l)] ∧ Gr (wo H l) kvs' C ∧ H l = some (.lst (ws.map V.int)) ∧ St g ws := by
  generalize e : C ++ [g] = D at h
  cases h with
  | nil => simp at e
  | snoc t q s =>
    obtain ⟨rfl, e2⟩ := List.append_inj' e rfl
    cases e2
    exact ⟨_, _, _, rfl, t, q, s⟩
theorem Gr.get {H : Hp} {kvs : List (Key × V)} {C : List G5} (h : Gr H kvs C) : ∀ {i : Nat} {g : G5}, C[i]? = some g →
    ∃ l ws, kvs[i]? = some (.inl g.k, .ref l) ∧ H l = some (.lst (ws.map V.int)) ∧ St g ws := by
  induction h with
  | nil => intro i g e; simp at e
  | @snoc H kvs C l ws g' t e s ih =>
    intro i g e'
    by_cases hi : i < C.length
    · rw [List.getElem?_append_left hi] at e'
      obtain ⟨l', ws', h1, h2, h3⟩ := ih e'
      refine ⟨l', ws', ?_, (wo_at h2).2, h3⟩
      rw [List.getElem?_append_left (by rw [t.length]; exact hi)]
      exact h1
    · rw [List.getElem?_append_right (by omega)] at e'
      have : i - C.length = 0 := by
        cases q : i - C.length with
        | zero => rfl
        | succ n => rw [q] at e'; simp at e'
      rw [this] at e'
      simp only [List.getElem?_cons_zero, Option.some.injEq] at e'
      subst e'
      refine ⟨l, ws, ?_, e, s⟩
      rw [List.getElem?_append_right (by rw [t.length]; omega), t.length, this]
      rfl
theorem Gr.pos {H : Hp} {kvs : List (Key × V)} {C : List G5} (h : Gr H kvs C) : 0 ≤ sumN C := by
  induction h with
  | nil => exact Int.le_refl _
  | snoc _ _ s ih =>
    unfold sumN at ih ⊢
    rw [List.map_append, sum_append]
    simp only [List.map_cons, List.map_nil, List.sum_cons, List.sum_nil]
    have := s.n
    omega
theorem Gr.no {H : Hp} {kvs : List (Key × V)} {C : List G5} (h : Gr H kvs C) {k : Int} (n : ∀ g ∈ C, g.k ≠ k) : ∀ kv ∈ kvs, kv.1 ≠ Sum.inl k := by
  intro kv hk e
  have : kv.1 ∈ kvs.map (·.1) := List.mem_map_of_mem hk
  rw [h.keys, e] at this
  obtain ⟨g, hg, q⟩ := List.mem_map.mp this
  exact n g hg (Sum.inl.inj q)
section
variable {P : Program} {w : World} {K : PySem.W.Frag} {mg : Str → Option Value} {base : Heap}
def spCoR : Sp := fun vs H Q _ => ∃ (a : Addr) (fr : List (Int × Int)) (z : Int), vs = [.ref a, .int z] ∧ LS f2 H a fr ∧ Rise fr ∧ fr.length ≤ 2000 ∧ 1 ≤ z ∧
  ∀ b H', Same H H' → H b = none → LT f5 H' b (coarseM z (fr.map one)) → Q (.ref b) H'
theorem d_coR (T : Txt mg) (A : At K mg "_coarse_rows" sCoarseRows) : Def P w K mg base "_coarse_rows" 1 ["rows", "size"] spCoR := by
  refine mkDef A scCoarseRows (fun _ _ _ _ _ _ us hl => match us, hl with | [_, _], _ => rfl) (fun vs H Q E ⟨_, _, _, e, _⟩ => by rw [e]; rfl)
    (fun f cdv A out s H vs Q E hr h => ?_)
  obtain ⟨a, fr, z, rfl, hL, hri, hl, hz, k⟩ := h
  rcases hL with hL | hT
  · obtain ⟨vs, eL, al⟩ := hL.ex
    have hu := hu_of hr
    refine ⟨_, (pss_cons (ps_set (i := 2) scCoarseRows.nd rfl (.inl rfl) pe_dnewK)
      (pss_cons (ps_for PassesOwn.never rfl (pi_list (pv 0)) (pg_tup (by rfl) (pgs_cons (pg_name (i := 3) scCoarseRows.nd rfl (.inl rfl)) (pgs_cons (pg_name (i := 4) scCoarseRows.nd rfl (.inl rfl)) pgs_nil)))
        (pss_one (ps_expr (pe_bm PySem.F.plainAttrs_list PySem.F.slot_list_append PySem.F.type_list_append mt_append (pe_dsetd (pv 2) (pe_op op_sub (pv 3) (pe_op op_mod (pv 3) (pv 1))) (pe_lst pa_nil) ⟨rfl, rfl, rfl, rfl⟩) (pa_cons (pv 4) pa_nil)))))
      (pss_one (ps_ret (pe_lock (pe_lc (own := [("start", 5), ("worths", 6)]) (g := (gTup K 2 (gCons (gName 5) (gCons (gName 6) gNil)))) (tt := tYes) rfl scCoarseRows.nd (pi_items (pv 2))
          (blkOk_by (own := [("start", 5), ("worths", 6)]) (N := ["rows", "size", "stretches", "tick", "worth", "start", "worths"]) (sc := defScope sCoarseRows) (by decide +kernel))
          (fun _ _ _ _ _ => (pg_tup (by rfl) (pgs_cons (pg_name (i := 5) scCoarseRows.nd rfl (.inl rfl)) (pgs_cons (pg_name (i := 6) scCoarseRows.nd rfl (.inl rfl)) pgs_nil)))) (fun _ _ _ _ _ => pts_nil)
          (fun _ _ _ _ _ => (pe_tup (pa_cons (pv 5) (pa_cons (pe_callB (r := rLn K) call_len_seq (by rfl) T.len PySem.boot_len (pa_cons (pv 6) pa_nil)) (pa_cons (pe_callB (r := rSum K) (cr_sum rfl) (by rfl) T.sum PyProof.Rows.boot_sum (pa_cons (pv 6) pa_nil)) (pa_cons (pe_callB (r := rMin K) (cr_min rfl) (by rfl) T.min PyProof.Rows.boot_min (pa_cons (pv 6) pa_nil)) (pa_cons (pe_callB (r := rMax K) (cr_max rfl) (by rfl) T.max PyProof.Rows.boot_max (pa_cons (pv 6) pa_nil)) pa_nil))))))))))))), ?_⟩
    refine fun d hd => ?_
    refine ⟨_, rfl, a, rfl, ⟨_, SqL.of ((upd_ne (ne_of_none eL hd)).trans eL)⟩, ?_⟩
    have hzp : 0 < z := by omega
    refine for_it (walk_list (K := K) (a := a) (xs := vs)) (fun i σ G => ∃ (t3 t4 : Option V) (kvs : List (Key × V)),
      σ = [some (.ref a), some (.int z), some (.ref d), t3, t4, none, none] ∧ Same H G ∧ G d = some (.dK kvs) ∧ Gr (wo (fre H G) d) kvs (coarseM z ((fr.take i).map one)))
      ?_ (fun i σ G _ ⟨_, _, _, _, S, _⟩ => SqL.of (S _ _ eL)) ?_ ?_
    · exact ⟨none, none, [], rfl, Same.laid hd, upd_same, .nil⟩
    · rintro i v σ G0 G hi ⟨t3, t4, kvs, rfl, S, ed, hG⟩ ⟨rfl, hx⟩
      obtain ⟨p, r, rfl, hr', ep⟩ := (al.same S).get hx
      have hi2 : i < fr.length := by rw [← al.length]; exact hi
      have et : fr.take (i + 1) = fr.take i ++ [r] := by rw [List.take_add_one, hr']; rfl
      have ec : coarseM z ((fr.take (i + 1)).map one) = stp z (coarseM z ((fr.take i).map one)) (one r) := by
        rw [et, List.map_append]
        exact coarse_snoc z _ _
      -- the starts ahead are no later
      have hri' : Rise (fr.take i ++ [r]) := by
        rw [← et]
        exact hri.sublist (List.take_sublist _ _)
      have hpw := List.pairwise_append.mp hri'
      obtain ⟨hk1, hk2⟩ := coarse_rise hzp _ _ rfl (nd_ones hpw.1)
      have hle : ∀ g ∈ coarseM z ((fr.take i).map one), g.k ≤ key z r.1 := fun g hg => by
        obtain ⟨q, hq, e⟩ := hk2 g hg
        obtain ⟨q', hq', rfl⟩ := List.mem_map.mp hq
        rw [e]
        exact key_mono hzp (Int.le_of_lt (hpw.2.2 q' hq' r (by simp)))
      have hlen : (coarseM z ((fr.take i).map one)).length ≤ 2000 := by
        refine Nat.le_trans (coarse_len _ _) ?_
        rw [List.length_map, List.length_take]
        omega
      have hsum : sumN (coarseM z ((fr.take i).map one)) ≤ 2000 := by
        rw [sumN_coarse, sumN_ones, List.length_take]
        omega
      generalize coarseM z ((fr.take i).map one) = C at *
      have hkl : kvs.length < sizeLine := by
        rw [hG.length]
        exact Nat.lt_of_le_of_lt hlen (by decide)
      refine ⟨p, f2 r, rfl, SqT.of ep, rfl, _, _, rfl, _, _, rfl, rfl, ?_⟩
      refine ⟨_, rfl, d, rfl, .inl ⟨kvs, .inl ed⟩, ?_⟩
      refine ⟨_, rfl, _, rfl, _, rfl, _, _, rfl, rfl, hzp, r.1, r.1 % z, rfl, rfl, ?_⟩
      refine ⟨by show 0 ≤ sizeLine; decide, fun q hq => ?_⟩
      have qd : q ≠ d := fun e => by rw [e, ed] at hq; cases hq
      have ed1 : upd G q (.lst []) d = some (.dK kvs) := (upd_ne (Ne.symm qd)).trans ed
      refine ⟨kvs, .inl (key z r.1), ed1, rfl, hkl, fun v hv => ?_, fun hv => ?_⟩
      · -- the stretch is there
        rcases snoc_cases C with rfl | ⟨C', g, rfl⟩
        · have := hG.length
          rw [List.length_eq_zero_iff.mp this] at hv
          cases hv
        · obtain ⟨kvs', l, ws, rfl, hG', el, st⟩ := hG.last
          by_cases e : g.k = key z r.1
          · have hno : ∀ kv ∈ kvs', kv.1 ≠ Sum.inl (key z r.1) := hG'.no fun g' hg' => by
              have := (List.pairwise_append.mp hk1).2.2 g' hg' g (by simp)
              omega
            rw [e, valV_last hno] at hv
            cases hv
            obtain ⟨ld, el1⟩ := wo_at el
            obtain ⟨lH, el2⟩ := fre_at el1
            have el3 : upd G q (.lst []) l = some (.lst (ws.map V.int)) := (upd_ne (ne_of_none el2 hq)).trans el2
            have hwl : ws.length < sizeLine := by
              have h1 := hG'.pos
              have h2 := st.n
              unfold sumN at hsum h1
              rw [List.map_append, sum_append] at hsum
              simp only [List.map_cons, List.map_nil, List.sum_cons, List.sum_nil] at hsum
              exact Nat.lt_of_le_of_lt (show ws.length ≤ 2000 by omega) (by decide)
            refine ⟨.inl ⟨rfl, _, SqL.of el3⟩, _, rfl, l, _, .int r.2, rfl, rfl, el3, by rw [List.length_map]; exact hwl, ?_⟩
            refine ⟨_, _, _, rfl, Same.wo_upd (S.trans (Same.laid hq)) lH, (upd_ne (Ne.symm ld)).trans ed1, ?_⟩
            rw [ec, stp_snoc, if_pos (show g.k = key z (one r).k from e)]
            refine Gr.snoc (g := mrg g (one r)) (ws := ws ++ [r.2]) ?_ ?_ (st.snoc r)
            · refine hG'.same fun b o eb => ?_
              obtain ⟨n1, eb1⟩ := wo_at eb
              obtain ⟨n2, eb2⟩ := wo_at eb1
              obtain ⟨n3, eb3⟩ := fre_at eb2
              exact wo_of n1 (wo_of n2 (fre_of n3 ((upd_ne n1).trans ((upd_ne (ne_of_none eb3 hq)).trans eb3))))
            · refine wo_of ld (fre_of lH ?_)
              rw [upd_same, List.map_append]
              rfl
          · exfalso
            have hno := hG.no (k := key z r.1) fun g' hg' => by
              rcases List.mem_append.mp hg' with h' | h'
              · have h1 := (List.pairwise_append.mp hk1).2.2 g' h' g (by simp)
                have h2 := hle g (by simp)
                omega
              · simp only [List.mem_singleton] at h'
                rw [h']
                exact e
            rw [valV_none_of hno] at hv
            cases hv
      · -- a new stretch
        have hcase : ∀ g C', C = C' ++ [g] → ¬ g.k = key z r.1 := fun g C' e e2 => by
          subst e
          obtain ⟨kvs', l, ws, rfl, hG', el, st⟩ := hG.last
          have hno : ∀ kv ∈ kvs', kv.1 ≠ Sum.inl (key z r.1) := hG'.no fun g' hg' => by
            have := (List.pairwise_append.mp hk1).2.2 g' hg' g (by simp)
            omega
          rw [e2, valV_last hno] at hv
          cases hv
        have ec2 : stp z C (one r) = C ++ [atKey z (one r)] := by
          rcases snoc_cases C with rfl | ⟨C', g, rfl⟩
          · rfl
          · rw [stp_snoc, if_neg (show ¬ g.k = key z (one r).k from hcase g C' rfl)]
        have eq1 : upd G q (.lst []) q = some (.lst []) := upd_same
        have eq2 : upd (upd G q (.lst [])) d (.dK (putK kvs (.inl (key z r.1)) (.ref q))) q = some (.lst []) := (upd_ne qd).trans eq1
        refine ⟨.inl ⟨rfl, _, SqL.of eq2⟩, _, rfl, q, _, .int r.2, rfl, rfl, eq2, by decide, ?_⟩
        have qH : H q = none := Same.no S hq
        refine ⟨_, _, kvs ++ [(.inl (key z r.1), .ref q)], rfl, Same.wo_upd (Same.wo_upd (S.trans (Same.laid hq)) hd) qH, ?_, ?_⟩
        · rw [upd_ne (Ne.symm qd), upd_same, putK_new _ hv]
        · rw [ec, ec2]
          refine Gr.snoc (g := atKey z (one r)) (ws := [r.2]) ?_ ?_ (St.one z r)
          · refine hG.same fun b o eb => ?_
            obtain ⟨n1, eb1⟩ := wo_at eb
            obtain ⟨n3, eb3⟩ := fre_at eb1
            have n2 := ne_of_none eb3 hq
            exact wo_of n2 (wo_of n1 (fre_of n3 ((upd_ne n2).trans ((upd_ne n1).trans ((upd_ne n2).trans eb3)))))
          · refine wo_of qd (fre_of qH ?_)
            rw [upd_same]
            rfl
    · rintro σ G ⟨t3, t4, kvs, rfl, S, ed, hG⟩
      rw [al.length, List.take_length] at hG
      have hlen : (coarseM z (fr.map one)).length ≤ 2000 := by
        refine Nat.le_trans (coarse_len _ _) ?_
        rw [List.length_map]
        exact hl
      generalize coarseM z (fr.map one) = C at *
      refine ⟨d, _, ed, trivial, fun od => ?_⟩
      refine ⟨_, rfl, d, od, kvs, rfl, upd_same, fun D hD => ?_⟩
      refine lc_acc (walk_items (d := d) (o := od) (kvs := kvs)) hD (by rw [hG.length]; exact Nat.le_trans hlen (by decide))
        (fun i acc G' => Al f5 G' acc (C.take i)) .nil (fun G' S' => S' _ _ upd_same) ?_ ?_
      · rintro i v G1 G2 acc hi S' eD hl2 hA ⟨Tt, x, y, rfl, nT, rfl, hx, hy⟩ Fy Fn hy1 _
        have hiC : i < C.length := by rw [← hG.length]; exact hi
        obtain ⟨l, ws, hkv, el, st⟩ := hG.get (List.getElem?_eq_getElem hiC)
        generalize eg : C[i] = g at *
        have egC : C[i]? = some g := by rw [List.getElem?_eq_getElem hiC, eg]
        have hx' : (kvs[i]?.map fun kv => kV kv.1) = some x := hx
        have hy' : (kvs[i]?.map Prod.snd) = some y := hy
        rw [hkv] at hx' hy'
        cases hx'
        cases hy'
        obtain ⟨ld, el1⟩ := wo_at el
        obtain ⟨lH, el2⟩ := fre_at el1
        have el3 : G1 l = some (.lst (ws.map V.int)) := S' _ _ ((upd_ne ld).trans el2)
        have el4 : upd G1 Tt (.tup [V.int g.k, .ref l]) l = some (.lst (ws.map V.int)) := (upd_ne (ne_of_none el3 nT)).trans el3
        have hne : 0 < ws.length := by
          rcases ws with _ | ⟨y, r⟩
          · cases st.lo.1
          · exact Nat.succ_pos _
        refine ⟨Tt, _, rfl, SqT.of upd_same, rfl, _, _, rfl, _, _, rfl, rfl, rfl, ?_⟩
        unfold tYes
        refine iteT ?_
        refine ⟨_, rfl, _, rfl, l, _, rfl, .inl (SqL.of el4), ?_⟩
        refine ⟨_, rfl, l, ws, rfl, SqL.of el4, ?_⟩
        refine ⟨_, rfl, l, ws, rfl, SqL.of el4, hne, fun m1 hm1 hl1 => ?_⟩
        refine ⟨_, rfl, l, ws, rfl, SqL.of el4, hne, fun m2 hm2 hl2' => ?_⟩
        refine ⟨by show 5 ≤ sizeLine; decide, fun q hq => ?_⟩
        refine hy1 _ _ ((Same.laid nT).trans (Same.laid hq)) ?_
        have e1 : m1 = g.lo := by
          have := hl1 _ st.lo.1
          have := st.lo.2 _ hm1
          omega
        have e2 : m2 = g.hi := by
          have := hl2' _ st.hi.1
          have := st.hi.2 _ hm2
          omega
        have qD : q ≠ D := by
          intro z
          rw [z, upd_ne (ne_of_none eD nT), eD] at hq
          cases hq
        have et : C.take (i + 1) = C.take i ++ [g] := by rw [List.take_add_one, egC]; rfl
        rw [et]
        refine Al.snoc (hA.same (Pw.Same.wo ((Same.laid nT).trans (Same.laid hq)))) (wo_of qD ?_)
        rw [upd_same]
        unfold f5
        rw [e1, e2, st.n, st.s, List.length_map]
        rfl
      · rintro G1 acc S' eD hA
        have hDd : D ≠ d := fun z => by rw [z, upd_same] at hD; cases hD
        have hDG : G D = none := by rw [upd_ne hDd] at hD; exact hD
        refine ⟨S' _ _ upd_same, k D _ (fun b o eb => ?_) (Same.no S hDG) ⟨acc, (upd_ne hDd).trans eD, ?_⟩⟩
        · have n1 := ne_of_none eb hd
          exact (upd_ne n1).trans (S' _ _ ((upd_ne n1).trans (S _ _ eb)))
        · rw [hG.length, List.take_length] at hA
          refine hA.imp fun p xs ep => ?_
          obtain ⟨_, ep2⟩ := wo_at ep
          have n1 : p ≠ d := fun z => by
            have e7 := S' d _ upd_same
            rw [z] at ep2
            rw [ep2] at e7
            cases e7
          exact (upd_ne n1).trans ep2
  · obtain ⟨vs, eL, al⟩ := hT
    have hu := hu_of hr
    refine ⟨_, (pss_cons (ps_set (i := 2) scCoarseRows.nd rfl (.inl rfl) pe_dnewK)
      (pss_cons (ps_for PassesOwn.never rfl (pi_tup (pv 0)) (pg_tup (by rfl) (pgs_cons (pg_name (i := 3) scCoarseRows.nd rfl (.inl rfl)) (pgs_cons (pg_name (i := 4) scCoarseRows.nd rfl (.inl rfl)) pgs_nil)))
        (pss_one (ps_expr (pe_bm PySem.F.plainAttrs_list PySem.F.slot_list_append PySem.F.type_list_append mt_append (pe_dsetd (pv 2) (pe_op op_sub (pv 3) (pe_op op_mod (pv 3) (pv 1))) (pe_lst pa_nil) ⟨rfl, rfl, rfl, rfl⟩) (pa_cons (pv 4) pa_nil)))))
      (pss_one (ps_ret (pe_lock (pe_lc (own := [("start", 5), ("worths", 6)]) (g := (gTup K 2 (gCons (gName 5) (gCons (gName 6) gNil)))) (tt := tYes) rfl scCoarseRows.nd (pi_items (pv 2))
          (blkOk_by (own := [("start", 5), ("worths", 6)]) (N := ["rows", "size", "stretches", "tick", "worth", "start", "worths"]) (sc := defScope sCoarseRows) (by decide +kernel))
          (fun _ _ _ _ _ => (pg_tup (by rfl) (pgs_cons (pg_name (i := 5) scCoarseRows.nd rfl (.inl rfl)) (pgs_cons (pg_name (i := 6) scCoarseRows.nd rfl (.inl rfl)) pgs_nil)))) (fun _ _ _ _ _ => pts_nil)
          (fun _ _ _ _ _ => (pe_tup (pa_cons (pv 5) (pa_cons (pe_callB (r := rLn K) call_len_seq (by rfl) T.len PySem.boot_len (pa_cons (pv 6) pa_nil)) (pa_cons (pe_callB (r := rSum K) (cr_sum rfl) (by rfl) T.sum PyProof.Rows.boot_sum (pa_cons (pv 6) pa_nil)) (pa_cons (pe_callB (r := rMin K) (cr_min rfl) (by rfl) T.min PyProof.Rows.boot_min (pa_cons (pv 6) pa_nil)) (pa_cons (pe_callB (r := rMax K) (cr_max rfl) (by rfl) T.max PyProof.Rows.boot_max (pa_cons (pv 6) pa_nil)) pa_nil))))))))))))), ?_⟩
    refine fun d hd => ?_
    refine ⟨_, rfl, a, rfl, ⟨_, SqT.of ((upd_ne (ne_of_none eL hd)).trans eL)⟩, ?_⟩
    have hzp : 0 < z := by omega
    refine for_it (walk_tup (K := K) (a := a) (xs := vs)) (fun i σ G => ∃ (t3 t4 : Option V) (kvs : List (Key × V)),
      σ = [some (.ref a), some (.int z), some (.ref d), t3, t4, none, none] ∧ Same H G ∧ G d = some (.dK kvs) ∧ Gr (wo (fre H G) d) kvs (coarseM z ((fr.take i).map one)))
      ?_ (fun i σ G _ ⟨_, _, _, _, S, _⟩ => SqT.of (S _ _ eL)) ?_ ?_
    · exact ⟨none, none, [], rfl, Same.laid hd, upd_same, .nil⟩
    · rintro i v σ G0 G hi ⟨t3, t4, kvs, rfl, S, ed, hG⟩ ⟨rfl, hx⟩
      obtain ⟨p, r, rfl, hr', ep⟩ := (al.same S).get hx
      have hi2 : i < fr.length := by rw [← al.length]; exact hi
      have et : fr.take (i + 1) = fr.take i ++ [r] := by rw [List.take_add_one, hr']; rfl
      have ec : coarseM z ((fr.take (i + 1)).map one) = stp z (coarseM z ((fr.take i).map one)) (one r) := by
        rw [et, List.map_append]
        exact coarse_snoc z _ _
      -- the starts ahead are no later
      have hri' : Rise (fr.take i ++ [r]) := by
        rw [← et]
        exact hri.sublist (List.take_sublist _ _)
      have hpw := List.pairwise_append.mp hri'
      obtain ⟨hk1, hk2⟩ := coarse_rise hzp _ _ rfl (nd_ones hpw.1)
      have hle : ∀ g ∈ coarseM z ((fr.take i).map one), g.k ≤ key z r.1 := fun g hg => by
        obtain ⟨q, hq, e⟩ := hk2 g hg
        obtain ⟨q', hq', rfl⟩ := List.mem_map.mp hq
        rw [e]
        exact key_mono hzp (Int.le_of_lt (hpw.2.2 q' hq' r (by simp)))
      have hlen : (coarseM z ((fr.take i).map one)).length ≤ 2000 := by
        refine Nat.le_trans (coarse_len _ _) ?_
        rw [List.length_map, List.length_take]
        omega
      have hsum : sumN (coarseM z ((fr.take i).map one)) ≤ 2000 := by
        rw [sumN_coarse, sumN_ones, List.length_take]
        omega
      generalize coarseM z ((fr.take i).map one) = C at *
      have hkl : kvs.length < sizeLine := by
        rw [hG.length]
        exact Nat.lt_of_le_of_lt hlen (by decide)
      refine ⟨p, f2 r, rfl, SqT.of ep, rfl, _, _, rfl, _, _, rfl, rfl, ?_⟩
      refine ⟨_, rfl, d, rfl, .inl ⟨kvs, .inl ed⟩, ?_⟩
      refine ⟨_, rfl, _, rfl, _, rfl, _, _, rfl, rfl, hzp, r.1, r.1 % z, rfl, rfl, ?_⟩
      refine ⟨by show 0 ≤ sizeLine; decide, fun q hq => ?_⟩
      have qd : q ≠ d := fun e => by rw [e, ed] at hq; cases hq
      have ed1 : upd G q (.lst []) d = some (.dK kvs) := (upd_ne (Ne.symm qd)).trans ed
      refine ⟨kvs, .inl (key z r.1), ed1, rfl, hkl, fun v hv => ?_, fun hv => ?_⟩
      · -- the stretch is there
        rcases snoc_cases C with rfl | ⟨C', g, rfl⟩
        · have := hG.length
          rw [List.length_eq_zero_iff.mp this] at hv
          cases hv
        · obtain ⟨kvs', l, ws, rfl, hG', el, st⟩ := hG.last
          by_cases e : g.k = key z r.1
          · have hno : ∀ kv ∈ kvs', kv.1 ≠ Sum.inl (key z r.1) := hG'.no fun g' hg' => by
              have := (List.pairwise_append.mp hk1).2.2 g' hg' g (by simp)
              omega
            rw [e, valV_last hno] at hv
            cases hv
            obtain ⟨ld, el1⟩ := wo_at el
            obtain ⟨lH, el2⟩ := fre_at el1
            have el3 : upd G q (.lst []) l = some (.lst (ws.map V.int)) := (upd_ne (ne_of_none el2 hq)).trans el2
            have hwl : ws.length < sizeLine := by
              have h1 := hG'.pos
              have h2 := st.n
              unfold sumN at hsum h1
              rw [List.map_append, sum_append] at hsum
              simp only [List.map_cons, List.map_nil, List.sum_cons, List.sum_nil] at hsum
              exact Nat.lt_of_le_of_lt (show ws.length ≤ 2000 by omega) (by decide)
            refine ⟨.inl ⟨rfl, _, SqL.of el3⟩, _, rfl, l, _, .int r.2, rfl, rfl, el3, by rw [List.length_map]; exact hwl, ?_⟩
            refine ⟨_, _, _, rfl, Same.wo_upd (S.trans (Same.laid hq)) lH, (upd_ne (Ne.symm ld)).trans ed1, ?_⟩
            rw [ec, stp_snoc, if_pos (show g.k = key z (one r).k from e)]
            refine Gr.snoc (g := mrg g (one r)) (ws := ws ++ [r.2]) ?_ ?_ (st.snoc r)
            · refine hG'.same fun b o eb => ?_
              obtain ⟨n1, eb1⟩ := wo_at eb
              obtain ⟨n2, eb2⟩ := wo_at eb1
              obtain ⟨n3, eb3⟩ := fre_at eb2
              exact wo_of n1 (wo_of n2 (fre_of n3 ((upd_ne n1).trans ((upd_ne (ne_of_none eb3 hq)).trans eb3))))
            · refine wo_of ld (fre_of lH ?_)
              rw [upd_same, List.map_append]
              rfl
          · exfalso
            have hno := hG.no (k := key z r.1) fun g' hg' => by
              rcases List.mem_append.mp hg' with h' | h'
              · have h1 := (List.pairwise_append.mp hk1).2.2 g' h' g (by simp)
                have h2 := hle g (by simp)
                omega
              · simp only [List.mem_singleton] at h'
                rw [h']
                exact e
            rw [valV_none_of hno] at hv
            cases hv
      · -- a new stretch
        have hcase : ∀ g C', C = C' ++ [g] → ¬ g.k = key z r.1 := fun g C' e e2 => by
          subst e
          obtain ⟨kvs', l, ws, rfl, hG', el, st⟩ := hG.last
          have hno : ∀ kv ∈ kvs', kv.1 ≠ Sum.inl (key z r.1) := hG'.no fun g' hg' => by
            have := (List.pairwise_append.mp hk1).2.2 g' hg' g (by simp)
            omega
          rw [e2, valV_last hno] at hv
          cases hv
        have ec2 : stp z C (one r) = C ++ [atKey z (one r)] := by
          rcases snoc_cases C with rfl | ⟨C', g, rfl⟩
          · rfl
          · rw [stp_snoc, if_neg (show ¬ g.k = key z (one r).k from hcase g C' rfl)]
        have eq1 : upd G q (.lst []) q = some (.lst []) := upd_same
        have eq2 : upd (upd G q (.lst [])) d (.dK (putK kvs (.inl (key z r.1)) (.ref q))) q = some (.lst []) := (upd_ne qd).trans eq1
        refine ⟨.inl ⟨rfl, _, SqL.of eq2⟩, _, rfl, q, _, .int r.2, rfl, rfl, eq2, by decide, ?_⟩
        have qH : H q = none := Same.no S hq
        refine ⟨_, _, kvs ++ [(.inl (key z r.1), .ref q)], rfl, Same.wo_upd (Same.wo_upd (S.trans (Same.laid hq)) hd) qH, ?_, ?_⟩
        · rw [upd_ne (Ne.symm qd), upd_same, putK_new _ hv]
        · rw [ec, ec2]
          refine Gr.snoc (g := atKey z (one r)) (ws := [r.2]) ?_ ?_ (St.one z r)
          · refine hG.same fun b o eb => ?_
            obtain ⟨n1, eb1⟩ := wo_at eb
            obtain ⟨n3, eb3⟩ := fre_at eb1
            have n2 := ne_of_none eb3 hq
            exact wo_of n2 (wo_of n1 (fre_of n3 ((upd_ne n2).trans ((upd_ne n1).trans ((upd_ne n2).trans eb3)))))
          · refine wo_of qd (fre_of qH ?_)
            rw [upd_same]
            rfl
    · rintro σ G ⟨t3, t4, kvs, rfl, S, ed, hG⟩
      rw [al.length, List.take_length] at hG
      have hlen : (coarseM z (fr.map one)).length ≤ 2000 := by
        refine Nat.le_trans (coarse_len _ _) ?_
        rw [List.length_map]
        exact hl
      generalize coarseM z (fr.map one) = C at *
      refine ⟨d, _, ed, trivial, fun od => ?_⟩
      refine ⟨_, rfl, d, od, kvs, rfl, upd_same, fun D hD => ?_⟩
      refine lc_acc (walk_items (d := d) (o := od) (kvs := kvs)) hD (by rw [hG.length]; exact Nat.le_trans hlen (by decide))
        (fun i acc G' => Al f5 G' acc (C.take i)) .nil (fun G' S' => S' _ _ upd_same) ?_ ?_
      · rintro i v G1 G2 acc hi S' eD hl2 hA ⟨Tt, x, y, rfl, nT, rfl, hx, hy⟩ Fy Fn hy1 _
        have hiC : i < C.length := by rw [← hG.length]; exact hi
        obtain ⟨l, ws, hkv, el, st⟩ := hG.get (List.getElem?_eq_getElem hiC)
        generalize eg : C[i] = g at *
        have egC : C[i]? = some g := by rw [List.getElem?_eq_getElem hiC, eg]
        have hx' : (kvs[i]?.map fun kv => kV kv.1) = some x := hx
        have hy' : (kvs[i]?.map Prod.snd) = some y := hy
        rw [hkv] at hx' hy'
        cases hx'
        cases hy'
        obtain ⟨ld, el1⟩ := wo_at el
        obtain ⟨lH, el2⟩ := fre_at el1
        have el3 : G1 l = some (.lst (ws.map V.int)) := S' _ _ ((upd_ne ld).trans el2)
        have el4 : upd G1 Tt (.tup [V.int g.k, .ref l]) l = some (.lst (ws.map V.int)) := (upd_ne (ne_of_none el3 nT)).trans el3
        have hne : 0 < ws.length := by
          rcases ws with _ | ⟨y, r⟩
          · cases st.lo.1
          · exact Nat.succ_pos _
        refine ⟨Tt, _, rfl, SqT.of upd_same, rfl, _, _, rfl, _, _, rfl, rfl, rfl, ?_⟩
        unfold tYes
        refine iteT ?_
        refine ⟨_, rfl, _, rfl, l, _, rfl, .inl (SqL.of el4), ?_⟩
        refine ⟨_, rfl, l, ws, rfl, SqL.of el4, ?_⟩
        refine ⟨_, rfl, l, ws, rfl, SqL.of el4, hne, fun m1 hm1 hl1 => ?_⟩
        refine ⟨_, rfl, l, ws, rfl, SqL.of el4, hne, fun m2 hm2 hl2' => ?_⟩
        refine ⟨by show 5 ≤ sizeLine; decide, fun q hq => ?_⟩
        refine hy1 _ _ ((Same.laid nT).trans (Same.laid hq)) ?_
        have e1 : m1 = g.lo := by
          have := hl1 _ st.lo.1
          have := st.lo.2 _ hm1
          omega
        have e2 : m2 = g.hi := by
          have := hl2' _ st.hi.1
          have := st.hi.2 _ hm2
          omega
        have qD : q ≠ D := by
          intro z
          rw [z, upd_ne (ne_of_none eD nT), eD] at hq
          cases hq
        have et : C.take (i + 1) = C.take i ++ [g] := by rw [List.take_add_one, egC]; rfl
        rw [et]
        refine Al.snoc (hA.same (Pw.Same.wo ((Same.laid nT).trans (Same.laid hq)))) (wo_of qD ?_)
        rw [upd_same]
        unfold f5
        rw [e1, e2, st.n, st.s, List.length_map]
        rfl
      · rintro G1 acc S' eD hA
        have hDd : D ≠ d := fun z => by rw [z, upd_same] at hD; cases hD
        have hDG : G D = none := by rw [upd_ne hDd] at hD; exact hD
        refine ⟨S' _ _ upd_same, k D _ (fun b o eb => ?_) (Same.no S hDG) ⟨acc, (upd_ne hDd).trans eD, ?_⟩⟩
        · have n1 := ne_of_none eb hd
          exact (upd_ne n1).trans (S' _ _ ((upd_ne n1).trans (S _ _ eb)))
        · rw [hG.length, List.take_length] at hA
          refine hA.imp fun p xs ep => ?_
          obtain ⟨_, ep2⟩ := wo_at ep
          have n1 : p ≠ d := fun z => by
            have e7 := S' d _ upd_same
            rw [z] at ep2
            rw [ep2] at e7
            cases e7
          exact (upd_ne n1).trans ep2
end
end T40

namespace T40
open PySem PySem.Spec PyProof.Rows L2 Pw Tr
section
variable {P : Program} {w : World} {K : PySem.W.Frag} {mg : Str → Option Value} {base : Heap}
def spFRow : Sp := fun vs H Q _ => ∃ p r, vs = [.ref p] ∧ H p = some (.tup (f2 r)) ∧ ((0 ≤ r.1 ∧ r.1 ≤ 9999) ∧ (0 ≤ r.2 ∧ r.2 ≤ 63)) ∧ Q (.bl true) H
theorem d_frow (A : At K mg "_is_fine_row" sIsFineRow) (dt : Def P w K mg base "is_tuple" 1 ["thing", "many"] (spTupN K))
    (dti : Def P w K mg base "is_time" 4 ["thing"] (spRange K 0 9999)) (dl : Def P w K mg base "is_level" 4 ["thing"] (spRange K 0 63)) :
    Def P w K mg base "_is_fine_row" 5 ["thing"] spFRow := by
  refine mkDef A scIsFineRow (fun _ _ _ _ _ _ us hl => match us, hl with | [_], _ => rfl) (fun vs H Q E ⟨_, _, e, _⟩ => by rw [e]; rfl)
    (fun f cdv A out s H vs Q E hr h => ?_)
  obtain ⟨p, r, rfl, e, hg, k⟩ := h
  refine ⟨_, (pss_one (ps_ret (pe_and (pe_d dt hr (by decide) (by rfl) (pa_cons (pv 0) (pa_cons pe_int pa_nil))) (pe_and (pe_d dti hr (by decide) (by rfl) (pa_cons (pe_ix ix_tup (pv 0) pe_int (fun _ _ => rfl)) pa_nil)) (pe_one (pe_d dl hr (by decide) (by rfl) (pa_cons (pe_ix ix_tup (pv 0) pe_int (fun _ _ => rfl)) pa_nil))))))), ?_⟩
  have eT : tupNB H (.ref p) 2 = true := by simp only [tupNB, e]; rfl
  refine ⟨_, rfl, .ref p, _, 2, rfl, .tup e, true, congrArg V.bl eT, iteT ?_⟩
  refine ⟨_, rfl, p, f2 r, 0, .int r.1, rfl, rfl, SqT.of e, rfl, .int r.1, _, rfl, .int _, true, congrArg V.bl (whole_in hg.1.1 hg.1.2), iteT ?_⟩
  refine ⟨_, rfl, p, f2 r, 1, .int r.2, rfl, rfl, SqT.of e, rfl, .int r.2, _, rfl, .int _, ?_⟩
  rw [whole_in hg.2.1 hg.2.2]
  exact k

def spFRows : Sp := fun vs H Q _ => ∃ (a : Addr) (fr : List (Int × Int)), vs = [.ref a] ∧ LS f2 H a fr ∧ GoodF fr ∧ ∀ H', Same H H' → Q (.bl true) H'
theorem d_frows (T : Txt mg) (A : At K mg "_are_fine_rows" sAreFineRows) (dr : Def P w K mg base "_is_fine_row" 5 ["thing"] spFRow)
    (di : Def P w K mg base "is_rising" 1 ["numbers"] (spRis K)) : Def P w K mg base "_are_fine_rows" 6 ["thing"] spFRows := by
  refine mkDef A scAreFineRows (fun _ _ _ _ _ _ us hl => match us, hl with | [_], _ => rfl) (fun vs H Q E ⟨_, _, e, _⟩ => by rw [e]; rfl)
    (fun f cdv A out s H vs Q E hr h => ?_)
  obtain ⟨a, rs, rfl, hL, hg, k⟩ := h
  rcases hL with hL | hT
  · obtain ⟨vs, eL, al⟩ := hL.ex
    refine ⟨_, (pss_cons (ps_if (PW.pt (pw_or (pt_not (pt_val (pe_callB call_isiT (by rfl) T.isinstance PyProof.Rows.boot_isinstance (pa_cons (pv 0) (pa_cons (pe_tup (pa_cons (pe_bltn (v := .ty "list") (u := .type "list") (by rfl) T.list (by decide +kernel) rfl) (pa_cons (pe_bltn (v := .ty "tuple") (u := .type "tuple") (by rfl) T.tuple (by decide +kernel) rfl) pa_nil))) pa_nil))))) (pw_or1 (pt_not (pt_val (pe_callB (cr_all rfl) (by rfl) T.all PyProof.Rows.boot_all (pa_cons (pe_lc (own := [("row", 1)]) (g := gName 1) (tt := tYes) rfl scAreFineRows.nd (pi_list (pv 0))
          (blkOk_by (own := [("row", 1)]) (N := ["thing", "row"]) (sc := defScope sAreFineRows) (by decide +kernel))
          (fun _ _ _ _ _ => (pg_name (i := 1) scAreFineRows.nd rfl (.inl rfl))) (fun _ _ _ _ _ => pts_nil)
          (fun _ _ _ _ _ => (pe_d dr hr (by decide) (by rfl) (pa_cons (pv 1) pa_nil)))) pa_nil)))))))
        (pss_one (ps_ret pe_bl))
        pss_nil)
      (pss_one (ps_ret (pe_d di hr (by decide) (by rfl) (pa_cons (pe_lc (own := [("row", 1)]) (g := gName 1) (tt := tYes) rfl scAreFineRows.nd (pi_list (pv 0))
          (blkOk_by (own := [("row", 1)]) (N := ["thing", "row"]) (sc := defScope sAreFineRows) (by decide +kernel))
          (fun _ _ _ _ _ => (pg_name (i := 1) scAreFineRows.nd rfl (.inl rfl))) (fun _ _ _ _ _ => pts_nil)
          (fun _ _ _ _ _ => (pe_ix (r := rIxT K) ix_tup (pv 1) pe_int (fun _ _ => rfl)))) pa_nil))))), ?_⟩
    refine ⟨_, rfl, by show 2 ≤ sizeLine; decide, fun q hq => ?_⟩
    generalize q1 : upd H q (.tup [.ty "list", .ty "tuple"]) = H1
    have S1 : Same H H1 := q1 ▸ Same.laid hq
    have e1 : H1 q = some (.tup [.ty "list", .ty "tuple"]) := q1 ▸ upd_same
    refine ⟨.ref a, q, [.ty "list", .ty "tuple"], .type "list", [.type "list", .type "tuple"], true, rfl, e1, .cons (.ty _) (.cons (.ty _) .nil),
      .base (.lst (S1 _ _ eL)), kit_lt_list, true, rfl, iteF ?_⟩
    have al1 := al.same S1
    have hn : vs.length ≤ 1000000 := by
      rw [al.length]
      exact Nat.le_trans hg.len (by decide)
    refine ⟨_, rfl, a, rfl, ⟨_, SqL.of (S1 _ _ eL)⟩, fun D hD => ?_⟩
    refine lc_acc (walk_list (K := K) (a := a) (xs := vs)) hD hn (fun i acc H => acc = (List.replicate i true).map V.bl) rfl
      (fun H' S => SqL.of (S _ _ (S1 _ _ eL))) ?_ ?_
    · rintro i v H2 H3 acc hi S2 eD hl2 rfl ⟨rfl, hx⟩ Fy Fn hy1 _
      obtain ⟨p, r, rfl, hr', ep⟩ := (al1.same S2).get hx
      refine ⟨rfl, ?_⟩
      unfold tYes
      refine iteT ?_
      exact ⟨_, rfl, p, r, rfl, ep, hg.all r (List.mem_of_getElem? hr'), hy1 _ _ (Same.refl _) (reps_succ i)⟩
    · rintro H2 acc S2 eD rfl
      refine ⟨D, List.replicate _ true, rfl, SqL.of eD, true, congrArg V.bl (reps_all _), iteF ?_⟩
      have eL2 := S2 _ _ (S1 _ _ eL)
      have al2 := al1.same S2
      refine ⟨_, rfl, a, rfl, ⟨_, SqL.of eL2⟩, fun D2 hD2 => ?_⟩
      refine lc_acc (walk_list (K := K) (a := a) (xs := vs)) hD2 hn (fun i acc H => acc = ((rs.take i).map (·.1)).map V.int) rfl
        (fun H' S => SqL.of (S _ _ eL2)) ?_ ?_
      · rintro i v H3 H4 acc hi S3 eD2 hl3 rfl ⟨rfl, hx⟩ Fy Fn hy1 _
        obtain ⟨p, r, rfl, hr', ep⟩ := (al2.same S3).get hx
        refine ⟨rfl, ?_⟩
        unfold tYes
        refine iteT ?_
        refine ⟨_, rfl, p, f2 r, 0, .int r.1, rfl, rfl, SqT.of ep, rfl, ?_⟩
        refine hy1 _ _ (Same.refl _) ?_
        rw [List.take_add_one, hr', List.map_append, List.map_append]
        rfl
      · rintro H3 acc S3 eD2 rfl
        rw [al.length, List.take_length] at eD2
        refine ⟨D2, rs.map (·.1), rfl, SqL.of eD2, by rw [List.length_map]; exact hg.len, List.pairwise_map.mpr (show rs.Pairwise (fun a b => a.1 < b.1) from hg.rise), fun H4 S4 => ?_⟩
        exact k _ (S1.trans (S2.trans (S3.trans S4)))
  · obtain ⟨vs, eL, al⟩ := hT
    refine ⟨_, (pss_cons (ps_if (PW.pt (pw_or (pt_not (pt_val (pe_callB call_isiT (by rfl) T.isinstance PyProof.Rows.boot_isinstance (pa_cons (pv 0) (pa_cons (pe_tup (pa_cons (pe_bltn (v := .ty "list") (u := .type "list") (by rfl) T.list (by decide +kernel) rfl) (pa_cons (pe_bltn (v := .ty "tuple") (u := .type "tuple") (by rfl) T.tuple (by decide +kernel) rfl) pa_nil))) pa_nil))))) (pw_or1 (pt_not (pt_val (pe_callB (cr_all rfl) (by rfl) T.all PyProof.Rows.boot_all (pa_cons (pe_lc (own := [("row", 1)]) (g := gName 1) (tt := tYes) rfl scAreFineRows.nd (pi_tup (pv 0))
          (blkOk_by (own := [("row", 1)]) (N := ["thing", "row"]) (sc := defScope sAreFineRows) (by decide +kernel))
          (fun _ _ _ _ _ => (pg_name (i := 1) scAreFineRows.nd rfl (.inl rfl))) (fun _ _ _ _ _ => pts_nil)
          (fun _ _ _ _ _ => (pe_d dr hr (by decide) (by rfl) (pa_cons (pv 1) pa_nil)))) pa_nil)))))))
        (pss_one (ps_ret pe_bl))
        pss_nil)
      (pss_one (ps_ret (pe_d di hr (by decide) (by rfl) (pa_cons (pe_lc (own := [("row", 1)]) (g := gName 1) (tt := tYes) rfl scAreFineRows.nd (pi_tup (pv 0))
          (blkOk_by (own := [("row", 1)]) (N := ["thing", "row"]) (sc := defScope sAreFineRows) (by decide +kernel))
          (fun _ _ _ _ _ => (pg_name (i := 1) scAreFineRows.nd rfl (.inl rfl))) (fun _ _ _ _ _ => pts_nil)
          (fun _ _ _ _ _ => (pe_ix (r := rIxT K) ix_tup (pv 1) pe_int (fun _ _ => rfl)))) pa_nil))))), ?_⟩
    refine ⟨_, rfl, by show 2 ≤ sizeLine; decide, fun q hq => ?_⟩
    generalize q1 : upd H q (.tup [.ty "list", .ty "tuple"]) = H1
    have S1 : Same H H1 := q1 ▸ Same.laid hq
    have e1 : H1 q = some (.tup [.ty "list", .ty "tuple"]) := q1 ▸ upd_same
    refine ⟨.ref a, q, [.ty "list", .ty "tuple"], .type "tuple", [.type "list", .type "tuple"], true, rfl, e1, .cons (.ty _) (.cons (.ty _) .nil),
      .base (.tup (S1 _ _ eL)), kit_lt_tuple, true, rfl, iteF ?_⟩
    have al1 := al.same S1
    have hn : vs.length ≤ 1000000 := by
      rw [al.length]
      exact Nat.le_trans hg.len (by decide)
    refine ⟨_, rfl, a, rfl, ⟨_, SqT.of (S1 _ _ eL)⟩, fun D hD => ?_⟩
    refine lc_acc (walk_tup (K := K) (a := a) (xs := vs)) hD hn (fun i acc H => acc = (List.replicate i true).map V.bl) rfl
      (fun H' S => SqT.of (S _ _ (S1 _ _ eL))) ?_ ?_
    · rintro i v H2 H3 acc hi S2 eD hl2 rfl ⟨rfl, hx⟩ Fy Fn hy1 _
      obtain ⟨p, r, rfl, hr', ep⟩ := (al1.same S2).get hx
      refine ⟨rfl, ?_⟩
      unfold tYes
      refine iteT ?_
      exact ⟨_, rfl, p, r, rfl, ep, hg.all r (List.mem_of_getElem? hr'), hy1 _ _ (Same.refl _) (reps_succ i)⟩
    · rintro H2 acc S2 eD rfl
      refine ⟨D, List.replicate _ true, rfl, SqL.of eD, true, congrArg V.bl (reps_all _), iteF ?_⟩
      have eL2 := S2 _ _ (S1 _ _ eL)
      have al2 := al1.same S2
      refine ⟨_, rfl, a, rfl, ⟨_, SqT.of eL2⟩, fun D2 hD2 => ?_⟩
      refine lc_acc (walk_tup (K := K) (a := a) (xs := vs)) hD2 hn (fun i acc H => acc = ((rs.take i).map (·.1)).map V.int) rfl
        (fun H' S => SqT.of (S _ _ eL2)) ?_ ?_
      · rintro i v H3 H4 acc hi S3 eD2 hl3 rfl ⟨rfl, hx⟩ Fy Fn hy1 _
        obtain ⟨p, r, rfl, hr', ep⟩ := (al2.same S3).get hx
        refine ⟨rfl, ?_⟩
        unfold tYes
        refine iteT ?_
        refine ⟨_, rfl, p, f2 r, 0, .int r.1, rfl, rfl, SqT.of ep, rfl, ?_⟩
        refine hy1 _ _ (Same.refl _) ?_
        rw [List.take_add_one, hr', List.map_append, List.map_append]
        rfl
      · rintro H3 acc S3 eD2 rfl
        rw [al.length, List.take_length] at eD2
        refine ⟨D2, rs.map (·.1), rfl, SqL.of eD2, by rw [List.length_map]; exact hg.len, List.pairwise_map.mpr (show rs.Pairwise (fun a b => a.1 < b.1) from hg.rise), fun H4 S4 => ?_⟩
        exact k _ (S1.trans (S2.trans (S3.trans S4)))

def spCoOf : Sp := fun vs H Q _ => ∃ (a : Addr) (fr : List (Int × Int)) (z : Int), vs = [.ref a, .int z] ∧ LS f2 H a fr ∧ GoodF fr ∧ 1 ≤ z ∧ z ≤ 400 ∧
  ∀ b H', Same H H' → H b = none → LT f5 H' b (coarseM z (fr.map one)) → Q (.ref b) H'
theorem d_coof (A : At K mg "coarse_of" sCoarseOf) (df : Def P w K mg base "_are_fine_rows" 6 ["thing"] spFRows)
    (ds : Def P w K mg base "_check_size" 5 ["size"] (spIn 1 400)) (dc : Def P w K mg base "_coarse_rows" 1 ["rows", "size"] spCoR) :
    Def P w K mg base "coarse_of" 7 ["rows", "size"] spCoOf := by
  refine mkDef A scCoarseOf (fun _ _ _ _ _ _ us hl => match us, hl with | [_, _], _ => rfl) (fun vs H Q E ⟨_, _, _, e, _⟩ => by rw [e]; rfl)
    (fun f cdv A out s H vs Q E hr h => ?_)
  obtain ⟨a, fr, z, rfl, hL, hg, h1, h4, k⟩ := h
  refine ⟨_, (pss_cons (ps_if (pt_not (pt_val (pe_d df hr (by decide) (by rfl) (pa_cons (pv 0) pa_nil))))
      (pss_one ps_never)
      pss_nil)
    (pss_cons (ps_expr (pe_d ds hr (by decide) (by rfl) (pa_cons (pv 1) pa_nil)))
    (pss_one (ps_ret (pe_d dc hr (by decide) (by rfl) (pa_cons (pv 0) (pa_cons (pv 1) pa_nil))))))), ?_⟩
  refine ⟨_, rfl, a, fr, rfl, hL, hg, fun H1 S1 => ⟨true, rfl, iteF ?_⟩⟩
  refine ⟨_, rfl, z, rfl, h1, h4, ?_⟩
  exact ⟨_, rfl, _, rfl, a, fr, z, rfl, hL.same S1, hg.rise, hg.len, h1, fun b H' S hb hb2 => k b H' (S1.trans S) (Same.no S1 hb) hb2⟩

def spFine : Sp := fun vs H Q _ => ∃ (a : Addr) (rs : List R3) (lo hi : Int) (o : Bool), vs = [.ref a, .int lo, .int hi, .bl o] ∧ (LT f3 H a rs ∨ (TT f3 H a rs ∧ o = true)) ∧ GoodH rs ∧
  (0 ≤ lo ∧ lo ≤ 9999) ∧ (0 ≤ hi ∧ hi ≤ 9999) ∧ hi - lo < 1000 ∧
  ∀ b H', Same H H' → H b = none → LT f2 H' b (fineM (pr (if o = true then rs else goods rs)) lo (hi + 1 - lo).toNat) → Q (.ref b) H'
theorem b_fine : ∀ (D : Addr) (doc pm : Value) (an : Option Addr) (cdv ct : Value) (us ks : List Value), us.length = 3 → ks.length = [(("odd" : Str), V.bl true)].length →
      KwChain D (([(("odd" : Str), V.bl true)].map (·.1)).zip ks) (bindArgs (PySem.W.fnOf "fine" "fine" (defArgs sFine) (defBody sFine) (defScope sFine) .none (.ref D) doc pm an cdv ct) ⟨us, []⟩)
        ((["history", "since", "till", "odd"] : List Str).zip (us ++ ks)) :=
  fun D doc pm an cdv ct us ks h1 h2 => match us, ks, h1, h2 with | [_, _, _], [_], _, _ => ⟨_, _, _, _, _, _, rfl, rfl, rfl⟩
theorem d_fine (A : AtD K mg "fine" sFine [("odd", .bl true)]) (dh : Def P w K mg base "check_history" 7 ["thing"] spHistC)
    (dw : Def P w K mg base "_check_window" 6 ["since", "till", "odd"] spWin) (df : Def P w K mg base "_fine_rows" 2 ["history", "since", "till", "odd"] spFineR) :
    DefD P w K mg base "fine" 8 ["history", "since", "till", "odd"] [.bl true] spFine := by
  refine mkDefD (n := 3) A scFine (by decide) rfl b_fine (fun vs H Q E ⟨_, _, _, _, _, e, _⟩ => by rw [e]; rfl)
    (fun f cdv A out s H vs Q E hr h => ?_)
  obtain ⟨a, rs, lo, hi, o, rfl, hL, hg, hlo, hhi, hw, k⟩ := h
  refine ⟨_, (pss_cons (ps_expr (pe_d dh hr (by decide) (by rfl) (pa_cons (pv 0) pa_nil)))
    (pss_cons (ps_expr (pe_d dw hr (by decide) (by rfl) (pa_cons (pv 1) (pa_cons (pv 2) (pa_cons (pv 3) pa_nil)))))
    (pss_one (ps_ret (pe_d df hr (by decide) (by rfl) (pa_cons (pv 0) (pa_cons (pv 1) (pa_cons (pv 2) (pa_cons (pv 3) pa_nil))))))))), ?_⟩
  refine ⟨_, rfl, a, rs, rfl, hL.imp id And.left, hg, fun H1 S1 => ?_⟩
  refine ⟨_, rfl, _, rfl, _, rfl, lo, hi, o, rfl, hlo, hhi, hw, ?_⟩
  exact ⟨_, rfl, _, rfl, _, rfl, _, rfl, a, rs, lo, hi, o, rfl, hL.imp (fun z => z.same S1) (fun z => ⟨z.1.same S1, z.2⟩), hg.len, ⟨hlo.1, by omega⟩, ⟨hhi.1, by omega⟩, by omega,
    fun b H' S hb h => k b H' (S1.trans S) (Same.no S1 hb) h⟩

end
end T40

namespace T40
open PySem PySem.Spec PyProof.Rows L2 Pw Tr
/-- a box of draws -/
def BoxAt (H : Hp) (p : Addr) (n : Nat) : Prop := ∃ b0 b1 b2 : Int, H p = some (.lst [.int b0, .int b1, .int b2]) ∧
  0 ≤ b1 ∧ b1 < 2147483629 ∧ 0 ≤ b2 ∧ b2 ≤ n
theorem BoxAt.up {H : Hp} {p : Addr} {n m : Nat} (h : BoxAt H p n) (l : n ≤ m) : BoxAt H p m := by
  obtain ⟨b0, b1, b2, e, h1, h2, h3, h4⟩ := h
  exact ⟨b0, b1, b2, e, h1, h2, h3, by omega⟩
theorem BoxAt.keep {H H' : Hp} {p : Addr} {n : Nat} (h : BoxAt H p n) (S : Same H H') : BoxAt H' p n := by
  obtain ⟨b0, b1, b2, e, r⟩ := h
  exact ⟨b0, b1, b2, S _ _ e, r⟩
theorem BoxAt.laid {H : Hp} {p q : Addr} {n : Nat} {o : HO} (h : BoxAt H p n) (nq : H q = none) : BoxAt (upd H q o) p n := h.keep (Same.laid nq)
theorem BoxAt.ne {H : Hp} {p q : Addr} {n : Nat} (h : BoxAt H p n) (nq : H q = none) : q ≠ p := by
  obtain ⟨b0, b1, b2, e, r⟩ := h
  exact (ne_of_none e nq).symm
theorem menu {xs : List V} {i : Int} (h0 : 0 ≤ i) (h1 : i < (xs.length : Int)) : ∃ v, v ∈ xs ∧ atI xs i = some v := by
  obtain ⟨j, rfl⟩ := Int.eq_ofNat_of_zero_le h0
  have hj : j < xs.length := by omega
  exact ⟨xs[j], List.getElem_mem hj, atI_nat (by simp [hj])⟩

section
variable {P : Program} {w : World} {K : PySem.W.Frag} {mg : Str → Option Value} {base : Heap}
def spCell (K : PySem.W.Frag) : Sp := fun vs H Q _ => ∃ (a : Addr) (ns : List Int) (k : Int), vs = [.ref a, .int k] ∧ SqL K H a (ns.map V.int) ∧ ns.length ≤ 63 ∧
  0 ≤ k ∧ k ≤ 100 ∧ ∀ c, Q (.int c) H
theorem d_cell (T : Txt mg) (A : At K mg "_law_cell" sLawCell) : Def P w K mg base "_law_cell" 1 ["_law_script", "_law_k"] (spCell K) := by
  refine mkDef A scLawCell (fun _ _ _ _ _ _ us hl => match us, hl with | [_, _], _ => rfl) (fun vs H Q E ⟨a, ns, k, e, _⟩ => by rw [e]; rfl)
    (fun f cdv A out s H vs Q E hr h => ?_)
  obtain ⟨a, ns, i, rfl, hS, hl, h0, h1, k⟩ := h
  refine ⟨_, (pss_cons (ps_if (pt_cmpR op_lt (pv 1) (pe_callB call_len_seq (by rfl) T.len PySem.boot_len (pa_cons (pv 0) pa_nil)) (nomark _))
      (pss_one (ps_ret (pe_ix ix_list (pv 0) (pv 1) (fun _ _ => rfl))))
      pss_nil)
    (pss_one (ps_ret (pe_op op_add (pe_op op_mul pe_int (pv 1)) pe_int)))), ?_⟩
  refine ⟨_, rfl, _, rfl, a, ns.map V.int, rfl, .inl hS, i, _, rfl, rfl, _, rfl, ?_⟩
  refine ite2 (fun hlt => ?_) (fun _ => ?_)
  · have hlt' : i < ((ns.map V.int).length : Int) := of_decide_eq_true hlt
    rw [List.length_map] at hlt'
    obtain ⟨j, rfl⟩ := Int.eq_ofNat_of_zero_le h0
    have hj : j < ns.length := by omega
    refine ⟨_, rfl, _, rfl, a, ns.map V.int, (j : Int), .int ns[j], rfl, rfl, hS, ?_, k _⟩
    exact atI_nat (by simp [hj])
  · exact ⟨_, rfl, _, _, rfl, rfl, .inl ⟨by decide, by decide⟩, _, _, rfl, rfl, k _⟩

def spBox (K : PySem.W.Frag) : Sp := fun vs H Q _ => ∃ c, vs = [.int c] ∧
  ∀ p H', H p = none → Same H H' → BoxAt H' p 0 → Q (.ref p) H'
theorem d_box (T : Txt mg) (A : At K mg "_law_box" sLawBox) : Def P w K mg base "_law_box" 1 ["_law_cell_here"] (spBox K) := by
  refine mkDef A scLawBox (fun _ _ _ _ _ _ us hl => match us, hl with | [_], _ => rfl) (fun vs H Q E ⟨c, e, _⟩ => by rw [e]; rfl)
    (fun f cdv A out s H vs Q E hr h => ?_)
  obtain ⟨c, rfl, k⟩ := h
  refine ⟨_, (pss_one (ps_ret (pe_lst (pa_cons (pe_callB (call_max2 rfl) (by rfl) T.max PyProof.Rows.boot_max (pa_cons pe_int (pa_cons (pe_op op_sub (pv 0) (pe_op op_pow pe_int pe_int)) pa_nil))) (pa_cons (pe_op op_mod (pv 0) pe_int) (pa_cons pe_int pa_nil)))))), ?_⟩
  refine ⟨_, rfl, 10, 18, rfl, rfl, ⟨by decide, by decide, by decide⟩, _, _, rfl, rfl, 0, _, rfl, _, rfl, _, _, rfl, rfl, (by decide : (0 : Int) < 2147483563), (by show 3 ≤ sizeLine; decide), fun p hp => ?_⟩
  refine k p _ hp (Same.laid hp) ⟨_, _, _, upd_same, ?_, ?_, by decide, by decide⟩
  · exact Int.emod_nonneg _ (by decide)
  · have := Int.emod_lt_of_pos c (by decide : (0 : Int) < 2147483563)
    omega

def spTake (K : PySem.W.Frag) : Sp := fun vs H Q _ => ∃ p m n, vs = [.ref p, .int m] ∧ BoxAt H p n ∧ n ≤ 1000000 ∧ 0 < m ∧ m < 2 ^ 200 ∧
  ∀ i H', 0 ≤ i → i < m → BoxAt H' p (n + 1) → But p H H' → Q (.int i) H'
theorem d_take (A : At K mg "_law_take" sLawTake) : Def P w K mg base "_law_take" 1 ["_law_box_here", "_law_many"] (spTake K) := by
  refine mkDef A scLawTake (fun _ _ _ _ _ _ us hl => match us, hl with | [_, _], _ => rfl) (fun vs H Q E ⟨p, m, n, e, _⟩ => by rw [e]; rfl)
    (fun f cdv A out s H vs Q E hr h => ?_)
  obtain ⟨p, m, n, rfl, ⟨b0, b1, b2, hp, h1, h2, h3, h4⟩, hn, m0, mb, k⟩ := h
  have mb' : m.natAbs < 2 ^ 200 := by omega
  have at0 : atI [V.int b0, .int b1, .int b2] 0 = some (.int b0) := rfl
  have at1 : atI [V.int b0, .int b1, .int b2] 1 = some (.int b1) := rfl
  have at2 : atI [V.int b0, .int b1, .int b2] 2 = some (.int b2) := rfl
  refine ⟨_, (pss_cons (ps_if (pt_cmpR op_gt (pe_ix ix_list (pv 0) pe_int (fun _ _ => rfl)) pe_int (nomark _))
      (pss_cons (ps_set (i := 2) scLawTake.nd rfl (.inl rfl) (pe_op op_mod (pe_ix ix_list (pv 0) pe_int (fun _ _ => rfl)) (pv 1)))
      (pss_cons (ps_asg (pe_op op_fdivW (pe_ix ix_list (pv 0) pe_int (fun _ _ => rfl)) (pv 1)) (pg_sub (pv 0) pe_int set_list))
      (pss_one (ps_ret (pv 2)))))
      pss_nil)
    (pss_cons (ps_asg (pe_op op_add (pe_ix ix_list (pv 0) pe_int (fun _ _ => rfl)) pe_int) (pg_sub (pv 0) pe_int set_list))
    (pss_cons (ps_set (i := 3) scLawTake.nd rfl (.inl rfl) (pe_op op_mod (pe_op op_pow (pe_op op_add (pe_op op_add (pe_ix ix_list (pv 0) pe_int (fun _ _ => rfl)) (pe_op op_mul pe_int (pe_ix ix_list (pv 0) pe_int (fun _ _ => rfl)))) pe_int) pe_int) pe_int))
    (pss_cons (ps_set (i := 3) scLawTake.nd rfl (.inl rfl) (pe_op op_mod (pe_op op_pow (pe_op op_add (pv 3) (pe_op op_mul pe_int (pe_ix ix_list (pv 0) pe_int (fun _ _ => rfl)))) pe_int) pe_int))
    (pss_one (ps_ret (pe_op op_mod (pe_op op_fdiv (pv 3) pe_int) (pv 1)))))))), ?_⟩
  refine ⟨_, rfl, p, _, 0, _, rfl, rfl, SqL.of hp, at0, b0, 0, rfl, rfl, _, rfl, ?_⟩
  refine ite2 (fun hgt => ?_) (fun _ => ?_)
  · refine ⟨_, rfl, p, _, 0, _, rfl, rfl, SqL.of hp, at0, _, rfl, b0, m, rfl, rfl, m0, ?_⟩
    refine ⟨_, rfl, p, _, 0, _, rfl, rfl, SqL.of hp, at0, _, rfl, b0, m, rfl, rfl, wide_div m0 mb' (by decide) (by decide), ?_⟩
    refine ⟨_, rfl, p, _, 0, 0, rfl, rfl, hp, rfl, ?_⟩
    refine ⟨_, rfl, ?_⟩
    exact k _ _ (Int.emod_nonneg _ (by omega)) (Int.emod_lt_of_pos _ m0) ⟨_, b1, b2, upd_same, h1, h2, h3, by omega⟩ But.set
  · refine ⟨_, rfl, p, _, 2, _, rfl, rfl, SqL.of hp, at2, _, _, rfl, rfl, ?_⟩
    refine ⟨_, rfl, p, _, 2, 2, rfl, rfl, hp, rfl, ?_⟩
    have hp2 : upd H p (.lst [V.int b0, .int b1, .int (b2 + 1)]) p = some (.lst [V.int b0, .int b1, .int (b2 + 1)]) := upd_same
    have bt1 : atI [V.int b0, .int b1, .int (b2 + 1)] 1 = some (.int b1) := rfl
    have bt2 : atI [V.int b0, .int b1, .int (b2 + 1)] 2 = some (.int (b2 + 1)) := rfl
    refine ⟨_, rfl, p, _, 1, _, rfl, rfl, SqL.of hp2, bt1, _, rfl, p, _, 2, _, rfl, rfl, SqL.of hp2, bt2, _, _, rfl, rfl, .inl ⟨by decide, by decide⟩, _, _, rfl, rfl, _, _, rfl, rfl, 
      _, _, rfl, rfl, ⟨by decide, by decide, by omega⟩, _, _, rfl, rfl, (by decide : (0 : Int) < 2147483647), ?_⟩
    have e1 := Int.emod_nonneg ((b1 + 60013 * (b2 + 1) + 5) ^ (5 : Int).toNat) (by decide : (2147483647 : Int) ≠ 0)
    have e2 := Int.emod_lt_of_pos ((b1 + 60013 * (b2 + 1) + 5) ^ (5 : Int).toNat) (by decide : (0 : Int) < 2147483647)
    refine ⟨_, rfl, _, rfl, p, _, 2, _, rfl, rfl, SqL.of hp2, bt2, _, _, rfl, rfl, .inl ⟨by decide, by decide⟩, _, _, rfl, rfl, 
      _, _, rfl, rfl, ⟨by decide, by decide, ?_⟩, _, _, rfl, rfl, (by decide : (0 : Int) < 2147483629), ?_⟩
    · generalize (b1 + 60013 * (b2 + 1) + 5) ^ (5 : Int).toNat % 2147483647 = z at e1 e2
      omega
    · refine ⟨_, rfl, _, _, rfl, rfl, ⟨by decide, by decide⟩, _, rfl, _, _, rfl, rfl, m0, ?_⟩
      exact k _ _ (Int.emod_nonneg _ (by omega)) (Int.emod_lt_of_pos _ m0) ⟨b0, b1, b2 + 1, upd_same, h1, h2, by omega, by omega⟩ But.set
end
end T40

namespace T40
open PySem PySem.Spec PyProof.Rows L2 Pw Tr
theorem But.none_of {p q : Addr} {H H' : Hp} (B : But p H H') (n : H' q = none) (hq : q ≠ p) : H q = none := by
  cases z : H q with
  | none => rfl
  | some o => rw [B.at hq z] at n; cases n
section
variable {P : Program} {w : World} {K : PySem.W.Frag} {mg : Str → Option Value} {base : Heap}
def spHis (K : PySem.W.Frag) : Sp := fun vs H Q _ => ∃ p m n, vs = [.ref p, .int m] ∧ 0 ≤ m ∧ m ≤ 20 ∧ BoxAt H p n ∧ n ≤ 900000 ∧
  ∀ a H' rs, a ≠ p → BoxAt H' p (n + 200) → But p H H' → LT f3 (wo H' p) a rs → GoodH rs → (rs.length : Int) ≤ m → Q (.ref a) H'
theorem d_his (T : Txt mg) (A : At K mg "_law_history" sLawHistory) (dt : Def P w K mg base "_law_take" 1 ["_law_box_here", "_law_many"] (spTake K)) :
    Def P w K mg base "_law_history" 2 ["_law_box_here", "_law_many"] (spHis K) := by
  refine mkDef A scLawHistory (fun _ _ _ _ _ _ us hl => match us, hl with | [_, _], _ => rfl) (fun vs H Q E ⟨_, _, _, e, _⟩ => by rw [e]; rfl)
    (fun f cdv A out s H vs Q E hr h => ?_)
  obtain ⟨p, m, n, rfl, m0, m1, hb, hn, k⟩ := h
  refine ⟨_, (pss_cons (ps_set (i := 2) scLawHistory.nd rfl (.inl rfl) (pe_ix ix_list (pe_lst (pa_cons pe_int (pa_cons (pe_d dt hr (by decide) (by rfl) (pa_cons (pv 0) (pa_cons pe_int pa_nil))) (pa_cons (pe_d dt hr (by decide) (by rfl) (pa_cons (pv 0) (pa_cons pe_int pa_nil))) pa_nil)))) (pe_d dt hr (by decide) (by rfl) (pa_cons (pv 0) (pa_cons pe_int pa_nil))) (fun _ _ => rfl)))
    (pss_cons (ps_set (i := 3) scLawHistory.nd rfl (.inl rfl) (pe_lst pa_nil))
    (pss_cons (ps_for PassesOwn.never rfl (pi_range1 (by rfl) T.range (pa_cons (pv 1) pa_nil)) (pg_name (i := 4) scLawHistory.nd rfl (.inl rfl))
      (pss_cons (ps_set (i := 5) scLawHistory.nd rfl (.inl rfl) (pe_ix ix_list (pe_lst (pa_cons pe_int (pa_cons pe_int (pa_cons (pe_d dt hr (by decide) (by rfl) (pa_cons (pv 0) (pa_cons pe_int pa_nil))) pa_nil)))) (pe_d dt hr (by decide) (by rfl) (pa_cons (pv 0) (pa_cons pe_int pa_nil))) (fun _ _ => rfl)))
      (pss_cons (ps_if (pt_cmpR op_le (pv 2) pe_int (nomark _))
        (pss_one (ps_expr (pe_bm PySem.F.plainAttrs_list PySem.F.slot_list_append PySem.F.type_list_append mt_append (pv 3) (pa_cons (pe_tup (pa_cons (pv 2) (pa_cons (pv 5) (pa_cons (pe_ix ix_list (pe_lst (pa_cons pe_str (pa_cons pe_str (pa_cons pe_str pa_nil)))) (pe_d dt hr (by decide) (by rfl) (pa_cons (pv 0) (pa_cons pe_int pa_nil))) (fun _ _ => rfl)) pa_nil)))) pa_nil))))
        pss_nil)
      (pss_one (ps_set (i := 2) scLawHistory.nd rfl (.inl rfl) (pe_op op_add (pe_op op_add (pv 2) pe_int) (pe_ix ix_list (pe_lst (pa_cons pe_int (pa_cons pe_int (pa_cons pe_int (pa_cons pe_int (pa_cons (pe_d dt hr (by decide) (by rfl) (pa_cons (pv 0) (pa_cons pe_int pa_nil))) pa_nil)))))) (pe_d dt hr (by decide) (by rfl) (pa_cons (pv 0) (pa_cons pe_int pa_nil))) (fun _ _ => rfl))))))))
    (pss_one (ps_ret (pv 3)))))), ?_⟩
  refine ⟨_, rfl, p, 60, n, rfl, hb, by omega, by decide, by decide, fun i1 H1 a1 b1 hb1 B1 => ?_⟩
  refine ⟨_, rfl, p, 9900, n + 1, rfl, hb1, by omega, by decide, by decide, fun i2 H2 a2 b2 hb2 B2 => ?_⟩
  refine ⟨by show 3 ≤ sizeLine; decide, fun L nL => ?_⟩
  have LP := hb2.ne nL
  refine ⟨_, rfl, p, 3, n + 2, rfl, hb2.laid nL, by omega, by decide, by decide, fun i3 H3 a3 b3 hb3 B3 => ?_⟩
  obtain ⟨t0, ht0, at0⟩ := menu (xs := [V.int 0, .int i1, .int i2]) a3 (by simpa using b3)
  have eL : H3 L = some (.lst [V.int 0, .int i1, .int i2]) := B3.at LP upd_same
  have BH3 : But p H H3 := B1.trans (B2.trans ((But.laid nL).trans B3))
  refine ⟨L, _, i3, t0, rfl, rfl, SqL.of eL, at0, ?_⟩
  have ht1 : ∃ t : Int, t0 = .int t ∧ 0 ≤ t := by
    simp only [List.mem_cons, List.not_mem_nil, or_false] at ht0
    rcases ht0 with rfl | rfl | rfl
    · exact ⟨0, rfl, by decide⟩
    · exact ⟨i1, rfl, a1⟩
    · exact ⟨i2, rfl, a2⟩
  obtain ⟨t, rfl, t_0⟩ := ht1
  refine ⟨by show 0 ≤ sizeLine; decide, fun R nR => ?_⟩
  have RP := hb3.ne nR
  have RH : H R = none := But.none_of BH3 nR RP
  refine ⟨_, rfl, m, rfl, by omega, by omega, ?_⟩
  refine for_range (n := m.toNat) (fun i σ G => ∃ (t : Int) (v4 v5 : Option V) (ws : List V) (rs : List R3),
    σ = [some (.ref p), some (.int m), some (.int t), some (.ref R), v4, v5] ∧ 0 ≤ t ∧ BoxAt G p (n + 3 + 5 * i) ∧ But p H G ∧ G R = some (.lst ws) ∧
    Al f3 (wo (wo G p) R) ws rs ∧ (∀ r ∈ rs, GoodR r ∧ r.1 < t) ∧ rs.Pairwise (fun a b => a.1 < b.1) ∧ rs.length ≤ i) ?_ ?_ ?_
  · exact ⟨t, none, none, [], [], rfl, t_0, hb3.laid nR, BH3.trans (But.laid nR), upd_same, .nil, (fun _ z => by cases z), .nil, Nat.le_refl _⟩
  · rintro i σ G hi ⟨t, v4, v5, ws, rs, rfl, t_0, hb, BG, eR, hA, hg, hp, hl⟩
    have hi' : (i : Int) < m := by omega
    refine ⟨_, rfl, p, 64, _, rfl, hb, by omega, by decide, by decide, fun i1 H1 a1 b1 hb1 B1 => ?_⟩
    refine ⟨by show 3 ≤ sizeLine; decide, fun L1 nL1 => ?_⟩
    have LP1 := hb1.ne nL1
    refine ⟨_, rfl, p, 3, _, rfl, hb1.laid nL1, by omega, by decide, by decide, fun i2 H2 a2 b2 hb2 B2 => ?_⟩
    obtain ⟨w0, hw0, atw⟩ := menu (xs := [V.int 0, .int 63, .int i1]) a2 (by simpa using b2)
    have eL1 : H2 L1 = some (.lst [V.int 0, .int 63, .int i1]) := B2.at LP1 upd_same
    refine ⟨L1, _, i2, w0, rfl, rfl, SqL.of eL1, atw, ?_⟩
    have hw1 : ∃ x : Int, w0 = .int x ∧ 0 ≤ x ∧ x ≤ 63 := by
      simp only [List.mem_cons, List.not_mem_nil, or_false] at hw0
      rcases hw0 with rfl | rfl | rfl
      · exact ⟨0, rfl, by decide, by decide⟩
      · exact ⟨63, rfl, by decide, by decide⟩
      · exact ⟨i1, rfl, a1, by omega⟩
    obtain ⟨x, rfl, x0, x1⟩ := hw1
    have BG2 : But p G H2 := B1.trans ((But.laid nL1).trans B2)
    have eR2 := BG2.at RP eR
    refine ⟨_, rfl, t, 9999, rfl, rfl, _, rfl, ?_⟩
    -- what follows
    have aft : ∀ (G2 : Hp) (N : L2.St → Hp → Prop) (ws2 : List V) (rs2 : List R3), BoxAt G2 p (n + 3 + 5 * i + 3) → But p H G2 → G2 R = some (.lst ws2) →
        Al f3 (wo (wo G2 p) R) ws2 rs2 → (∀ r ∈ rs2, GoodR r ∧ r.1 < t + 1) → rs2.Pairwise (fun a b => a.1 < b.1) → rs2.length ≤ i + 1 → 
        ∀ (Qc : VK), (∀ y G3, 0 ≤ y → BoxAt G3 p (n + 3 + 5 * (i + 1)) → But p H G3 → G3 R = some (.lst ws2) → Al f3 (wo (wo G3 p) R) ws2 rs2 → Qc (.int y) G3) →
        (tOp (rIxL K) (tLst (tCons (tC (.int 0)) (tCons (tC (.int 0)) (tCons (tC (.int 1)) (tCons (tC (.int 6)) (tCons (tCall (spTake K) [] E0 (tCons (tVar 0) (tCons (tC (.int 40)) tNil))) tNil))))))
          (tCall (spTake K) [] E0 (tCons (tVar 0) (tCons (tC (.int 5)) tNil)))) [some (.ref p), some (.int m), some (.int t), some (.ref R), some (.int (0 + (i : Int))), some (.int x)] G2 Qc := by
      intro G2 N ws2 rs2 hbx BHG e2 hA2 _ _ _ Qc hq
      refine ⟨_, rfl, p, 40, _, rfl, hbx, by omega, by decide, by decide, fun j1 G3 c1 d1 hc1 C1 => ?_⟩
      refine ⟨by show 5 ≤ sizeLine; decide, fun L2 nL2 => ?_⟩
      have LP2 := hc1.ne nL2
      refine ⟨_, rfl, p, 5, _, rfl, hc1.laid nL2, by omega, by decide, by decide, fun j2 G4 c2 d2 hc2 C2 => ?_⟩
      obtain ⟨y0, hy0, aty⟩ := menu (xs := [V.int 0, .int 0, .int 1, .int 6, .int j1]) c2 (by simpa using d2)
      have eL2 : G4 L2 = some (.lst [V.int 0, .int 0, .int 1, .int 6, .int j1]) := C2.at LP2 upd_same
      have hy1 : ∃ y : Int, y0 = .int y ∧ 0 ≤ y := by
        simp only [List.mem_cons, List.not_mem_nil, or_false] at hy0
        rcases hy0 with rfl | rfl | rfl | rfl | rfl
        · exact ⟨0, rfl, by decide⟩
        · exact ⟨0, rfl, by decide⟩
        · exact ⟨1, rfl, by decide⟩
        · exact ⟨6, rfl, by decide⟩
        · exact ⟨j1, rfl, c1⟩
      obtain ⟨y, rfl, y0'⟩ := hy1
      have B24 : But p G2 G4 := C1.trans ((But.laid nL2).trans C2)
      refine ⟨L2, _, j2, .int y, rfl, rfl, SqL.of eL2, aty, hq y G4 y0' (hc2.up (by omega)) (BHG.trans B24) (B24.at RP e2) (hA2.same (Pw.Same.wo B24))⟩
    by_cases hle : t ≤ 9999
    · rw [decide_eq_true hle]
      refine iteT ?_
      refine ⟨_, rfl, .inl ⟨rfl, _, SqL.of eR2⟩, _, rfl, _, rfl, by show 3 ≤ sizeLine; decide, fun L2 nL2 => ?_⟩
      have LP2 := hb2.ne nL2
      refine ⟨_, rfl, p, 3, _, rfl, hb2.laid nL2, by omega, by decide, by decide, fun i3 H3 a3 b3 hb3 B3 => ?_⟩
      obtain ⟨s0, hs0, ats⟩ := menu (xs := [V.str "good", .str "odd", .str "good"]) a3 (by simpa using b3)
      have eL2 : H3 L2 = some (.lst [V.str "good", .str "odd", .str "good"]) := B3.at LP2 upd_same
      refine ⟨L2, _, i3, s0, rfl, rfl, SqL.of eL2, ats, ?_⟩
      have hs1 : ∃ x : Str, s0 = .str x ∧ (x = "good" ∨ x = "odd") := by
        simp only [List.mem_cons, List.not_mem_nil, or_false] at hs0
        rcases hs0 with rfl | rfl | rfl
        · exact ⟨_, rfl, .inl rfl⟩
        · exact ⟨_, rfl, .inr rfl⟩
        · exact ⟨_, rfl, .inl rfl⟩
      obtain ⟨sx, rfl, hsx⟩ := hs1
      have BG3 : But p G H3 := BG2.trans ((But.laid nL2).trans B3)
      have eR3 := BG3.at RP eR
      refine ⟨by show 3 ≤ sizeLine; decide, fun q nq => ?_⟩
      have qP := hb3.ne nq
      have qR : q ≠ R := fun z => by rw [z, eR3] at nq; cases nq
      refine ⟨R, ws, .ref q, rfl, rfl, (upd_ne (Ne.symm qR)).trans eR3, ?_, ?_⟩
      · have := hA.length
        exact Nat.lt_of_le_of_lt (show ws.length ≤ 1000 by omega) (by decide)
      · have hb4 : BoxAt (upd (upd H3 q (.tup [.int t, .int x, .str sx])) R (.lst (ws ++ [.ref q]))) p (n + 3 + 5 * i + 3) := by
          obtain ⟨c0, c1, c2, e, r⟩ := hb3
          refine ⟨c0, c1, c2, (upd_ne (Ne.symm RP)).trans ((upd_ne (Ne.symm qP)).trans e), r.1, r.2.1, r.2.2.1, by omega⟩
        have BH : But p H (upd (upd H3 q (.tup [.int t, .int x, .str sx])) R (.lst (ws ++ [.ref q]))) := by
          refine But.of fun b o nb eb => ?_
          have e3 := (BG.trans BG3).at nb eb
          exact (upd_ne (ne_of_none eb RH)).trans ((upd_ne (ne_of_none e3 nq)).trans e3)
        have hA4 : Al f3 (wo (wo (upd (upd H3 q (.tup [.int t, .int x, .str sx])) R (.lst (ws ++ [.ref q]))) p) R) (ws ++ [.ref q]) (rs ++ [(t, x, sx)]) := by
          refine Al.snoc (hA.imp fun b xs eb => ?_) ?_
          · obtain ⟨n1, eb1⟩ := wo_at eb
            obtain ⟨n2, eb2⟩ := wo_at eb1
            have e3 := BG3.at n2 eb2
            exact wo_of n1 (wo_of n2 ((upd_ne n1).trans ((upd_ne (ne_of_none e3 nq)).trans e3)))
          · exact wo_of qR (wo_of qP ((upd_ne qR).trans upd_same))
        have hg4 : ∀ r ∈ rs ++ [(t, x, sx)], GoodR r ∧ r.1 < t + 1 := by
          intro r hr
          rcases List.mem_append.mp hr with h | h
          · have := (hg r h).2
            exact ⟨(hg r h).1, by omega⟩
          · simp only [List.mem_singleton] at h
            subst h
            exact ⟨⟨t_0, hle, x0, x1, hsx⟩, by show t < t + 1; omega⟩
        have hp4 : (rs ++ [(t, x, sx)]).Pairwise (fun a b => a.1 < b.1) := by
          refine List.pairwise_append.mpr ⟨hp, by simp, fun a ha b hb => ?_⟩
          simp only [List.mem_singleton] at hb
          subst hb
          exact (hg a ha).2
        have hl4 : (rs ++ [(t, x, sx)]).length ≤ i + 1 := by rw [List.length_append, List.length_singleton]; omega
        refine ⟨_, rfl, _, _, rfl, rfl, aft _ (fun _ _ => True) _ _ hb4 BH upd_same hA4 hg4 hp4 hl4 _ fun y G3 y0 hb5 BH5 e5 hA5 => ?_⟩
        refine ⟨_, _, rfl, rfl, t + 1 + y, _, _, _, _, rfl, by omega, hb5, BH5, e5, hA5, fun r hr => ⟨(hg4 r hr).1, ?_⟩, hp4, hl4⟩
        have := (hg4 r hr).2
        omega
    · rw [decide_eq_false hle]
      refine iteF ?_
      have hA2 : Al f3 (wo (wo H2 p) R) ws rs := hA.same (Pw.Same.wo BG2)
      have hg2 : ∀ r ∈ rs, GoodR r ∧ r.1 < t + 1 := fun r hr => ⟨(hg r hr).1, by have := (hg r hr).2; omega⟩
      refine ⟨_, rfl, _, _, rfl, rfl, aft _ (fun _ _ => True) _ _ (hb2.up (by omega)) (BG.trans BG2) eR2 hA2 hg2 hp (by omega) _ fun y G3 y0 hb5 BH5 e5 hA5 => ?_⟩
      refine ⟨_, _, rfl, rfl, t + 1 + y, _, _, _, _, rfl, by omega, hb5, BH5, e5, hA5, fun r hr => ⟨(hg2 r hr).1, ?_⟩, hp, by omega⟩
      have := (hg2 r hr).2
      omega
  · rintro σ G ⟨t, v4, v5, ws, rs, rfl, t_0, hb, BG, eR, hA, hg, hp, hl⟩
    refine ⟨_, rfl, k R G rs RP (hb.up (by omega)) BG ⟨ws, wo_of RP eR, hA.same wo_same⟩ ⟨fun r hr => (hg r hr).1, hp, by omega⟩ (by omega)⟩
end
end T40

namespace T40
open PySem PySem.Spec PyProof.Rows L2 Pw Tr
def g3 (r : R3) : List PyData := [.int r.1, .int r.2.1, .str r.2.2]
def g2 (r : Int × Int) : List PyData := [.int r.1, .int r.2]
def g5 (g : G5) : List PyData := [.int g.k, .int g.n, .int g.s, .int g.lo, .int g.hi]
def okM (r : R3) : Prop := r.2.2 = "good" ∨ r.2.2 = "odd"
theorem D3 : Dat f3 g3 okM := by
  refine ⟨fun K H r => .cons (.int _) (.cons (.int _) (.cons (.str _) .nil)), fun r h => ?_, fun r => ?_⟩
  · have : PyData.strOk r.2.2 = true := by rcases h with h | h <;> rw [h] <;> decide +kernel
    simp only [g3, PyData.canLayAll0, PyData.canLay0, this, Bool.and_self]
  · simp only [g3, PyData.depthAll, PyData.depth, Nat.max_self]
theorem D2 : Dat f2 g2 fun _ => True := by
  refine ⟨fun K H r => .cons (.int _) (.cons (.int _) .nil), fun r _ => ?_, fun r => ?_⟩
  · simp only [g2, PyData.canLayAll0, PyData.canLay0, Bool.and_self]
  · simp only [g2, PyData.depthAll, PyData.depth, Nat.max_self]
theorem D5 : Dat f5 g5 fun _ => True := by
  refine ⟨fun K H r => .cons (.int _) (.cons (.int _) (.cons (.int _) (.cons (.int _) (.cons (.int _) .nil)))), fun r _ => ?_, fun r => ?_⟩
  · simp only [g5, PyData.canLayAll0, PyData.canLay0, Bool.and_self]
  · simp only [g5, PyData.depthAll, PyData.depth, Nat.max_self]
theorem GoodH.ok {rs : List R3} (h : GoodH rs) : ∀ r ∈ rs, okM r := fun r hr => (h.all r hr).m
section
variable {P : Program} {w : World} {K : PySem.W.Frag} {mg : Str → Option Value} {base : Heap}
def spWdw (K : PySem.W.Frag) : Sp := fun vs H Q _ => ∃ p a n rs, vs = [.ref p, .ref a] ∧ BoxAt H p n ∧ n ≤ 900000 ∧ a ≠ p ∧ LT f3 (wo H p) a rs ∧ GoodH rs ∧
  ∀ q H' s t, q ≠ p → BoxAt H' p (n + 200) → But p H H' → H' q = some (.tup [.int s, .int t]) → (0 ≤ s ∧ s ≤ 9999) → (0 ≤ t ∧ t ≤ 9999) → t - s ≤ 90 → Q (.ref q) H'
theorem d_wdw (T : Txt mg) (A : At K mg "_law_window" sLawWindow) (dt : Def P w K mg base "_law_take" 1 ["_law_box_here", "_law_many"] (spTake K)) :
    Def P w K mg base "_law_window" 2 ["_law_box_here", "_law_rows"] (spWdw K) := by
  refine mkDef A scLawWindow (fun _ _ _ _ _ _ us hl => match us, hl with | [_, _], _ => rfl) (fun vs H Q E ⟨_, _, _, _, e, _⟩ => by rw [e]; rfl)
    (fun f cdv A out s H vs Q E hr h => ?_)
  obtain ⟨p, a, n, rs, rfl, hb, hn, hap, hL, hg, k⟩ := h
  refine ⟨_, (pss_cons (ps_set (i := 2) scLawWindow.nd rfl (.inl rfl) (pe_ifExp (pt_cmpR (op_neD hr.units) (pv 1) (pe_lst pa_nil) (nomark _)) (pe_ix ix_tup (pe_ix ix_list (pv 1) (pe_d dt hr (by decide) (by rfl) (pa_cons (pv 0) (pa_cons (pe_callB call_len_seq (by rfl) T.len PySem.boot_len (pa_cons (pv 1) pa_nil)) pa_nil))) (fun _ _ => rfl)) pe_int (fun _ _ => rfl)) pe_int))
    (pss_cons (ps_set (i := 3) scLawWindow.nd rfl (.inl rfl) (pe_callB (call_max2 rfl) (by rfl) T.max PyProof.Rows.boot_max (pa_cons pe_int (pa_cons (pe_op op_sub (pv 2) (pe_d dt hr (by decide) (by rfl) (pa_cons (pv 0) (pa_cons pe_int pa_nil)))) pa_nil))))
    (pss_cons (ps_set (i := 4) scLawWindow.nd rfl (.inl rfl) (pe_callB (call_min2 rfl) (by rfl) T.min PyProof.Rows.boot_min (pa_cons pe_int (pa_cons (pe_op op_add (pv 3) (pe_ix ix_list (pe_lst (pa_cons pe_int (pa_cons pe_int (pa_cons pe_int (pa_cons pe_int (pa_cons (pe_d dt hr (by decide) (by rfl) (pa_cons (pv 0) (pa_cons pe_int pa_nil))) pa_nil)))))) (pe_d dt hr (by decide) (by rfl) (pa_cons (pv 0) (pa_cons pe_int pa_nil))) (fun _ _ => rfl))) pa_nil))))
    (pss_one (ps_ret (pe_tup (pa_cons (pv 3) (pa_cons (pe_callB (call_max2 rfl) (by rfl) T.max PyProof.Rows.boot_max (pa_cons pe_int (pa_cons (pe_op op_sub (pv 4) (pe_ix ix_list (pe_lst (pa_cons pe_int (pa_cons pe_int (pa_cons pe_int (pa_cons pe_int pa_nil))))) (pe_d dt hr (by decide) (by rfl) (pa_cons (pv 0) (pa_cons pe_int pa_nil))) (fun _ _ => rfl))) pa_nil))) pa_nil)))))))), ?_⟩
  refine ⟨_, rfl, by show 0 ≤ sizeLine; decide, fun L0 nL0 => ?_⟩
  have hL' : LT f3 H a rs := hL.same wo_same
  refine ne_empty D3 hg.ok (hL'.same (Same.laid nL0)) upd_same ?_
  refine ⟨_, rfl, ?_⟩
  have LP0 := hb.ne nL0
  -- what follows
  have aft : ∀ (Qc : VK), (∀ b G, 0 ≤ b → b ≤ 9999 → BoxAt G p (n + 1) → But p H G → Qc (.int b) G) →
      (if (!rs.isEmpty) = true then
        tOp (rIxT K) (tOp (rIxL K) (tVar 1) (tCall (spTake K) [] E0 (tCons (tVar 0) (tCons (tCB (rLn K) (tCons (tVar 1) tNil)) tNil)))) (tC (.int 0)) (L2.start ["_law_box_here", "_law_rows", "_law_base", "_law_since", "_law_till"] [.ref p, .ref a]) (upd H L0 (.lst [])) Qc
       else tC (.int 5) (L2.start ["_law_box_here", "_law_rows", "_law_base", "_law_since", "_law_till"] [.ref p, .ref a]) (upd H L0 (.lst [])) Qc) := by
    intro Qc hq
    cases hrs : rs.isEmpty with
    | true => exact iteF (hq 5 _ (by decide) (by decide) ((hb.laid nL0).up (Nat.le_succ _)) (But.laid nL0))
    | false =>
      refine iteT ?_
      obtain ⟨vs, eL, al⟩ := hL.ex
      have eL2 := (wo_at eL).2
      have hlen := al.length
      have hpos : 0 < rs.length := by
        cases rs with
        | nil => cases hrs
        | cons _ _ => exact Nat.succ_pos _
      have hln := hg.len
      have eL3 : upd H L0 (.lst []) a = some (.lst vs) := Same.laid nL0 _ _ eL2
      refine ⟨_, rfl, _, rfl, _, rfl, a, vs, rfl, .inl (SqL.of eL3), p, (vs.length : Int), n, rfl, hb.laid nL0, by omega, by omega, by omega, fun i G i0 i1 hb1 B1 => ?_⟩
      obtain ⟨j, rfl⟩ := Int.eq_ofNat_of_zero_le i0
      have hj : j < vs.length := by omega
      have BG : But p H G := (But.laid nL0).trans B1
      obtain ⟨q, r, ev, er, ep⟩ := (al.same BG).get (List.getElem?_eq_getElem hj)
      have ai : atI vs (j : Int) = some (.ref q) := atI_nat (by rw [List.getElem?_eq_getElem hj, ev])
      have hgr := hg.all r (List.mem_of_getElem? er)
      exact ⟨a, vs, (j : Int), .ref q, rfl, rfl, SqL.of (B1.at hap eL3), ai, q, f3 r, 0, .int r.1, rfl, rfl, SqT.of (wo_at ep).2, rfl, hq r.1 G hgr.t0 hgr.t1 hb1 BG⟩
  refine aft _ fun b G b0 b1 hb1 BG => ?_
  refine ⟨_, rfl, _, rfl, p, 30, _, rfl, hb1, by omega, by decide, by decide, fun i1 H1 a1 c1 hc1 B1 => ?_⟩
  refine ⟨b, i1, rfl, rfl, 0, b - i1, rfl, ?_⟩
  generalize hs : (if b - i1 > 0 then b - i1 else 0) = si
  have s0 : 0 ≤ si ∧ si ≤ 9999 := by rw [← hs]; split <;> omega
  refine ⟨_, rfl, _, rfl, p, 90, _, rfl, hc1, by omega, by decide, by decide, fun i2 H2 a2 c2 hc2 B2 => ?_⟩
  refine ⟨by show 5 ≤ sizeLine; decide, fun L1 nL1 => ?_⟩
  have LP1 := hc2.ne nL1
  refine ⟨_, rfl, p, 5, _, rfl, hc2.laid nL1, by omega, by decide, by decide, fun i3 H3 a3 c3 hc3 B3 => ?_⟩
  obtain ⟨y0, hy0, aty⟩ := menu (xs := [V.int 0, .int 1, .int 20, .int 60, .int i2]) a3 (by simpa using c3)
  have hy1 : ∃ y : Int, y0 = .int y ∧ 0 ≤ y ∧ y ≤ 90 := by
    simp only [List.mem_cons, List.not_mem_nil, or_false] at hy0
    rcases hy0 with rfl | rfl | rfl | rfl | rfl
    · exact ⟨0, rfl, by decide, by decide⟩
    · exact ⟨1, rfl, by decide, by decide⟩
    · exact ⟨20, rfl, by decide, by decide⟩
    · exact ⟨60, rfl, by decide, by decide⟩
    · exact ⟨i2, rfl, a2, by omega⟩
  obtain ⟨y, rfl, y0', y1'⟩ := hy1
  refine ⟨L1, _, i3, .int y, rfl, rfl, SqL.of (B3.at LP1 upd_same), aty, si, y, rfl, rfl, 9999, si + y, rfl, ?_⟩
  generalize ht : (if si + y < 9999 then si + y else 9999) = ti
  have t0 : 0 ≤ ti ∧ ti ≤ 9999 ∧ ti ≤ si + 90 := by rw [← ht]; split <;> omega
  refine ⟨_, rfl, _, rfl, by show 4 ≤ sizeLine; decide, fun L2 nL2 => ?_⟩
  have LP2 := hc3.ne nL2
  refine ⟨_, rfl, p, 4, _, rfl, hc3.laid nL2, by omega, by decide, by decide, fun i4 H4 a4 c4 hc4 B4 => ?_⟩
  obtain ⟨z0, hz0, atz⟩ := menu (xs := [V.int 0, .int 0, .int 0, .int 30]) a4 (by simpa using c4)
  have hz1 : ∃ z : Int, z0 = .int z ∧ 0 ≤ z := by
    simp only [List.mem_cons, List.not_mem_nil, or_false] at hz0
    rcases hz0 with rfl | rfl | rfl | rfl
    · exact ⟨0, rfl, by decide⟩
    · exact ⟨0, rfl, by decide⟩
    · exact ⟨0, rfl, by decide⟩
    · exact ⟨30, rfl, by decide⟩
  obtain ⟨z, rfl, z0'⟩ := hz1
  refine ⟨L2, _, i4, .int z, rfl, rfl, SqL.of (B4.at LP2 upd_same), atz, ti, z, rfl, rfl, 0, ti - z, rfl, ?_⟩
  generalize hu : (if ti - z > 0 then ti - z else 0) = ui
  have u0 : 0 ≤ ui ∧ ui ≤ ti := by rw [← hu]; split <;> omega
  refine ⟨by show 2 ≤ sizeLine; decide, fun q nq => ?_⟩
  have qP := hc4.ne nq
  refine k q _ si ui qP ((hc4.laid nq).up (by omega)) ?_ upd_same s0 ⟨u0.1, by omega⟩ (by omega)
  exact BG.trans (B1.trans (B2.trans ((But.laid nL1).trans (B3.trans ((But.laid nL2).trans (B4.trans (But.laid nq)))))))
end
end T40

namespace T40
open PySem PySem.Spec PyProof.Rows L2 Pw Tr
theorem filter_while : ∀ {l : List (Int × Int)} {t : Int}, Rise l → l.filter (fun r => decide (r.1 ≤ t)) = l.takeWhile fun r => decide (r.1 ≤ t)
  | [], t, _ => rfl
  | r :: l, t, h => by
    have hp := List.pairwise_cons.mp h
    rw [List.filter_cons, List.takeWhile_cons]
    by_cases c : r.1 ≤ t
    · rw [decide_eq_true c, if_pos rfl, if_pos rfl, filter_while hp.2]
    · rw [decide_eq_false c, if_neg (by decide), if_neg (by decide)]
      refine List.filter_eq_nil_iff.mpr fun x hx => ?_
      have := hp.1 x hx
      simp only [decide_eq_true_eq]
      omega
theorem pr_rise {rs : List R3} (h : rs.Pairwise fun a b => a.1 < b.1) : Rise (pr rs) := List.pairwise_map.mpr h
theorem goods_rise {rs : List R3} (h : rs.Pairwise fun a b => a.1 < b.1) : (goods rs).Pairwise fun a b => a.1 < b.1 := h.sublist List.filter_sublist
theorem eqv0 (ns : List Int) : PyData.eqv (.list (ns.map .int)) (.list []) = ns.isEmpty := by
  cases ns <;> simp [PyData.eqv, PyData.eqvAll]
theorem ne_ints0 {K : PySem.W.Frag} {H : Hp} {Q : VK} {a b : Addr} {ns : List Int} (h : H a = some (.lst (ns.map V.int))) (k : H b = some (.lst [])) (q : Q (.bl !ns.isEmpty) H) :
    rNeD K (.ref a) (.ref b) H Q :=
  ⟨_, .list [], .lst (SqL.of h) (dp_ints ns), .lst (xs := []) (SqL.of k) .nil, shaped_ints ns, rfl, by rw [eqv0]; exact q⟩
section
variable {P : Program} {w : World} {K : PySem.W.Frag} {mg : Str → Option Value} {base : Heap}
theorem b2_fine : ∀ (kV doc pm : Value) (an : Option Addr) (cdv ct : Value) (us ws : List Value), us.length = 3 → ws.length = [("odd" : Str)].length →
      bindArgs (PySem.W.fnOf "fine" "fine" (defArgs sFine) (defBody sFine) (defScope sFine) .none kV doc pm an cdv ct) ⟨us, [("odd" : Str)].zip ws⟩ = pure ((["history", "since", "till", "odd"] : List Str).zip (us ++ ws)) :=
  fun kV doc pm an cdv ct us ws h1 h2 => match us, ws, h1, h2 with | [_, _, _], [_], _, _ => rfl
theorem d_fineK (A : AtD K mg "fine" sFine [("odd", .bl true)]) (dh : Def P w K mg base "check_history" 7 ["thing"] spHistC)
    (dw : Def P w K mg base "_check_window" 6 ["since", "till", "odd"] spWin) (df : Def P w K mg base "_fine_rows" 2 ["history", "since", "till", "odd"] spFineR) :
    DefK P w K mg base "fine" 8 ["history", "since", "till", "odd"] 3 ["odd"] (fun us ws => us ++ ws) spFine := by
  refine mkDefK (n := 3) (ks := ["odd"]) (g := fun us ws => us ++ ws) A scFine b2_fine (fun h1 h2 => h1.append h2) (fun vs H Q E ⟨_, _, _, _, _, e, _⟩ => by rw [e]; rfl)
    (fun f cdv A out s H vs Q E hr h => ?_)
  obtain ⟨a, rs, lo, hi, o, rfl, hL, hg, hlo, hhi, hw, k⟩ := h
  refine ⟨_, (pss_cons (ps_expr (pe_d dh hr (by decide) (by rfl) (pa_cons (pv 0) pa_nil)))
    (pss_cons (ps_expr (pe_d dw hr (by decide) (by rfl) (pa_cons (pv 1) (pa_cons (pv 2) (pa_cons (pv 3) pa_nil)))))
    (pss_one (ps_ret (pe_d df hr (by decide) (by rfl) (pa_cons (pv 0) (pa_cons (pv 1) (pa_cons (pv 2) (pa_cons (pv 3) pa_nil))))))))), ?_⟩
  refine ⟨_, rfl, a, rs, rfl, hL.imp id And.left, hg, fun H1 S1 => ?_⟩
  refine ⟨_, rfl, _, rfl, _, rfl, lo, hi, o, rfl, hlo, hhi, hw, ?_⟩
  exact ⟨_, rfl, _, rfl, _, rfl, _, rfl, a, rs, lo, hi, o, rfl, hL.imp (fun z => z.same S1) (fun z => ⟨z.1.same S1, z.2⟩), hg.len, ⟨hlo.1, by omega⟩, ⟨hhi.1, by omega⟩, by omega,
    fun b H' S hb h => k b H' (S1.trans S) (Same.no S1 hb) h⟩

def spLFine : Sp := fun vs H Q _ => ∃ (a : Addr) (rs : List R3) (lo hi : Int) (o : Bool), vs = [.ref a, .int lo, .int hi, .bl o] ∧ LT f3 H a rs ∧ rs.length ≤ 1000 ∧ rs.Pairwise (fun a b => a.1 < b.1) ∧
  (0 ≤ lo ∧ lo ≤ 10000) ∧ (0 ≤ hi ∧ hi ≤ 10000) ∧ hi - lo ≤ 2000 ∧
  ∀ b H', Same H H' → H b = none → LT f2 H' b (fineM (pr (if o = true then rs else goods rs)) lo (hi + 1 - lo).toNat) → Q (.ref b) H'
theorem d_lfine (T : Txt mg) (A : At K mg "_law_fine" sLawFine) : Def P w K mg base "_law_fine" 1 ["_law_rows", "_law_since", "_law_till", "_law_all_count"] spLFine := by
  refine mkDef A scLawFine (fun _ _ _ _ _ _ us hl => match us, hl with | [_, _, _, _], _ => rfl) (fun vs H Q E ⟨_, _, _, _, _, e, _⟩ => by rw [e]; rfl)
    (fun f cdv A out s H vs Q E hr h => ?_)
  obtain ⟨a, rs, lo, hi, o, rfl, hL, hl, hri, hlo, hhi, hw, k⟩ := h
  refine ⟨_, (pss_cons (ps_setLc (i := 4) (own := [("_law_time", 8), ("_law_worth", 9), ("_law_mark", 10)]) (g := (gTup K 3 (gCons (gName 8) (gCons (gName 9) (gCons (gName 10) gNil))))) rfl scLawFine.nd rfl rfl (sw_true rfl rfl rfl (by decide +kernel)) (pi_list (pv 0))
        (blkOk_by (own := [("_law_time", 8), ("_law_worth", 9), ("_law_mark", 10)]) (N := ["_law_rows", "_law_since", "_law_till", "_law_all_count", "_law_known", "_law_found", "_law_tick", "_law_some", "_law_time", "_law_worth", "_law_mark"]) (sc := defScope sLawFine) (by decide +kernel))
        (fun _ _ _ _ _ => (pg_tup (by rfl) (pgs_cons (pg_name (i := 8) scLawFine.nd rfl (.inl rfl)) (pgs_cons (pg_name (i := 9) scLawFine.nd rfl (.inl rfl)) (pgs_cons (pg_name (i := 10) scLawFine.nd rfl (.inl rfl)) pgs_nil))))) (fun _ _ _ _ _ => (pts_one (PW.pt (pw_or (pt_val (pv 3)) (pw_or1 (pt_cmpR op_eq (pv 10) pe_str (nomark _)))))))
        (fun _ _ _ _ _ => (pe_tup (pa_cons (pv 8) (pa_cons (pv 9) pa_nil)))))
    (pss_cons (ps_set (i := 5) scLawFine.nd rfl (.inl rfl) (pe_lst pa_nil))
    (pss_cons (ps_for PassesOwn.never rfl (pi_range2 (by rfl) T.range (pa_cons (pv 1) (pa_cons (pe_op op_add (pv 2) pe_int) pa_nil))) (pg_name (i := 6) scLawFine.nd rfl (.inr rfl))
      (pss_cons (ps_setLc (i := 7) (own := [("_law_time", 8), ("_law_worth", 9)]) (g := (gTup K 2 (gCons (gName 8) (gCons (gName 9) gNil)))) rfl scLawFine.nd rfl rfl (sw_true rfl rfl rfl (by decide +kernel)) (pi_list (pv 4))
        (blkOk_by (own := [("_law_time", 8), ("_law_worth", 9)]) (N := ["_law_rows", "_law_since", "_law_till", "_law_all_count", "_law_known", "_law_found", "_law_tick", "_law_some", "_law_time", "_law_worth", "_law_mark"]) (sc := defScope sLawFine) (by decide +kernel))
        (fun _ _ _ _ _ => (pg_tup (by rfl) (pgs_cons (pg_name (i := 8) scLawFine.nd rfl (.inl rfl)) (pgs_cons (pg_name (i := 9) scLawFine.nd rfl (.inl rfl)) pgs_nil)))) (fun _ _ _ _ _ => (pts_one (pt_cmpR op_le (pv 8) (pv 6) (nomark _))))
        (fun _ _ _ _ _ => (pv 9)))
      (pss_one (ps_if (pt_cmpR (op_neD hr.units) (pv 7) (pe_lst pa_nil) (nomark _))
        (pss_one (ps_expr (pe_bm PySem.F.plainAttrs_list PySem.F.slot_list_append PySem.F.type_list_append mt_append (pv 5) (pa_cons (pe_tup (pa_cons (pv 6) (pa_cons (pe_ix ix_list (pv 7) (pe_un un_neg pe_int) (fun _ _ => rfl)) pa_nil))) pa_nil))))
        pss_nil))))
    (pss_one (ps_ret (pv 5)))))), ?_⟩
  obtain ⟨vs, eL, al⟩ := hL.ex
  refine ⟨_, rfl, a, rfl, ⟨_, SqL.of eL⟩, fun B hB => ?_⟩
  refine lc_acc (walk_list (K := K) (a := a) (xs := vs)) hB (by rw [al.length]; exact Nat.le_trans hl (by decide))
    (fun i acc H' => Al f2 H' acc (pr (if o = true then rs.take i else goods (rs.take i)))) (by cases o <;> exact .nil)
    (fun H' S => SqL.of (S _ _ eL)) ?_ ?_
  · rintro i v H2 H3 acc hi S2 eD hl2 hA ⟨rfl, hx⟩ Fy Fn hy1 hn1
    obtain ⟨p, r, rfl, hr', ep⟩ := (al.same S2).get hx
    have et : rs.take (i + 1) = rs.take i ++ [r] := by rw [List.take_add_one, hr']; rfl
    have pB : ∀ q, H3 q = none → q ≠ B := fun q nq z => by rw [z, eD] at nq; cases nq
    have yes : (pr (if o = true then rs.take (i + 1) else goods (rs.take (i + 1))) = pr (if o = true then rs.take i else goods (rs.take i)) ++ [(r.1, r.2.1)]) →
        ∀ q, H3 q = none → Fy (.ref q) (upd H3 q (.tup [.int r.1, .int r.2.1])) := fun e q nq => by
      refine hy1 _ _ (Same.laid nq) ?_
      rw [e]
      exact Al.snoc (hA.same (Pw.Same.wo (Same.laid nq))) (r := (r.1, r.2.1)) (wo_of (pB q nq) upd_same)
    refine ⟨p, f3 r, rfl, SqT.of ep, rfl, _, _, rfl, _, _, rfl, _, _, rfl, rfl, rfl, ?_⟩
    cases o with
    | true =>
      refine ⟨_, rfl, true, rfl, ?_⟩
      refine iteT ?_
      refine iteT ?_
      refine ⟨_, rfl, _, rfl, by show 2 ≤ sizeLine; decide, fun q nq => ?_⟩
      refine yes ?_ q nq
      unfold pr
      rw [if_pos rfl, if_pos rfl, et, List.map_append]
      rfl
    | false =>
      refine ⟨_, rfl, false, rfl, ?_⟩
      refine iteF ?_
      refine ⟨_, rfl, rfl, _, rfl, ?_⟩
      show if decide (V.str r.2.2 = V.str "good") = true then _ else _
      by_cases hm : r.2.2 = "good"
      · rw [decide_eq_true (congrArg V.str hm)]
        refine iteT ?_
        refine ⟨_, rfl, _, rfl, by show 2 ≤ sizeLine; decide, fun q nq => ?_⟩
        refine yes ?_ q nq
        unfold pr goods
        rw [if_neg (by decide), if_neg (by decide), et, List.filter_append, List.map_append, List.filter_cons, decide_eq_true hm]
        rfl
      · rw [decide_eq_false fun z => hm (V.str.inj z)]
        refine iteF ?_
        refine hn1 _ (Same.refl _) ?_
        have : goods (rs.take (i + 1)) = goods (rs.take i) := by
          unfold goods
          rw [et, List.filter_append, List.filter_cons, decide_eq_false hm]
          simp
        rw [if_neg (by decide)] at hA ⊢
        rw [this]
        exact hA
  · rintro H2 acc S2 eB hA
    rw [al.length] at hA
    have ets : (if o = true then rs.take rs.length else goods (rs.take rs.length)) = (if o = true then rs else goods rs) := by rw [List.take_length]
    rw [ets] at hA
    have hss : (if o = true then rs else goods rs).Pairwise fun a b => a.1 < b.1 := by
      cases o with
      | true => exact hri
      | false => exact goods_rise hri
    have hssl : (if o = true then rs else goods rs).length ≤ 1000 := by
      cases o with
      | true => exact hl
      | false => exact Nat.le_trans (List.length_filter_le _ _) hl
    generalize (if o = true then rs else goods rs) = ss at *
    have hrr := pr_rise hss
    have hprl : (pr ss).length ≤ 1000 := by unfold pr; rw [List.length_map]; exact hssl
    generalize hkn : pr ss = kn at *
    have alB : Al f2 H2 acc kn := hA.same wo_same
    refine ⟨by show 0 ≤ sizeLine; decide, fun R hR => ?_⟩
    refine ⟨_, rfl, _, rfl, _, _, rfl, rfl, lo, hi + 1, rfl, ⟨by omega, by omega, by omega, by omega⟩, ?_⟩
    refine for_range (lo := lo) (n := (hi + 1 - lo).toNat) (fun i σ G => ∃ (t6 t7 t8 t9 t10 : Option V) (ws : List V),
      σ = [some (.ref a), some (.int lo), some (.int hi), some (.bl o), some (.ref B), some (.ref R), t6, t7, t8, t9, t10] ∧
      Same H2 G ∧ G R = some (.lst ws) ∧ Al f2 (wo G R) ws (fineM kn lo i)) ?_ ?_ ?_
    · exact ⟨none, none, none, none, none, [], rfl, Same.laid hR, upd_same, .nil⟩
    · rintro i σ G hi' ⟨t6, t7, t8, t9, t10, ws, rfl, S3, eR, hW⟩
      have eB3 := S3 _ _ eB
      have al3 := alB.same S3
      refine ⟨_, rfl, B, rfl, ⟨_, SqL.of eB3⟩, fun D hD => ?_⟩
      refine lc_acc (walk_list (K := K) (a := B) (xs := acc)) hD (by rw [alB.length]; exact Nat.le_trans hprl (by decide))
        (fun j ac _ => ac = (((kn.take j).filter fun r => decide (r.1 ≤ lo + i)).map (·.2)).map V.int) rfl
        (fun H' S => SqL.of (S _ _ eB3)) ?_ ?_
      · rintro j v H4 H5 ac hj S4 eD hl4 rfl ⟨rfl, hx⟩ Fy Fn hy1 hn1
        obtain ⟨p, r, rfl, hr', ep⟩ := (al3.same S4).get hx
        have et : kn.take (j + 1) = kn.take j ++ [r] := by rw [List.take_add_one, hr']; rfl
        refine ⟨p, f2 r, rfl, SqT.of ep, rfl, _, _, rfl, _, _, rfl, rfl, rfl, ?_⟩
        refine ⟨_, rfl, _, rfl, r.1, lo + i, rfl, rfl, _, rfl, ?_⟩
        by_cases hle : r.1 ≤ lo + i
        · rw [decide_eq_true hle]
          refine iteT ⟨_, rfl, hy1 _ _ (Same.refl _) ?_⟩
          rw [et, List.filter_append, List.map_append, List.map_append, List.filter_cons, decide_eq_true hle]
          rfl
        · rw [decide_eq_false hle]
          refine iteF (hn1 _ (Same.refl _) ?_)
          rw [et, List.filter_append, List.filter_cons, decide_eq_false hle]
          simp
      · rintro H4 ac S4 eD rfl
        rw [alB.length, List.take_length, filter_while hrr] at eD
        have eR4 := S4 _ _ eR
        refine ⟨_, rfl, by show 0 ≤ sizeLine; decide, fun Z nZ => ?_⟩
        refine ne_ints0 (Same.laid nZ _ _ eD) upd_same ?_
        refine ⟨_, rfl, ?_⟩
        have eRZ : upd H4 Z (.lst []) R = some (.lst ws) := Same.laid nZ _ _ eR4
        have e1 : fineM kn lo (i + 1) = fineM kn lo i ++ (tickRow kn (lo + i)).toList := fineM_succ _ _ _
        have S0Z : Same H2 (upd H4 Z (.lst [])) := S3.trans (S4.trans (Same.laid nZ))
        have hWZ : Al f2 (wo (upd H4 Z (.lst [])) R) ws (fineM kn lo i) := hW.same (Pw.Same.wo (S4.trans (Same.laid nZ)))
        rcases snoc_cases (kn.takeWhile fun r => decide (r.1 ≤ lo + i)) with hz | ⟨l', x, hz⟩
        · have hL : lastW kn (lo + i) = none := by unfold lastW; rw [hz]; rfl
          rw [hz]
          refine iteF ?_
          refine ⟨_, _, _, _, _, ws, rfl, S0Z, eRZ, ?_⟩
          rw [e1]
          unfold tickRow
          rw [hL]
          simpa using hWZ
        · have hL : lastW kn (lo + i) = some x.2 := by unfold lastW; rw [hz, List.getLast?_concat]; rfl
          rw [hz] at eD ⊢
          have hne : (!((l' ++ [x]).map (·.2)).isEmpty) = true := by simp
          rw [hne]
          refine iteT ?_
          have ail : atI ((((l' ++ [x]).map (·.2)).map V.int)) (-1) = some (.int x.2) := by
            rw [List.map_append, List.map_append]
            exact atI_last _ _
          refine ⟨_, rfl, .inl ⟨rfl, _, SqL.of eRZ⟩, _, rfl, _, rfl, ⟨1, rfl, D, _, -1, .int x.2, rfl, rfl, SqL.of (Same.laid nZ _ _ eD), ail, by show 2 ≤ sizeLine; decide, fun q nq => ?_⟩⟩
          have hRq : q ≠ R := fun z => by rw [z, eRZ] at nq; cases nq
          have hlen : ws.length ≤ 2001 := by
            rw [hW.length]
            refine Nat.le_trans (fineM_len _ _ _) ?_
            omega
          refine ⟨R, ws, .ref q, rfl, rfl, (upd_ne (Ne.symm hRq)).trans eRZ, Nat.lt_of_le_of_lt hlen (by decide), ?_⟩
          refine ⟨_, _, _, _, _, ws ++ [.ref q], rfl, Same.wo_upd (S0Z.trans (Same.laid nq)) hR, upd_same, ?_⟩
          rw [wo_upd, e1]
          unfold tickRow
          rw [hL]
          exact Al.snoc (hWZ.same (Pw.Same.wo (Same.laid nq))) (r := (lo + (i : Int), x.2)) (wo_of hRq upd_same)
    · rintro σ G ⟨t6, t7, t8, t9, t10, ws, rfl, S3, eR, hW⟩
      refine ⟨_, rfl, k R G (S2.trans S3) ?_ ⟨ws, eR, hW.same wo_same⟩⟩
      cases q : H R with
      | none => rfl
      | some o => rw [S2 _ _ q] at hR; cases hR
end
end T40

set_option maxHeartbeats 8000000
namespace T40
open PySem PySem.Spec PyProof.Rows L2 Pw Tr
def ti (i : Int) : Str := (toString i)
def tx2 (r : Int × Int) : Str := tupleText [ti r.1, ti r.2]
def tx3 (r : R3) : Str := tupleText [ti r.1, ti r.2.1, reprText r.2.2]
def sm (i : Int) : Prop := -1000000000000 ≤ i ∧ i ≤ 1000000000000
theorem S2 : ShR f2 tx2 (fun r => sm r.1 ∧ sm r.2) 3849 := fun K H p r h e =>
  .tup e (.cons (.int _ (sm60 h.1.1 h.1.2)) (.cons (.int _ (sm60 h.2.1 h.2.2)) .nil))
theorem S3 : ShR f3 tx3 GoodR 3861 := fun K H p r h e =>
  .tup e (.cons (.int _ (sm60 (by have := h.t0; omega) (by have := h.t1; omega))) (.cons (.int _ (sm60 (by have := h.w0; omega) (by have := h.w1; omega)))
    (.cons (.str _ 10 (by rcases h.m with z | z <;> rw [z] <;> decide +kernel)) .nil)))
theorem goodF {rs : List R3} (hw : ∀ r ∈ rs, 0 ≤ r.2.1 ∧ r.2.1 ≤ 63) {lo : Int} {n : Nat} (h0 : 0 ≤ lo) (h1 : lo + n ≤ 10000) (hn : n ≤ 1000) : GoodF (fineM (pr rs) lo n) := by
  refine ⟨fun r hr => ?_, fineM_rise _ _ _, Nat.le_trans (fineM_len _ _ _) (by omega)⟩
  obtain ⟨a, b, q, hq, e⟩ := fineM_mem hr
  obtain ⟨r', hr', rfl⟩ := List.mem_map.mp hq
  have := hw r' hr'
  refine ⟨⟨by omega, by omega⟩, ?_⟩
  rw [← e]
  exact this
theorem worths {rs : List R3} (hg : GoodH rs) (o : Bool) : ∀ r ∈ (if o = true then rs else goods rs), 0 ≤ r.2.1 ∧ r.2.1 ≤ 63 := by
  intro r hr
  cases o with
  | true => exact ⟨(hg.all r hr).w0, (hg.all r hr).w1⟩
  | false =>
    have hr' := (List.mem_filter.mp hr).1
    exact ⟨(hg.all r hr').w0, (hg.all r hr').w1⟩
section
variable {P : Program} {w : World} {K : PySem.W.Frag} {mg : Str → Option Value} {base : Heap}
theorem sh_h (K : PySem.W.Frag) {H : Hp} {a : Addr} {rs : List R3} (hg : GoodH rs) (h : LT f3 H a rs) :
    ∃ d n, Shw K H (.ref a) (d + 1) n (listText (rs.map tx3)) ∧ n ≤ sizeLine ∧ d + 1 ≤ 60 :=
  shw_rows K S3 h hg.all (by
    have e : rs.length * (3861 + 2) ≤ 1000 * (3861 + 2) := Nat.mul_le_mul_right _ hg.len
    have : 1000 * (3861 + 2) + 2 ≤ sizeLine := by decide
    omega)
theorem sh_f (K : PySem.W.Frag) {H : Hp} {a : Addr} {fr : List (Int × Int)} (hf : GoodF fr) (hl : fr.length ≤ 1000) (h : LT f2 H a fr) :
    ∃ d n, Shw K H (.ref a) (d + 1) n (listText (fr.map tx2)) ∧ n ≤ sizeLine ∧ d + 1 ≤ 60 :=
  shw_rows K S2 h (fun r hr => by
    have := hf.all r hr
    exact ⟨⟨by omega, by omega⟩, ⟨by omega, by omega⟩⟩) (by
    have e : fr.length * (3849 + 2) ≤ 1000 * (3849 + 2) := Nat.mul_le_mul_right _ hl
    have : 1000 * (3849 + 2) + 2 ≤ sizeLine := by decide
    omega)
/-! ### TooMany -/
structure ManyT (K : PySem.W.Frag) (mg : Str → Option Value) (C CP fP : Addr) : Prop where
  N : Bas K mg "ValueError" "ValueError" "ValueError.__init__"
  B : Fam K mg "PanelError" "PanelError.__init__" "ValueError" mPanelError_Init CP fP
  E : Cl K mg "TooMany" "TooMany.__init__" "many" "ValueError" mTooMany_Init C
  x : ExcC K C
  ty : PySem.W.typeIn K (.ref C) = some (.type "type")
  ex : PySem.W.exmOne K (.ref C) (.ref CP) = some true
  ki : PySem.W.kitOne K (.ref C) (.ref C) = some true
theorem ok_panel {f : Addr} {fd : FuncData} (N : Bas K mg "ValueError" "ValueError" "ValueError.__init__") (F : Fun K "__init__" "PanelError.__init__" mPanelError_Init f fd) :
    FnOk P w K mg base CX0 1 f fd ["self", "text"] (spFam K "ValueError") := by
  refine F.ok scmPanelError_Init (fun vs H Q E ⟨a, C, t0, x, e, _⟩ => by rw [e]; rfl) (fun cdv A outer s H vs Q E hr h => ?_)
  obtain ⟨a, C, t0, x, rfl, T, hB, ea, k⟩ := h
  refine ⟨_, pss_one (ps_expr (pe_beq N.nm (by rfl) N.free N.vV (pa_cons (pv 0) (pa_cons (pv 1) pa_nil)))), ?_⟩
  exact ⟨_, rfl, _, rfl, a, C, t0, [.str x], rfl, (by show 1 ≤ 1000; decide), T, hB, ea, k⟩
/-- TooMany(many): its dict holds the number -/
def gone (H : Hp) (d : Addr) (n : Int) (H' : Hp) : Prop := Same H H' ∧ H d = none ∧ H' d = some (.xd [(("many" : Str), .int n)])
def spWinX (C : Addr) : Sp := fun vs H Q E => ∃ s t b, vs = [.int s, .int t, .bl b] ∧ (0 ≤ s ∧ s ≤ 9999) ∧ (0 ≤ t ∧ t ≤ 9999) ∧
  (t - s + 1 ≤ 1000 → Q .non H) ∧ (¬ t - s + 1 ≤ 1000 → ∀ d H', gone H d (t - s + 1) H' → E (.ref C) (some d) H')
theorem d_cwinX {C CP fP : Addr} (T : Txt mg) (A : At K mg "_check_window" sCheckWindow) (M : ManyT K mg C CP fP) (dt : Def P w K mg base "check_time" 5 ["thing"] (spIn 0 9999))
    (db : Def P w K mg base "check_truth" 1 ["thing"] spTruth) : DefE P w K mg base "_check_window" 6 ["since", "till", "odd"] [] (spWinX C) := by
  obtain ⟨f, fd, i1, t1, F⟩ := M.E.fn
  obtain ⟨fdB, FB⟩ := M.B.fn
  have N := M.N
  have B := M.B
  have bB := FB.binds (ps := ["self", "text"]) fun _ _ _ _ _ _ us hl => match us, hl with | [_, _], _ => rfl
  have G : FnOk P w K mg base CX0 1 fP fdB ["self", "text"] (spFam K "ValueError") := ok_panel N FB
  have G2 : FnOk P w K mg base CX0 2 f fd ["self", "many"] (spX K "ValueError" "many" "these are too many") := by
    refine F.ok scmTooMany_Init (fun vs H Q E ⟨a, C, t0, x, e, _⟩ => by rw [e]; rfl) (fun cdv A outer s H vs Q E hr h => ?_)
    obtain ⟨a, C, t0, y, rfl, T, hB, ea, nF, k⟩ := h
    refine ⟨_, pss_cons (ps_expr (pe_off (by rfl) B.mgC B.sg B.rd B.at_ FB.kp G hr bB .nil pass0 (pa_cons (pv 0) (pa_cons pe_str pa_nil))))
      (pss_one (ps_estF (pv 0) (pv 1))), ?_⟩
    refine ⟨_, rfl, a, C, t0, _, rfl, T, hB, ea, fun t2 n2 ne => ?_⟩
    exact ⟨_, rfl, _, rfl, a, C, t2, rfl, T, nF, upd_same, fun dx nx nxa => fin_x (fun _ q => q) k n2 ne nx nxa⟩
  have b2 := F.binds (ps := ["self", "many"]) fun _ _ _ _ _ _ us hl => match us, hl with | [_, _], _ => rfl
  refine mkDefE A scCheckWindow (fun _ _ _ _ _ _ us hl => match us, hl with | [_, _, _], _ => rfl) (fun vs H Q E ⟨_, _, _, e, _⟩ => by rw [e]; rfl)
    (fun f cdv A out s H vs Q E hr h => ?_)
  obtain ⟨i, j, b, rfl, hi, hj, k, kx⟩ := h
  have tk := takes_of (X := cxOf (L2.CX P w) P w K mg base ["since", "till", "odd", "many"] "_check_window" (defScope sCheckWindow) f cdv A out s H E) (E := E) rfl rfl rfl rfl
  refine ⟨_, (pss_cons (ps_expr (pe_d dt hr (by decide) (by rfl) (pa_cons (pv 0) pa_nil)))
    (pss_cons (ps_expr (pe_d dt hr (by decide) (by rfl) (pa_cons (pv 1) pa_nil)))
    (pss_cons (ps_expr (pe_d db hr (by decide) (by rfl) (pa_cons (pv 2) pa_nil)))
    (pss_cons (ps_set (i := 3) scCheckWindow.nd rfl (.inl rfl) (pe_op op_add (pe_op op_sub (pv 1) (pv 0)) pe_int))
    (pss_one (ps_if (pt_cmpR op_gt (pv 3) (pe_gi T.c_MOST_TICKS) (nomark _))
      (pss_one (ps_raise rfl tk (pmk_q (H0 := H) (K0 := K) rfl rfl rfl (pe_mkqF M.E.oex i1 t1 G2 (hr.mono (by decide)) b2 .nil pass0 (by rfl) M.E.mgC (pa_cons (pv 3) pa_nil)))))
      pss_nil)))))), ?_⟩
  refine ⟨_, rfl, i, rfl, hi.1, hi.2, _, rfl, j, rfl, hj.1, hj.2, _, rfl, b, rfl, _, rfl, _, rfl, _, _, rfl, rfl, _, _, rfl, rfl, _, rfl, _, _, rfl, rfl, ?_⟩
  by_cases hw : j - i + 1 ≤ 1000
  · exact ⟨false, congrArg V.bl (decide_eq_false (by omega)), iteF (k hw)⟩
  · refine ⟨true, congrArg V.bl (decide_eq_true (by omega)), iteT ?_⟩
    refine ⟨_, rfl, by show 1 ≤ 1000; decide, fun t0 a n0 na h0a => ?_⟩
    refine ⟨a, C, t0, _, rfl, M.E.oex, M.E.hB, upd_same, M.E.nF, fun t2 dx n2 n2a nx nxa nx2 => ⟨rfl, ?_⟩⟩
    refine ⟨a, C, t2, rfl, fr0_none na, M.E.oex.exC, M.ty, .inr ⟨dx, _, nxa, upd_same, (upd_ne nxa).trans upd_same, ?_⟩⟩
    refine kx hw dx _ ⟨fun c o e => ?_, ?_, upd_same⟩
    · have c1 := ne_of_none e n0
      have c2 := ne_of_none e na
      have e1 : upd (upd H t0 (.tup [V.int (j - i + 1)])) a (exq a C none t0) c = some o := (upd_ne c2).trans ((upd_ne c1).trans e)
      have c3 := ne_of_none e1 n2
      have c4 := ne_of_none e1 nx
      exact (upd_ne c4).trans ((delH_ne c2).trans ((upd_ne c2).trans ((upd_ne c4).trans ((upd_ne c2).trans ((upd_ne c3).trans e1)))))
    · have z : H dx = none := by
        rw [upd_ne nxa] at nx
        by_cases z : dx = t0
        · rw [z, upd_same] at nx
          cases nx
        · rw [upd_ne z] at nx
          exact nx
      exact z
def spFineX (C : Addr) : Sp := fun vs H Q E => ∃ (a : Addr) (rs : List R3) (lo hi : Int) (o : Bool), vs = [.ref a, .int lo, .int hi, .bl o] ∧ LT f3 H a rs ∧ GoodH rs ∧
  (0 ≤ lo ∧ lo ≤ 9999) ∧ (0 ≤ hi ∧ hi ≤ 9999) ∧ ¬ hi - lo + 1 ≤ 1000 ∧ ∀ d H', gone H d (hi - lo + 1) H' → E (.ref C) (some d) H'
theorem d_fineX {C : Addr} (A : AtD K mg "fine" sFine [("odd", .bl true)]) (dh : Def P w K mg base "check_history" 7 ["thing"] spHistC)
    (dw : DefE P w K mg base "_check_window" 6 ["since", "till", "odd"] [] (spWinX C)) (df : Def P w K mg base "_fine_rows" 2 ["history", "since", "till", "odd"] spFineR) :
    DefE P w K mg base "fine" 8 ["history", "since", "till", "odd"] [.bl true] (spFineX C) := by
  refine mkDefED (n := 3) A scFine (by decide) rfl b_fine (fun vs H Q E ⟨_, _, _, _, _, e, _⟩ => by rw [e]; rfl)
    (fun f cdv A out s H vs Q E hr h => ?_)
  obtain ⟨a, rs, lo, hi, o, rfl, hL, hg, hlo, hhi, hw, k⟩ := h
  have tk := takes_of (X := cxOf (L2.CX P w) P w K mg base ["history", "since", "till", "odd"] "fine" (defScope sFine) f cdv A out s H E) (E := E) rfl rfl rfl rfl
  refine ⟨_, (pss_cons (ps_expr (pe_d dh hr (by decide) (by rfl) (pa_cons (pv 0) pa_nil)))
    (pss_cons (ps_expr (pe_dE dw tk hr (by decide) (by rfl) (pa_cons (pv 1) (pa_cons (pv 2) (pa_cons (pv 3) pa_nil)))))
    (pss_one (ps_ret (pe_d df hr (by decide) (by rfl) (pa_cons (pv 0) (pa_cons (pv 1) (pa_cons (pv 2) (pa_cons (pv 3) pa_nil))))))))), ?_⟩
  refine ⟨_, rfl, a, rs, rfl, .inl hL, hg, fun H1 S1 => ?_⟩
  refine ⟨_, rfl, _, rfl, _, rfl, lo, hi, o, rfl, hlo, hhi, fun z => absurd z hw, fun _ d H' g => ?_⟩
  exact k d H' ⟨S1.trans g.1, Same.no S1 g.2.1, g.2.2⟩
end
end T40

set_option maxHeartbeats 16000000
namespace T40
open PySem PySem.Spec PyProof.Rows L2 Pw Tr
section
variable {P : Program} {w : World} {K : PySem.W.Frag} {mg : Str → Option Value} {base : Heap}
structure Ds (P : Program) (w : World) (K : PySem.W.Frag) (mg : Str → Option Value) (base : Heap) : Prop where
  fine : DefD P w K mg base "fine" 8 ["history", "since", "till", "odd"] [.bl true] spFine
  fineK : DefK P w K mg base "fine" 8 ["history", "since", "till", "odd"] 3 ["odd"] (fun us ws => us ++ ws) spFine
  coof : Def P w K mg base "coarse_of" 7 ["rows", "size"] spCoOf
  lfine : Def P w K mg base "_law_fine" 1 ["_law_rows", "_law_since", "_law_till", "_law_all_count"] spLFine
def spRight : Sp := fun vs H Q _ => ∃ (a : Addr) (rs : List R3) (s t : Int), vs = [.ref a, .int s, .int t] ∧ LT f3 H a rs ∧ GoodH rs ∧
  (0 ≤ s ∧ s ≤ 9999) ∧ (0 ≤ t ∧ t ≤ 9999) ∧ t - s ≤ 90 ∧ ∀ H', Same H H' → Q (.bl true) H'
theorem d_right (T : Txt mg) (A : At K mg "_law_right" sLawRight) (D : Ds P w K mg base) :
    DefG P w K mg base "_law_right" 9 ["_law_rows", "_law_since", "_law_till"] spRight := by
  refine mkDefG A scLawRight (fun _ _ _ _ _ _ us hl => match us, hl with | [_, _, _], _ => rfl) (fun vs H Q E ⟨_, _, _, _, e, _⟩ => by rw [e]; rfl)
    (fun f cdv A out s H vs Q E gd hr h => ?_)
  obtain ⟨a, rs, s, t, rfl, hL, hg, hs, ht, hw, k⟩ := h
  have hu := hr.units
  refine ⟨_, (pss_cons (ps_set (i := 3) scLawRight.nd rfl (.inl rfl) (pe_callB (call_repr gd hu) (by rfl) T.repr PyProof.Rows.boot_repr (pa_cons (pv 0) pa_nil)))
    (pss_cons (ps_for PassesOwn.never rfl (pi_list (pe_lst (pa_cons pe_bl (pa_cons pe_bl pa_nil)))) (pg_name (i := 4) scLawRight.nd rfl (.inl rfl))
      (pss_cons (ps_set (i := 5) scLawRight.nd rfl (.inl rfl) (pe_d D.lfine hr (by decide) (by rfl) (pa_cons (pv 0) (pa_cons (pv 1) (pa_cons (pv 2) (pa_cons (pv 4) pa_nil))))))
      (pss_cons (ps_set (i := 6) scLawRight.nd rfl (.inl rfl) (pe_dK D.fineK hr (by decide) (by rfl) (pa_cons (pv 0) (pa_cons (pv 1) (pa_cons (pv 2) pa_nil))) (pk_cons (pv 4) pk_nil)))
      (pss_cons (ps_if (pt_cmpR op_ne (pe_callB (call_repr gd hu) (by rfl) T.repr PyProof.Rows.boot_repr (pa_cons (pv 6) pa_nil)) (pe_callB (call_repr gd hu) (by rfl) T.repr PyProof.Rows.boot_repr (pa_cons (pv 5) pa_nil)) (nomark _))
        (pss_one (ps_ret pe_bl))
        pss_nil)
      (pss_cons (ps_expr (pe_bm PySem.F.plainAttrs_list PySem.F.slot_list_append PySem.F.type_list_append mt_append (pv 6) (pa_cons pe_int pa_nil)))
      (pss_one (ps_if (PW.pt (pw_and (pt_val (pv 4)) (pw_and1 (pt_cmpR op_ne (pe_callB (call_repr gd hu) (by rfl) T.repr PyProof.Rows.boot_repr (pa_cons (pe_dD D.fine hr (by decide) (by rfl) (pa_cons (pe_callTy call_tuple_of (by rfl) T.tuple (by decide +kernel) (pa_cons (pv 0) pa_nil)) (pa_cons (pv 1) (pa_cons (pv 2) pa_nil)))) pa_nil)) (pe_callB (call_repr gd hu) (by rfl) T.repr PyProof.Rows.boot_repr (pa_cons (pv 5) pa_nil)) (nomark _)))))
        (pss_one (ps_ret pe_bl))
        pss_nil)))))))
    (pss_one (ps_ret (pe_cmpR op_eq (pe_callB (call_repr gd hu) (by rfl) T.repr PyProof.Rows.boot_repr (pa_cons (pv 0) pa_nil)) (pv 3) (nomark _)))))), ?_⟩
  have hnn : (((t + 1 - s).toNat : Nat) : Int) ≤ 91 := by omega
  have hlo : s + (((t + 1 - s).toNat : Nat) : Int) ≤ 10000 := by omega
  have hgF : ∀ o : Bool, GoodF (fineM (pr (if o = true then rs else goods rs)) s (t + 1 - s).toNat) := fun o => goodF (worths hg o) hs.1 hlo (by omega)
  have hlF : ∀ o : Bool, (fineM (pr (if o = true then rs else goods rs)) s (t + 1 - s).toNat).length ≤ 1000 := fun o => Nat.le_trans (fineM_len _ _ _) (by omega)
  obtain ⟨d1, m1, sh1, hn1, hd1⟩ := sh_h K hg hL
  refine ⟨_, rfl, _, d1 + 1, m1, _, rfl, sh1, fun _ _ => Nat.succ_pos _, hn1, hd1, ?_⟩
  refine ⟨by show 2 ≤ sizeLine; decide, fun M nM => ?_⟩
  refine ⟨M, rfl, ⟨_, SqL.of upd_same⟩, ?_⟩
  generalize q0 : upd H M (.lst [V.bl true, V.bl false]) = H0
  have S0 : Same H H0 := q0 ▸ Same.laid nM
  have eM : H0 M = some (.lst [V.bl true, V.bl false]) := q0 ▸ upd_same
  refine for_it (walk_list (K := K) (a := M) (xs := [V.bl true, V.bl false])) (fun i σ G => ∃ v5 v6 v7 : Option V,
    σ = [some (.ref a), some (.int s), some (.int t), some (.str (listText (rs.map tx3))), v5, v6, v7] ∧ Same H0 G) ⟨none, none, none, rfl, Same.refl _⟩
    (fun i σ G _ ⟨_, _, _, _, S⟩ => SqL.of (S _ _ eM)) ?_ ?_
  · rintro i v σ G0 G hi ⟨v5, v6, v7, rfl, S⟩ ⟨rfl, hx⟩
    have hv : ∃ b : Bool, v = .bl b := by
      have := List.mem_of_getElem? (show [V.bl true, V.bl false][i]? = some v from hx)
      simp only [List.mem_cons, List.not_mem_nil, or_false] at this
      rcases this with rfl | rfl
      · exact ⟨_, rfl⟩
      · exact ⟨_, rfl⟩
    obtain ⟨b, rfl⟩ := hv
    have SG := S0.trans S
    refine ⟨_, rfl, _, rfl, _, rfl, _, rfl, a, rs, s, t, b, rfl, hL.same SG, hg.len, hg.rise, ⟨hs.1, by omega⟩, ⟨ht.1, by omega⟩, by omega, fun f1 H1 S1 n1 hF1 => ?_⟩
    have SG1 := SG.trans S1
    refine ⟨_, rfl, _, rfl, _, rfl, _, rfl, rfl, rfl, a, rs, s, t, b, rfl, .inl (hL.same SG1), hg, hs, ht, by omega, fun f2 H2 S2 n2 hF2 => ?_⟩
    obtain ⟨d2, m2, sh2, hn2, hd2⟩ := sh_f K (hgF b) (hlF b) hF2
    refine ⟨_, rfl, _, d2 + 1, m2, _, rfl, sh2, fun _ _ => Nat.succ_pos _, hn2, hd2, ?_⟩
    obtain ⟨d3, m3, sh3, hn3, hd3⟩ := sh_f K (hgF b) (hlF b) (hF1.same S2)
    refine ⟨_, rfl, _, d3 + 1, m3, _, rfl, sh3, fun _ _ => Nat.succ_pos _, hn3, hd3, ?_⟩
    refine ⟨rfl, _, rfl, ?_⟩
    rw [decide_eq_true rfl]
    refine iteF ?_
    obtain ⟨ws, ef2, alf⟩ := hF2.ex
    have lws : ws.length ≤ 1000 := by rw [alf.length]; exact hlF b
    refine ⟨_, rfl, .inl ⟨rfl, _, SqL.of ef2⟩, f2, ws, .int 0, rfl, rfl, ef2, Nat.lt_of_le_of_lt lws (by decide), ?_⟩
    have SH1 : Same H1 (upd H2 f2 (.lst (ws ++ [.int 0]))) := Same.wo_upd S2 n2
    generalize upd H2 f2 (.lst (ws ++ [.int 0])) = H3 at SH1 ⊢
    have SG3 := SG1.trans SH1
    have hF13 := hF1.same SH1
    refine ⟨_, rfl, ?_⟩
    cases b with
    | false => exact ⟨_, rfl, iteF ⟨_, _, _, rfl, S.trans (S1.trans SH1)⟩⟩
    | true =>
      refine ⟨_, rfl, iteT ?_⟩
      obtain ⟨vs, eL, al⟩ := (hL.same SG3).ex
      refine ⟨_, rfl, a, vs, rfl, .inl ⟨SqL.of eL, fun l nl => ?_⟩⟩
      have Sl := Same.laid (o := HO.tup vs) nl
      refine ⟨_, rfl, _, rfl, l, rs, s, t, true, rfl, .inr ⟨⟨vs, upd_same, al.same Sl⟩, rfl⟩, hg, hs, ht, by omega, fun f4 H4 S4 n4 hF4 => ?_⟩
      obtain ⟨d4, m4, sh4, hn4, hd4⟩ := sh_f K (hgF true) (hlF true) hF4
      refine ⟨_, d4 + 1, m4, _, rfl, sh4, fun _ _ => Nat.succ_pos _, hn4, hd4, ?_⟩
      obtain ⟨d5, m5, sh5, hn5, hd5⟩ := sh_f K (hgF true) (hlF true) (hF13.same (Sl.trans S4))
      refine ⟨_, rfl, _, d5 + 1, m5, _, rfl, sh5, fun _ _ => Nat.succ_pos _, hn5, hd5, ?_⟩
      refine ⟨rfl, _, rfl, ?_⟩
      rw [decide_eq_true rfl]
      refine iteF ?_
      exact ⟨_, _, _, rfl, S.trans (S1.trans (SH1.trans (Sl.trans S4)))⟩
  · rintro σ G ⟨v5, v6, v7, rfl, S⟩
    have SG := S0.trans S
    obtain ⟨d6, m6, sh6, hn6, hd6⟩ := sh_h K hg (hL.same SG)
    refine ⟨_, rfl, _, d6 + 1, m6, _, rfl, sh6, fun _ _ => Nat.succ_pos _, hn6, hd6, ?_⟩
    refine ⟨_, rfl, rfl, ?_⟩
    show Q (V.bl (decide (V.str _ = V.str _))) _
    rw [decide_eq_true rfl]
    exact k _ SG
end
end T40

set_option maxHeartbeats 16000000
namespace T40
open PySem PySem.Spec PyProof.Rows L2 Pw Tr
theorem al_last {α : Type} {f : α → List V} {H : Hp} {vs : List V} {rs : List α} {r : α} (h : Al f H vs (rs ++ [r])) : ∃ vs' q, vs = vs' ++ [.ref q] ∧ Al f H vs' rs ∧ H q = some (.tup (f r)) := by
  have hl := h.length
  rw [List.length_append, List.length_singleton] at hl
  obtain ⟨q, e1, e2⟩ := h.at (i := rs.length) (r := r) (by simp)
  have ht := h.take rs.length
  rw [List.take_left'] at ht
  refine ⟨vs.take rs.length, q, ?_, ht, e2⟩
  · have : vs = vs.take rs.length ++ vs.drop rs.length := (List.take_append_drop _ _).symm
    rw [this]
    congr 1
    · simp
    · have h1 : (vs.drop rs.length).length = 1 := by rw [List.length_drop]; omega
      obtain ⟨z, hz⟩ := List.length_eq_one_iff.mp h1
      rw [hz]
      have : (vs.drop rs.length)[0]? = some (.ref q) := by rw [List.getElem?_drop]; simpa using e1
      rw [hz] at this
      simpa using this
  · rfl
theorem lastW_nil (t : Int) : lastW [] t = none := rfl
theorem lastW_no {r : Int × Int} {l : List (Int × Int)} {t : Int} (h : ¬ r.1 ≤ t) : lastW (r :: l) t = none := by
  unfold lastW
  rw [List.takeWhile_cons, decide_eq_false h]
  rfl
theorem lastW_yes {r : Int × Int} {l : List (Int × Int)} {t : Int} (h : r.1 ≤ t) : ∃ w, lastW (r :: l) t = some w := by
  unfold lastW
  rw [List.takeWhile_cons, decide_eq_true h, if_pos rfl]
  cases e : (r :: List.takeWhile (fun r => decide (r.1 ≤ t)) l).getLast? with
  | none => simp at e
  | some x => exact ⟨_, rfl⟩
theorem fine_nil (s : Int) : ∀ n : Nat, fineM [] s n = []
  | 0 => rfl
  | n + 1 => by
    rw [fineM_succ, fine_nil s n]
    rfl
theorem fine_len (r : Int × Int) (l : List (Int × Int)) (s : Int) : ∀ n : Nat, ((fineM (r :: l) s n).length : Int) = max 0 (s + n - max s r.1)
  | 0 => by
    rw [fineM_zero]
    show (0 : Int) = _
    omega
  | n + 1 => by
    rw [fineM_succ, List.length_append]
    have ih := fine_len r l s n
    by_cases h : r.1 ≤ s + n
    · obtain ⟨w, e⟩ := lastW_yes (l := l) h
      unfold tickRow
      rw [e]
      show (((fineM (r :: l) s n).length + 1 : Nat) : Int) = _
      omega
    · unfold tickRow
      rw [lastW_no h]
      show (((fineM (r :: l) s n).length + 0 : Nat) : Int) = _
      omega
/-- those no later -/
def kn (rs : List R3) (t : Int) : List R3 := rs.filter fun r => decide (r.1 ≤ t)
theorem pr_kn {rs : List R3} (h : rs.Pairwise fun a b => a.1 < b.1) (t : Int) : pr (kn rs t) = (pr rs).takeWhile fun r => decide (r.1 ≤ t) := by
  rw [← filter_while (pr_rise h)]
  unfold pr kn
  rw [List.filter_map]
  rfl
/-- how many rows are due -/
theorem kn_due {rs : List R3} (h : rs.Pairwise fun a b => a.1 < b.1) (s : Int) :
    (kn rs (s + 999) = [] ∧ (fineM (pr rs) s 1000).length = 0) ∨ ∃ r l, kn rs (s + 999) = r :: l ∧ ((fineM (pr rs) s 1000).length : Int) = s + 1000 - max s r.1 := by
  cases rs with
  | nil => exact .inl ⟨rfl, by rw [show pr [] = [] from rfl, fine_nil]; rfl⟩
  | cons r l =>
    have e := fine_len (r.1, r.2.1) (pr l) s 1000
    have e' : pr (r :: l) = (r.1, r.2.1) :: pr l := rfl
    have e2 : ((1000 : Nat) : Int) = 1000 := rfl
    rw [← e', e2] at e
    by_cases c : r.1 ≤ s + 999
    · refine .inr ⟨r, kn l (s + 999), ?_, ?_⟩
      · unfold kn
        rw [List.filter_cons, decide_eq_true c, if_pos rfl]
      · have c' : (r.1, r.2.1).1 = r.1 := rfl
        rw [e, c']
        omega
    · refine .inl ⟨?_, ?_⟩
      · have hp := (List.pairwise_cons.mp h).1
        unfold kn
        rw [List.filter_cons, decide_eq_false c, if_neg (by decide)]
        refine List.filter_eq_nil_iff.mpr fun x hx => ?_
        have := hp x hx
        simp only [decide_eq_true_eq]
        omega
      · have c' : (r.1, r.2.1).1 = r.1 := rfl
        rw [c'] at e
        omega
/-- the last row -/
theorem kn_last {rs : List R3} (h : rs.Pairwise fun a b => a.1 < b.1) {s : Int} {l : List R3} {x : R3} (e : kn rs (s + 999) = l ++ [x]) :
    ∃ l', fineM (pr rs) s 1000 = l' ++ [(s + 999, x.2.1)] := by
  refine ⟨fineM (pr rs) s 999, ?_⟩
  rw [show (1000 : Nat) = 999 + 1 from rfl, fineM_succ]
  have e1 : lastW (pr rs) (s + 999) = some x.2.1 := by
    unfold lastW
    rw [← pr_kn h, e]
    unfold pr
    rw [List.map_append]
    show ((_ ++ [(x.1, x.2.1)]).getLast?).map (·.2) = _
    rw [List.getLast?_concat]
    rfl
  unfold tickRow
  rw [show (s + ((999 : Nat) : Int)) = s + 999 from rfl, e1]
  rfl
theorem ne_row {α : Type} {f : α → List V} {g : α → List PyData} {ok : α → Prop} {K : PySem.W.Frag} {H : Hp} {Q : VK} (D : Dat f g ok) {p q : Addr} {r : α} (ho : ok r) (h : H p = some (.tup (f r))) (k : H q = some (.tup (f r)))
    (z : Q (.bl false) H) : rNeD K (.ref p) (.ref q) H Q := by
  have c0 : PyData.canLay0 (.tuple (g r)) = true := by simp only [PyData.canLay0]; exact D.lay r ho
  have sh : SeqAt.shaped (.tuple (g r)) = true := by
    unfold SeqAt.shaped
    have e2 : PyData.depth (.tuple (g r)) ≤ 64 := by
      simp only [PyData.depth, D.dep r]
      decide
    rw [c0, decide_eq_true e2]
    rfl
  exact ⟨.tuple (g r), .tuple (g r), .tup (SqT.of h) (D.dp K H r), .tup (SqT.of k) (D.dp K H r), sh, sh, by rw [eqv_refl_ _ c0]; exact z⟩
theorem eq_row {α : Type} {f : α → List V} {g : α → List PyData} {ok : α → Prop} {K : PySem.W.Frag} {H : Hp} {Q : VK} (D : Dat f g ok) {p q : Addr} {r : α} (ho : ok r) (h : H p = some (.tup (f r))) (k : H q = some (.tup (f r)))
    (z : Q (.bl true) H) : rEqD K (.ref p) (.ref q) H Q := by
  have c0 : PyData.canLay0 (.tuple (g r)) = true := by simp only [PyData.canLay0]; exact D.lay r ho
  have sh : SeqAt.shaped (.tuple (g r)) = true := by
    unfold SeqAt.shaped
    have e2 : PyData.depth (.tuple (g r)) ≤ 64 := by
      simp only [PyData.depth, D.dep r]
      decide
    rw [c0, decide_eq_true e2]
    rfl
  exact ⟨.tuple (g r), .tuple (g r), .tup (SqT.of h) (D.dp K H r), .tup (SqT.of k) (D.dp K H r), sh, sh, by rw [eqv_refl_ _ c0]; exact z⟩
section
variable {P : Program} {w : World} {K : PySem.W.Frag} {mg : Str → Option Value} {base : Heap}
def spMany : Sp := fun vs H Q _ => ∃ (a : Addr) (rs : List R3) (s : Int), vs = [.ref a, .int s] ∧ LT f3 H a rs ∧ GoodH rs ∧
  (0 ≤ s ∧ s ≤ 8999) ∧ ∀ H', Same H H' → Q (.bl true) H'
theorem d_many {C CP fP : Addr} (T : Txt mg) (A : At K mg "_law_many_right" sLawManyRight) (M : ManyT K mg C CP fP) (D : Ds P w K mg base)
    (dx : DefE P w K mg base "fine" 8 ["history", "since", "till", "odd"] [.bl true] (spFineX C)) :
    DefG P w K mg base "_law_many_right" 9 ["_law_rows", "_law_since"] spMany := by
  have xf : XfC K C := ⟨M.x.hg, M.x.hk, M.x.hs, M.x.hd⟩
  refine mkDefG A scLawManyRight (fun _ _ _ _ _ _ us hl => match us, hl with | [_, _], _ => rfl) (fun vs H Q E ⟨_, _, _, e, _⟩ => by rw [e]; rfl)
    (fun f cdv A out s H vs Q E gd hr h => ?_)
  obtain ⟨a, rs, s, rfl, hL, hg, hs, k⟩ := h
  have hu := hr.units
  refine ⟨_, (pss_cons (ps_set (i := 2) scLawManyRight.nd rfl (.inl rfl) (pe_dD D.fine hr (by decide) (by rfl) (pa_cons (pv 0) (pa_cons (pv 1) (pa_cons (pe_op op_add (pv 1) pe_int) pa_nil)))))
    (pss_cons (ps_setLc (i := 3) (own := [("_law_row", 7)]) (g := gName 7) rfl scLawManyRight.nd rfl rfl (sw_true rfl rfl rfl (by decide +kernel)) (pi_list (pv 0))
        (blkOk_by (own := [("_law_row", 7)]) (N := ["_law_rows", "_law_since", "_law_told", "_law_known", "_law_due", "_law_whole", "e", "_law_row"]) (sc := defScope sLawManyRight) (by decide +kernel))
        (fun _ _ _ _ _ => (pg_name (i := 7) scLawManyRight.nd rfl (.inl rfl))) (fun _ _ _ _ _ => (pts_one (pt_cmpR op_le (pe_ix (r := rIxT K) ix_tup (pv 7) pe_int (fun _ _ => rfl)) (pe_op op_add (pv 1) pe_int) (nomark _))))
        (fun _ _ _ _ _ => (pv 7)))
    (pss_cons (ps_set (i := 4) scLawManyRight.nd rfl (.inl rfl) (pe_ifExp (pt_cmpR (op_eqD hr.units) (pv 3) (pe_lst pa_nil) (nomark _)) pe_int (pe_op op_sub (pe_op op_add (pv 1) pe_int) (pe_callB (call_max2 rfl) (by rfl) T.max PyProof.Rows.boot_max (pa_cons (pv 1) (pa_cons (pe_ix (r := rIxT K) ix_tup (pe_ix ix_list (pv 3) pe_int (fun _ _ => rfl)) pe_int (fun _ _ => rfl)) pa_nil))))))
    (pss_cons (ps_if (PW.pt (pw_or (pt_cmpR op_ne (pe_callB call_len_seq (by rfl) T.len PySem.boot_len (pa_cons (pv 2) pa_nil)) (pv 4) (nomark _)) (pw_or1 (PW.pt (pw_and (pt_cmpR (op_neD hr.units) (pv 3) (pe_lst pa_nil) (nomark _)) (pw_and1 (pt_cmpR (op_neD hr.units) (pe_ix ix_list (pv 2) (pe_un un_neg pe_int) (fun _ _ => rfl)) (pe_tup (pa_cons (pe_op op_add (pv 1) pe_int) (pa_cons (pe_ix (r := rIxT K) ix_tup (pe_ix ix_list (pv 3) (pe_un un_neg pe_int) (fun _ _ => rfl)) pe_int (fun _ _ => rfl)) pa_nil))) (nomark _))))))))
      (pss_one (ps_ret pe_bl))
      pss_nil)
    (pss_cons (ps_set (i := 5) scLawManyRight.nd rfl (.inl rfl) (pe_d D.coof hr (by decide) (by rfl) (pa_cons (pv 2) (pa_cons pe_int pa_nil))))
    (pss_cons (ps_if (PW.pt (pw_or (pt_cmpR op_ne (pe_callB (cr_sum rfl) (by rfl) T.sum PyProof.Rows.boot_sum (pa_cons (pe_lc (own := [("_law_row", 7)]) (g := gName 7) (tt := tYes) rfl scLawManyRight.nd (pi_list (pv 5))
        (blkOk_by (own := [("_law_row", 7)]) (N := ["_law_rows", "_law_since", "_law_told", "_law_known", "_law_due", "_law_whole", "e", "_law_row"]) (sc := defScope sLawManyRight) (by decide +kernel))
        (fun _ _ _ _ _ => (pg_name (i := 7) scLawManyRight.nd rfl (.inl rfl))) (fun _ _ _ _ _ => pts_nil)
        (fun _ _ _ _ _ => (pe_ix (r := rIxT K) ix_tup (pv 7) pe_int (fun _ _ => rfl)))) pa_nil)) (pe_callB call_len_seq (by rfl) T.len PySem.boot_len (pa_cons (pv 2) pa_nil)) (nomark _)) (pw_or1 (pt_cmpR op_ne (pe_callB (cr_sum rfl) (by rfl) T.sum PyProof.Rows.boot_sum (pa_cons (pe_lc (own := [("_law_row", 7)]) (g := gName 7) (tt := tYes) rfl scLawManyRight.nd (pi_list (pv 5))
        (blkOk_by (own := [("_law_row", 7)]) (N := ["_law_rows", "_law_since", "_law_told", "_law_known", "_law_due", "_law_whole", "e", "_law_row"]) (sc := defScope sLawManyRight) (by decide +kernel))
        (fun _ _ _ _ _ => (pg_name (i := 7) scLawManyRight.nd rfl (.inl rfl))) (fun _ _ _ _ _ => pts_nil)
        (fun _ _ _ _ _ => (pe_ix (r := rIxT K) ix_tup (pv 7) pe_int (fun _ _ => rfl)))) pa_nil)) (pe_callB (cr_sum rfl) (by rfl) T.sum PyProof.Rows.boot_sum (pa_cons (pe_lc (own := [("_law_row", 7)]) (g := gName 7) (tt := tYes) rfl scLawManyRight.nd (pi_list (pv 2))
        (blkOk_by (own := [("_law_row", 7)]) (N := ["_law_rows", "_law_since", "_law_told", "_law_known", "_law_due", "_law_whole", "e", "_law_row"]) (sc := defScope sLawManyRight) (by decide +kernel))
        (fun _ _ _ _ _ => (pg_name (i := 7) scLawManyRight.nd rfl (.inl rfl))) (fun _ _ _ _ _ => pts_nil)
        (fun _ _ _ _ _ => (pe_ix (r := rIxT K) ix_tup (pv 7) pe_int (fun _ _ => rfl)))) pa_nil)) (nomark _)))))
      (pss_one (ps_ret pe_bl))
      pss_nil)
    (pss_cons (ps_try_as (i := 6) rfl rfl scLawManyRight.nd rfl rfl ⟨by rfl, by decide, .inl M.B.mgC⟩ takes_none5
        (fun W pn xe tk _ => pss_one (ps_expr (pe_dE dx tk hr (by decide) (by rfl) (pa_cons (pv 0) (pa_cons (pv 1) (pa_cons (pe_op op_add (pv 1) pe_int) pa_nil))))))
        (fun a oe cls d pn hz hf => pss_one (ps_ret (pe_and (pe_callB (call_isDK (K := K) rfl hz hf) (by rfl) T.isinstance PyProof.Rows.boot_isinstance (pa_cons (pv 6) (pa_cons (pe_glob (v := .ref C) (by rfl) M.E.mgC rfl) pa_nil)))
          (pe_one (pe_cmpR op_eq (pe_callB (call_reprK (K := K) rfl gd hu) (by rfl) T.repr PyProof.Rows.boot_repr (pa_cons (pe_xf (C := C) xf M.E.nF hz hf (pv 6)) pa_nil)) pe_str (nomark _)))))))
    (pss_one (ps_ret pe_bl))))))))), ?_⟩
  have en : (s + 999 + 1 - s).toNat = 1000 := by omega
  have hgF : GoodF (fineM (pr rs) s 1000) := goodF (worths hg true) hs.1 (by omega) (by decide)
  have hFl : (fineM (pr rs) s 1000).length ≤ 1000 := fineM_len _ _ _
  refine ⟨_, rfl, _, rfl, _, rfl, _, _, rfl, rfl, a, rs, s, s + 999, true, rfl, .inl hL, hg, ⟨hs.1, by omega⟩, ⟨by omega, by omega⟩, by omega, fun f1 H1 S1 n1 hF1 => ?_⟩
  rw [if_pos rfl, en] at hF1
  have hL1 := hL.same S1
  obtain ⟨vs, eL, al⟩ := hL1.ex
  refine ⟨_, rfl, a, rfl, ⟨_, SqL.of eL⟩, fun B hB => ?_⟩
  refine lc_acc (walk_list (K := K) (a := a) (xs := vs)) hB (by rw [al.length]; exact Nat.le_trans hg.len (by decide)) (fun i acc H' => Al f3 H' acc (kn (rs.take i) (s + 999))) .nil
    (fun H' S => SqL.of (S _ _ eL)) ?_ ?_
  · rintro i v H2 H3 acc hi S2 eD hl2 hA ⟨rfl, hx⟩ Fy Fn hy1 hn1
    obtain ⟨p, r, rfl, hr', ep⟩ := (al.same S2).get hx
    have et : rs.take (i + 1) = rs.take i ++ [r] := by rw [List.take_add_one, hr']; rfl
    refine ⟨rfl, ?_⟩
    refine ⟨_, rfl, p, f3 r, 0, .int r.1, rfl, rfl, SqT.of ep, rfl, _, rfl, _, _, rfl, rfl, r.1, s + 999, rfl, rfl, _, rfl, ?_⟩
    by_cases hm : r.1 ≤ s + 999
    · rw [decide_eq_true hm]
      refine iteT ⟨_, rfl, hy1 _ _ (Same.refl _) ?_⟩
      have pD : p ≠ B := fun z => by rw [z, eD] at ep; cases ep
      have : kn (rs.take (i + 1)) (s + 999) = kn (rs.take i) (s + 999) ++ [r] := by
        unfold kn
        rw [et, List.filter_append, List.filter_cons, decide_eq_true hm]
        rfl
      rw [this]
      exact hA.snoc (wo_of pD ep)
    · rw [decide_eq_false hm]
      refine iteF (hn1 _ (Same.refl _) ?_)
      have : kn (rs.take (i + 1)) (s + 999) = kn (rs.take i) (s + 999) := by
        unfold kn
        rw [et, List.filter_append, List.filter_cons, decide_eq_false hm]
        simp
      rw [this]
      exact hA
  rintro H2 acc S2 eB hA
  rw [al.length, List.take_length] at hA
  have alB : Al f3 H2 acc (kn rs (s + 999)) := hA.same wo_same
  have hK : LT f3 H2 B (kn rs (s + 999)) := ⟨acc, eB, alB⟩
  have hKok : ∀ r ∈ kn rs (s + 999), okM r := fun r hr => hg.ok r (List.mem_filter.mp hr).1
  have hF2 := hF1.same S2
  -- how many are due
  dsimp only [gName]
  refine seq_join (A := tAsg _ _) (fun σ' G' => ∃ v7 : Option V, σ' = [some (.ref a), some (.int s), some (.ref f1), some (.ref B), some (.int ((fineM (pr rs) s 1000).length : Int)), none, none, v7] ∧ Same H2 G') (fun N' hN => ?_) ?_
  · refine ⟨_, rfl, by show 0 ≤ sizeLine; decide, fun Z nZ => ?_⟩
    have SZ := Same.laid (o := HO.lst []) nZ
    refine eq_empty D3 hKok (hK.same SZ) upd_same ?_
    refine ⟨_, rfl, ?_⟩
    rcases kn_due hg.rise s with ⟨hk0, hk1⟩ | ⟨r, l, hk0, hk1⟩
    · rw [hk0]
      refine iteT (hN _ _ ⟨none, ?_, SZ⟩)
      rw [hk1]
      rfl
    · have eBZ := SZ _ _ eB
      have alZ := alB.same SZ
      rw [hk0] at alZ ⊢
      refine iteF ?_
      cases alZ with
      | @cons p vs' _ _ ep t =>
        refine ⟨_, rfl, _, _, rfl, rfl, _, rfl, _, rfl, B, _, 0, .ref p, rfl, rfl, SqL.of eBZ, by exact atI_nat (j := 0) rfl, p, f3 r, 0, .int r.1, rfl, rfl, SqT.of ep, rfl, s, r.1, rfl, _, _, rfl, rfl, ?_⟩
        refine hN _ _ ⟨none, ?_, SZ⟩
        have : s + 1000 - (if r.1 > s then r.1 else s) = ((fineM (pr rs) s 1000).length : Int) := by
          rw [hk1]
          split <;> omega
        rw [← this]
        rfl
  rintro σ G ⟨v7, rfl, SG⟩
  have hFG := hF2.same SG
  have hKG := hK.same SG
  obtain ⟨ws, ef, alf⟩ := hFG.ex
  have elen : ((ws.length : Nat) : Int) = ((fineM (pr rs) s 1000).length : Int) := by rw [alf.length]
  -- the looks at how many, and at the last one
  refine seq_join (A := tIfS _ _ _) (fun σ' G' => σ' = [some (.ref a), some (.int s), some (.ref f1), some (.ref B), some (.int ((fineM (pr rs) s 1000).length : Int)), none, none, v7] ∧ Same G G') (fun N' hN => ?_) ?_
  · refine ⟨_, rfl, f1, ws, rfl, .inl (SqL.of ef), _, rfl, rfl, _, rfl, ?_⟩
    rw [elen, decide_eq_true rfl]
    refine iteF ?_
    refine ⟨_, rfl, by show 0 ≤ sizeLine; decide, fun Z nZ => ?_⟩
    have SZ := Same.laid (o := HO.lst []) nZ
    refine ne_empty D3 hKok (hKG.same SZ) upd_same ?_
    refine ⟨_, rfl, ?_⟩
    rcases snoc_cases (kn rs (s + 999)) with hk0 | ⟨l, x, hk0⟩
    · rw [hk0]
      exact iteF (iteF (hN _ _ ⟨rfl, SZ⟩))
    · rw [hk0]
      have hne : (!(l ++ [x]).isEmpty) = true := by simp
      rw [hne]
      refine iteT ?_
      obtain ⟨l', hl'⟩ := kn_last hg.rise hk0
      obtain ⟨ws', ef', alf'⟩ := (hFG.same SZ).ex
      obtain ⟨ks', ek', alk'⟩ := (hKG.same SZ).ex
      rw [hl'] at alf'
      rw [hk0] at alk'
      obtain ⟨fs, q0, rfl, _, eq0⟩ := al_last alf'
      obtain ⟨kss, p0, rfl, _, ep0⟩ := al_last alk'
      refine ⟨_, rfl, 1, rfl, f1, _, -1, .ref q0, rfl, rfl, SqL.of ef', atI_last _ _, _, rfl, _, _, rfl, rfl, _, rfl, 1, rfl, B, _, -1, .ref p0, rfl, rfl, SqL.of ek', atI_last _ _, p0, f3 x, 1, .int x.2.1, rfl, rfl, SqT.of ep0, rfl, by show 2 ≤ sizeLine; decide, fun q1 n1 => ?_⟩
      refine ne_row D2 trivial (r := (s + 999, x.2.1)) (Same.laid n1 _ _ eq0) upd_same ?_
      exact ⟨_, rfl, iteF (hN _ _ ⟨rfl, SZ.trans (Same.laid n1)⟩)⟩
  rintro σ' G1 ⟨rfl, SG1⟩
  have hF3 := hFG.same SG1
  -- the coarse rows
  refine ⟨_, rfl, f1, _, 400, rfl, .inl hF3, hgF, by decide, by decide, fun c H3 S3 n3 hC => ?_⟩
  obtain ⟨cs, ec, alc⟩ := hC.ex
  have hF4 := hF3.same S3
  obtain ⟨fs, ef4, alf4⟩ := hF4.ex
  have hCN := sumN_coarse 400 ((fineM (pr rs) s 1000).map one)
  rw [sumN_ones] at hCN
  have hCS := sumS_coarse 400 ((fineM (pr rs) s 1000).map one)
  rw [sumS_ones] at hCS
  have hCl : (coarseM 400 ((fineM (pr rs) s 1000).map one)).length ≤ 1000 := by
    have := coarse_len 400 ((fineM (pr rs) s 1000).map one)
    rw [List.length_map] at this
    omega
  generalize coarseM 400 ((fineM (pr rs) s 1000).map one) = CC at *
  refine ⟨_, rfl, c, rfl, ⟨_, SqL.of ec⟩, fun D1 hD1 => ?_⟩
  refine lc_acc (walk_list (K := K) (a := c) (xs := cs)) hD1 (by rw [alc.length]; exact Nat.le_trans hCl (by decide)) (fun i acc _ => acc = ((CC.take i).map G5.n).map V.int) rfl
    (fun H' S => SqL.of (S _ _ ec)) ?_ ?_
  · rintro i v G1 G2 acc hi S' eD hl2 rfl ⟨rfl, hx⟩ Fy Fn hy1 _
    obtain ⟨p, r, rfl, hr', ep⟩ := (alc.same S').get hx
    refine ⟨rfl, ?_⟩
    unfold tYes
    refine iteT ?_
    refine ⟨_, rfl, p, f5 r, 1, .int (G5.n r), rfl, rfl, SqT.of ep, rfl, ?_⟩
    refine hy1 _ _ (Same.refl _) ?_
    rw [List.take_add_one, hr', List.map_append, List.map_append]
    rfl
  rintro H4 acc S4 eD1 rfl
  rw [alc.length, List.take_length] at eD1
  refine ⟨D1, _, rfl, SqL.of eD1, ?_⟩
  refine ⟨_, rfl, f1, fs, rfl, .inl (SqL.of (S4 _ _ ef4)), rfl, _, rfl, ?_⟩
  have z1 : ((CC.map G5.n).sum) = ((fs.length : Nat) : Int) := by rw [alf4.length]; exact hCN
  rw [z1, decide_eq_true rfl]
  refine iteF ?_
  have ec4 := S4 _ _ ec
  have alc4 := alc.same S4
  refine ⟨_, rfl, c, rfl, ⟨_, SqL.of ec4⟩, fun D2_ hD2_ => ?_⟩
  refine lc_acc (walk_list (K := K) (a := c) (xs := cs)) hD2_ (by rw [alc4.length]; exact Nat.le_trans hCl (by decide)) (fun i acc _ => acc = ((CC.take i).map G5.s).map V.int) rfl
    (fun H' S => SqL.of (S _ _ ec4)) ?_ ?_
  · rintro i v G1 G2 acc hi S' eD hl2 rfl ⟨rfl, hx⟩ Fy Fn hy1 _
    obtain ⟨p, r, rfl, hr', ep⟩ := (alc4.same S').get hx
    refine ⟨rfl, ?_⟩
    unfold tYes
    refine iteT ?_
    refine ⟨_, rfl, p, f5 r, 2, .int (G5.s r), rfl, rfl, SqT.of ep, rfl, ?_⟩
    refine hy1 _ _ (Same.refl _) ?_
    rw [List.take_add_one, hr', List.map_append, List.map_append]
    rfl
  rintro H5 acc S5 eD2_ rfl
  rw [alc4.length, List.take_length] at eD2_
  refine ⟨D2_, _, rfl, SqL.of eD2_, ?_⟩
  have ef5 := S5 _ _ (S4 _ _ ef4)
  have alf5 := (alf4.same S4).same S5
  refine ⟨_, rfl, f1, rfl, ⟨_, SqL.of ef5⟩, fun D3_ hD3_ => ?_⟩
  refine lc_acc (walk_list (K := K) (a := f1) (xs := fs)) hD3_ (by rw [alf5.length]; exact Nat.le_trans hFl (by decide)) (fun i acc _ => acc = (((fineM (pr rs) s 1000).take i).map Prod.snd).map V.int) rfl
    (fun H' S => SqL.of (S _ _ ef5)) ?_ ?_
  · rintro i v G1 G2 acc hi S' eD hl2 rfl ⟨rfl, hx⟩ Fy Fn hy1 _
    obtain ⟨p, r, rfl, hr', ep⟩ := (alf5.same S').get hx
    refine ⟨rfl, ?_⟩
    unfold tYes
    refine iteT ?_
    refine ⟨_, rfl, p, f2 r, 1, .int (Prod.snd r), rfl, rfl, SqT.of ep, rfl, ?_⟩
    refine hy1 _ _ (Same.refl _) ?_
    rw [List.take_add_one, hr', List.map_append, List.map_append]
    rfl
  rintro H6 acc S6 eD3_ rfl
  rw [alf5.length, List.take_length] at eD3_
  refine ⟨D3_, _, rfl, SqL.of eD3_, ?_⟩
  refine ⟨rfl, _, rfl, ?_⟩
  have z2 : ((CC.map G5.s).sum) = (((fineM (pr rs) s 1000).map Prod.snd).sum) := hCS
  rw [z2, decide_eq_true rfl]
  refine iteF ?_
  -- a window that is too wide
  have SA : Same H H6 := S1.trans (S2.trans (SG.trans (SG1.trans (S3.trans (S4.trans (S5.trans S6))))))
  refine ⟨_, rfl, _, rfl, _, rfl, _, _, rfl, rfl, a, rs, s, s + 1000, true, rfl, hL.same SA, hg, ⟨hs.1, by omega⟩, ⟨by omega, by omega⟩, by omega, fun d H7 gd7 => ?_⟩
  refine ⟨true, M.ex, fun _ a0 _ => ?_, fun q => Bool.noConfusion q⟩
  refine ⟨_, rfl, C, d, _, .ref C, .ref C, true, rfl, rfl, M.x, rfl, (fun u h => h), M.ki, gd7.2.2, ?_⟩
  refine ⟨true, rfl, iteT ?_⟩
  have e1001 : s + 1000 - s + 1 = 1001 := by omega
  refine ⟨_, rfl, rfl, rfl, d, _, .int (s + 1000 - s + 1), rfl, gd7.2.2, rfl, ?_⟩
  refine ⟨.int (s + 1000 - s + 1), 0, 1921, _, rfl, .int _ (by rw [e1001]; decide), (fun _ z => by cases z), by decide, by decide, ?_⟩
  refine ⟨rfl, ?_⟩
  rw [e1001]
  have e3 : decide (V.str ((toString (1001 : Int) : String) : Str) = V.str "1001") = true := by decide +kernel
  show Q (V.bl (decide (V.str ((toString (1001 : Int) : String) : Str) = V.str "1001"))) H7
  rw [e3]
  exact k _ (SA.trans gd7.1)
end
end T40

set_option maxHeartbeats 16000000
namespace T40
open PySem PySem.Spec PyProof.Rows L2 Pw Tr
theorem last_at {ss : List R3} {t : Int} {m : Nat} {r : R3} (e : ss[m]? = some r) (all : ∀ i, i ≤ m → ∀ r, ss[i]? = some r → r.1 ≤ t) (nx : ∀ r, ss[m + 1]? = some r → ¬ r.1 ≤ t) :
    lastW (pr ss) t = some r.2.1 := by
  have up : ∀ h, h ≤ m + 1 → h ≤ cnt ss t := by
    intro h
    induction h with
    | zero => intro _; exact Nat.zero_le _
    | succ h ih =>
      intro hm
      have hlt : h < ss.length := by
        have := (List.getElem?_eq_some_iff.mp e).1
        omega
      exact cnt_step (ih (by omega)) (List.getElem?_eq_getElem hlt) (all h (by omega) _ (List.getElem?_eq_getElem hlt))
  have ec : m + 1 = cnt ss t := cnt_stop (up _ (Nat.le_refl _)) nx
  have ew := wv_cnt ss t
  rw [← ec, wv_succ e] at ew
  cases hl : lastW (pr ss) t with
  | none => rw [hl] at ew; cases ew
  | some w => rw [hl] at ew; cases ew; rfl
/-- the long history -/
def row3 (b : Int) (i : Nat) : R3 := (b + 3 * (i : Int), (i : Int) % 64, "good")
def long3 (b : Int) : List R3 := (List.range 110).map (row3 b)
theorem long_get {b : Int} {i : Nat} {r : R3} (e : (long3 b)[i]? = some r) : i < 110 ∧ r = row3 b i := by
  unfold long3 at e
  rw [List.getElem?_map] at e
  cases h : (List.range 110)[i]? with
  | none => rw [h] at e; cases e
  | some j =>
    rw [h] at e
    cases e
    obtain ⟨h1, h2⟩ := List.getElem?_eq_some_iff.mp h
    rw [List.length_range] at h1
    rw [List.getElem_range] at h2
    exact ⟨h1, by rw [h2]⟩
theorem long_at {b : Int} {i : Nat} (h : i < 110) : (long3 b)[i]? = some (row3 b i) := by
  unfold long3
  rw [List.getElem?_map, List.getElem?_eq_getElem (by rw [List.length_range]; exact h), List.getElem_range]
  rfl
theorem long_good {b : Int} (h0 : 0 ≤ b) (h1 : b ≤ 8999) : GoodH (long3 b) := by
  refine ⟨fun r hr => ?_, ?_, by unfold long3; rw [List.length_map, List.length_range]; decide⟩
  · obtain ⟨i, hi, rfl⟩ := List.mem_map.mp hr
    have := List.mem_range.mp hi
    refine ⟨by show 0 ≤ b + 3 * (i : Int); omega, by show b + 3 * (i : Int) ≤ 9999; omega, ?_, ?_, .inl rfl⟩
    · show 0 ≤ (i : Int) % 64
      omega
    · show (i : Int) % 64 ≤ 63
      omega
  · refine List.pairwise_map.mpr (List.pairwise_lt_range.imp fun {x y} h => ?_)
    show b + 3 * (x : Int) < b + 3 * (y : Int)
    omega
def tick3 (b : Int) (j : Nat) : Int × Int := (b + (j : Int), (j : Int) / 3 % 64)
theorem long_fine (b : Int) : ∀ n : Nat, n ≤ 330 → fineM (pr (long3 b)) b n = (List.range n).map (tick3 b)
  | 0, _ => rfl
  | n + 1, h => by
    rw [fineM_succ, long_fine b n (by omega), List.range_succ, List.map_append]
    have hm : n / 3 < 110 := by omega
    have e := last_at (ss := long3 b) (t := b + n) (m := n / 3) (long_at hm) (fun i hi r er => ?_) (fun r er => ?_)
    · unfold tickRow
      rw [e]
      show _ ++ [(b + (n : Int), ((n / 3 : Nat) : Int) % 64)] = _ ++ [tick3 b n]
      have : (((n / 3 : Nat) : Int)) = (n : Int) / 3 := by omega
      rw [this]
      rfl
    · obtain ⟨_, rfl⟩ := long_get er
      show b + 3 * (i : Int) ≤ b + (n : Int)
      omega
    · obtain ⟨_, rfl⟩ := long_get er
      show ¬ b + 3 * ((n / 3 + 1 : Nat) : Int) ≤ b + (n : Int)
      omega
section
variable {P : Program} {w : World} {K : PySem.W.Frag} {mg : Str → Option Value} {base : Heap}
def spLong (K : PySem.W.Frag) : Sp := fun vs H Q _ => ∃ p n, vs = [.ref p] ∧ BoxAt H p n ∧ n ≤ 900000 ∧ ∀ H', But p H H' → Q (.bl true) H'
theorem d_long (T : Txt mg) (A : At K mg "_law_long_right" sLawLongRight) (dt : Def P w K mg base "_law_take" 1 ["_law_box_here", "_law_many"] (spTake K)) (D : Ds P w K mg base) :
    Def P w K mg base "_law_long_right" 9 ["_law_box_here"] (spLong K) := by
  refine mkDef A scLawLongRight (fun _ _ _ _ _ _ us hl => match us, hl with | [_], _ => rfl) (fun vs H Q E ⟨_, _, e, _⟩ => by rw [e]; rfl)
    (fun f cdv A out s H vs Q E hr h => ?_)
  obtain ⟨p, n, rfl, hb, hn, k⟩ := h
  refine ⟨_, (pss_cons (ps_set (i := 1) scLawLongRight.nd rfl (.inr rfl) (pe_d dt hr (by decide) (by rfl) (pa_cons (pv 0) (pa_cons pe_int pa_nil))))
    (pss_cons (ps_setLc (i := 2) (own := [("_law_at", 3)]) (g := gName 3) (tt := tYes) rfl scLawLongRight.nd rfl rfl (sw_true rfl rfl rfl (by decide +kernel)) (pi_range1 (by rfl) T.range (pa_cons pe_int pa_nil))
        (blkOk_by (own := [("_law_at", 3)]) (N := ["_law_box_here", "_law_base", "_law_rows", "_law_at", "_law_told"]) (sc := defScope sLawLongRight) (by decide +kernel))
        (fun _ _ _ _ _ => (pg_name (i := 3) scLawLongRight.nd rfl (.inl rfl))) (fun _ _ _ _ _ => pts_nil)
        (fun _ _ _ _ _ => (pe_tup (pa_cons (pe_op op_add (pv 1) (pe_op op_mul pe_int (pv 3))) (pa_cons (pe_op op_mod (pv 3) pe_int) (pa_cons pe_str pa_nil))))))
    (pss_cons (ps_set (i := 3) scLawLongRight.nd rfl (.inl rfl) (pe_d dt hr (by decide) (by rfl) (pa_cons (pv 0) (pa_cons pe_int pa_nil))))
    (pss_cons (ps_set (i := 4) scLawLongRight.nd rfl (.inl rfl) (pe_dD D.fine hr (by decide) (by rfl) (pa_cons (pv 2) (pa_cons (pv 1) (pa_cons (pe_op op_add (pv 1) pe_int) pa_nil)))))
    (pss_one (ps_ret (pe_and (pe_cmpR op_eq (pe_callB call_len_seq (by rfl) T.len PySem.boot_len (pa_cons (pv 4) pa_nil)) pe_int (nomark _)) (pe_one (pe_cmpR (op_eqD hr.units) (pe_ix ix_list (pv 4) (pv 3) (fun _ _ => rfl)) (pe_tup (pa_cons (pe_op op_add (pv 1) (pv 3)) (pa_cons (pe_op op_mod (pe_op op_fdiv (pv 3) pe_int) pe_int) pa_nil))) (nomark _)))))))))), ?_⟩
  refine ⟨_, rfl, p, 9000, n, rfl, hb, by omega, by decide, by decide, fun b H1 b0 b1 hb1 B1 => ?_⟩
  refine ⟨110, rfl, by decide, by decide, fun B hB => ?_⟩
  refine lc_acc (walk_range (lo := 0) (n := 110)) hB (by decide) (fun i acc H' => Al f3 H' acc ((List.range i).map (row3 b))) .nil (fun _ _ => trivial) ?_ ?_
  · rintro i v H2 H3 acc hi S2 eD hl2 hA ⟨rfl, rfl⟩ Fy Fn hy1 _
    refine ⟨rfl, ?_⟩
    unfold tYes
    refine iteT ?_
    refine ⟨_, rfl, _, rfl, _, _, rfl, rfl, .inl ⟨by decide, by decide⟩, _, _, rfl, rfl, _, rfl, _, _, rfl, rfl, (by decide : (0 : Int) < 64), by show 3 ≤ sizeLine; decide, fun q nq => ?_⟩
    have qB : q ≠ B := fun z => by rw [z, eD] at nq; cases nq
    refine hy1 _ _ (Same.laid nq) ?_
    rw [List.range_succ, List.map_append]
    refine Al.snoc (hA.same (Pw.Same.wo (Same.laid nq))) (r := row3 b i) (wo_of qB ?_)
    rw [upd_same]
    have e0 : (0 : Int) + (i : Int) = i := Int.zero_add _
    show some (HO.tup [V.int (b + 3 * (0 + (i : Int))), V.int ((0 + (i : Int)) % 64), V.str "good"]) = some (HO.tup [V.int (b + 3 * (i : Int)), V.int ((i : Int) % 64), V.str "good"])
    rw [e0]
  · rintro H2 acc S2 eB hA
    have hB2 : LT f3 H2 B (long3 b) := ⟨acc, eB, hA.same wo_same⟩
    have Bp : B ≠ p := hb1.ne hB
    have hb2 := hb1.keep S2
    refine ⟨_, rfl, p, 330, _, rfl, hb2, by omega, by decide, by decide, fun x H3 x0 x1 hb3 B3 => ?_⟩
    obtain ⟨jj, rfl⟩ := Int.eq_ofNat_of_zero_le x0
    have hB3 : LT f3 H3 B (long3 b) := by
      have hw : LT f3 (wo H2 p) B (long3 b) := by
        refine ⟨acc, wo_of Bp eB, (hA.same wo_same).imp fun q xs eq => wo_of (fun z => ?_) eq⟩
        obtain ⟨c0, c1, c2, ep, _⟩ := hb2
        rw [z, ep] at eq
        cases eq
      exact (hw.same B3).same wo_same
    refine ⟨_, rfl, _, rfl, _, rfl, _, _, rfl, rfl, B, long3 b, b, b + 329, true, rfl, .inl hB3, long_good b0 (by omega), ⟨b0, by omega⟩, ⟨by omega, by omega⟩, by omega, fun f1 H4 S4 n4 hF => ?_⟩
    have en : (b + 329 + 1 - b).toNat = 330 := by omega
    rw [if_pos rfl, en, long_fine b 330 (Nat.le_refl _)] at hF
    obtain ⟨fs, ef, alf⟩ := hF.ex
    have lf : fs.length = 330 := by rw [alf.length, List.length_map, List.length_range]
    refine ⟨_, rfl, f1, fs, rfl, .inl (SqL.of ef), rfl, ?_⟩
    refine ⟨_, rfl, ?_⟩
    have e330 : decide (V.int ((fs.length : Nat) : Int) = V.int 330) = true := by rw [lf]; decide
    rw [e330]
    refine iteT ?_
    have hj : jj < 330 := by omega
    obtain ⟨q0, eq0, et0⟩ := alf.at (i := jj) (r := tick3 b jj) (by rw [List.getElem?_map, List.getElem?_eq_getElem (by rw [List.length_range]; exact hj), List.getElem_range]; rfl)
    refine ⟨_, rfl, _, rfl, f1, fs, (jj : Int), .ref q0, rfl, rfl, SqL.of ef, atI_nat eq0, _, rfl, _, rfl, _, _, rfl, rfl, _, rfl, _, _, rfl, rfl, ⟨by decide, by decide⟩, _, _, rfl, rfl, (by decide : (0 : Int) < 64), by show 2 ≤ sizeLine; decide, fun q1 n1 => ?_⟩
    refine eq_row D2 trivial (r := tick3 b jj) (Same.laid n1 _ _ et0) ?_ ?_
    · rw [upd_same]
      rfl
    · exact k _ (B1.trans ((Pw.Same.but S2).trans (B3.trans (Pw.Same.but (S4.trans (Same.laid n1))))))
def spLaw (K : PySem.W.Frag) : Sp := fun vs H Q _ => ∃ (a : Addr) (ns : List Int), vs = [.ref a] ∧ SqL K H a (ns.map V.int) ∧ ns.length ≤ 63 ∧ ∀ H', Q (.bl true) H'
theorem ok_law {f : Addr} {fd : FuncData} (F : Fun K "law" "law" sLaw f fd) (T : Txt mg)
    (dc : Def P w K mg base "_law_cell" 1 ["_law_script", "_law_k"] (spCell K)) (db : Def P w K mg base "_law_box" 1 ["_law_cell_here"] (spBox K))
    (dt : Def P w K mg base "_law_take" 1 ["_law_box_here", "_law_many"] (spTake K)) (dh : Def P w K mg base "_law_history" 2 ["_law_box_here", "_law_many"] (spHis K))
    (dw : Def P w K mg base "_law_window" 2 ["_law_box_here", "_law_rows"] (spWdw K))
    (dr : DefG P w K mg base "_law_right" 9 ["_law_rows", "_law_since", "_law_till"] spRight)
    (dm : DefG P w K mg base "_law_many_right" 9 ["_law_rows", "_law_since"] spMany)
    (dlo : Def P w K mg base "_law_long_right" 9 ["_law_box_here"] (spLong K)) :
    FnG P w K mg base CX0 10 f fd ["_law_script"] (spLaw K) := by
  refine okG F scLaw (fun vs H Q E ⟨a, ns, e, _⟩ => by rw [e]; rfl) (fun cdv A out s H vs Q E gd hr h => ?_)
  obtain ⟨a, ns, rfl, hS, hl, k⟩ := h
  refine ⟨_, (pss_cons (ps_for PassesOwn.never rfl (pi_range1 (by rfl) T.range (pa_cons (pe_callB (call_max2 rfl) (by rfl) T.max PyProof.Rows.boot_max (pa_cons pe_int (pa_cons (pe_callB (call_min2 rfl) (by rfl) T.min PyProof.Rows.boot_min (pa_cons (pe_callB call_len_seq (by rfl) T.len PySem.boot_len (pa_cons (pv 0) pa_nil)) (pa_cons pe_int pa_nil))) pa_nil))) pa_nil)) (pg_name (i := 1) scLaw.nd rfl (.inl rfl))
      (pss_cons (ps_set (i := 2) scLaw.nd rfl (.inl rfl) (pe_d db hr (by decide) (by rfl) (pa_cons (pe_d dc hr (by decide) (by rfl) (pa_cons (pv 0) (pa_cons (pv 1) pa_nil))) pa_nil)))
      (pss_cons (ps_set (i := 3) scLaw.nd rfl (.inl rfl) (pe_d dh hr (by decide) (by rfl) (pa_cons (pv 2) (pa_cons (pe_d dt hr (by decide) (by rfl) (pa_cons (pv 2) (pa_cons pe_int pa_nil))) pa_nil))))
      (pss_cons (ps_asg (pe_d dw hr (by decide) (by rfl) (pa_cons (pv 2) (pa_cons (pv 3) pa_nil))) (pg_tup (by rfl) (pgs_cons (pg_name (i := 4) scLaw.nd rfl (.inl rfl)) (pgs_cons (pg_name (i := 5) scLaw.nd rfl (.inl rfl)) pgs_nil))))
      (pss_cons (ps_if (PW.pt (pw_or (pt_not (pt_val (pe_dG dr gd hr (by decide) (by rfl) (pa_cons (pv 3) (pa_cons (pv 4) (pa_cons (pv 5) pa_nil)))))) (pw_or1 (PW.pt (pw_and (pt_cmpR op_lt (pv 4) pe_int (nomark _)) (pw_and1 (pt_not (pt_val (pe_dG dr gd hr (by decide) (by rfl) (pa_cons (pv 3) (pa_cons pe_int (pa_cons (pv 4) pa_nil))))))))))))
        (pss_one (ps_ret pe_bl))
        pss_nil)
      (pss_cons (ps_if (PW.pt (pw_or (pt_not (pt_val (pe_dG dr gd hr (by decide) (by rfl) (pa_cons (pe_lst pa_nil) (pa_cons (pv 4) (pa_cons (pv 5) pa_nil)))))) (pw_or1 (pt_not (pt_val (pe_dG dr gd hr (by decide) (by rfl) (pa_cons (pv 3) (pa_cons pe_int (pa_cons pe_int pa_nil)))))))))
        (pss_one (ps_ret pe_bl))
        pss_nil)
      (pss_cons (ps_if (PW.pt (pw_and (pt_cmpR op_lt (pv 1) pe_int (nomark _)) (pw_and1 (pt_not (pt_val (pe_dG dm gd hr (by decide) (by rfl) (pa_cons (pv 3) (pa_cons (pe_callB (call_min2 rfl) (by rfl) T.min PyProof.Rows.boot_min (pa_cons (pv 4) (pa_cons pe_int pa_nil))) pa_nil))))))))
        (pss_one (ps_ret pe_bl))
        pss_nil)
      (pss_one (ps_if (PW.pt (pw_and (pt_cmpR op_eq (pv 1) pe_int (nomark _)) (pw_and1 (pt_not (pt_val (pe_d dlo hr (by decide) (by rfl) (pa_cons (pv 2) pa_nil)))))))
        (pss_one (ps_ret pe_bl))
        pss_nil)))))))))
    (pss_one (ps_ret pe_bl))), ?_⟩
  refine ⟨_, rfl, a, ns.map V.int, rfl, .inl hS, _, 6, rfl, 2, _, rfl, ?_⟩
  rw [List.length_map]
  generalize hj : (if (if (6 : Int) < (ns.length : Int) then (6 : Int) else (ns.length : Int)) > 2 then (if (6 : Int) < (ns.length : Int) then (6 : Int) else (ns.length : Int)) else 2 : Int) = j
  have j0 : 0 ≤ j := by rw [← hj]; split <;> split <;> omega
  have j1 : j ≤ 12 := by rw [← hj]; split <;> split <;> omega
  refine ⟨j, rfl, by omega, by omega, for_range (n := j.toNat) (fun i σ G => ∃ v1 v2 v3 v4 v5 : Option V,
    σ = [some (.ref a), v1, v2, v3, v4, v5] ∧ Same H G) ⟨none, none, none, none, none, rfl, Same.refl _⟩ ?_ ?_⟩
  · rintro i σ G hi ⟨v1, v2, v3, v4, v5, rfl, S⟩
    refine ⟨_, rfl, _, rfl, a, ns, 0 + (i : Int), rfl, S.seq hS, hl, by omega, by omega, fun c => ?_⟩
    refine ⟨c, rfl, fun p G1 np S1 hb1 => ?_⟩
    have pH : H p = none := Same.no S np
    refine ⟨_, rfl, _, rfl, p, 15, 0, rfl, hb1, by decide, by decide, by decide, fun m G2 m0 m1 hb2 B2 => ?_⟩
    refine ⟨p, m, 1, rfl, m0, by omega, hb2, by decide, fun R G3 rs RP hb3 B3 hR hg _ => ?_⟩
    refine ⟨_, rfl, _, rfl, p, R, 201, rs, rfl, hb3, by decide, RP, hR, hg, fun q G4 s t qP hb4 B4 eq hs ht hst => ?_⟩
    refine ⟨q, _, rfl, SqT.of eq, rfl, _, _, rfl, _, _, rfl, rfl, ?_⟩
    have hR4 : LT f3 G4 R rs := (hR.same B4).same wo_same
    have SH4 : Same H G4 := fun b o e => by
      have n1 := ne_of_none e pH
      exact B4.at n1 (B3.at n1 (B2.at n1 (S1 b o (S b o e))))
    clear hb1 hb2 hb3 B2 B3 B4 hR eq S1 np
    -- right
    try dsimp only [tNext, gName]
    refine seq_join (A := tIfS _ _ _) (fun σ' G' => σ' = [some (.ref a), some (.int (0 + (i : Int))), some (.ref p), some (.ref R), some (.int s), some (.int t)] ∧ Same G4 G') (fun N' hN => ?_) ?_
    · refine ⟨_, rfl, _, rfl, _, rfl, R, rs, s, t, rfl, hR4, hg, hs, ht, by omega, fun G5 S5 => ?_⟩
      refine ⟨true, rfl, iteF ?_⟩
      refine ⟨_, rfl, s, 60, rfl, rfl, _, rfl, ?_⟩
      refine ite2 (fun h60 => ?_) (fun _ => iteF (hN _ _ ⟨rfl, S5⟩))
      have h60' : s < 60 := of_decide_eq_true h60
      refine ⟨_, rfl, _, rfl, R, rs, 0, s, rfl, hR4.same S5, hg, ⟨by decide, by decide⟩, hs, by omega, fun G6 S6 => ?_⟩
      exact ⟨true, rfl, iteF (hN _ _ ⟨rfl, S5.trans S6⟩)⟩
    rintro σ G5 ⟨rfl, S5⟩
    -- of none, at the clock's end
    refine ⟨by show 0 ≤ sizeLine; decide, fun Z nZ => ?_⟩
    refine ⟨_, rfl, _, rfl, Z, [], s, t, rfl, ⟨[], upd_same, .nil⟩, ⟨(fun r hr => by cases hr), .nil, by decide⟩, hs, ht, by omega, fun G6 S6 => ?_⟩
    refine ⟨true, rfl, iteF ?_⟩
    have S56 := (Same.laid (o := HO.lst []) nZ).trans S6
    have S46 := S5.trans S56
    refine ⟨_, rfl, R, rs, 9999, 9999, rfl, hR4.same S46, hg, ⟨by decide, by decide⟩, ⟨by decide, by decide⟩, by decide, fun G7 S7 => ?_⟩
    refine ⟨true, rfl, iteF ?_⟩
    have S47 := S46.trans S7
    -- many
    try dsimp only [tNext, gName]
    refine seq_join (A := tIfS _ _ _) (fun σ' G' => σ' = [some (.ref a), some (.int (0 + (i : Int))), some (.ref p), some (.ref R), some (.int s), some (.int t)] ∧ Same G7 G') (fun N' hN => ?_) ?_
    · refine ⟨_, rfl, _, 2, rfl, rfl, _, rfl, ?_⟩
      refine ite2 (fun _ => ?_) (fun _ => iteF (hN _ _ ⟨rfl, Same.refl _⟩))
      refine ⟨_, rfl, _, rfl, s, 8999, rfl, R, rs, _, rfl, hR4.same S47, hg, ?_, fun G8 S8 => ?_⟩
      · split <;> omega
      · exact ⟨true, rfl, iteF (hN _ _ ⟨rfl, S8⟩)⟩
    rintro σ G8 ⟨rfl, S8⟩
    have S48 := S47.trans S8
    -- long
    refine ⟨_, rfl, rfl, _, rfl, ?_⟩
    refine ite2 (fun _ => ?_) (fun _ => iteF ⟨_, _, _, _, _, rfl, SH4.trans S48⟩)
    refine ⟨_, rfl, p, _, rfl, hb4.keep S48, by decide, fun G9 B9 => ?_⟩
    refine ⟨true, rfl, iteF ⟨_, _, _, _, _, rfl, fun b o e => ?_⟩⟩
    exact B9.at (ne_of_none e pH) (S48 _ _ (SH4 b o e))
  · rintro σ G ⟨v1, v2, v3, v4, v5, rfl, S⟩
    exact k G
end
-- END defs: Number=_is_number Check=_check_number Whole=is_whole Time=is_time Mark=is_mark OneOf=is_one_of Tuple=is_tuple Rising=is_rising CTime=check_time CWhole=check_whole CTruth=check_truth Level=is_level Row=is_row Hist=is_history CHist=check_history Goods=good_rows CoOf=coarse_of CSize=_check_size CWin=_check_window FRows=_are_fine_rows FRow=_is_fine_row FineR=_fine_rows CoR=_coarse_rows Cell=_law_cell Box=_law_box Take=_law_take His=_law_history Wdw=_law_window LFine=_law_fine Right=_law_right Many=_law_many_right Long=_law_long_right
-- END kwdefs: Fine=fine:odd 
-- END level: 10 param: _law_script
theorem fin {P : Program} {w : World} {K : PySem.W.Frag} {mg : Str → Option Value} {fa : Addr} (hfa : mg "law" = some (.ref fa)) (T : Txt mg)
    (aNumber : At K mg "_is_number" sIsNumber) (aCheck : At K mg "_check_number" sCheckNumber) (aWhole : At K mg "is_whole" sIsWhole) (aTime : At K mg "is_time" sIsTime)
    (aMark : At K mg "is_mark" sIsMark) (aOneOf : At K mg "is_one_of" sIsOneOf) (aTuple : At K mg "is_tuple" sIsTuple) (aRising : At K mg "is_rising" sIsRising)
    (aCTime : At K mg "check_time" sCheckTime) (aCWhole : At K mg "check_whole" sCheckWhole) (aCTruth : At K mg "check_truth" sCheckTruth) (aLevel : At K mg "is_level" sIsLevel)
    (aRow : At K mg "is_row" sIsRow) (aHist : At K mg "is_history" sIsHistory) (aCHist : At K mg "check_history" sCheckHistory) (aGoods : At K mg "good_rows" sGoodRows)
    (aCoOf : At K mg "coarse_of" sCoarseOf) (aCSize : At K mg "_check_size" sCheckSize) (aCWin : At K mg "_check_window" sCheckWindow) (aFRows : At K mg "_are_fine_rows" sAreFineRows)
    (aFRow : At K mg "_is_fine_row" sIsFineRow) (aFineR : At K mg "_fine_rows" sFineRows) (aCoR : At K mg "_coarse_rows" sCoarseRows) (aCell : At K mg "_law_cell" sLawCell)
    (aBox : At K mg "_law_box" sLawBox) (aTake : At K mg "_law_take" sLawTake) (aHis : At K mg "_law_history" sLawHistory) (aWdw : At K mg "_law_window" sLawWindow)
    (aLFine : At K mg "_law_fine" sLawFine) (aRight : At K mg "_law_right" sLawRight)
    (aMany : At K mg "_law_many_right" sLawManyRight) (aLong : At K mg "_law_long_right" sLawLongRight) (aLaw : At K mg "law" sLaw)
    (aFine : AtD K mg "fine" sFine [("odd", .bl true)]) {C CP fP : Addr} (M : ManyT K mg C CP fP) :
    ∃ fd : FuncData, (∀ (s : Shared) (v : Value), BindsTo s fd ⟨[v], []⟩ [("_law_script", v)]) ∧
      ∀ base : Heap, K.In base → base.Ns mainGlobals mg → FnG P w K mg base CX0 10 fa fd ["_law_script"] (spLaw K) := by
  obtain ⟨f, fd, F, m⟩ := aLaw.ex
  cases hfa.symm.trans m
  have F' := F
  obtain ⟨oc, od, kV, doc, pm, an, cdv, ct, osl, rfl, lk, hcd⟩ := F.ex
  refine ⟨PySem.W.fnOf "law" "law" (defArgs sLaw) (defBody sLaw) (defScope sLaw) .none kV doc pm an cdv ct, fun s v => .of_eq rfl, fun base _ _ => ?_⟩
  have dNumber : Def P w K mg base "_is_number" 1 ["thing"] (spNumber K) := d_number T aNumber
  have dCheck := d_check aCheck dNumber
  have dWhole := d_whole aWhole dNumber dCheck
  have dTuple : Def P w K mg base "is_tuple" 1 ["thing", "many"] (spTupN K) := d_tuple T aTuple
  have dTime := d_time T aTime dWhole
  have dLevel := d_level T aLevel dWhole
  have dMark := d_mark aMark (d_oneof T aOneOf (P := P) (w := w) (base := base))
  have dRis : Def P w K mg base "is_rising" 1 ["numbers"] (spRis K) := d_rising T aRising
  have dHist := d_chistory aCHist (d_history T aHist (d_row aRow dTuple dTime dLevel dMark) dRis)
  have dSize := d_csize T aCSize (d_cwhole aCWhole dWhole)
  have dWin := d_cwin T aCWin (d_ctime aCTime dTime) (d_ctruth T aCTruth)
  have dFineR := d_fineR T aFineR (d_goods aGoods (P := P) (w := w) (base := base))
  have dCoR : Def P w K mg base "_coarse_rows" 1 ["rows", "size"] spCoR := d_coR T aCoR
  have dTake : Def P w K mg base "_law_take" 1 ["_law_box_here", "_law_many"] (spTake K) := d_take aTake
  have D : Ds P w K mg base := ⟨d_fine aFine dHist dWin dFineR, d_fineK aFine dHist dWin dFineR,
    d_coof aCoOf (d_frows T aFRows (d_frow aFRow dTuple dTime dLevel) dRis) dSize dCoR, d_lfine T aLFine⟩
  have dX := d_fineX aFine dHist (d_cwinX T aCWin M (d_ctime aCTime dTime) (d_ctruth T aCTruth)) dFineR
  exact ok_law F' T (d_cell T aCell) (d_box T aBox) dTake (d_his T aHis dTake) (d_wdw T aWdw dTake) (d_right T aRight D) (d_many T aMany M D dX) (d_long T aLong dTake D)
end T40

namespace T40
open PySem PySem.Spec PyProof.Rows L2 Pw
abbrev dfK (x : Str) (st : Stmt) (kw : List (Str × He.Dv)) : He.DefD := ⟨(x, none), x, x, defArgs st, defBody st, defScope st, [], kw⟩
abbrev dfM (c m q : Str) (st : Stmt) : He.DefD := ⟨(c, some m), m, q, defArgs st, defBody st, defScope st, [], []⟩

def fb : List Fb := ([(He.Fa.free "ValueError").ok, (He.Fa.free "all").ok, (He.Fa.free "bool").ok, (He.Fa.free "int").ok, (He.Fa.free "isinstance").ok, (He.Fa.free "len").ok, (He.Fa.free "list").ok, (He.Fa.free "max").ok, (He.Fa.free "min").ok, (He.Fa.free "range").ok, (He.Fa.free "repr").ok, (He.Fa.free "str").ok, (He.Fa.free "sum").ok, (He.Fa.free "tuple").ok, (He.Fa.free "zip").ok, (He.Fa.int "MOST_TIME" 9999).ok, (He.Fa.int "MOST_LEVEL" 63).ok, (He.Fa.int "_MOST_TICKS" 1000).ok, (He.Fa.int "_MOST_SIZE" 400).ok, (He.Fa.glo "_is_number").ok, (He.Fa.glo "_check_number").ok, (He.Fa.glo "is_whole").ok, (He.Fa.glo "is_time").ok, (He.Fa.glo "is_mark").ok, (He.Fa.glo "is_one_of").ok, (He.Fa.glo "is_tuple").ok, (He.Fa.glo "is_rising").ok, (He.Fa.glo "check_time").ok, (He.Fa.glo "check_whole").ok, (He.Fa.glo "check_truth").ok] : List Fb) ++ ([(He.Fa.glo "is_level").ok, (He.Fa.glo "is_row").ok, (He.Fa.glo "is_history").ok, (He.Fa.glo "check_history").ok, (He.Fa.glo "good_rows").ok, (He.Fa.glo "coarse_of").ok, (He.Fa.glo "_check_size").ok, (He.Fa.glo "_check_window").ok, (He.Fa.glo "_are_fine_rows").ok, (He.Fa.glo "_is_fine_row").ok, (He.Fa.glo "_fine_rows").ok, (He.Fa.glo "_coarse_rows").ok, (He.Fa.glo "_law_cell").ok, (He.Fa.glo "_law_box").ok, (He.Fa.glo "_law_take").ok, (He.Fa.glo "_law_history").ok, (He.Fa.glo "_law_window").ok, (He.Fa.glo "_law_fine").ok, (He.Fa.glo "_law_right").ok, (He.Fa.glo "_law_many_right").ok, (He.Fa.glo "_law_long_right").ok, (He.Fa.glo "law").ok, (He.Fa.glo "fine").ok, hnB, htB, iniB "ValueError" "ValueError.__init__", fmB "PanelError" veT "ValueError.__new__", clB "TooMany" "PanelError" "many" veT "ValueError.__new__", (fun K => decide (PySem.W.exmOne K (.ref (He.ga K "TooMany")) (.ref (He.ga K "PanelError")) = some true)), (fun K => decide (PySem.W.kitOne K (.ref (He.ga K "TooMany")) (.ref (He.ga K "TooMany")) = some true))] : List Fb)
def fn : List He.DefD := ([dfN "_is_number" sIsNumber, dfN "_check_number" sCheckNumber, dfN "is_whole" sIsWhole, dfN "is_time" sIsTime, dfN "is_mark" sIsMark, dfN "is_one_of" sIsOneOf, dfN "is_tuple" sIsTuple, dfN "is_rising" sIsRising, dfN "check_time" sCheckTime, dfN "check_whole" sCheckWhole, dfN "check_truth" sCheckTruth, dfN "is_level" sIsLevel, dfN "is_row" sIsRow, dfN "is_history" sIsHistory, dfN "check_history" sCheckHistory, dfN "good_rows" sGoodRows, dfN "coarse_of" sCoarseOf, dfN "_check_size" sCheckSize, dfN "_check_window" sCheckWindow, dfN "_are_fine_rows" sAreFineRows, dfN "_is_fine_row" sIsFineRow, dfN "_fine_rows" sFineRows, dfN "_coarse_rows" sCoarseRows, dfN "_law_cell" sLawCell, dfN "_law_box" sLawBox, dfN "_law_take" sLawTake, dfN "_law_history" sLawHistory, dfN "_law_window" sLawWindow, dfN "_law_fine" sLawFine, dfN "_law_right" sLawRight] : List He.DefD) ++ ([dfN "_law_many_right" sLawManyRight, dfN "_law_long_right" sLawLongRight, dfN "law" sLaw, dfK "fine" sFine [("odd", .bl true)], dfM "PanelError" "__init__" "PanelError.__init__" mPanelError_Init, dfM "TooMany" "__init__" "TooMany.__init__" mTooMany_Init] : List He.DefD)
def loose : List Str := (["PanelError", "TooMany", "NoTime", "NoNumber", "NoTruth", "NoList", "NoHistory", "MOST_TIME", "MOST_LEVEL", "_is_number", "_check_number", "is_whole", "is_time", "is_mark", "is_one_of", "is_tuple", "is_rising", "check_time", "check_whole", "check_truth", "is_level", "is_row", "is_history", "check_history", "good_rows", "_MOST_TICKS", "_MOST_SIZE", "fine", "coarse_of", "_check_size"] : List Str) ++ (["_check_window", "_are_fine_rows", "_is_fine_row", "_fine_rows", "_coarse_rows", "_law_cell", "_law_box", "_law_take", "_law_history", "_law_window", "_law_fine", "_law_right", "_law_many_right", "_law_long_right"] : List Str)
abbrev R : PySem.W.OpenRow := PySem.W.OpenLaw.row PySem.Challenge.rw_panelwatch_k40_fine_rows
def hk : PySem.W.Hook := hookB 0 fb fn
def ob (s : PySem.W.SharedT) : He.AlD := obsBG 0 fb fn (HandSHeadRun.getT s)
theorem ob_eq (s : PySem.W.SharedT) : ob s = hk.obs s.abs := obsBG_eq (HandSHeadRun.getT_eq s)
theorem facts {P : Program} {w : World} {K : PySem.W.Frag} {h : Heap} {mg : Str → Option Value} {f : Addr} (X : K.In h) (G : h.Ns mainGlobals mg) (hfa : mg ("law" : Str) = some (.ref f)) (c : SaysB fb fn K) :
    ∃ fd : FuncData, (∀ (s : Shared) (v : Value), BindsTo s fd ⟨[v], []⟩ [("_law_script", v)]) ∧ ∀ base : Heap, K.In base → base.Ns mainGlobals mg → FnG P w K mg base CX0 10 f fd ["_law_script"] (spLaw K) := by
  have z_ValueError : PySem.W.nsIn K mainGlobals "ValueError" = some none := He.eqO_ok (c.fact (f := (He.Fa.free "ValueError").ok) 0 rfl)
  have z_all : PySem.W.nsIn K mainGlobals "all" = some none := He.eqO_ok (c.fact (f := (He.Fa.free "all").ok) 1 rfl)
  have z_bool : PySem.W.nsIn K mainGlobals "bool" = some none := He.eqO_ok (c.fact (f := (He.Fa.free "bool").ok) 2 rfl)
  have z_int : PySem.W.nsIn K mainGlobals "int" = some none := He.eqO_ok (c.fact (f := (He.Fa.free "int").ok) 3 rfl)
  have z_isinstance : PySem.W.nsIn K mainGlobals "isinstance" = some none := He.eqO_ok (c.fact (f := (He.Fa.free "isinstance").ok) 4 rfl)
  have z_len : PySem.W.nsIn K mainGlobals "len" = some none := He.eqO_ok (c.fact (f := (He.Fa.free "len").ok) 5 rfl)
  have z_list : PySem.W.nsIn K mainGlobals "list" = some none := He.eqO_ok (c.fact (f := (He.Fa.free "list").ok) 6 rfl)
  have z_max : PySem.W.nsIn K mainGlobals "max" = some none := He.eqO_ok (c.fact (f := (He.Fa.free "max").ok) 7 rfl)
  have z_min : PySem.W.nsIn K mainGlobals "min" = some none := He.eqO_ok (c.fact (f := (He.Fa.free "min").ok) 8 rfl)
  have z_range : PySem.W.nsIn K mainGlobals "range" = some none := He.eqO_ok (c.fact (f := (He.Fa.free "range").ok) 9 rfl)
  have z_repr : PySem.W.nsIn K mainGlobals "repr" = some none := He.eqO_ok (c.fact (f := (He.Fa.free "repr").ok) 10 rfl)
  have z_str : PySem.W.nsIn K mainGlobals "str" = some none := He.eqO_ok (c.fact (f := (He.Fa.free "str").ok) 11 rfl)
  have z_sum : PySem.W.nsIn K mainGlobals "sum" = some none := He.eqO_ok (c.fact (f := (He.Fa.free "sum").ok) 12 rfl)
  have z_tuple : PySem.W.nsIn K mainGlobals "tuple" = some none := He.eqO_ok (c.fact (f := (He.Fa.free "tuple").ok) 13 rfl)
  have z_zip : PySem.W.nsIn K mainGlobals "zip" = some none := He.eqO_ok (c.fact (f := (He.Fa.free "zip").ok) 14 rfl)
  have T : Txt mg :=
    {ValueError := PySem.W.mg_none_of X G z_ValueError, all := PySem.W.mg_none_of X G z_all, bool := PySem.W.mg_none_of X G z_bool, int := PySem.W.mg_none_of X G z_int, isinstance := PySem.W.mg_none_of X G z_isinstance, len := PySem.W.mg_none_of X G z_len, list := PySem.W.mg_none_of X G z_list, max := PySem.W.mg_none_of X G z_max, min := PySem.W.mg_none_of X G z_min, range := PySem.W.mg_none_of X G z_range, repr := PySem.W.mg_none_of X G z_repr, str := PySem.W.mg_none_of X G z_str, sum := PySem.W.mg_none_of X G z_sum, tuple := PySem.W.mg_none_of X G z_tuple, zip := PySem.W.mg_none_of X G z_zip, cMOST_TIME := He.int_ok X G (c.fact (f := (He.Fa.int "MOST_TIME" 9999).ok) 15 rfl), cMOST_LEVEL := He.int_ok X G (c.fact (f := (He.Fa.int "MOST_LEVEL" 63).ok) 16 rfl), c_MOST_TICKS := He.int_ok X G (c.fact (f := (He.Fa.int "_MOST_TICKS" 1000).ok) 17 rfl), c_MOST_SIZE := He.int_ok X G (c.fact (f := (He.Fa.int "_MOST_SIZE" 400).ok) 18 rfl)}
  have aNumber : At K mg "_is_number" sIsNumber := atOf X G (c.fact (f := (He.Fa.glo "_is_number").ok) 19 rfl) (c.def_ (d := dfN "_is_number" sIsNumber) 0 rfl)
  have aCheck : At K mg "_check_number" sCheckNumber := atOf X G (c.fact (f := (He.Fa.glo "_check_number").ok) 20 rfl) (c.def_ (d := dfN "_check_number" sCheckNumber) 1 rfl)
  have aWhole : At K mg "is_whole" sIsWhole := atOf X G (c.fact (f := (He.Fa.glo "is_whole").ok) 21 rfl) (c.def_ (d := dfN "is_whole" sIsWhole) 2 rfl)
  have aTime : At K mg "is_time" sIsTime := atOf X G (c.fact (f := (He.Fa.glo "is_time").ok) 22 rfl) (c.def_ (d := dfN "is_time" sIsTime) 3 rfl)
  have aMark : At K mg "is_mark" sIsMark := atOf X G (c.fact (f := (He.Fa.glo "is_mark").ok) 23 rfl) (c.def_ (d := dfN "is_mark" sIsMark) 4 rfl)
  have aOneOf : At K mg "is_one_of" sIsOneOf := atOf X G (c.fact (f := (He.Fa.glo "is_one_of").ok) 24 rfl) (c.def_ (d := dfN "is_one_of" sIsOneOf) 5 rfl)
  have aTuple : At K mg "is_tuple" sIsTuple := atOf X G (c.fact (f := (He.Fa.glo "is_tuple").ok) 25 rfl) (c.def_ (d := dfN "is_tuple" sIsTuple) 6 rfl)
  have aRising : At K mg "is_rising" sIsRising := atOf X G (c.fact (f := (He.Fa.glo "is_rising").ok) 26 rfl) (c.def_ (d := dfN "is_rising" sIsRising) 7 rfl)
  have aCTime : At K mg "check_time" sCheckTime := atOf X G (c.fact (f := (He.Fa.glo "check_time").ok) 27 rfl) (c.def_ (d := dfN "check_time" sCheckTime) 8 rfl)
  have aCWhole : At K mg "check_whole" sCheckWhole := atOf X G (c.fact (f := (He.Fa.glo "check_whole").ok) 28 rfl) (c.def_ (d := dfN "check_whole" sCheckWhole) 9 rfl)
  have aCTruth : At K mg "check_truth" sCheckTruth := atOf X G (c.fact (f := (He.Fa.glo "check_truth").ok) 29 rfl) (c.def_ (d := dfN "check_truth" sCheckTruth) 10 rfl)
  have aLevel : At K mg "is_level" sIsLevel := atOf X G (c.fact (f := (He.Fa.glo "is_level").ok) 30 rfl) (c.def_ (d := dfN "is_level" sIsLevel) 11 rfl)
  have aRow : At K mg "is_row" sIsRow := atOf X G (c.fact (f := (He.Fa.glo "is_row").ok) 31 rfl) (c.def_ (d := dfN "is_row" sIsRow) 12 rfl)
  have aHist : At K mg "is_history" sIsHistory := atOf X G (c.fact (f := (He.Fa.glo "is_history").ok) 32 rfl) (c.def_ (d := dfN "is_history" sIsHistory) 13 rfl)
  have aCHist : At K mg "check_history" sCheckHistory := atOf X G (c.fact (f := (He.Fa.glo "check_history").ok) 33 rfl) (c.def_ (d := dfN "check_history" sCheckHistory) 14 rfl)
  have aGoods : At K mg "good_rows" sGoodRows := atOf X G (c.fact (f := (He.Fa.glo "good_rows").ok) 34 rfl) (c.def_ (d := dfN "good_rows" sGoodRows) 15 rfl)
  have aCoOf : At K mg "coarse_of" sCoarseOf := atOf X G (c.fact (f := (He.Fa.glo "coarse_of").ok) 35 rfl) (c.def_ (d := dfN "coarse_of" sCoarseOf) 16 rfl)
  have aCSize : At K mg "_check_size" sCheckSize := atOf X G (c.fact (f := (He.Fa.glo "_check_size").ok) 36 rfl) (c.def_ (d := dfN "_check_size" sCheckSize) 17 rfl)
  have aCWin : At K mg "_check_window" sCheckWindow := atOf X G (c.fact (f := (He.Fa.glo "_check_window").ok) 37 rfl) (c.def_ (d := dfN "_check_window" sCheckWindow) 18 rfl)
  have aFRows : At K mg "_are_fine_rows" sAreFineRows := atOf X G (c.fact (f := (He.Fa.glo "_are_fine_rows").ok) 38 rfl) (c.def_ (d := dfN "_are_fine_rows" sAreFineRows) 19 rfl)
  have aFRow : At K mg "_is_fine_row" sIsFineRow := atOf X G (c.fact (f := (He.Fa.glo "_is_fine_row").ok) 39 rfl) (c.def_ (d := dfN "_is_fine_row" sIsFineRow) 20 rfl)
  have aFineR : At K mg "_fine_rows" sFineRows := atOf X G (c.fact (f := (He.Fa.glo "_fine_rows").ok) 40 rfl) (c.def_ (d := dfN "_fine_rows" sFineRows) 21 rfl)
  have aCoR : At K mg "_coarse_rows" sCoarseRows := atOf X G (c.fact (f := (He.Fa.glo "_coarse_rows").ok) 41 rfl) (c.def_ (d := dfN "_coarse_rows" sCoarseRows) 22 rfl)
  have aCell : At K mg "_law_cell" sLawCell := atOf X G (c.fact (f := (He.Fa.glo "_law_cell").ok) 42 rfl) (c.def_ (d := dfN "_law_cell" sLawCell) 23 rfl)
  have aBox : At K mg "_law_box" sLawBox := atOf X G (c.fact (f := (He.Fa.glo "_law_box").ok) 43 rfl) (c.def_ (d := dfN "_law_box" sLawBox) 24 rfl)
  have aTake : At K mg "_law_take" sLawTake := atOf X G (c.fact (f := (He.Fa.glo "_law_take").ok) 44 rfl) (c.def_ (d := dfN "_law_take" sLawTake) 25 rfl)
  have aHis : At K mg "_law_history" sLawHistory := atOf X G (c.fact (f := (He.Fa.glo "_law_history").ok) 45 rfl) (c.def_ (d := dfN "_law_history" sLawHistory) 26 rfl)
  have aWdw : At K mg "_law_window" sLawWindow := atOf X G (c.fact (f := (He.Fa.glo "_law_window").ok) 46 rfl) (c.def_ (d := dfN "_law_window" sLawWindow) 27 rfl)
  have aLFine : At K mg "_law_fine" sLawFine := atOf X G (c.fact (f := (He.Fa.glo "_law_fine").ok) 47 rfl) (c.def_ (d := dfN "_law_fine" sLawFine) 28 rfl)
  have aRight : At K mg "_law_right" sLawRight := atOf X G (c.fact (f := (He.Fa.glo "_law_right").ok) 48 rfl) (c.def_ (d := dfN "_law_right" sLawRight) 29 rfl)
  have aMany : At K mg "_law_many_right" sLawManyRight := atOf X G (c.fact (f := (He.Fa.glo "_law_many_right").ok) 49 rfl) (c.def_ (d := dfN "_law_many_right" sLawManyRight) 30 rfl)
  have aLong : At K mg "_law_long_right" sLawLongRight := atOf X G (c.fact (f := (He.Fa.glo "_law_long_right").ok) 50 rfl) (c.def_ (d := dfN "_law_long_right" sLawLongRight) 31 rfl)
  have aLaw : At K mg "law" sLaw := atOf X G (c.fact (f := (He.Fa.glo "law").ok) 51 rfl) (c.def_ (d := dfN "law" sLaw) 32 rfl)
  have aFine : AtD K mg "fine" sFine [("odd", .bl true)] := atDOf X G (c.fact (f := (He.Fa.glo "fine").ok) 52 rfl) (c.def_ (d := dfK "fine" sFine [("odd", .bl true)]) 33 rfl)
  have MO : MethO K := ⟨He.eqO_ok (c.fact (f := hnB) 53 rfl), of_decide_eq_true (c.fact (f := htB) 54 rfl)⟩
  have E1 := clB_ok (B := "ValueError") (q := "TooMany.__init__") (st := mTooMany_Init) X G fitV (by decide +kernel) (by decide +kernel) MO (c.fact (f := clB "TooMany" "PanelError" "many" veT "ValueError.__new__") 57 rfl) (c.def_ (d := dfM "TooMany" "__init__" "TooMany.__init__" mTooMany_Init) 35 rfl)
  have E2 := fmB_ok (B := "ValueError") (q := "PanelError.__init__") (st := mPanelError_Init) X G fitV (by decide +kernel) (by decide +kernel) MO (c.fact (f := fmB "PanelError" veT "ValueError.__new__") 56 rfl) (c.def_ (d := dfM "PanelError" "__init__" "PanelError.__init__" mPanelError_Init) 34 rfl)
  have M : ManyT K mg (He.ga K "TooMany") (He.ga K "PanelError") (He.ma K (He.ga K "PanelError") "__init__") := ⟨⟨nmV, PySem.W.mg_none_of X G z_ValueError, iniB_ok (c.fact (f := iniB "ValueError" "ValueError.__init__") 55 rfl)⟩, E2.1, E1.1, E1.2.2, typ_of_cl (c.fact (f := clB "TooMany" "PanelError" "many" veT "ValueError.__new__") 57 rfl), of_decide_eq_true (c.fact (f := (fun K => decide (PySem.W.exmOne K (.ref (He.ga K "TooMany")) (.ref (He.ga K "PanelError")) = some true))) 58 rfl), of_decide_eq_true (c.fact (f := (fun K => decide (PySem.W.kitOne K (.ref (He.ga K "TooMany")) (.ref (He.ga K "TooMany")) = some true))) 59 rfl)⟩
  exact fin hfa T aNumber aCheck aWhole aTime aMark aOneOf aTuple aRising aCTime aCWhole aCTruth aLevel aRow aHist aCHist aGoods aCoOf aCSize aCWin aFRows aFRow aFineR aCoR aCell aBox aTake aHis aWdw aLFine aRight aMany aLong aLaw aFine M
end T40

set_option maxHeartbeats 0
namespace T40
open PySem PySem.Spec PyProof.Rows L2 Pw
theorem run (w : World) : HandSHeadRun.RunEq R (PySem.W.view R.prog [50]) hk ob 30000 loose w := by
  intro os
  kernel_rfl
end T40
open PySem PySem.W PySem.Calls PyProof.Rows
theorem PySem.Challenge.cw_panelwatch_k40_fine_rows_holds : PySem.Challenge.rw_panelwatch_k40_fine_rows.Holds := by
  w_on; o_law
  refine HandSHeadRun.head_any (r := OpenLaw.row PySem.Challenge.rw_panelwatch_k40_fine_rows) (q := view (OpenLaw.row PySem.Challenge.rw_panelwatch_k40_fine_rows).prog [50]) (H := T40.hk) (ob := T40.ob) (M := 30000) (loose := T40.loose)
    (d := HandSHeadRun.topDef (OpenLaw.row PySem.Challenge.rw_panelwatch_k40_fine_rows).prog 50) (kwd := []) T40.ob_eq
    (by kernel_rfl) (fun s => by kernel_rfl) T40.run (by kernel_rfl) (by kernel_rfl) (by kernel_rfl) (by rfl) (by first | assumption | decide +kernel) (by decide +kernel) ⟨rfl, rfl, rfl, rfl, rfl, by decide +kernel⟩ ?hw ?hc
  case hw => w_witness2
  case hc =>
    refine Pw.walkE (l := PySem.Challenge.rw_panelwatch_k40_fine_rows) (n := 63) (k := 10) (x := "_law_script") (CX := L2.CX0) rfl (by decide) (by kernel_rfl) ⟨rfl, by decide, by decide⟩ ?F (fun _ _ _ _ z => z)
    intro w mg fa h Y G hmg0
    obtain ⟨K, KX, c⟩ := Y
    have hmg : mg ("law" : PySem.Str) = some (.ref fa) := by
      have e : (HandSHeadRun.topDef (OpenLaw.row PySem.Challenge.rw_panelwatch_k40_fine_rows).prog 50).name = ("law" : PySem.Str) := by kernel_rfl
      rw [← e]
      exact hmg0
    obtain ⟨fd, hb, hF⟩ := T40.facts (P := (PySem.Challenge.rw_panelwatch_k40_fine_rows).prog) (w := w) KX G hmg c
    exact ⟨K, fd, T40.spLaw K, KX, hb, fun H a ns hl _ hS => ⟨a, ns, rfl, hS, hl, fun _ => rfl⟩, hF⟩

