import PyProof.Rows.All
import Wide.All
import OpenK.AllK
import Wide.FinOn
import HandS.ForSpec
import HandS.Comp
import HandS.Dict
import HandS.Iter
import HandS.Text
import HandS.IsInst
import HandS.Wide
import HandS.ExcInit
import HandS.ExcIs
import PyProof.ExcStrAll.ValueError
import PyProof.ReprRoads
import PyProof.CallFns
import HandS.Walk
import HandS.Defaults
import PySem.Challenge.RW_panelwatch_k01_kinds_of_any_thing
import HandS.Codes
import PyProof.StrLawsRepr
set_option Elab.async false
set_option linter.all false
set_option maxRecDepth 100000
set_option maxHeartbeats 4000000
/-! The layer of defs that are called where no display is under way (nothing is being shown around them). -/
namespace Pw
open PySem PySem.Spec PyProof.Rows L2

/-- a def's promise where nothing is being shown around its call -/
structure FnG (P : Program) (w : World) (K : PySem.W.Frag) (mg : Str → Option Value)
    (base : Heap) (CX : CXT) (k : Nat) (f : Addr) (fd : FuncData) (ps : List Str) (sp : Sp) : Prop where
  len : ∀ vs H Q E, sp vs H Q E →
    vs.length = ps.length
  run : ∀ (A : Around) (out : List Env) (s : Shared) (H : Hp) (ar : Args) (us : List Value)
    (vs : List V) (Q : VK) (E : XK), A.guards = some [] → Room k A →
    Env0 P w K mg base A out s H → BindsTo s fd ar (ps.zip us) → Vals vs us → sp vs H Q E →
    codeAny (model P w) A (.call (.ref f) ar) (CR CX out P w H s Q E) s

section
variable {P : Program} {w : World} {K : PySem.W.Frag} {mg : Str → Option Value} {base : Heap}

theorem FnG.of {CX : CXT} {k : Nat} {f : Addr} {fd : FuncData} {ps : List Str} {sp : Sp}
    (F : FnOk P w K mg base CX k f fd ps sp) : FnG P w K mg base CX k f fd ps sp :=
  ⟨F.len, fun A out s H ar us vs Q E _ hr e0 hb r hs => F.run A out s H ar us vs Q E hr e0 hb r hs⟩

theorem fnG_of {CX : CXT} {k : Nat} {f : Addr} {name qual : Str} {params : Arguments}
    {body : List Stmt} {scope : Scope} {dV kV doc pm cdv ct oc : Value} {an od : Option Addr}
    {osl : Array (Option Value)} {N ps : List Str} {sp : Sp}
    (lk : K.lookup f = some ⟨oc, od, .func (PySem.W.fnOf name qual params body scope dV kV doc pm an cdv ct), osl⟩)
    (hcd : PySem.W.codeIn K cdv qual = true) (S : FnScope N ps scope)
    (len : ∀ vs H Q E, sp vs H Q E → vs.length = ps.length)
    (hb0 : ∀ (A : Around) (out : List Env) (s : Shared) (H : Hp) (vs : List V) (Q : VK) (E : XK),
      A.guards = some [] → Room k (A.deeper (envOfC qual scope s.heap.objs.size f cdv)) → sp vs H Q E →
      ∃ t, PSs (cxOf CX P w K mg base N qual scope f cdv A out s H E) body t ∧
        t { nx := fun _ H' => Q .non H', rt := Q } (start N vs) H) :
    FnG P w K mg base CX (k + 1) f (PySem.W.fnOf name qual params body scope dV kV doc pm an cdv ct) ps sp := by
  refine ⟨len, fun A out s H ar us vs Q E gd hr e0 hbn r hs0 => ?_⟩
  have hlen := len _ _ _ _ hs0
  have old : ∀ b o, base.get? b = some o → s.heap.get? b = some o := fun b o e => (e0.bs b o e).1
  have KX : K.In s.heap := e0.mod.kin.keeps old
  have lim : s.heap.NoLimit := e0.mod.nolimit.keeps old
  have kinds : ∀ y ∈ ps.zip us, scope.names.lookup y.1 = some .local ∨
      (scope.names.lookup y.1 = some .cell ∧
        ((cellsFrom (s.heap.objs.size + 1) scope.names []).lookup y.1).isSome = true) := by
    intro ⟨n, v⟩ hy
    rcases S.par n (List.of_mem_zip hy).1 with z | z
    · exact .inl z
    · exact .inr ⟨z, PySem.W.cellsFrom_some _ _ _ (.inl z)⟩
  refine codeAny_call_function hr.depth (KX _ _ lk) rfl S.co S.gen rfl
    (PySem.W.codeRec_of KX hcd) (hbn _ _ _ _ ?_)
  refine wpAny_newFunctionEnv_cells S.kind kinds fun env he s1 x => ?_
  subst he
  refine ⟨lim.keeps x.toInCall.keep, codeAny_func ?_⟩
  obtain ⟨t, T, q0⟩ := hb0 A out s H vs Q E gd (hr.deeper _) hs0
  have J0 : Inv (cxOf CX P w K mg base N qual scope f cdv A out s H E) [] (start N vs) H s1 :=
    inv_start S hr.hd e0 hlen r x
  refine wpAny_mono (T.run [] s1 (start N vs) H _ J0 q0) (fun fl s' hs => ?_) fun e s' hs => hs
  have fin : ∀ {σ' : L2.St} {H' : Hp} {v : V} {u : Value},
      Inv (cxOf CX P w K mg base N qual scope f cdv A out s H E) [] σ' H' s' →
      RelV v u → Q v H' → CE out P w H s Q u s' :=
    fun {σ' H' v u} J rv q => ⟨v, H', J.os, J.bare, J.base, J.hok, rv, q⟩
  match fl, hs with
  | .ret u, ⟨v, σ', H', J, rv, q⟩ => exact fin J rv q
  | .next, ⟨σ', H', J, q⟩ => exact fin (v := V.non) (u := Value.none) J rfl q
  | .brk, ⟨_, _, _, q⟩ => exact False.elim q
  | .cont, ⟨_, _, _, q⟩ => exact False.elim q

/-- the rule for a def, where nothing is being shown around it -/
theorem okG {x qual : Str} {st : Stmt} {f : Addr} {fd : FuncData} {N ps : List Str} {k : Nat} {sp : Sp}
    (F : Fun K x qual st f fd) (S : FnScope N ps (defScope st))
    (len : ∀ vs H Q E, sp vs H Q E → vs.length = ps.length)
    (hb0 : ∀ (cdv : Value) (A : Around) (out : List Env) (s : Shared) (H : Hp) (vs : List V) (Q : VK) (E : XK),
      A.guards = some [] →
      Room k (A.deeper (envOfC qual (defScope st) s.heap.objs.size f cdv)) → sp vs H Q E →
      ∃ t, PSs (cxOf CX0 P w K mg base N qual (defScope st) f cdv A out s H E).nox (defBody st) t ∧
        t { nx := fun _ H' => Q .non H', rt := Q } (start N vs) H) :
    FnG P w K mg base CX0 (k + 1) f fd ps sp := by
  obtain ⟨oc, od, kV, doc, pm, an, cdv, ct, osl, rfl, lk, hcd⟩ := F.ex
  refine fnG_of lk hcd S len fun A out s H vs Q E gd hr hs0 => ?_
  obtain ⟨t, h, q⟩ := hb0 cdv A out s H vs Q E gd hr hs0
  exact ⟨t, h.nox, q⟩
end

section
variable {X : Cx} {CX : CXT} {k : Nat} {f : Addr} {fd : FuncData} {ps : List Str} {sp : Sp}
  {dvs : List V} {ds : List Value} {E : XK} {x : Str} {p pos : Pos} {e : Expr} {es : List Expr} {t : TA}

theorem run_fnG {pins : List (Addr × Obj)} {σ : L2.St} {H : Hp} {s : Shared} {Q : VK} {us : List Value} {vs : List V}
    (F : FnG X.prog X.w X.K X.mg X.base CX k f fd ps sp) (gd : X.A.guards = some []) (hr : Room k X.A)
    (hb : Binds X.K fd ps ds) (hd : Vals dvs ds) (hx : Passes CX X E)
    (I : Inv X pins σ H s) (r : Vals vs us) (h : sp (vs ++ dvs) H Q E) :
    wpAny (model X.prog X.w) X.A (call (.ref f) us) (EP X pins σ Q) X.xe s := by
  have r2 : Vals (vs ++ dvs) (us ++ ds) := r.append hd
  have hlen : (us ++ ds).length = ps.length := r2.length ▸ F.len _ _ _ _ h
  refine wpAny_call (codeAny_mono (F.run X.A X.stack s H ⟨us, []⟩ (us ++ ds) (vs ++ dvs) Q E gd hr
    I.env0 (hb s us I.kIn hlen) r2 h) fun r s' hq => ?_)
  match r, hq with
  | .error e, hq => exact hx pins σ H s e s' I hq
  | .ok (.ret u), hq => exact I.after hq
  | .ok .next, hq => exact False.elim hq
  | .ok .brk, hq => exact False.elim hq
  | .ok .cont, hq => exact False.elim hq

/-- f(..), f a def whose promise stands where nothing is being shown -/
theorem pe_callG (F : FnG X.prog X.w X.K X.mg X.base CX k f fd ps sp) (gd : X.A.guards = some []) (hr : Room k X.A)
    (hg : Gl X x) (hm : X.mg x = some (.ref f)) (hk : PySem.W.keepIn X.K (.ref f) = true)
    (hb : Binds X.K fd ps ds) (hd : Vals dvs ds) (hx : Passes CX X E) (ha : PA X (e :: es) t)
    (hdb : (x == ("__debug__" : Str)) = false := by decide)
    (he : starEach (e :: es) X.env = (false, eval e X.env) :: starEach es X.env := by rfl)
    (hpl : (backTo pos (starEach es X.env)).any (·.1) = false := by rfl) :
    PE X (.Call (.Name x p) (e :: es) [] pos) (tCall sp dvs E t) :=
  ⟨fun pins s σ H Q I h => wpAny_Call_Name_kw (ld_glob I hg hm (PySem.W.callWith_K (h₀ := X.base)
    I.ok.mod.kin hk (thn (ha.run pos pins s σ H _ I h) fun us s1 ⟨vs, H1, I1, r, q⟩ =>
      ⟨I1.kIn, run_fnG F gd hr hb hd hx I1 r q⟩) he hpl) hdb)⟩
end

/-- the end: the law's promise, at the heap behind the top, nothing being shown -/
theorem law_callG {P : Program} {w : World} {K : PySem.W.Frag} {mg mb : Str → Option Value} {CX : CXT} {k : Nat}
    {fa a : Addr} {fd : FuncData} {x : Str} {sp : Sp} {s₁ : Shared} {vs : List Value} {ns : List Int}
    (KX : K.In s₁.heap) (hns : s₁.heap.Ns mainGlobals mg) (hb : s₁.heap.Ns builtinsNs mb)
    (hbb : ∀ x : Str, x ≠ "__name__" → mb x = bootBuiltins x) (hlim : s₁.heap.NoLimit) (hg : s₁.gens = #[])
    (ha : s₁.heap.get? a = some { cls := .type "list", data := .seq vs.toArray }) (hi : IntsAre vs ns)
    (hl : ns.length ≤ sizeLine) (hr : Room k callerA)
    (F : ∀ base : Heap, K.In base → base.Ns mainGlobals mg → FnG P w K mg base CX k fa fd [x] sp)
    (hbind : ∀ (s : Shared) (u : Value), BindsTo s fd ⟨[u], []⟩ [(x, u)])
    (hsp : ∀ H : Hp, Only H → SqL K H a (ns.map V.int) → sp [.ref a] H (fun v _ => v = .bl true) fun _ _ _ => False)
    (hCX : ∀ H e s', CX [] H s₁ (fun _ _ _ => False) e s' → False) :
    codeAny (model P w) callerA (.call (.ref fa) ⟨[.ref a], []⟩)
      (fun r s' => r = .ok (.ret (.bool true)) ∧ OldK s₁.heap s'.heap ∧ s'.os = s₁.os ∧ AllBare s'.gens) s₁ := by
  have rv := vals_ints hi
  have lenV := hi.length
  have core : ∀ H : Hp, Only H → SqL K H a (ns.map V.int) → HOk P w H s₁.heap → (∀ b, H b ≠ none → b = a) →
      (H a ≠ none → K.lookup a = none) → codeAny (model P w) callerA (.call (.ref fa) ⟨[.ref a], []⟩)
      (fun r s' => r = .ok (.ret (.bool true)) ∧ OldK s₁.heap s'.heap ∧ s'.os = s₁.os ∧ AllBare s'.gens) s₁ := by
    intro H hO hS hok hA hK
    have loose : ∀ {b : Addr} {o : Obj} {es : Array DictEntry} {ep : Nat}, s₁.heap.get? b = some o →
        o.data = .dict es ep → H b = none := by
      intro b o es ep e d
      cases q : H b with
      | none => rfl
      | some u =>
        obtain rfl : b = a := hA b (fun z => nomatch q.symm.trans z)
        cases ha.symm.trans e
        exact nomatch (show Data.seq vs.toArray _ = Data.dict es ep from d)
    have nsK : ∀ {b : Addr} {m : Str → Option Value}, s₁.heap.Ns b m → (hidT s₁.heap H).Ns b m :=
      fun {b m} ⟨o, es, ep, e, d, r⟩ => ⟨o, es, ep, hidT_get e (loose e d), d, r⟩
    have hKb : K.In (hidT s₁.heap H) := by
      intro b o e
      refine hidT_get (KX b o e) ?_
      cases q : H b with
      | none => rfl
      | some u =>
        obtain rfl : b = a := hA b (fun z => nomatch q.symm.trans z)
        exact nomatch (hK (fun z => nomatch q.symm.trans z)).symm.trans e
    have hM : Mod K mg (hidT s₁.heap H) :=
      ⟨hKb, nsK hns, ⟨mb, nsK hb, hbb⟩, hlim.elim fun mc h => ⟨mc, nsK h.1, h.2⟩⟩
    have e0 : Env0 P w K mg (hidT s₁.heap H) callerA [] s₁ H :=
      ⟨rfl, hM, fun b o e => of_hidT e, Nat.le_of_eq (hidT_size _ _), trivial,
        fun b hb => (nomatch (show b ∈ ([] : List Addr) from hb)), hok, .of_eq hg⟩
    refine codeAny_mono ((F _ hKb (nsK hns)).run callerA [] s₁ H ⟨[.ref a], []⟩ [.ref a] [.ref a] _ _ rfl hr e0
      (hbind s₁ (.ref a)) (.cons rfl .nil) (hsp H hO hS)) fun r s' h => ?_
    match r, h with
    | .error e, h => exact (hCX H e s' h).elim
    | .ok .next, h => exact False.elim h
    | .ok .brk, h => exact False.elim h
    | .ok .cont, h => exact False.elim h
    | .ok (.ret u), ⟨v, H', os, bare, un, hok', r', q⟩ =>
      obtain rfl : v = .bl true := q
      obtain rfl : u = Value.bool true := r'
      refine ⟨rfl, OldK.of_keep fun b o e => ?_, os, bare⟩
      cases q : H b with
      | none => exact un.keep b o e q (fun z => (nomatch (show b ∈ ([] : List Addr) from z))) (by simp)
      | some u =>
        rcases hO b with z | ⟨ob, xs, z⟩
        · exact nomatch q.symm.trans z
        · have e1 := (hok b _ z).1
          have e2 := (hok' b _ (un.frzs b ob _ z)).1
          cases e.symm.trans e1
          exact e2
  cases hk : K.lookup a with
  | some o =>
    cases ha.symm.trans (KX a o hk)
    exact core (fun _ => none) (fun _ => .inl rfl)
      (.inr ⟨_, vs.toArray, _, hk, rfl, rfl, rfl, by rw [List.size_toArray, lenV]; exact hl, by simpa using rv⟩)
      (fun b u z => nomatch (show (none : Option HO) = some u from z)) (fun b z => absurd rfl z) fun z => absurd rfl z
  | none =>
    refine core (fun b => if b = a then
        some (.frz { cls := .type "list", data := .seq vs.toArray } (.lst (ns.map V.int))) else none) (fun b => ?_)
      (.inl (.inr ⟨{ cls := .type "list", data := .seq vs.toArray }, if_pos rfl⟩)) (fun b u z => ?_) (fun b z => ?_)
      fun _ => hk
    · by_cases hba : b = a
      · exact .inr ⟨_, _, if_pos hba⟩
      · exact .inl (if_neg hba)
    · by_cases hba : b = a
      · have z' := (if_pos hba).symm.trans z
        cases z'
        subst hba
        exact ⟨ha, by rw [List.length_map]; exact hl, vs, _, rv, ha⟩
      · exact nomatch (if_neg hba).symm.trans z
    · by_cases hba : b = a
      · exact hba
      · exact absurd (if_neg hba) z

theorem walkG {l : PySem.W.OpenLaw} {n k : Nat} {q : Program} {loose : List Str}
    {XP : (Str → Option Value) → Heap → Prop} {YP : World → Heap → Prop} {d : DefRec} {K : Params → PySem.W.Frag}
    {CX : World → CXT} {sp : World → Sp} {x : Str} (hn : l.most = some n) (hn2 : n ≤ sizeLine)
    (hdf : d.params.defaults = []) (hr : Room k callerA) (hY : ∀ (w : World) (h : Heap), YP w h → (K w.params).In h)
    (F : ∀ (w : World) (mg : Str → Option Value) (fa : Addr) (h : Heap), (K w.params).In h → h.Ns mainGlobals mg →
      mg d.name = some (.ref fa) → ∃ fd : FuncData, (∀ (s : Shared) (u : Value), BindsTo s fd ⟨[u], []⟩ [(x, u)]) ∧
        ∀ base : Heap, (K w.params).In base → base.Ns mainGlobals mg →
          FnG l.prog w (K w.params) mg base (CX w) k fa fd [x] (sp w))
    (hsp : ∀ (w : World) (H : Hp) (a : Addr) (ns : List Int), ns.length ≤ n → Only H →
      SqL (K w.params) H a (ns.map V.int) → sp w [.ref a] H (fun v _ => v = .bl true) fun _ _ _ => False)
    (hCX : ∀ (w : World) (H : Hp) (s : Shared) (e : Value) (s' : Shared), CX w [] H s (fun _ _ _ => False) e s' → False) :
    PySem.W.WalkO q loose XP YP l.row.toRowW d [] (fun f vs => PySem.call f vs) := by
  refine Att.attach_call hn hdf fun w s₀ s₁ mg mb fa o pm cd doc a vs ns G Y ho hd hcd hmg hobj hints hlen hg => ?_
  have KX := hY w _ Y
  obtain ⟨fd, hbn, hF⟩ := F w mg fa _ KX G.T.g hmg
  exact law_callG KX G.T.g G.T.b G.T.builtins G.T.nolimit hg hobj hints (Nat.le_trans hlen hn2) hr hF hbn
    (fun H hO hS => hsp w H a ns hlen hO hS) fun H e s' => hCX w H s₁ e s'
end Pw

/-! Exceptions of one's own as values: made by their own __init__, which calls that of the class above it by name; their args are tracked. -/
namespace Pw
open PySem PySem.Spec PyProof.Rows L2

/-- the object of an exception: its class, its dict, where its args lie -/
abbrev exOb (C : Addr) (d : Option Addr) (t : Addr) : Obj :=
  { cls := .ref C, dict := d, data := .fields #[.ref t, .none, .none, .none, .bool false, .none] }
/-- at e: an exception of the class at C; its args are the tuple at t -/
def exq (e C : Addr) (d : Option Addr) (t : Addr) : HO := .ext fun h => h.get? e = some (exOb C d t)
theorem exq_own {e C x t : Addr} {d : Option Addr} : exq e C d t ≠ .own x := fun z => by
  have z' : HO.ext _ = HO.own x := z
  cases z'
theorem exq_tup {e C t : Addr} {d : Option Addr} {xs : List V} : exq e C d t ≠ .tup xs := fun z => by
  have z' : HO.ext _ = HO.tup xs := z
  cases z'
theorem exq_lst {e C t : Addr} {d : Option Addr} {xs : List V} : exq e C d t ≠ .lst xs := fun z => by
  have z' : HO.ext _ = HO.lst xs := z
  cases z'
theorem exq_frz {e C t : Addr} {d : Option Addr} {o : Obj} {u : HO} : exq e C d t ≠ .frz o u := fun z => by
  have z' : HO.ext _ = HO.frz o u := z
  cases z'
theorem exq_tbl {e C t : Addr} {d : Option Addr} {ps : Array Value} : exq e C d t ≠ .tbl ps := fun z => by
  have z' : HO.ext _ = HO.tbl ps := z
  cases z'
theorem exq_ok {P : Program} {w : World} {H : Hp} {h : Heap} {e C t : Addr} {d : Option Addr}
    (he : h.get? e = some (exOb C d t)) : ObjOk P w H h e (exq e C d t) :=
  ⟨he, ⟨_, he⟩, fun _ _ z k => k _ z⟩
theorem exq_at {P : Program} {w : World} {H : Hp} {h : Heap} {e C t : Addr} {d : Option Addr} (hok : HOk P w H h)
    (he : H e = some (exq e C d t)) : h.get? e = some (exOb C d t) := by
  have x : ObjOk P w H h e (.ext fun h => h.get? e = some (exOb C d t)) := hok e _ he
  exact x.1

section
variable {X : Cx} {pins : List (Addr × Obj)} {σ : L2.St} {H : Hp} {s : Shared} {a C t1 : Addr} {f : Str} {y : V}
  {u : Value} {E : Value → Shared → Prop} {A : Around}

/-- self.f = y, the first attribute -/
theorem eq_new {Q : Unit → Shared → Prop} (T : OexC X.K C) (I : Inv X pins σ H s) (e : H a = some (exq a C none t1))
    (hno : PySem.W.findIn X.K (.ref C) f = some none) (ry : RelV y u)
    (h : ∀ dx s', H dx = none → dx ≠ a →
      Inv X pins σ (upd (upd H dx (exd dx [(f, y)])) a (exq a C (some dx) t1)) s' → Q () s') :
    wpAny (model X.prog X.w) A (setAttr (.ref a) f u) Q E s := by
  obtain ⟨nm, q, N, bs, bm, sn, sub, ab, col, dd, k0, k1, k2, k3, k5, hC, hbm⟩ := T.cls
  have hcl : PySem.W.clsIn X.K C = some { name := nm, bases := bs, mro := .ref C :: bm, ns := N, qualname := q, hasDict := true, slotNames := sn, subclasses := sub, abstract := ab, collection := col, hasDel := false } := by
    unfold PySem.W.clsIn
    rw [hC] <;> rfl
  have ho := exq_at I.hok e
  obtain ⟨hp, g, d, t, os⟩ := s
  refine PySem.W.set_plain I.kIn (ox := exOb C none t1) (od := none) ⟨ho, rfl, rfl, trivial⟩ T.sa ?_
  refine PySem.HandSPX.exc_osa I.kIn ho hcl
    (show PySem.HandSPX.refsVE (.ref C :: bm) = true from hbm) rfl hno (fun h' tk' dx k dn dne hx hn => ?_)
  have hnd : H dx = none := I.hok.fresh dn
  have nd : ∀ {b : Addr} {o : Obj}, hp.get? b = some o → b ≠ dx :=
    fun {b o} q => Nat.ne_of_lt (Nat.lt_of_lt_of_le (Heap.lt_size q) dn)
  have na : ∀ {b : Addr}, H b = none → b ≠ a := fun {b} n z => by rw [z, e] at n; cases n
  have Un1 : Un X.fs [] H (upd (upd H dx (exd dx [(f, y)])) a (exq a C (some dx) t1)) hp h' := {
    keep := fun b o q n _ _ => k b o (na n) q
    slot := fun b o q n _ _ => ⟨o.slots, k b o (na n) q⟩
    free := fun b o q n _ => ((upd_ne (na n)).trans (upd_ne (nd q))).trans n
    there := fun b o q _ => by
      by_cases hb : b = a
      · exact ⟨_, hb ▸ hx⟩
      · exact ⟨o, k b o hb q⟩
    tups := fun b xs q => ((upd_ne (at_ne e q exq_tup)).trans (upd_ne (ne_of_none q hnd))).trans q
    frzs := fun b o v q => ((upd_ne (at_ne e q exq_frz)).trans (upd_ne (ne_of_none q hnd))).trans q
    tbls := fun b ps q => ⟨#[], by rw [upd_ne (at_ne e q exq_tbl), upd_ne (ne_of_none q hnd), q]; simp⟩ }
  refine h dx _ hnd dne (I.un (t' := tk') Un1 fun b o q => ?_)
  by_cases hb : b = a
  · subst hb
    cases upd_same.symm.trans q
    exact exq_ok hx
  · rw [upd_ne hb] at q
    by_cases hd : b = dx
    · subst hd
      cases upd_same.symm.trans q
      exact exd_ok hn (relO_put (fs := []) ry fun g => True.intro)
    · rw [upd_ne hd] at q
      refine (I.hok b o q).stay (fun c v hc z => k c v ?_ z)
        (fun c hc => ((upd_ne (at_ne e hc exq_own)).trans (upd_ne (ne_of_none hc hnd))).trans hc)
        (fun c xs hc => ((upd_ne (at_ne e hc exq_tup)).trans (upd_ne (ne_of_none hc hnd))).trans hc)
      rcases hc with hc | hc
      · exact hc ▸ hb
      · exact at_ne e hc exq_own

/-- ValueError.__init__(e, ..): its args are laid anew, at a place of their own -/
theorem init_args {prog : Program} {w : World} {A : Around} {R : Result → Shared → Prop} {h : Heap}
    {g : Array GenState} {d : Drawn} {t : Nat} {os : OsState} {nm q : Str} {C N : Addr} {bs bm bmB : List Value}
    {hdct : Bool} {sn : List Str} {sub : List Value} {ab : Bool} {col : Option Bool} {dd : Option Addr}
    {k0 k1 k2 k3 k5 : Option Value} {B newId initId : String} (F : ExcBaseFacts B newId initId bmB)
    (hT : ∀ X : String, bm.contains (.type X) = bmB.contains (.type X)) {e t0 : Addr} {rest : List Value}
    (hC : h.get? C = some (excClassObj nm q C N bs bm hdct sn sub ab col dd k0 k1 k2 k3 k5 newId))
    (he : h.get? e = some (exOb C none t0)) (hrest : rest.length ≤ sizeLine)
    (hq : ∀ h' t1, h.objs.size ≤ t1 → (∀ b o, b ≠ e → h.get? b = some o → h'.get? b = some o) →
      h'.get? e = some (exOb C none t1) → h'.get? t1 = some (PySem.W.kdv_tup rest) →
      R (.ok (.ret .none)) ⟨h', g, d, t, os⟩) :
    codeAny (model prog w) A (.call (.builtin initId) ⟨.ref e :: rest, []⟩) R ⟨h, g, d, t, os⟩ := by
  refine codeAny_call_builtin F.init.plain F.initEntry (PySem.HandSPX.check_init_own F hT hC he rfl ?_)
  have hes : e ≠ h.objs.size := Nat.ne_of_lt (Heap.lt_size he)
  wp_walk
  refine hq _ h.objs.size (Nat.le_refl _) (fun b o hb ho => ?_) ?_ ?_
  · exact (Heap.get?_update_other _ _ (Ne.symm hb)).trans (Heap.get?_push_of_some _ ho)
  · exact (Heap.get?_update_self _ (Heap.get?_push_of_some _ he) rfl).trans rfl
  · exact (Heap.get?_update_other _ _ hes).trans (Heap.get?_push_size _ rfl)

theorem eq_init {us : List Value} {ws : List V} {Q : Value → Shared → Prop} (T : OexC X.K C) (I : Inv X pins σ H s)
    (e : H a = some (exq a C none t1)) (hl : us.length ≤ sizeLine) (rw' : Vals ws us)
    (h : ∀ t2 s', H t2 = none → t2 ≠ a → Inv X pins σ (upd (upd H t2 (.tup ws)) a (exq a C none t2)) s' → Q .none s') :
    wpAny (model X.prog X.w) A (call (.builtin "ValueError.__init__") (.ref a :: us)) Q E s := by
  obtain ⟨nm, q, N, bs, bm, sn, sub, ab, col, dd, k0, k1, k2, k3, k5, hC, hbm⟩ := T.cls
  have ho := exq_at I.hok e
  obtain ⟨hp, g, d, t, os⟩ := s
  refine wpAny_call (init_args F.excBase_ValueError (fun Y => PySem.HandSPX.refsVE_contains Y bm hbm)
    (I.kIn _ _ hC) ho hl fun h' t2 hsz k hx ht => ?_)
  have nt : H t2 = none := I.hok.fresh hsz
  have nea : t2 ≠ a := (ne_of_none e nt).symm
  have na : ∀ {b : Addr}, H b = none → b ≠ a := fun {b} n z => by rw [z, e] at n; cases n
  have nd : ∀ {b : Addr} {o : Obj}, hp.get? b = some o → b ≠ t2 :=
    fun {b o} q => Nat.ne_of_lt (Nat.lt_of_lt_of_le (Heap.lt_size q) hsz)
  have Un1 : Un X.fs [] H (upd (upd H t2 (.tup ws)) a (exq a C none t2)) hp h' := {
    keep := fun b o q n _ _ => k b o (na n) q
    slot := fun b o q n _ _ => ⟨o.slots, k b o (na n) q⟩
    free := fun b o q n _ => ((upd_ne (na n)).trans (upd_ne (nd q))).trans n
    there := fun b o q _ => by
      by_cases hb : b = a
      · exact ⟨_, hb ▸ hx⟩
      · exact ⟨o, k b o hb q⟩
    tups := fun b xs q => ((upd_ne (at_ne e q exq_tup)).trans (upd_ne (ne_of_none q nt))).trans q
    frzs := fun b o v q => ((upd_ne (at_ne e q exq_frz)).trans (upd_ne (ne_of_none q nt))).trans q
    tbls := fun b ps q => ⟨#[], by rw [upd_ne (at_ne e q exq_tbl), upd_ne (ne_of_none q nt), q]; simp⟩ }
  refine h t2 _ nt nea (I.un (t' := t) Un1 fun b o q => ?_)
  by_cases hb : b = a
  · subst hb
    cases upd_same.symm.trans q
    exact exq_ok hx
  · rw [upd_ne hb] at q
    by_cases hd : b = t2
    · subst hd
      cases upd_same.symm.trans q
      exact ⟨by rw [Paired.length rw']; exact hl, us, rw', _, ht, rfl, _, rfl⟩
    · rw [upd_ne hd] at q
      refine (I.hok b o q).stay (fun c v hc z => k c v ?_ z)
        (fun c hc => ((upd_ne (at_ne e hc exq_own)).trans (upd_ne (ne_of_none hc nt))).trans hc)
        (fun c xs hc => ((upd_ne (at_ne e hc exq_tup)).trans (upd_ne (ne_of_none hc nt))).trans hc)
      rcases hc with hc | hc
      · exact hc ▸ hb
      · exact at_ne e hc exq_own
end

/-! ### the rules -/
/-- ValueError.__init__(self, ..) -/
def tVeq (K : PySem.W.Frag) (ta : TA) : TE := fun σ H Q => ta σ H fun vs H1 =>
  ∃ (a C t0 : Addr) (ws : List V), vs = .ref a :: ws ∧ ws.length ≤ 1000 ∧ OexC K C ∧ H1 a = some (exq a C none t0) ∧
    ∀ t2, H1 t2 = none → t2 ≠ a → Q .non (upd (upd H1 t2 (.tup ws)) a (exq a C none t2))
/-- self.f = e, the first attribute -/
def tEst (K : PySem.W.Frag) (f : Str) (to te : TE) : TS := fun D σ H => te σ H fun y H1 => to σ H1 fun x H2 =>
  ∃ a C t1 : Addr, x = .ref a ∧ OexC K C ∧ PySem.W.findIn K (.ref C) f = some none ∧ H2 a = some (exq a C none t1) ∧
    ∀ dx, H2 dx = none → dx ≠ a → D.nx σ (upd (upd H2 dx (exd dx [(f, y)])) a (exq a C (some dx) t1))
/-- C(e, ..) as a value -/
def tMkq (C : Addr) (sp : Sp) (dvs : List V) (ta : TA) : TE := fun σ H Q => ta σ H fun vs H1 => vs.length ≤ 1000 ∧
  ∀ t0 a, H1 t0 = none → H1 a = none → t0 ≠ a →
    sp (.ref a :: (vs ++ dvs)) (upd (upd H1 t0 (.tup vs)) a (exq a C none t0))
      (fun v H2 => v = .non ∧ Q (.ref a) H2) (fun _ _ _ => False)

section
variable {X : Cx} {o e : Expr} {es : List Expr} {to te : TE} {ta : TA} {f : Str} {p p' p1 p2 pos : Pos}
theorem pe_veq {pl : Sem Bool} (hg : Gl X "ValueError") (hm : X.mg "ValueError" = none)
    (vV : PySem.W.findCls X.K (.type "ValueError") (.type "type") "__init__" = some (.val (.builtin "ValueError.__init__")))
    (ha : PA X (e :: es) ta)
    (hc : eval (.Call (.Attribute (.Name "ValueError" p1) "__init__" p2) (e :: es) [] pos) X.env = (do
      let ov ← eval (.Name "ValueError" p1) X.env
      standAt p2.atName
      let (f, first) ← holding [ov] (getMethod ov "__init__" pl)
      callWith pos f first (backTo pos (starEach (e :: es) X.env)) (backToKw pos (keywordEach [] X.env))) := by rfl)
    (he : starEach (e :: es) X.env = (false, eval e X.env) :: starEach es X.env := by rfl)
    (hpl : (backTo pos (starEach es X.env)).any (·.1) = false := by rfl) :
    PE X (.Call (.Attribute (.Name "ValueError" p1) "__init__" p2) (e :: es) [] pos) (tVeq X.K ta) := by
  refine ⟨fun pins s σ H Q I h => ?_⟩
  refine PySem.W.methodCall_KW (ld_blt I hg hm PyProof.Rows.Boot.«ValueError» ?_ (by decide) (by decide)) hc
  obtain ⟨m, fr⟩ := I.fr
  refine PySem.W.method_type fr I.ok.mod.kin PySem.OEX.typ_VE (by decide +kernel) vV (by decide +kernel) ?_
  refine PyProof.Rows.callWith_method1 (first := []) (thn (ha.run pos pins _ σ H _ (I.tok _) h)
    fun us s1 ⟨vs, H1, I1, r1, a, C, t0, ws, ev, hl, T, ea, q⟩ => ?_) he hpl
  subst ev
  cases r1 with
  | @cons _ u0 _ ur ra rw' =>
    obtain rfl : u0 = Value.ref a := ra
    have hlen : ur.length ≤ sizeLine := by
      rw [← Paired.length rw', sizeLine_eq]
      omega
    exact eq_init T I1 ea hlen rw' fun t2 s' n1 n2 J => ⟨.non, _, J, rfl, q t2 n1 n2⟩

theorem ps_est (ho : PE X o to) (he : PE X e te)
    (hs : swapsWith e (some (.Attribute o f p')) pos.line X.env = pure false := by rfl) :
    PS X (.Assign [.Attribute o f p'] e pos) (tEst X.K f to te) := by
  refine ⟨fun pins s σ H D I h => ?_⟩
  refine plainObj_wpAny_Assign_Attribute (thn (he.run pins s σ H _ I h) fun v s1 ⟨y, H1, I1, r1, q1⟩ =>
    thn (ho.run pins s1 σ H1 _ I1 q1) fun u s2 ⟨x, H2, I2, r2, a, C, t1, ex, T, hno, ea, q⟩ => ?_) hs
  subst ex
  obtain rfl : u = Value.ref a := r2
  exact eq_new T I2 ea hno r1 fun dx s' n ne J => ⟨σ, _, J, q dx n ne⟩

/-- C.m(e, ..), C an own class, m a def of it: read off the class -/
theorem pe_off {x m : Str} {CX : CXT} {k : Nat} {C g : Addr} {fd : FuncData} {ps : List Str} {sp : Sp} {E : XK}
    {dvs : List V} {ds : List Value} {pl : Sem Bool} (hg : Gl X x) (hm : X.mg x = some (.ref C))
    (sg : PySem.W.specialIn X.K (.ref C) "__getattribute__" = some (some (.builtin "type.__getattribute__")))
    (rd : PySem.W.readsIn X.K C (.type "type") = true)
    (at_ : PySem.W.findCls X.K (.ref C) (.type "type") m = some (.val (.ref g)))
    (kg : PySem.W.keepIn X.K (.ref g) = true)
    (F : FnOk X.prog X.w X.K X.mg X.base CX k g fd ps sp) (hr : Room k X.A) (hb : Binds X.K fd ps ds)
    (hd : Vals dvs ds) (hx : Passes CX X E) (ha : PA X (e :: es) ta)
    (hdb : (x == ("__debug__" : Str)) = false := by decide)
    (hc : eval (.Call (.Attribute (.Name x p1) m p2) (e :: es) [] pos) X.env = (do
      let ov ← eval (.Name x p1) X.env
      standAt p2.atName
      let (f, first) ← holding [ov] (getMethod ov m pl)
      callWith pos f first (backTo pos (starEach (e :: es) X.env)) (backToKw pos (keywordEach [] X.env))) := by rfl)
    (he : starEach (e :: es) X.env = (false, eval e X.env) :: starEach es X.env := by rfl)
    (hpl : (backTo pos (starEach es X.env)).any (·.1) = false := by rfl) :
    PE X (.Call (.Attribute (.Name x p1) m p2) (e :: es) [] pos) (tCall sp dvs E ta) := by
  refine ⟨fun pins s σ H Q I h => ?_⟩
  refine PySem.W.methodCall_KW (ld_glob I hg hm ?_ hdb) hc
  refine PySem.W.method_cls I.kIn sg (PySem.W.cls_value I.kIn rd at_ rfl ?_)
  refine PySem.W.callWith_K (first := []) (h₀ := X.base) I.ok.mod.kin kg
    (thn (ha.run pos pins _ σ H _ (I.tok _) h) fun us s1 ⟨vs, H1, I1, r, q⟩ => ⟨I1.kIn, ?_⟩) he hpl
  exact run_fn F hr hb hd hx I1 r q

theorem pe_mkq {x : Str} {C fI : Addr} {k : Nat} {CX : CXT} {fd : FuncData} {ps : List Str} {sp : Sp}
    {ds : List Value} {dvs : List V} (T : OexC X.K C)
    (iC : PySem.W.findIn X.K (.ref C) "__init__" = some (some (.ref fI)))
    (tI : PySem.W.typeIn X.K (.ref fI) = some (.type "function"))
    (F1 : FnOk X.prog X.w X.K X.mg X.base CX k fI fd ps sp) (hr : Room (k + 1) X.A) (hb : Binds X.K fd ps ds)
    (hd : Vals dvs ds) (hx : Passes CX X (fun _ _ _ => False)) (hg : Gl X x) (hm : X.mg x = some (.ref C))
    (ha : PA X (e :: es) ta) (hdb : (x == ("__debug__" : Str)) = false := by decide)
    (he : starEach (e :: es) X.env = (false, eval e X.env) :: starEach es X.env := by rfl)
    (hpl : (backTo pos (starEach es X.env)).any (·.1) = false := by rfl) :
    PE X (.Call (.Name x p) (e :: es) [] pos) (tMkq C sp dvs ta) := by
  refine ⟨fun pins s σ H Q I h => ?_⟩
  obtain ⟨nm, q, N, bs, bm, sn, sub, ab, col, dd, k0, k1, k2, k3, k5, hC, hbm⟩ := T.cls
  refine wpAny_Call_Name_kw (ld_glob I hg hm ?_ hdb)
  refine PySem.W.callWith_K (h₀ := X.base) I.ok.mod.kin T.kC
    (thn (ha.run pos pins s σ H _ I h) fun us s1 ⟨vs, H1, I1, r1, hz, q1⟩ => ⟨I1.kIn, ?_⟩) he hpl
  show wpAny _ _ (call (.ref C) us) _ _ _
  obtain ⟨hp, g, dr, tk, os⟩ := s1
  have n0 : H1 hp.objs.size = none := I1.hok.fresh (Nat.le_refl _)
  have n1 : H1 (hp.objs.size + 1) = none := I1.hok.fresh (Nat.le_succ _)
  have hne : hp.objs.size ≠ hp.objs.size + 1 := Nat.ne_of_lt (Nat.lt_succ_self _)
  have hq := q1 hp.objs.size (hp.objs.size + 1) n0 n1 hne
  have hus : us.length ≤ sizeLine := by
    rw [← Paired.length r1, sizeLine_eq]
    omega
  have I2 : Inv X pins σ (upd H1 hp.objs.size (.tup vs)) ⟨hp.push (PySem.W.kdv_tup us), g, dr, tk, os⟩ :=
    I1.laid (t' := tk) (a := hp.objs.size) (o := .tup vs) (h' := hp.push (PySem.W.kdv_tup us))
      (fun b o z => Heap.get?_push_of_some _ z) (Nat.le_refl _)
      ⟨by rw [Paired.length r1]; exact hus, us, r1, _, Heap.get?_push_size _ rfl, rfl, _, rfl⟩
  have hget : ((hp.push (PySem.W.kdv_tup us)).push (exOb C none hp.objs.size)).get? (hp.objs.size + 1) =
      some (exOb C none hp.objs.size) := by heap_get
  have hsz2 : (hp.push (PySem.W.kdv_tup us)).objs.size ≤ hp.objs.size + 1 := by
    simp [Heap.push]
  have I3 : Inv X pins σ (upd (upd H1 hp.objs.size (.tup vs)) (hp.objs.size + 1) (exq (hp.objs.size + 1) C none hp.objs.size))
      ⟨(hp.push (PySem.W.kdv_tup us)).push (exOb C none hp.objs.size), g, dr, tk, os⟩ :=
    I2.laid (t' := tk) (a := hp.objs.size + 1) (o := exq (hp.objs.size + 1) C none hp.objs.size)
      (h' := (hp.push (PySem.W.kdv_tup us)).push (exOb C none hp.objs.size))
      (fun b o z => Heap.get?_push_of_some _ z) hsz2 (exq_ok hget)
  have r2 : Vals (V.ref (hp.objs.size + 1) :: (vs ++ dvs)) (Value.ref (hp.objs.size + 1) :: (us ++ ds)) :=
    .cons rfl (r1.append hd)
  have hl : (Value.ref (hp.objs.size + 1) :: us ++ ds).length = ps.length :=
    r2.length.symm.trans (F1.len _ _ _ _ hq)
  refine wpAny_call (PySem.HandSPX.call_own F.excBase_ValueError (fun Y => PySem.HandSPX.refsVE_contains Y bm hbm)
    (I1.kIn _ _ hC) (PySem.W.looks_findIn I1.kIn iC) (fun self => PySem.W.bind_fn I1.kIn self tI) hus
    (codeAny_mono (F1.run _ X.stack _ _ ⟨Value.ref (hp.objs.size + 1) :: us, []⟩
      (Value.ref (hp.objs.size + 1) :: (us ++ ds)) _ _ (fun _ _ _ => False) (hr.make C us []) (I3.env0.make C us [])
      (hb _ (Value.ref (hp.objs.size + 1) :: us) I3.kIn hl) r2 hq) fun r s' hq' => ?_))
  match r, hq' with
  | .error er, hq' => exact hx pins σ _ _ er s' I3 hq'
  | .ok (.ret u), hq' =>
    obtain ⟨v, H', I4, rv, ev, q3⟩ := I3.after hq'
    subst ev
    exact ⟨rv, ⟨V.ref (hp.objs.size + 1), H', I4, rfl, q3⟩⟩
  | .ok .next, hq' => exact False.elim hq'
  | .ok .brk, hq' => exact False.elim hq'
  | .ok .cont, hq' => exact False.elim hq'
end
end Pw

/-! What repr tells of a value: of data that are tracked, with exceptions of one's own among them. -/
namespace Pw
open PySem PySem.Spec PyProof.Rows L2
open Sem (wp)
open Builtin Builtin.Str Builtin.BaseException Builtin.Exceptions

/-- how a class's name stands in what is shown -/
def clsHead (n : Str) : Str := Str.ofString ((n.toString.cutAt '.').getLastD "")
/-- what the class of an exception must say, so that it is shown by its name and its args -/
structure ExR (K : PySem.W.Frag) (C : Addr) (nm : Str) : Prop where
  rep : PySem.W.findIn K (.ref C) "__repr__" = some (some (.builtin "BaseException.__repr__"))
  sub : PySem.W.subIn K (.ref C) (.type "BaseException") = some true
  nam : ∃ cd, PySem.W.clsIn K C = some cd ∧ cd.name = nm

mutual
/-- repr of the value is the text; the first number: how deep it is; the second: no less than the text's length -/
inductive Shw (K : PySem.W.Frag) (H : Hp) : V → Nat → Nat → Str → Prop
  | non : Shw K H .non 0 5 "None"
  | bl (b : Bool) : Shw K H (.bl b) 0 5 (if b then "True" else "False")
  | int (i : Int) (h : i.natAbs.log2 < 1920) : Shw K H (.int i) 0 1921 (toString i)
  | str (x : Str) (m : Nat) (h : (reprText x).length ≤ m) : Shw K H (.str x) 0 m (reprText x)
  | lst {a : Addr} {xs : List V} {d n : Nat} {ts : List Str} (e : H a = some (.lst xs)) (h : ShwL K H xs d n ts) :
      Shw K H (.ref a) (d + 1) (n + 2) (listText ts)
  | tup {a : Addr} {xs : List V} {d n : Nat} {ts : List Str} (e : H a = some (.tup xs)) (h : ShwL K H xs d n ts) :
      Shw K H (.ref a) (d + 1) (n + 3) (tupleText ts)
  | dct {a : Addr} {kvs : List (Key × V)} {d1 d2 n1 n2 : Nat} {ks vs : List Str} (e : H a = some (.dK kvs))
      (h1 : ShwL K H (kvs.map fun p => kV p.1) d1 n1 ks) (h2 : ShwL K H (kvs.map fun p => p.2) d2 n2 vs) :
      Shw K H (.ref a) (max d1 d2 + 1) (n1 + n2 + 2) (dictText (List.zipWith (fun k v : Str => k ++ ": " ++ v) ks vs))
  | exc {a C t : Addr} {d : Option Addr} {x nm : Str} {n1 n2 : Nat} (e : H a = some (exq a C d t))
      (et : H t = some (.tup [.str x])) (c : ExR K C nm) (l1 : (clsHead nm).length ≤ n1) (l2 : (reprText x).length ≤ n2) :
      Shw K H (.ref a) 0 (n1 + n2 + 2) (clsHead nm ++ "(" ++ reprText x ++ ")")
inductive ShwL (K : PySem.W.Frag) (H : Hp) : List V → Nat → Nat → List Str → Prop
  | nil : ShwL K H [] 0 0 []
  | cons {v : V} {vs : List V} {d e n m : Nat} {t : Str} {ts : List Str} (h : Shw K H v d n t) (hs : ShwL K H vs e m ts) :
      ShwL K H (v :: vs) (max d e) (n + 2 + m) (t :: ts)
end

theorem dK_lst {kvs : List (Key × V)} {xs : List V} : HO.dK kvs ≠ HO.lst xs := fun z => nomatch z
theorem dK_exq {kvs : List (Key × V)} {e C t : Addr} {d : Option Addr} : HO.dK kvs ≠ exq e C d t := fun z => by
  have z' : HO.dK kvs = HO.ext _ := z
  cases z'
section
variable {K : PySem.W.Frag} {H : Hp}
mutual
/-- a value is as deep as it is -/
theorem Shw.one : ∀ {v : V} {d n d' n' : Nat} {t t' : Str}, Shw K H v d n t → Shw K H v d' n' t' → d = d'
  | _, _, _, _, _, _, _, .non, .non => rfl
  | _, _, _, _, _, _, _, .bl _, .bl _ => rfl
  | _, _, _, _, _, _, _, .int _ _, .int _ _ => rfl
  | _, _, _, _, _, _, _, .str _ _ _, .str _ _ _ => rfl
  | _, _, _, _, _, _, _, .lst e h, .lst e' h' => by
    cases e.symm.trans e'
    rw [ShwL.one h h']
  | _, _, _, _, _, _, _, .lst e h, .tup e' h' => nomatch e.symm.trans e'
  | _, _, _, _, _, _, _, .lst e h, .dct e' _ _ => nomatch e.symm.trans e'
  | _, _, _, _, _, _, _, .lst e h, .exc e' _ _ _ _ => absurd (Option.some.inj (e.symm.trans e')).symm exq_lst
  | _, _, _, _, _, _, _, .tup e h, .lst e' h' => nomatch e.symm.trans e'
  | _, _, _, _, _, _, _, .tup e h, .tup e' h' => by
    cases e.symm.trans e'
    rw [ShwL.one h h']
  | _, _, _, _, _, _, _, .tup e h, .dct e' _ _ => nomatch e.symm.trans e'
  | _, _, _, _, _, _, _, .tup e h, .exc e' _ _ _ _ => absurd (Option.some.inj (e.symm.trans e')).symm exq_tup
  | _, _, _, _, _, _, _, .dct e _ _, .lst e' h' => nomatch e.symm.trans e'
  | _, _, _, _, _, _, _, .dct e _ _, .tup e' h' => nomatch e.symm.trans e'
  | _, _, _, _, _, _, _, .dct e h1 h2, .dct e' h1' h2' => by
    cases e.symm.trans e'
    rw [ShwL.one h1 h1', ShwL.one h2 h2']
  | _, _, _, _, _, _, _, .dct e _ _, .exc e' _ _ _ _ => absurd (Option.some.inj (e.symm.trans e')) dK_exq
  | _, _, _, _, _, _, _, .exc e _ _ _ _, .lst e' h' => absurd (Option.some.inj (e.symm.trans e')) exq_lst
  | _, _, _, _, _, _, _, .exc e _ _ _ _, .tup e' h' => absurd (Option.some.inj (e.symm.trans e')) exq_tup
  | _, _, _, _, _, _, _, .exc e _ _ _ _, .dct e' _ _ => absurd (Option.some.inj (e.symm.trans e')).symm dK_exq
  | _, _, _, _, _, _, _, .exc e _ _ _ _, .exc e' _ _ _ _ => rfl
theorem ShwL.one : ∀ {vs : List V} {d n d' n' : Nat} {ts ts' : List Str}, ShwL K H vs d n ts → ShwL K H vs d' n' ts' → d = d'
  | _, _, _, _, _, _, _, .nil, .nil => rfl
  | _, _, _, _, _, _, _, .cons h hs, .cons h' hs' => by rw [Shw.one h h', ShwL.one hs hs']
end

/-- the length of a join of texts, each with two signs more -/
theorem join_le (sep : Str) (hsep : sep.length = 2) : ∀ ts : List Str, (Str.join sep ts).length ≤ (ts.map fun t => t.length + 2).sum
  | [] => by
    show (Str.join sep []).length ≤ 0
    exact Nat.le_of_eq rfl
  | [x] => by
    show x.length ≤ _
    simp only [List.map_cons, List.map_nil, List.sum_cons, List.sum_nil]
    omega
  | x :: y :: r => by
    have ih := join_le sep hsep (y :: r)
    show (x ++ sep ++ Str.join sep (y :: r)).length ≤ _
    rw [strLen_append, strLen_append, hsep]
    simp only [List.map_cons, List.sum_cons] at ih ⊢
    omega
theorem textFrom_le : ∀ (ts : List Str) (i : Nat) (b : Str), (textFrom i b ts).length ≤ b.length + (ts.map fun t => t.length + 2).sum := by
  intro ts
  induction ts with
  | nil =>
    intro i b
    exact Nat.le_add_right _ _
  | cons t r ih =>
    intro i b
    have h := ih (i + 1) (b ++ Str.ofString (if 0 < i then ", " else "") ++ t)
    have e : textFrom i b (t :: r) = textFrom (i + 1) (b ++ Str.ofString (if 0 < i then ", " else "") ++ t) r := rfl
    rw [e]
    refine Nat.le_trans h ?_
    rw [strLen_append, strLen_append]
    have h2 : (Str.ofString (if 0 < i then ", " else "")).length ≤ 2 := by
      split <;> decide +kernel
    simp only [List.map_cons, List.sum_cons]
    omega
mutual
theorem Shw.len : ∀ {v : V} {d n : Nat} {t : Str}, Shw K H v d n t → t.length ≤ n
  | _, _, _, _, .non => by decide +kernel
  | _, _, _, _, .bl b => by cases b <;> decide +kernel
  | _, _, _, _, .int i h => int_text_len_1921 h
  | _, _, _, _, .str x m h => h
  | _, _, _, _, .lst (ts := ts) e h => by
    have h1 := ShwL.len h
    have h2 := textFrom_le ts 0 "["
    have e1 : ("[" : Str).length = 1 := rfl
    have e2 : (listText ts).length = (textFrom 0 "[" ts).length + 1 := by
      show (textFrom 0 "[" ts ++ "]").length = _
      rw [strLen_append]; rfl
    omega
  | _, _, _, _, .tup (ts := ts) e h => by
    have h1 := ShwL.len h
    have h2 := join_le ", " rfl ts
    unfold tupleText
    rw [strLen_append, strLen_append]
    have e1 : ("(" : Str).length = 1 := rfl
    have e2 : (Str.ofString (if (ts.length == 1) = true then ",)" else ")")).length ≤ 2 := by split <;> decide +kernel
    omega
  | _, _, _, _, .dct (ks := ks) (vs := vs) e h1 h2 => by
    have q1 := ShwL.len h1
    have q2 := ShwL.len h2
    have q3 := join_le ", " rfl (List.zipWith (fun k v : Str => k ++ ": " ++ v) ks vs)
    have q4 : ∀ (ks vs : List Str), ((List.zipWith (fun k v : Str => k ++ ": " ++ v) ks vs).map fun t => t.length + 2).sum ≤ (ks.map fun t => t.length + 2).sum + (vs.map fun t => t.length + 2).sum := by
      intro ks
      induction ks with
      | nil => intro vs; simp
      | cons k r ih =>
        intro vs
        cases vs with
        | nil => simp
        | cons v r' =>
          have i1 := ih r'
          have i2 : (k ++ (": " : Str) ++ v).length = k.length + 2 + v.length := by
            rw [strLen_append, strLen_append]; rfl
          simp only [List.zipWith_cons_cons, List.map_cons, List.sum_cons] at i1 ⊢
          omega
    have q5 := q4 ks vs
    unfold dictText
    rw [strLen_append, strLen_append]
    have e1 : ("{" : Str).length = 1 := rfl
    have e2 : ("}" : Str).length = 1 := rfl
    omega
  | _, _, _, _, .exc e et c l1 l2 => by
    rw [strLen_append, strLen_append, strLen_append]
    have e1 : ("(" : Str).length = 1 := rfl
    have e2 : (")" : Str).length = 1 := rfl
    omega
theorem ShwL.len : ∀ {vs : List V} {d n : Nat} {ts : List Str}, ShwL K H vs d n ts → (ts.map fun t => t.length + 2).sum ≤ n
  | _, _, _, _, .nil => Nat.le_refl _
  | _, _, _, _, .cons h hs => by
    have h1 := Shw.len h
    have h2 := ShwL.len hs
    simp only [List.map_cons, List.sum_cons]
    omega
end
end

/-! ### an exception of one's own is shown -/
section
variable {prog : Program} {w : World} {h₀ : Heap} {K : PySem.W.Frag} {C : Addr} {nm : Str}
theorem typ_at {M : Model} {h : Heap} {e t : Addr} {d : Option Addr} (he : h.get? e = some (exOb C d t)) :
    PySem.W.Looks M h (typeOf (.ref e)) (.ref C) := by
  intro A' Q' E' s' k q
  unfold typeOf
  exact wpAny_bind (wpAny_loadPart (k _ _ he) (wpAny_pure q))
/-- the displayed class, by name -/
theorem name_of {M : Model} {A : Around} {E : Value → Shared → Prop} {s : Shared} {e t : Addr} {d : Option Addr}
    {cd : ClassData} {Q : String → Shared → Prop} (X : K.In s.heap) (he : s.heap.get? e = some (exOb C d t))
    (hc : PySem.W.clsIn K C = some cd) (hq : Q cd.name.toString s) : wpAny M A (typeNameOfWhole (.ref e)) Q E s := by
  unfold typeNameOfWhole shownTypeOf
  have L0 : PySem.W.Looks M s.heap (typeOf (.ref e)) (.ref C) := typ_at he
  refine wpAny_bind (wpAny_bind (L0.here ?_))
  have e0 : (Value.ref C == Value.type "builtin_function_or_method") = false := rfl
  simp only [e0, Bool.false_eq_true, if_false]
  refine wpAny_pure ?_
  unfold typeNameWhole
  exact wpAny_bind ((PySem.W.looks_clsIn X hc).here (wpAny_pure hq))

theorem exc_body {A : Around} {E : Value → Shared → Prop} {s : Shared} {e t : Addr} {d : Option Addr} {cd : ClassData}
    {x : Str} {tk : Tok} {Q : Fin → Shared → Prop} (b : Nat) (X : K.In s.heap) (he : s.heap.get? e = some (exOb C d t))
    (ht : s.heap.TupAt t [.str x tk]) (hc : PySem.W.clsIn K C = some cd)
    (hq : Q (.done (.ret (.str (clsHead cd.name ++ "(" ++ reprText x ++ ")") (s.toks + 1)))) { s with toks := s.toks + 1 + 1 })
    (hsz : b + (clsHead cd.name ++ "(" ++ reprText x ++ ")").length ≤ sizeLine) :
    wpAny (model prog w) A (Builtin.bexcReprAt b ⟨[.ref e], []⟩) Q E s := by
  have e1 : b + (clsHead cd.name ++ Str.ofString "(" ++ reprText x ++ Str.ofString ")").length ≤ sizeLine := hsz
  have hsz2 : (clsHead cd.name ++ Str.ofString "(" ++ reprText x ++ Str.ofString ")").length ≤ sizeLine := by omega
  have eP : (Str.ofString "(").length = 1 := rfl
  rw [strLen_append, strLen_append, strLen_append, eP] at e1
  have hsz1 : (reprText x).length ≤ sizeLine := by omega
  have hpile : b + ((clsHead cd.name).length + 1) ≤ sizeLine := by omega
  obtain ⟨ot, k, hto, _, htd⟩ := id ht
  have args : ∀ {A' : Around} {E' : Value → Shared → Prop} {Q' : Value × List Value → Shared → Prop},
      Q' (.ref t, [.str x tk]) s → wpAny (model prog w) A' (bexcArgs (.ref e)) Q' E' s := fun {A' E' Q'} q => by
    unfold bexcArgs
    exact wpAny_bind (wpAny_field he rfl rfl (wpAny_bind (wpAny_seqItems hto htd (wpAny_pure q))))
  unfold Builtin.bexcReprAt
  unfold clsHead at hpile hsz2
  repeat (first | with_reducible refine name_of X he hc ?_ | with_reducible refine args ?_ | rw [pyReprUnder_leaf (v := .str x tk) hpile (by intro a; nofun)] | with_reducible refine wpAny_pyRepr_str ?_ | wp_step)
  exact hq

theorem ReprK.exq {e t : Addr} {d : Option Addr} {x : Str} {tk : Tok} (X : K.In h₀) (he : h₀.get? e = some (exOb C d t))
    (ht : h₀.TupAt t [.str x tk]) (R : ExR K C nm) :
    ReprK prog w [] h₀ 0 (.ref e) (clsHead nm ++ "(" ++ reprText x ++ ")") := by
  intro base hb A g E s Q hg hcl hu hk0 hQ
  obtain ⟨cd, hc, rfl⟩ := R.nam
  have X' : K.In s.heap := fun a o z => hk0 a o (X a o z)
  have he' := hk0 _ _ he
  have ht' : s.heap.TupAt t [.str x tk] := let ⟨o, k, h1, h2⟩ := ht; ⟨o, k, hk0 _ _ h1, h2⟩
  have L0 : PySem.W.Looks (model prog w) s.heap (typeOf (.ref e)) (.ref C) := typ_at he'
  have L1 := PySem.W.looks_findIn (M := model prog w) X' R.rep
  have sub : PySem.W.Looks (model prog w) s.heap (isInstance (.ref e) (.type "BaseException")) true :=
    L0.andThen (PySem.W.looks_subIn X' R.sub)
  refine wpAny_pyReprUnder_ref (by omega) ?_
  unfold pyReprObjUnder pyReprObjBy
  refine wpAny_bind (wpAny_cRoomFor (by omega) ?_)
  refine wpAny_bind (wpAny_bind (L0.here (L1.here ?_)))
  have last : wpAny (model prog w) A (call (.builtin "BaseException.__repr__.under") [.ref e, rawInt base])
      (fun v s' => ∃ y u, v = .str y u ∧ Q y s') E s := by
    refine wpAny_call (codeAny_call_builtin F.plain_bexc_repr_under F.entry_bexc_repr_under ?_)
    rw [F.check_bexc_repr_under]
    refine wpAny_pure ?_
    show wpAny _ _ (reprTwin "BaseException.__repr__" Builtin.bexcReprAt ⟨[.ref e, rawInt base], []⟩) _ _ _
    rw [reprTwin_eq]
    refine wpAny_bind (PySem.W.check_slot (i := "BaseException.__repr__") (owner := "BaseException") (n := "__repr__")
      (by decide +kernel) (by decide +kernel) sub (F.args_bexc_repr _) ?_)
    refine exc_body base X' he' ht' hc ?_ hb
    exact ⟨_, _, rfl, hQ s.heap _ fun _ _ z => z⟩
  simp only [Option.isNone_some, Bool.false_eq_true, if_false, callSpecialIfBoundBy?, bindSpecialIfBound?]
  refine wpAny_bind (wpAny_holding (wpAny_bind (wpAny_bind (wpAny_bind (L0.here (L1.here ?_))))))
  have fin : wpAny (model prog w) A (call (.builtin "BaseException.__repr__.under") [.ref e, rawInt base] >>= fun v => pure (some v))
      (fun r s' => wpAny (model prog w) A (match r with
        | some r => do
          if (← isInstance r (.type "str")) = true then pure r else
            raiseError "TypeError" s!"__repr__ returned non-string (type {← typeNameOf r})"
        | none => unsupported "repr:special-get-raises") (fun v s' => ∃ y u, v = .str y u ∧ Q y s') E s') E s :=
    wpAny_bind (wpAny_mono last (fun v s' z => by
      obtain ⟨y, u, rfl, q⟩ := z
      exact wpAny_pure (wpAny_bind (wpAny_isInstance (T := "str") (b := true) rfl isSubtype_str_str (wpAny_pure ⟨y, u, rfl, q⟩))))
      fun _ _ z => z)
  have bd : bindSpecial (.builtin "BaseException.__repr__") (.ref e) = pure (.builtin "BaseException.__repr__", [.ref e]) :=
    F.excStr_ValueError.repr.bind _
  dsimp only
  simp only [bd]
  refine wpAny_bind (wpAny_askSetting (wpAny_ite ?_))
  split
  · exact wpAny_bind (wpAny_pure (wpAny_pure fin))
  · exact wpAny_tryCatch (wpAny_bind (wpAny_pure (wpAny_pure fin)))
end
end Pw

namespace Pw
open PySem PySem.Spec PyProof.Rows L2

/-- places that are shown no deeper than that -/
def AtM (K : PySem.W.Frag) (H : Hp) (n : Nat) (bs : List Addr) : Prop :=
  ∀ b ∈ bs, ∃ d m t, Shw K H (.ref b) d m t ∧ d ≤ n
theorem AtM.mono {K : PySem.W.Frag} {H : Hp} {n m : Nat} {bs : List Addr} (h : AtM K H n bs) (l : n ≤ m) : AtM K H m bs :=
  fun b hb => let ⟨d, k, t, s, z⟩ := h b hb; ⟨d, k, t, s, Nat.le_trans z l⟩
theorem AtM.app {K : PySem.W.Frag} {H : Hp} {n : Nat} {as bs : List Addr} (h : AtM K H n as) (g : AtM K H n bs) :
    AtM K H n (as ++ bs) := fun b hb => (List.mem_append.mp hb).elim (h b) (g b)
theorem AtM.out {K : PySem.W.Frag} {H : Hp} {n d m : Nat} {a : Addr} {t : Str} {bs : List Addr} (h : AtM K H n bs)
    (s : Shw K H (.ref a) d m t) (l : n < d) : a ∉ bs := fun hm => by
  obtain ⟨d', m', t', s', z⟩ := h a hm
  have e := Shw.one s s'
  omega
theorem AtM.con {K : PySem.W.Frag} {H : Hp} {n d m : Nat} {a : Addr} {t : Str} {bs : List Addr} (h : AtM K H n bs)
    (s : Shw K H (.ref a) d m t) (l : n ≤ d) : AtM K H d (a :: bs) := fun b hb => by
  rcases List.mem_cons.mp hb with e | hb
  · subst e
    exact ⟨d, m, t, s, Nat.le_refl _⟩
  · exact (h.mono l) b hb

theorem pairs_keys {P : Program} {w : World} : ∀ {kvs : List (Key × V)} {vs : List (Key × Value)} {es : List DictEntry},
    KV kvs vs → PySem.Pairs (mixKind P w) es vs →
    Vals (kvs.map fun p => kV p.1) (es.map (·.key)) ∧ Vals (kvs.map fun p => p.2) (es.map (·.val))
  | _, _, _, .nil, .nil => ⟨.nil, .nil⟩
  | _, _, _, .cons (a := p) (b := q) h hs, .cons (e := e) hk hv ps => by
    obtain ⟨h1, h2⟩ := pairs_keys hs ps
    refine ⟨.cons ?_ h1, .cons ?_ h2⟩
    · have hk' : keyIs q.1 e.key = true := hk
      show RelV (kV p.1) e.key
      rw [h.1]
      rcases keyIs_shape hk' with ⟨i, t, e1, e2⟩ | ⟨x, t, e1, e2⟩
      · rw [e1, e2]; exact ⟨t, rfl⟩
      · rw [e1, e2]; exact ⟨t, rfl⟩
    · show RelV p.2 e.val
      rw [hv]; exact h.2

section
variable {P : Program} {w : World} {K : PySem.W.Frag} {H : Hp} {h : Heap}
mutual
theorem Shw.run (hok : HOk P w H h) (X : K.In h) : ∀ {v : V} {d n : Nat} {t : Str}, Shw K H v d n t → n ≤ sizeLine →
    ∀ u, RelV v u → ∃ bs, AtM K H d bs ∧ ReprK P w bs h d u t
  | _, _, _, _, .non, _, u, r => by
    obtain rfl : u = Value.none := r
    exact ⟨[], (fun _ z => nomatch z), .of_is ReprIs.none _ _ _⟩
  | _, _, _, _, .bl b, _, u, r => by
    obtain rfl : u = Value.bool b := r
    exact ⟨[], (fun _ z => nomatch z), .of_is (ReprIs.bool b) _ _ _⟩
  | _, _, _, _, .int i hi, _, u, r => by
    obtain ⟨t, rfl⟩ := (show ∃ t, u = Value.int i t from r)
    exact ⟨[], (fun _ z => nomatch z), .of_is (ReprIs.int t hi) _ _ _⟩
  | _, _, _, _, .str x m hm, hl, u, r => by
    obtain ⟨t, rfl⟩ := (show ∃ t, u = Value.str x t from r)
    exact ⟨[], (fun _ z => nomatch z), .of_is (ReprIs.str x t (Nat.le_trans hm hl)) _ _ _⟩
  | _, _, _, _, .lst (a := a) (xs := xs) (d := d) (ts := ts) e hs, hl, u, r => by
    obtain rfl : u = Value.ref a := r
    obtain ⟨_, its, k, rv, h1⟩ := (show ObjOk P w H h a (.lst xs) from hok a _ e)
    obtain ⟨bs, hb, hk⟩ := ShwL.run hok X hs (by omega) its rv
    have sh := Shw.lst e hs
    have hna := hb.out sh (Nat.lt_succ_self _)
    refine ⟨a :: bs, hb.con sh (Nat.le_succ _), ?_⟩
    cases its with
    | nil =>
      cases hk
      rw [listText_nil]
      exact ReprK.listEmpty h1 rfl rfl
    | cons y l => exact ReprK.list h1 rfl rfl hna (by simpa using hk.length_eq) (fun i z q => hk.item i z (by simpa using q))
  | _, _, _, _, .tup (a := a) (xs := xs) (d := d) (ts := ts) e hs, hl, u, r => by
    obtain rfl : u = Value.ref a := r
    obtain ⟨_, its, rv, o, h1, h2, k, h3⟩ := (show ObjOk P w H h a (.tup xs) from hok a _ e)
    obtain ⟨bs, hb, hk⟩ := ShwL.run hok X hs (by omega) its rv
    have sh := Shw.tup e hs
    exact ⟨a :: bs, hb.con sh (Nat.le_succ _), ReprK.tuple h1 h2 h3 (hb.out sh (Nat.lt_succ_self _)) (by simpa using hk)⟩
  | _, _, _, _, .dct (a := a) (kvs := kvs) (ks := ks) (vs := vs) e hs1 hs2, hl, u, r => by
    obtain rfl : u = Value.ref a := r
    obtain ⟨_, hsys, us, hkv, o, es, ep, h1, h2, h3, _, h4, _⟩ := (show ObjOk P w H h a (.dK kvs) from hok a _ e)
    obtain ⟨r1, r2⟩ := pairs_keys hkv h4
    obtain ⟨b1, hb1, k1⟩ := ShwL.run hok X hs1 (by omega) _ r1
    obtain ⟨b2, hb2, k2⟩ := ShwL.run hok X hs2 (by omega) _ r2
    have sh := Shw.dct e hs1 hs2
    have hb := (hb1.mono (Nat.le_max_left _ _)).app (hb2.mono (Nat.le_max_right _ _))
    exact ⟨a :: (b1 ++ b2), hb.con sh (Nat.le_succ _), ReprK.dict h1 h2.1 h3 hsys (hb.out sh (Nat.lt_succ_self _))
      (ReprEntriesK.of_two es.toList _ _ (k1.more_le (fun b z => List.mem_append_left _ z) (Nat.le_max_left _ _))
        (k2.more_le (fun b z => List.mem_append_right _ z) (Nat.le_max_right _ _)))⟩
  | _, _, _, _, .exc (a := a) (C := C) (t := t) e et c l1 l2, hl, u, r => by
    obtain rfl : u = Value.ref a := r
    obtain ⟨_, its, rv, o, h1, h2, k, h3⟩ := (show ObjOk P w H h t (.tup _) from hok t _ et)
    cases rv with
    | cons rx rr =>
      cases rr
      obtain ⟨tk, rfl⟩ := (show ∃ tk, _ = Value.str _ tk from rx)
      exact ⟨[], (fun _ z => nomatch z), ReprK.exq X (exq_at hok e) ⟨o, k, h1, h2, h3⟩ c⟩
theorem ShwL.run (hok : HOk P w H h) (X : K.In h) : ∀ {vs : List V} {d n : Nat} {ts : List Str}, ShwL K H vs d n ts → n ≤ sizeLine →
    ∀ us, Vals vs us → ∃ bs, AtM K H d bs ∧ ReprAllK P w bs h d us ts
  | _, _, _, _, .nil, _, us, r => by
    cases r
    exact ⟨[], (fun _ z => nomatch z), .nil⟩
  | _, _, _, _, .cons s ss, hl, us, r => by
    cases r with
    | cons rx rr =>
      obtain ⟨b1, hb1, k1⟩ := Shw.run hok X s (by omega) _ rx
      obtain ⟨b2, hb2, k2⟩ := ShwL.run hok X ss (by omega) _ rr
      refine ⟨b1 ++ b2, (hb1.mono (Nat.le_max_left _ _)).app (hb2.mono (Nat.le_max_right _ _)), .cons ?_ ?_⟩
      · exact (k1.more fun b z => List.mem_append_left _ z).level_le (Nat.le_max_left _ _)
      · exact k2.more_le (fun b z => List.mem_append_right _ z) (Nat.le_max_right _ _)
end
end

/-- repr(x): its text -/
def rRepr (K : PySem.W.Frag) : List V → Hp → VK → Prop := fun xs H Q => ∃ (x : V) (d n : Nat) (t : Str),
  xs = [x] ∧ Shw K H x d n t ∧ (∀ a, x = .ref a → 0 < d) ∧ n ≤ sizeLine ∧ d ≤ 60 ∧ Q (.str t) H
theorem call_repr {X : Cx} (gd : X.A.guards = some []) (hu : X.A.units + 64 < cLine) : CallR X (.builtin "repr") (rRepr X.K) := by
  intro pins s σ H xs us Q I r h
  obtain ⟨x, d, n, t, rfl, sh, hpos, hl, hd, q⟩ := h
  have hlen := Shw.len sh
  cases r with
  | cons rx rr =>
    cases rr
    rename_i u
    have hback : ∀ h' uu tk, (∀ b o, s.heap.get? b = some o → h'.get? b = some o) →
        EP X pins σ Q (.str t uu) { s with heap := h', toks := tk } := fun h' uu tk k =>
      ⟨.str t, H, I.kept k, ⟨uu, rfl⟩, q⟩
    cases sh with
    | non =>
      obtain rfl : u = Value.none := rx
      exact PySem.P.repr_of_none (hback s.heap _ _ fun _ _ z => z)
    | bl b =>
      obtain rfl : u = Value.bool b := rx
      exact PySem.P.repr_of_bool (hback s.heap _ _ fun _ _ z => z)
    | int i hi =>
      obtain ⟨tk, rfl⟩ := (show ∃ tk, u = Value.int i tk from rx)
      exact PySem.P.repr_of_int hi (hback s.heap _ _ fun _ _ z => z)
    | str z m hm =>
      obtain ⟨tk, rfl⟩ := (show ∃ tk, u = Value.str z tk from rx)
      exact PySem.P.repr_of_str (hback s.heap _ _ fun _ _ z => z) (Nat.le_trans hm hl)
    | @lst a ys d0 n0 ts e hs =>
      obtain rfl : u = Value.ref a := rx
      obtain ⟨_, its, k, rv, h1⟩ := (show ObjOk X.prog X.w H s.heap a (.lst ys) from I.hok a _ e)
      obtain ⟨bs, hb, hk⟩ := ShwL.run I.hok I.kIn hs (by omega) its rv
      have hna := hb.out (Shw.lst e hs) (Nat.lt_succ_self _)
      refine call_repr_slot (by omega) ⟨_, h1, rfl⟩ F.slot_list_repr.toG ?_
      cases its with
      | nil =>
        cases hk
        rw [listText_nil] at hback
        exact call_list_repr_empty ⟨_, h1, rfl⟩ h1 rfl ⟨_, _, rfl, hback s.heap _ _ fun _ _ z => z⟩
      | cons y l =>
        exact call_list_reprK h1 rfl rfl hna (by simpa using hk.length_eq) (fun i z q => hk.item i z (by simpa using q))
          (g := []) gd (fun b _ => Clear.nil b) (by show X.A.units + 1 + _ < _; omega) (fun _ _ z => z)
          (fun h' uu tk k => ⟨_, _, rfl, hback h' uu tk k⟩) (Nat.le_trans hlen hl)
    | @tup a ys d0 n0 ts e hs =>
      obtain rfl : u = Value.ref a := rx
      obtain ⟨_, its, rv, o, h1, h2, k, h3⟩ := (show ObjOk X.prog X.w H s.heap a (.tup ys) from I.hok a _ e)
      obtain ⟨bs, hb, hk⟩ := ShwL.run I.hok I.kIn hs (by omega) its rv
      have hna := hb.out (Shw.tup e hs) (Nat.lt_succ_self _)
      refine call_repr_slot (by omega) ⟨_, h1, h2⟩ F.slot_tuple_repr ?_
      exact call_tuple_reprK h1 h2 h3 hna (by simpa using hk)
        (g := []) gd (fun b _ => Clear.nil b) (by show X.A.units + 1 + _ < _; omega) (fun _ _ z => z)
        (fun h' uu tk k => ⟨_, _, rfl, hback h' uu tk k⟩) (Nat.le_trans hlen hl)
    | @dct a kvs d1 d2 n1 n2 ks vs e hs1 hs2 =>
      obtain rfl : u = Value.ref a := rx
      obtain ⟨_, hsys, us, hkv, o, es, ep, h1, h2, h3, _, h4, _⟩ := (show ObjOk X.prog X.w H s.heap a (.dK kvs) from I.hok a _ e)
      obtain ⟨r1, r2⟩ := pairs_keys hkv h4
      obtain ⟨b1, hb1, k1⟩ := ShwL.run I.hok I.kIn hs1 (by omega) _ r1
      obtain ⟨b2, hb2, k2⟩ := ShwL.run I.hok I.kIn hs2 (by omega) _ r2
      have hb := (hb1.mono (Nat.le_max_left d1 d2)).app (hb2.mono (Nat.le_max_right d1 d2))
      have hna := hb.out (Shw.dct e hs1 hs2) (Nat.lt_succ_self _)
      refine call_repr_slot (by omega) ⟨_, h1, h2.1⟩ F.slot_dict_repr ?_
      exact call_dict_reprK h1 h2.1 h3 hsys hna
        (ReprEntriesK.of_two es.toList _ _ (k1.more_le (fun b z => List.mem_append_left _ z) (Nat.le_max_left _ _))
          (k2.more_le (fun b z => List.mem_append_right _ z) (Nat.le_max_right _ _)))
        (g := []) gd (fun b _ => Clear.nil b) (by show X.A.units + 1 + _ < _; omega) (fun _ _ z => z)
        (fun h' uu tk k => ⟨_, _, rfl, hback h' uu tk k⟩) (Nat.le_trans hlen hl)
    | exc e et c l1 l2 => exact absurd (hpos _ rfl) (Nat.lt_irrefl 0)

/-! ### what is shown stays while what is tracked stays -/
section
variable {K : PySem.W.Frag} {H H' : Hp}
mutual
theorem Shw.same (S : Same H H') : ∀ {v : V} {d n : Nat} {t : Str}, Shw K H v d n t → Shw K H' v d n t
  | _, _, _, _, .non => .non
  | _, _, _, _, .bl b => .bl b
  | _, _, _, _, .int i h => .int i h
  | _, _, _, _, .str x m h => .str x m h
  | _, _, _, _, .lst e h => .lst (S _ _ e) (ShwL.same S h)
  | _, _, _, _, .tup e h => .tup (S _ _ e) (ShwL.same S h)
  | _, _, _, _, .dct e h1 h2 => .dct (S _ _ e) (ShwL.same S h1) (ShwL.same S h2)
  | _, _, _, _, .exc e et c l1 l2 => .exc (S _ _ e) (S _ _ et) c l1 l2
theorem ShwL.same (S : Same H H') : ∀ {vs : List V} {d n : Nat} {ts : List Str}, ShwL K H vs d n ts → ShwL K H' vs d n ts
  | _, _, _, _, .nil => .nil
  | _, _, _, _, .cons h hs => .cons (Shw.same S h) (ShwL.same S hs)
end
end
end Pw

namespace PySem.W
open PySem PySem.Calls PyProof.Rows Builtin Builtin.ObjectAttr Builtin.Getset_descriptor
section
variable {prog : Program} {w : World} {A : Around} {E : Value → Shared → Prop} {s : Shared} {K : Frag} {D x : Addr}
  {ox oD : Obj}
/-- e.__class__, e an exception of one's own that has its dict -/
theorem pw_class {Q : Option Value → Shared → Prop}
    (hga : findIn K (.ref D) "__getattribute__" = some (some (.builtin "BaseException.__getattribute__")))
    (hgt : findIn K (.ref D) "__getattr__" = some none)
    (hsub : subIn K (.ref D) (.type "BaseException") = some true)
    (hf : findObj K D (some oD) "__class__" =
      some (.bind (.builtin "getset_descriptor.__get__") (.builtin "object.__class__")))
    (hm : mroIn K D (.type "object") = some true) (X : K.In s.heap) (I : InstAt s.heap x ox D (some oD))
    (h : Q (some (.ref D)) { s with toks := s.toks + 1 }) :
    wpAny (model prog w) A (getAttr? (.ref x) "__class__") Q E s := by
  obtain ⟨hp, g, d, t, os⟩ := s
  have T0 := I.type (M := model prog w)
  have T1 := looks_findIn (M := model prog w) X hga
  have T2 := looks_findIn (M := model prog w) X hgt
  have T3 := looks_find (M := model prog w) X I hf
  have isE : Looks (model prog w) hp (isInstance (.ref x) (.type "BaseException")) true :=
    T0.andThen (looks_subIn X hsub)
  have z0 : (false && onTheHeap (Value.builtin "BaseException.__getattribute__")) = false := rfl
  have z2 : (Value.builtin "BaseException.__getattribute__" ==
    Value.builtin "object.__getattribute__") = false := by decide +kernel
  have z1 : (onTheHeap (Value.ref D) && Value.builtin "BaseException.__getattribute__" ==
    Value.builtin "object.__getattribute__") = false := by rw [z2]; rfl
  unfold getAttr? getAttrBy? getAttrBy
  refine wpAny_bind (wpAny_mkText (wpAny_bind (wpAny_attempt (wpAny_holding (wpAny_bind
    (T0.at (wpAny_bind (T1.at ?_))))))))
  show wpAny _ _ (if (onTheHeap (Value.ref D) && Value.builtin "BaseException.__getattribute__" ==
    Value.builtin "object.__getattribute__") = true then _ else _) _ _ _
  rw [z1, if_neg Bool.false_ne_true]
  unfold getAttrByItsOwn hookBefore
  refine wpAny_bind ?_
  rw [if_pos (show onTheHeap (Value.ref D) = true from rfl)]
  refine T2.at (wpAny_bind (wpAny_attempt (wpAny_holding ?_)))
  unfold callGetattribute
  rw [z0, if_neg Bool.false_ne_true]
  unfold boundAndCalled
  rw [PySem.F.excAttr_ValueError.ga.bind (.ref x)]
  refine wpAny_bind (wpAny_pure ?_)
  show wpAny _ _ (call (.builtin "BaseException.__getattribute__")
    [.ref x, .str "__class__" t]) _ _ _
  refine wpAny_call (codeAny_call_builtin PySem.F.excAttr_ValueError.ga.plain
    PySem.F.entry_bexc_ga ?_)
  refine @check_slot (model prog w) _ _ ⟨hp, g, d, t + 1, os⟩ "BaseException.__getattribute__"
    "BaseException" "__getattribute__" (.ref x) [.str "__class__" t] [] _ (by decide +kernel)
    (by decide +kernel) isE (PySem.F.args_bexc_ga (.ref x) (.str "__class__" t)) ?_
  unfold Builtin.«object.__getattribute__»
  refine wpAny_bind (wpAny_of_eq (a := ((Value.ref x : Value), [Value.str "__class__" t]))
    (by first | rfl | (simp only [slotArgs]; rfl)) ?_)
  refine wpAny_bind (wpAny_pure (wpAny_bind (T0.at (wpAny_bind (T3.at ?_)))))
  show wpAny _ _ (holding [Value.builtin "object.__class__"] (call (.builtin "getset_descriptor.__get__")
    [.builtin "object.__class__", .ref x, .ref D]) >>= ret) _ _ _
  refine wpAny_bind (wpAny_holding (wpAny_call (class_get (s := ⟨hp, g, d, t + 1, os⟩)
    (ox := ox) (od := some oD) X I hm ?_)))
  refine wpAny_pure ?_
  show wpAny _ _ (handedOut (.ref D)) _ _ _
  rw [handedOut_of (v := .ref D) rfl]
  first
    | exact wpAny_pure (wpAny_pure h)
    | exact wpAny_pure h
    | exact wpAny_pure (wpAny_bind (wpAny_pure (wpAny_pure h)))
end
end PySem.W

namespace Pw
open PySem PySem.Spec PyProof.Rows L2

theorem cls_of_dict {K : PySem.W.Frag} {D : Addr} (hd : PySem.W.hasDictIn K D = true) :
    (PySem.W.clsIn K D).isSome = true := by
  cases e : PySem.W.clsIn K D with
  | some _ => rfl
  | none =>
    unfold PySem.W.hasDictIn at hd
    rw [e] at hd
    cases hd

theorem kit_exq {K : PySem.W.Frag} {x D t dx : Addr} {oD : Obj} (C : ExcC K D) :
    PySem.W.KitX K (.ref x) (.ref D) (fun h => PySem.W.InstAt h x (exOb D (some dx) t) D (some oD)) where
  ty := fun _ _ _ I => I.type
  it := fun M h X _ => by
    obtain ⟨cd, hc⟩ := Option.isSome_iff_exists.mp (cls_of_dict C.hd)
    unfold PySem.W.clsIn at hc
    split at hc
    · rename_i ho
      intro A' Q' E' s' k q
      unfold isType loadHead
      exact wpAny_bind (wpAny_loadPart (k _ _ (X _ _ ho)) (wpAny_pure q))
    · cases hc
  ne := fun h tp dd its n sl X htp => by
    obtain ⟨cd, hc⟩ := Option.isSome_iff_exists.mp (cls_of_dict C.hd)
    refine Bool.eq_false_iff.mpr fun q => ?_
    obtain rfl : D = tp := Value.ref.inj (beq_iff_eq.mp q)
    unfold PySem.W.clsIn at hc
    split at hc
    · rename_i ho
      cases (X _ _ ho).symm.trans htp
    · cases hc
  ca := fun X I k => PySem.W.pw_class C.hg C.hk C.hs
    (PySem.W.findObj_data (cls_of_dict C.hd) C.ha C.hn C.ht) C.hm X I k

/-- a value's type, exceptions of one's own too -/
inductive TyQ (K : PySem.W.Frag) (H : Hp) : V → Value → Prop where
  | base {x : V} {t : Value} (h : TyX K H x t) : TyQ K H x t
  | exc {a D t dx : Addr} {fs : List (Str × V)} (e : H a = some (exq a D (some dx) t)) (ed : H dx = some (exd dx fs))
      (c : ExcC K D) : TyQ K H (.ref a) (.ref D)

/-- isinstance(x, c): one class -/
def rIsA (K : PySem.W.Frag) : List V → Hp → VK → Prop := fun xs H Q => ∃ (x c : V) (t u : Value) (b : Bool),
  xs = [x, c] ∧ ClsV c u ∧ TyQ K H x t ∧ PySem.W.kitOne K t u = some b ∧ Q (.bl b) H
theorem call_isa {X : Cx} : CallR X (.builtin "isinstance") (rIsA X.K) := by
  intro pins s σ H xs us Q I r h
  obtain ⟨x, c, t, u, b, rfl, k, ty, e, q⟩ := h
  cases ty with
  | base ty => exact call_isi pins s σ H _ us Q I r ⟨x, c, t, u, b, rfl, k, ty, e, q⟩
  | exc ex ed C =>
    obtain ⟨u1, u2, rfl, r1, r2⟩ := vals2 r
    obtain rfl := k.eq r2
    obtain rfl : u1 = Value.ref _ := r1
    have ha := exq_at I.hok ex
    obtain ⟨mA, ⟨oD, es, ep, hd, hr⟩, _⟩ := exd_at I.hok ed
    refine PySem.W.kia_one (kit_exq (oD := oD) C) I.kIn ⟨ha, rfl, rfl, hd⟩ e (fun z => nomatch z)
      fun tk => ⟨.bl b, H, I.tok tk, rfl, q⟩
end Pw

/-! Kinds of things, and short words for defs. -/
namespace Pw
open PySem PySem.Spec PyProof.Rows L2

/-! ### the kinds of things -/
/-- what an exception's class must say, so that it is told from the built-in kinds -/
structure ExT (K : PySem.W.Frag) (D : Addr) : Prop where
  c : ExcC K D
  int : PySem.W.kitOne K (.ref D) (.type "int") = some false
  bool : PySem.W.kitOne K (.ref D) (.type "bool") = some false
  str : PySem.W.kitOne K (.ref D) (.type "str") = some false
  tuple : PySem.W.kitOne K (.ref D) (.type "tuple") = some false
/-- a thing and its type -/
inductive Ty (K : PySem.W.Frag) (H : Hp) : V → Value → Prop where
  | non : Ty K H .non (.type "NoneType")
  | bl (b : Bool) : Ty K H (.bl b) (.type "bool")
  | int (i : Int) : Ty K H (.int i) (.type "int")
  | str (s : Str) : Ty K H (.str s) (.type "str")
  | lst {a : Addr} {xs : List V} (e : H a = some (.lst xs)) : Ty K H (.ref a) (.type "list")
  | tup {a : Addr} {xs : List V} (e : H a = some (.tup xs)) : Ty K H (.ref a) (.type "tuple")
  | dct {a : Addr} {kvs : List (Key × V)} (e : H a = some (.dK kvs)) : Ty K H (.ref a) (.type "dict")
  | exc {a D t dx : Addr} {fs : List (Str × V)} (e : H a = some (exq a D (some dx) t)) (ed : H dx = some (exd dx fs))
      (c : ExT K D) : Ty K H (.ref a) (.ref D)
theorem Ty.q {K : PySem.W.Frag} {H : Hp} {x : V} {t : Value} (h : Ty K H x t) : TyQ K H x t := by
  cases h with
  | non => exact .base (.base .non)
  | bl b => exact .base (.base (.bl b))
  | int i => exact .base (.base (.int i))
  | str s => exact .base (.base (.str s))
  | lst e => exact .base (.base (.lst e))
  | tup e => exact .base (.base (.tup e))
  | dct e => exact .base (.base (.dK e))
  | exc e ed c => exact .exc e ed c.c
theorem Ty.same {K : PySem.W.Frag} {H H' : Hp} {x : V} {t : Value} (S : Same H H') (h : Ty K H x t) : Ty K H' x t := by
  cases h with
  | non => exact .non
  | bl b => exact .bl b
  | int i => exact .int i
  | str s => exact .str s
  | lst e => exact .lst (S _ _ e)
  | tup e => exact .tup (S _ _ e)
  | dct e => exact .dct (S _ _ e)
  | exc e ed c => exact .exc (S _ _ e) (S _ _ ed) c
def numB : V → Bool
  | .int _ => true
  | _ => false
def blB : V → Bool
  | .bl _ => true
  | _ => false
def strB : V → Bool
  | .str _ => true
  | _ => false
def tupB (H : Hp) : V → Bool
  | .ref a => match H a with
    | some (.tup _) => true
    | _ => false
  | _ => false
theorem Ty.isInt {K : PySem.W.Frag} {H : Hp} {x : V} {t : Value} (h : Ty K H x t) :
    PySem.W.kitOne K t (.type "int") = some (numB x || blB x) := by
  cases h with
  | non  => exact (kit_ty (a := "NoneType") (b := "int") (r := false) (by decide +kernel) : _ = some false)
  | bl b => exact (kit_ty (a := "bool") (b := "int") (r := true) (by decide +kernel) : _ = some true)
  | int i => exact (kit_ty (a := "int") (b := "int") (r := true) (by decide +kernel) : _ = some true)
  | str s => exact (kit_ty (a := "str") (b := "int") (r := false) (by decide +kernel) : _ = some false)
  | lst e => exact (kit_ty (a := "list") (b := "int") (r := false) (by decide +kernel) : _ = some false)
  | tup e => exact (kit_ty (a := "tuple") (b := "int") (r := false) (by decide +kernel) : _ = some false)
  | dct e => exact (kit_ty (a := "dict") (b := "int") (r := false) (by decide +kernel) : _ = some false)
  | exc e ed c => exact c.int
theorem Ty.isBool {K : PySem.W.Frag} {H : Hp} {x : V} {t : Value} (h : Ty K H x t) :
    PySem.W.kitOne K t (.type "bool") = some (blB x) := by
  cases h with
  | non  => exact (kit_ty (a := "NoneType") (b := "bool") (r := false) (by decide +kernel) : _ = some false)
  | bl b => exact (kit_ty (a := "bool") (b := "bool") (r := true) (by decide +kernel) : _ = some true)
  | int i => exact (kit_ty (a := "int") (b := "bool") (r := false) (by decide +kernel) : _ = some false)
  | str s => exact (kit_ty (a := "str") (b := "bool") (r := false) (by decide +kernel) : _ = some false)
  | lst e => exact (kit_ty (a := "list") (b := "bool") (r := false) (by decide +kernel) : _ = some false)
  | tup e => exact (kit_ty (a := "tuple") (b := "bool") (r := false) (by decide +kernel) : _ = some false)
  | dct e => exact (kit_ty (a := "dict") (b := "bool") (r := false) (by decide +kernel) : _ = some false)
  | exc e ed c => exact c.bool
theorem Ty.isStr {K : PySem.W.Frag} {H : Hp} {x : V} {t : Value} (h : Ty K H x t) :
    PySem.W.kitOne K t (.type "str") = some (strB x) := by
  cases h with
  | non  => exact (kit_ty (a := "NoneType") (b := "str") (r := false) (by decide +kernel) : _ = some false)
  | bl b => exact (kit_ty (a := "bool") (b := "str") (r := false) (by decide +kernel) : _ = some false)
  | int i => exact (kit_ty (a := "int") (b := "str") (r := false) (by decide +kernel) : _ = some false)
  | str s => exact (kit_ty (a := "str") (b := "str") (r := true) (by decide +kernel) : _ = some true)
  | lst e => exact (kit_ty (a := "list") (b := "str") (r := false) (by decide +kernel) : _ = some false)
  | tup e => exact (kit_ty (a := "tuple") (b := "str") (r := false) (by decide +kernel) : _ = some false)
  | dct e => exact (kit_ty (a := "dict") (b := "str") (r := false) (by decide +kernel) : _ = some false)
  | exc e ed c => exact c.str
theorem Ty.isTuple {K : PySem.W.Frag} {H : Hp} {x : V} {t : Value} (h : Ty K H x t) :
    PySem.W.kitOne K t (.type "tuple") = some (tupB H x) := by
  cases h with
  | non  => exact (kit_ty (a := "NoneType") (b := "tuple") (r := false) (by decide +kernel) : _ = some false)
  | bl b => exact (kit_ty (a := "bool") (b := "tuple") (r := false) (by decide +kernel) : _ = some false)
  | int i => exact (kit_ty (a := "int") (b := "tuple") (r := false) (by decide +kernel) : _ = some false)
  | str s => exact (kit_ty (a := "str") (b := "tuple") (r := false) (by decide +kernel) : _ = some false)
  | @lst ad xs e =>
    have z : tupB H (.ref ad) = false := by simp only [tupB, e]
    rw [z]
    exact kit_ty (a := "list") (b := "tuple") (r := false) (by decide +kernel)
  | @tup ad xs e =>
    have z : tupB H (.ref ad) = true := by simp only [tupB, e]
    rw [z]
    exact kit_ty (a := "tuple") (b := "tuple") (r := true) (by decide +kernel)
  | @dct ad xs e =>
    have z : tupB H (.ref ad) = false := by simp only [tupB, e]
    rw [z]
    exact kit_ty (a := "dict") (b := "tuple") (r := false) (by decide +kernel)
  | @exc ad D t dx fs e ed c =>
    have z : tupB H (.ref ad) = false := by simp only [tupB, e]; rfl
    rw [z]
    exact c.tuple

/-! ### defs by name -/
section
variable (P : Program) (w : World) (K : PySem.W.Frag) (mg : Str → Option Value) (base : Heap)
/-- the def st of the text stands under its name x -/
structure At (x : Str) (st : Stmt) : Prop where
  ex : ∃ f fd, Fun K x x st f fd ∧ mg x = some (.ref f)
/-- under its name x a def stands that keeps the promise sp -/
structure Def (x : Str) (k : Nat) (ps : List Str) (sp : Sp) : Prop where
  ex : ∃ f fd, mg x = some (.ref f) ∧ PySem.W.keepIn K (.ref f) = true ∧ Binds K fd ps [] ∧
    FnOk P w K mg base CX0 k f fd ps sp
structure DefG (x : Str) (k : Nat) (ps : List Str) (sp : Sp) : Prop where
  ex : ∃ f fd, mg x = some (.ref f) ∧ PySem.W.keepIn K (.ref f) = true ∧ Binds K fd ps [] ∧
    FnG P w K mg base CX0 k f fd ps sp
end
section
variable {P : Program} {w : World} {K : PySem.W.Frag} {mg : Str → Option Value} {base : Heap}
theorem Def.mono {x : Str} {k j : Nat} {ps : List Str} {sp : Sp} (d : Def P w K mg base x k ps sp) (h : k ≤ j) :
    Def P w K mg base x j ps sp :=
  let ⟨f, fd, a, b, c, F⟩ := d.ex
  ⟨f, fd, a, b, c, F.mono h⟩
theorem mkDef {x : Str} {st : Stmt} {N ps : List Str} {k : Nat} {sp : Sp} (A : At K mg x st)
    (S : FnScope N ps (defScope st))
    (hb : ∀ (kV doc pm : Value) (an : Option Addr) (cdv ct : Value) (us : List Value), us.length = ps.length →
      bindArgs (PySem.W.fnOf x x (defArgs st) (defBody st) (defScope st) .none kV doc pm an cdv ct) ⟨us, []⟩ = pure (ps.zip us))
    (len : ∀ vs H Q E, sp vs H Q E → vs.length = ps.length)
    (body : ∀ (f : Addr) (cdv : Value) (A : Around) (out : List Env) (s : Shared) (H : Hp) (vs : List V) (Q : VK) (E : XK),
      Room k (A.deeper (envOfC x (defScope st) s.heap.objs.size f cdv)) → sp vs H Q E →
      ∃ t, PSs (cxOf CX0 P w K mg base N x (defScope st) f cdv A out s H E).nox (defBody st) t ∧
        t { nx := fun _ H' => Q .non H', rt := Q } (start N vs) H) : Def P w K mg base x (k + 1) ps sp := by
  obtain ⟨f, fd, F, m⟩ := A.ex
  exact ⟨f, fd, m, F.kp, F.binds hb, F.ok S len (body f)⟩
theorem mkDefG {x : Str} {st : Stmt} {N ps : List Str} {k : Nat} {sp : Sp} (A : At K mg x st)
    (S : FnScope N ps (defScope st))
    (hb : ∀ (kV doc pm : Value) (an : Option Addr) (cdv ct : Value) (us : List Value), us.length = ps.length →
      bindArgs (PySem.W.fnOf x x (defArgs st) (defBody st) (defScope st) .none kV doc pm an cdv ct) ⟨us, []⟩ = pure (ps.zip us))
    (len : ∀ vs H Q E, sp vs H Q E → vs.length = ps.length)
    (body : ∀ (f : Addr) (cdv : Value) (A : Around) (out : List Env) (s : Shared) (H : Hp) (vs : List V) (Q : VK) (E : XK),
      A.guards = some [] → Room k (A.deeper (envOfC x (defScope st) s.heap.objs.size f cdv)) → sp vs H Q E →
      ∃ t, PSs (cxOf CX0 P w K mg base N x (defScope st) f cdv A out s H E).nox (defBody st) t ∧
        t { nx := fun _ H' => Q .non H', rt := Q } (start N vs) H) : DefG P w K mg base x (k + 1) ps sp := by
  obtain ⟨f, fd, F, m⟩ := A.ex
  exact ⟨f, fd, m, F.kp, F.binds hb, okG F S len (body f)⟩
end
section
variable {X : Cx} {x : Str} {k j : Nat} {ps : List Str} {sp : Sp} {p pos : Pos} {e : Expr} {es : List Expr} {t : TA}
/-- x(e, ..), by the promise of the def under that name -/
theorem pe_d (D : Def X.prog X.w X.K X.mg X.base x k ps sp) (hr : Room j X.A) (hk : k ≤ j) (hg : Gl X x) (ha : PA X (e :: es) t)
    (hdb : (x == ("__debug__" : Str)) = false := by decide)
    (he : starEach (e :: es) X.env = (false, eval e X.env) :: starEach es X.env := by rfl)
    (hpl : (backTo pos (starEach es X.env)).any (·.1) = false := by rfl) :
    PE X (.Call (.Name x p) (e :: es) [] pos) (tCall sp [] E0 t) := by
  obtain ⟨f, fd, m, kp, b, F⟩ := D.ex
  exact pe_call F (hr.mono hk) hg m kp b .nil pass0 ha hdb he hpl
theorem pe_dG (D : DefG X.prog X.w X.K X.mg X.base x k ps sp) (gd : X.A.guards = some []) (hr : Room j X.A) (hk : k ≤ j) (hg : Gl X x)
    (ha : PA X (e :: es) t) (hdb : (x == ("__debug__" : Str)) = false := by decide)
    (he : starEach (e :: es) X.env = (false, eval e X.env) :: starEach es X.env := by rfl)
    (hpl : (backTo pos (starEach es X.env)).any (·.1) = false := by rfl) :
    PE X (.Call (.Name x p) (e :: es) [] pos) (tCall sp [] E0 t) := by
  obtain ⟨f, fd, m, kp, b, F⟩ := D.ex
  exact pe_callG F gd (hr.mono hk) hg m kp b .nil pass0 ha hdb he hpl
end

/-! ### heaps: all but one place stays -/
/-- the heap without one place -/
def wo (H : Hp) (p : Addr) : Hp := fun b => if b = p then none else H b
theorem wo_ne {H : Hp} {p b : Addr} (h : b ≠ p) : wo H p b = H b := if_neg h
theorem wo_same {H : Hp} {p : Addr} : Same (wo H p) H := fun b o e => by
  unfold wo at e
  split at e
  · cases e
  · exact e
theorem wo_at {H : Hp} {p b : Addr} {o : HO} (e : wo H p b = some o) : b ≠ p ∧ H b = some o := by
  unfold wo at e
  split at e
  · cases e
  · rename_i n
    exact ⟨n, e⟩
theorem wo_of {H : Hp} {p b : Addr} {o : HO} (n : b ≠ p) (e : H b = some o) : wo H p b = some o := (wo_ne n).trans e
/-- all that is tracked, but at p, stays -/
def But (p : Addr) (H H' : Hp) : Prop := Same (wo H p) (wo H' p)
theorem But.refl {p : Addr} {H : Hp} : But p H H := fun _ _ e => e
theorem But.trans {p : Addr} {H H1 H2 : Hp} (a : But p H H1) (b : But p H1 H2) : But p H H2 := fun c o h => b c o (a c o h)
theorem But.of {p : Addr} {H H' : Hp} (h : ∀ b o, b ≠ p → H b = some o → H' b = some o) : But p H H' := fun b o e =>
  let ⟨n, z⟩ := wo_at e
  wo_of n (h b o n z)
theorem But.at {p : Addr} {H H' : Hp} (h : But p H H') {b : Addr} {o : HO} (n : b ≠ p) (e : H b = some o) : H' b = some o :=
  (wo_at (h b o (wo_of n e))).2
theorem Same.but {p : Addr} {H H' : Hp} (h : Same H H') : But p H H' := But.of fun b o _ e => h b o e
theorem Same.laid {H : Hp} {q : Addr} {o : HO} (n : H q = none) : Same H (upd H q o) := fun b u e =>
  (upd_ne (ne_of_none e n)).trans e
theorem But.laid {p : Addr} {H : Hp} {q : Addr} {o : HO} (n : H q = none) : But p H (upd H q o) := Same.but (Same.laid n)
theorem But.set {p : Addr} {H : Hp} {o : HO} : But p H (upd H p o) := But.of fun b u n e => (upd_ne n).trans e
end Pw

/-! The kinds of things: the program's own defs. -/
namespace K1
open PySem PySem.Spec PyProof.Rows L2 Pw

def top (i : Nat) : Stmt := PySem.Challenge.pw_panelwatch_k01_kinds_of_any_thing.main.body.getD i (.Pass ⟨0, 0, 0, 0⟩)
abbrev sNumber : Stmt := top 11
abbrev sCheck : Stmt := top 12
abbrev sWhole : Stmt := top 13
abbrev sName : Stmt := top 14
abbrev sTime : Stmt := top 15
abbrev sMark : Stmt := top 16
abbrev sRoom : Stmt := top 17
abbrev sTerm : Stmt := top 18
abbrev sId : Stmt := top 19
abbrev sOneOf : Stmt := top 20
abbrev sTuple : Stmt := top 21

/-- the built-in names that the text calls, and its constants -/
structure Txt (mg : Str → Option Value) : Prop where
  isinstance : mg "isinstance" = none
  int : mg "int" = none
  bool : mg "bool" = none
  str : mg "str" = none
  tuple : mg "tuple" = none
  len : mg "len" = none
  all : mg "all" = none
  max : mg "max" = none
  min : mg "min" = none
  range : mg "range" = none
  repr : mg "repr" = none
  most_time : ∃ t, mg "MOST_TIME" = some (.int 9999 t)
  most_level : ∃ t, mg "MOST_LEVEL" = some (.int 63 t)
  most_term : ∃ t, mg "MOST_TERM" = some (.int 999 t)
  most_name : ∃ t, mg "_MOST_NAME" = some (.int 8 t)
  most_id : ∃ t, mg "_MOST_ID" = some (.int 999 t)

/-! ### what is told of a thing -/
def wholeB (x : V) (lo hi : Int) : Bool := match x with
  | .int i => decide (lo ≤ i) && decide (i ≤ hi)
  | _ => false
def nameB (x : V) : Bool := match x with
  | .str s => decide (1 ≤ s.length ∧ s.length ≤ 8) && s.cps.toList.all fun c => decide (97 ≤ c ∧ c ≤ 122)
  | _ => false
def oneB (x : V) (ws : List Str) : Bool := match x with
  | .str s => ws.any fun y => y == s
  | _ => false
/-- texts are short, and of plain signs -/
def Short (x : V) : Prop := ∀ s, x = .str s → s.length ≤ 1000 ∧ ∀ c ∈ s.cps.toList, c < 128

section
variable {P : Program} {w : World} {K : PySem.W.Frag} {mg : Str → Option Value} {base : Heap}

/-- isinstance(slot i, T) -/
theorem pe_is {X : Cx} {i : Nat} {x T : Str} {Tn : String} {p p1 p2 p3 : Pos} (hm : X.mg "isinstance" = none) (hg : Gl X "isinstance")
    (hx : PE X (.Name x p2) (tVar i)) (hT : X.mg T = none) (hgT : Gl X T) (hv : bootBuiltins T = some (.type Tn))
    (hn : T ≠ "__name__" := by decide) (hd : (T == ("__debug__" : Str)) = false := by decide)
    (he : starEach [.Name x p2, .Name T p3] X.env = (false, eval (.Name x p2) X.env) :: starEach [.Name T p3] X.env := by rfl)
    (he2 : starEach [.Name T p3] X.env = (false, eval (.Name T p3) X.env) :: starEach [] X.env := by rfl)
    (hpl : (backTo p (starEach [.Name T p3] X.env)).any (·.1) = false := by rfl) :
    PE X (.Call (.Name "isinstance" p1) [.Name x p2, .Name T p3] [] p)
      (tCB (rIsA X.K) (tCons (tVar i) (tCons (tC (.ty Tn)) tNil))) :=
  pe_callB call_isa hg hm PyProof.Rows.boot_isinstance
    (pa_cons hx (pa_cons (pe_bltn hgT hT hv rfl hn hd) pa_nil he2) he) (by decide) (by decide) he hpl

def spNumber (K : PySem.W.Frag) : Sp := fun vs H Q _ => ∃ x t, vs = [x] ∧ Ty K H x t ∧ Q (.bl (numB x)) H
theorem scNumber : FnScope ["thing"] ["thing"] (defScope sNumber) :=
  ⟨rfl, rfl, rfl, by decide +kernel, rfl, by decide +kernel, by decide +kernel⟩
theorem d_number (T : Txt mg) (A : At K mg "_is_number" sNumber) :
    Def P w K mg base "_is_number" 1 ["thing"] (spNumber K) := by
  refine mkDef A scNumber (fun _ _ _ _ _ _ us hl => match us, hl with | [_], _ => rfl) (fun vs H Q E h => ?_)
    (fun f cdv A out s H vs Q E hr h => ?_)
  · obtain ⟨x, t, rfl, _⟩ := h
    rfl
  · obtain ⟨x, t, rfl, ty, k⟩ := h
    refine ⟨_, pss_one (ps_ret (pe_and (pe_is T.isinstance (by rfl) (pv 0) T.int (by rfl) (Tn := "int") (by decide +kernel))
      (pe_one (pe_not (pe_is T.isinstance (by rfl) (pv 0) T.bool (by rfl) (Tn := "bool") (by decide +kernel)))))), ?_⟩
    refine ⟨_, rfl, x, .ty "int", t, .type "int", _, rfl, .ty "int", ty.q, ty.isInt, _, rfl, ?_⟩
    have e : numB x = ((numB x || blB x) && !blB x) := by cases x <;> rfl
    cases hb : numB x || blB x with
    | false =>
      refine iteF ?_
      rw [hb] at e
      rw [e] at k
      exact k
    | true =>
      refine iteT ?_
      refine ⟨_, rfl, x, .ty "bool", t, .type "bool", _, rfl, .ty "bool", ty.q, ty.isBool, _, rfl, ?_⟩
      rw [hb, Bool.true_and] at e
      rw [e] at k
      exact k

def spCheck (K : PySem.W.Frag) : Sp := fun vs H Q _ => ∃ i, vs = [.int i] ∧ Q .non H
theorem scCheck : FnScope ["thing"] ["thing"] (defScope sCheck) :=
  ⟨rfl, rfl, rfl, by decide +kernel, rfl, by decide +kernel, by decide +kernel⟩
theorem d_check (A : At K mg "_check_number" sCheck) (dn : Def P w K mg base "_is_number" 1 ["thing"] (spNumber K)) :
    Def P w K mg base "_check_number" 2 ["thing"] (spCheck K) := by
  refine mkDef A scCheck (fun _ _ _ _ _ _ us hl => match us, hl with | [_], _ => rfl) (fun vs H Q E h => ?_)
    (fun f cdv A out s H vs Q E hr h => ?_)
  · obtain ⟨x, rfl, _⟩ := h
    rfl
  · obtain ⟨i, rfl, k⟩ := h
    refine ⟨_, pss_one (ps_if (pt_not (pt_val (pe_d dn hr (by decide) (by rfl) (pa_cons (pv 0) pa_nil))))
      (pss_one ps_never) pss_nil), ?_⟩
    refine ⟨_, rfl, _, _, rfl, .int i, true, rfl, ?_⟩
    exact iteF k

def spWhole (K : PySem.W.Frag) : Sp := fun vs H Q _ => ∃ x t lo hi, vs = [x, .int lo, .int hi] ∧ Ty K H x t ∧
  Q (.bl (wholeB x lo hi)) H
theorem scWhole : FnScope ["thing", "low", "high"] ["thing", "low", "high"] (defScope sWhole) :=
  ⟨rfl, rfl, rfl, by decide +kernel, rfl, by decide +kernel, by decide +kernel⟩
theorem d_whole (A : At K mg "is_whole" sWhole) (dn : Def P w K mg base "_is_number" 1 ["thing"] (spNumber K))
    (dc : Def P w K mg base "_check_number" 2 ["thing"] (spCheck K)) :
    Def P w K mg base "is_whole" 3 ["thing", "low", "high"] (spWhole K) := by
  refine mkDef A scWhole (fun _ _ _ _ _ _ us hl => match us, hl with | [_, _, _], _ => rfl) (fun vs H Q E h => ?_)
    (fun f cdv A out s H vs Q E hr h => ?_)
  · obtain ⟨x, t, lo, hi, rfl, _⟩ := h
    rfl
  · obtain ⟨x, t, lo, hi, rfl, ty, k⟩ := h
    refine ⟨_, pss_cons (ps_expr (pe_d dc hr (by decide) (by rfl) (pa_cons (pv 1) pa_nil)))
      (pss_cons (ps_expr (pe_d dc hr (by decide) (by rfl) (pa_cons (pv 2) pa_nil)))
      (pss_one (ps_ret (pe_and (pe_d dn hr (by decide) (by rfl) (pa_cons (pv 0) pa_nil))
        (pe_one (pe_chain op_le op_le (pv 1) (pv 0) (pv 2))))))), ?_⟩
    refine ⟨_, rfl, lo, rfl, _, rfl, hi, rfl, _, rfl, x, t, rfl, ty, _, rfl, ?_⟩
    cases x with
    | int i =>
      refine iteT ⟨_, rfl, _, rfl, lo, i, rfl, rfl, _, rfl, ?_⟩
      by_cases hlo : lo ≤ i
      · rw [decide_eq_true hlo]
        refine iteT ⟨_, rfl, i, hi, rfl, rfl, ?_⟩
        have e : wholeB (.int i) lo hi = decide (i ≤ hi) := by
          show (decide (lo ≤ i) && decide (i ≤ hi)) = _
          rw [decide_eq_true hlo, Bool.true_and]
        rw [e] at k
        exact k
      · rw [decide_eq_false hlo]
        refine iteF ?_
        have e : wholeB (.int i) lo hi = false := by
          show (decide (lo ≤ i) && decide (i ≤ hi)) = _
          rw [decide_eq_false hlo, Bool.false_and]
        rw [e] at k
        exact k
    | _ => exact iteF k
end
end K1

namespace K1
open PySem PySem.Spec PyProof.Rows L2 Pw
theorem let_lt (c k : Nat) : (!decide ([c] < [k])) = decide (k ≤ c) := by
  by_cases h : k ≤ c
  · have n : ¬ [c] < [k] := by
      intro q
      cases q with
      | rel q => omega
      | cons q => cases q
    rw [decide_eq_true h, decide_eq_false n]
    rfl
  · have y : [c] < [k] := List.Lex.rel (by omega)
    rw [decide_eq_false h, decide_eq_true y]
    rfl

section
variable {P : Program} {w : World} {K : PySem.W.Frag} {mg : Str → Option Value} {base : Heap}
def spName (K : PySem.W.Frag) : Sp := fun vs H Q _ => ∃ x t, vs = [x] ∧ Ty K H x t ∧ Short x ∧
  ∀ H', Same H H' → Q (.bl (nameB x)) H'
theorem scName : FnScope ["thing", "sign"] ["thing"] (defScope sName) :=
  ⟨rfl, rfl, rfl, by decide +kernel, rfl, by decide +kernel, by decide +kernel⟩
def letB (c : Nat) : Bool := decide (97 ≤ c) && decide (c ≤ 122)
theorem d_name (T : Txt mg) (A : At K mg "is_name" sName) : Def P w K mg base "is_name" 1 ["thing"] (spName K) := by
  refine mkDef A scName (fun _ _ _ _ _ _ us hl => match us, hl with | [_], _ => rfl) (fun vs H Q E h => ?_)
    (fun f cdv A out s H vs Q E hr h => ?_)
  · obtain ⟨x, t, rfl, _⟩ := h
    rfl
  · obtain ⟨x, t, rfl, ty, sh, k⟩ := h
    obtain ⟨tk, hmn⟩ := T.most_name
    refine ⟨_, pss_cons (ps_if (PW.pt (pw_or (pt_not (pt_val (pe_is T.isinstance (by rfl) (pv 0) T.str (by rfl) (Tn := "str") (by decide +kernel))))
        (pw_or1 (pt_not (pt_chain op_le op_le pe_int (pe_callB call_len_str (by rfl) T.len PySem.boot_len (pa_cons (pv 0) pa_nil))
          (pe_glob (v := .int 8) (by rfl) hmn ⟨_, rfl⟩))))))
        (pss_one (ps_ret pe_bl)) pss_nil)
      (pss_one (ps_ret (pe_callB (cr_all rfl) (by rfl) T.all PyProof.Rows.boot_all (pa_cons
        (pe_lc (own := [("sign", 1)]) (g := gName 1) (tt := tYes) rfl scName.nd (pi_str (pv 0))
          (blkOk_by (own := [("sign", 1)]) (N := ["thing", "sign"]) (sc := defScope sName) (by decide +kernel))
          (fun _ _ _ _ _ => pg_name (i := 1) scName.nd rfl (Or.inl rfl)) (fun _ _ _ _ _ => pts_nil)
          (fun _ _ _ _ _ => pe_chain op_le_str op_le_str pe_str (pv 1) pe_str)) pa_nil)))), ?_⟩
    refine ⟨_, rfl, x, .ty "str", t, .type "str", _, rfl, .ty "str", ty.q, ty.isStr, _, rfl, ?_⟩
    cases x with
    | str z =>
      have hz := (sh z rfl).1
      have hzl : z.length ≤ sizeLine := Nat.le_trans hz (by decide)
      refine iteF ⟨_, rfl, z, rfl, hzl, 1, (z.length : Int), rfl, rfl, _, rfl, ?_⟩
      by_cases h1 : (1 : Int) ≤ (z.length : Int)
      · rw [decide_eq_true h1]
        refine iteT ⟨(z.length : Int), 8, rfl, rfl, _, rfl, ?_⟩
        by_cases h2 : (z.length : Int) ≤ 8
        · rw [decide_eq_true h2]
          refine iteF ⟨_, rfl, z, rfl, fun D hD => ?_⟩
          have nm : nameB (.str z) = ((z.cps.toList.map letB).all id) := by
            have e1 : decide (1 ≤ z.length ∧ z.length ≤ 8) = true := decide_eq_true ⟨by omega, by omega⟩
            show (decide (1 ≤ z.length ∧ z.length ≤ 8) && z.cps.toList.all fun c => decide (97 ≤ c ∧ c ≤ 122)) = _
            rw [e1, Bool.true_and, List.all_map]
            congr 1
            funext c
            show decide (97 ≤ c ∧ c ≤ 122) = (decide (97 ≤ c) && decide (c ≤ 122))
            exact Bool.decide_and _ _
          refine lc_it walk_str (fun i H' => Same H H' ∧ H' D = some (.lst (((z.cps.toList.take i).map letB).map V.bl)))
            ⟨Same.laid hD, upd_same⟩ (fun _ _ _ _ => trivial) ?_ ?_
          · rintro i v H1 H2 hi ⟨S1, e1⟩ ⟨rfl, c, hc, rfl⟩
            have hc' : z.cps.toList[i]? = some c := by rw [Array.getElem?_toList]; exact hc
            refine ⟨rfl, ?_⟩
            unfold tYes
            refine iteT ?_
            refine ⟨_, rfl, "a", ⟨#[c]⟩, rfl, rfl, !decide ([c] < [97]), rfl, ?_⟩
            have fin : ∀ b : Bool, b = letB c → ∃ acc, H2 D = some (.lst acc) ∧ acc.length < sizeLine ∧
                Same H (upd H2 D (.lst (acc ++ [V.bl b]))) ∧ upd H2 D (.lst (acc ++ [V.bl b])) D =
                  some (.lst (((z.cps.toList.take (i + 1)).map letB).map V.bl)) := by
              rintro b rfl
              refine ⟨_, e1, ?_, ?_, ?_⟩
              · have h4 : z.cps.size ≤ 1000 := hz
                simp only [List.length_map, List.length_take]
                exact Nat.lt_of_le_of_lt (Nat.min_le_left _ _) (Nat.lt_of_lt_of_le hi (Nat.le_trans h4 (by decide)))
              · exact fun b o e => (upd_ne (ne_of_none e hD)).trans (S1 b o e)
              · rw [upd_same, List.take_add_one, hc']
                simp
            rw [let_lt]
            by_cases ha : 97 ≤ c
            · rw [decide_eq_true ha]
              refine iteT ?_
              refine ⟨⟨#[c]⟩, "z", rfl, rfl, ?_⟩
              refine fin _ ?_
              show (!decide ([122] < [c])) = (decide (97 ≤ c) && decide (c ≤ 122))
              rw [decide_eq_true ha, Bool.true_and]
              have q := let_lt 122 c
              exact q
            · rw [decide_eq_false ha]
              refine iteF ?_
              refine fin false ?_
              show false = (decide (97 ≤ c) && decide (c ≤ 122))
              rw [decide_eq_false ha, Bool.false_and]
          · rintro H2 ⟨S1, e1⟩
            refine ⟨D, z.cps.toList.map letB, rfl, SqL.of ?_, ?_⟩
            · rw [e1, List.take_of_length_le (by simp)]
            · rw [← nm]
              exact k H2 S1
        · rw [decide_eq_false h2]
          refine iteT ?_
          have e1 : nameB (.str z) = false := by
            have e1 : decide (1 ≤ z.length ∧ z.length ≤ 8) = false := decide_eq_false (fun q => h2 (by omega))
            show (decide (1 ≤ z.length ∧ z.length ≤ 8) && _) = _
            rw [e1, Bool.false_and]
          rw [e1] at k
          exact k H (Same.refl H)
      · rw [decide_eq_false h1]
        refine iteF ⟨_, rfl, ?_⟩
        refine iteT ?_
        have e1 : nameB (.str z) = false := by
          have e1 : decide (1 ≤ z.length ∧ z.length ≤ 8) = false := decide_eq_false (fun q => h1 (by omega))
          show (decide (1 ≤ z.length ∧ z.length ≤ 8) && _) = _
          rw [e1, Bool.false_and]
        rw [e1] at k
        exact k H (Same.refl H)
    | _ => exact iteT (k H (Same.refl H))
end
end K1

namespace K1
open PySem PySem.Spec PyProof.Rows L2 Pw

/-- is it a tuple of so many things -/
def tupNB (H : Hp) (x : V) (n : Int) : Bool := match x with
  | .ref a => match H a with
    | some (.tup xs) => decide ((xs.length : Int) = n)
    | _ => false
  | _ => false
def idB (H : Hp) (x : V) : Bool := match x with
  | .ref a => match H a with
    | some (.tup [v0, v1]) => wholeB v0 0 999 && wholeB v1 1 999
    | _ => false
  | _ => false
/-- a thing: of a known kind; a tuple: its things are, too -/
structure T2 (K : PySem.W.Frag) (H : Hp) (x : V) : Prop where
  ty : ∃ t, Ty K H x t
  short : Short x
  parts : ∀ a xs, x = .ref a → H a = some (.tup xs) → xs.length ≤ 1000 ∧ ∀ y ∈ xs, ∃ t, Ty K H y t
theorem T2.same {K : PySem.W.Frag} {H H' : Hp} {x : V} (h : T2 K H x) (S : Same H H') (hb : ∀ a, x = .ref a → H a ≠ none) : T2 K H' x := by
  obtain ⟨t, ty⟩ := h.ty
  refine ⟨⟨t, ty.same S⟩, h.short, fun a xs e e' => ?_⟩
  cases q : H a with
  | none => exact absurd q (hb a e)
  | some o =>
    cases (S a o q).symm.trans e'
    obtain ⟨l, hy⟩ := h.parts a xs e q
    exact ⟨l, fun y hm => let ⟨t, ty⟩ := hy y hm; ⟨t, ty.same S⟩⟩
theorem Ty.there {K : PySem.W.Frag} {H : Hp} {x : V} {t : Value} (h : Pw.Ty K H x t) : ∀ a, x = .ref a → H a ≠ none := by
  intro a e z
  cases h with
  | lst q => cases e; rw [z] at q; cases q
  | tup q => cases e; rw [z] at q; cases q
  | dct q => cases e; rw [z] at q; cases q
  | exc q _ _ => cases e; rw [z] at q; cases q
  | _ => cases e
theorem T2.keep {K : PySem.W.Frag} {H H' : Hp} {x : V} (h : T2 K H x) (S : Same H H') : T2 K H' x :=
  h.same S (let ⟨_, ty⟩ := h.ty; Ty.there ty)

section
variable {P : Program} {w : World} {K : PySem.W.Frag} {mg : Str → Option Value} {base : Heap}
def spRange (K : PySem.W.Frag) (lo hi : Int) : Sp := fun vs H Q _ => ∃ x t, vs = [x] ∧ Ty K H x t ∧ Q (.bl (wholeB x lo hi)) H
theorem scTime : FnScope ["thing"] ["thing"] (defScope sTime) := ⟨rfl, rfl, rfl, by decide +kernel, rfl, by decide +kernel, by decide +kernel⟩
theorem d_time (T : Txt mg) (A : At K mg "is_time" sTime) (dw : Def P w K mg base "is_whole" 3 ["thing", "low", "high"] (spWhole K)) :
    Def P w K mg base "is_time" 4 ["thing"] (spRange K 0 9999) := by
  refine mkDef A scTime (fun _ _ _ _ _ _ us hl => match us, hl with | [_], _ => rfl) (fun vs H Q E ⟨x, t, e, _⟩ => by rw [e]; rfl)
    (fun f cdv A out s H vs Q E hr h => ?_)
  obtain ⟨x, t, rfl, ty, k⟩ := h
  obtain ⟨tk, hc⟩ := T.most_time
  exact ⟨_, pss_one (ps_ret (pe_d dw hr (by decide) (by rfl) (pa_cons (pv 0) (pa_cons pe_int
    (pa_cons (pe_glob (v := .int 9999) (by rfl) hc ⟨_, rfl⟩) pa_nil))))), _, rfl, x, t, 0, 9999, rfl, ty, k⟩
theorem scTerm : FnScope ["thing"] ["thing"] (defScope sTerm) := ⟨rfl, rfl, rfl, by decide +kernel, rfl, by decide +kernel, by decide +kernel⟩
theorem d_term (T : Txt mg) (A : At K mg "is_term" sTerm) (dw : Def P w K mg base "is_whole" 3 ["thing", "low", "high"] (spWhole K)) :
    Def P w K mg base "is_term" 4 ["thing"] (spRange K 0 999) := by
  refine mkDef A scTerm (fun _ _ _ _ _ _ us hl => match us, hl with | [_], _ => rfl) (fun vs H Q E ⟨x, t, e, _⟩ => by rw [e]; rfl)
    (fun f cdv A out s H vs Q E hr h => ?_)
  obtain ⟨x, t, rfl, ty, k⟩ := h
  obtain ⟨tk, hc⟩ := T.most_term
  exact ⟨_, pss_one (ps_ret (pe_d dw hr (by decide) (by rfl) (pa_cons (pv 0) (pa_cons pe_int
    (pa_cons (pe_glob (v := .int 999) (by rfl) hc ⟨_, rfl⟩) pa_nil))))), _, rfl, x, t, 0, 999, rfl, ty, k⟩
theorem scRoom : FnScope ["thing"] ["thing"] (defScope sRoom) := ⟨rfl, rfl, rfl, by decide +kernel, rfl, by decide +kernel, by decide +kernel⟩
theorem d_room (A : At K mg "is_room" sRoom) (dw : Def P w K mg base "is_whole" 3 ["thing", "low", "high"] (spWhole K)) :
    Def P w K mg base "is_room" 4 ["thing"] (spRange K 0 1) := by
  refine mkDef A scRoom (fun _ _ _ _ _ _ us hl => match us, hl with | [_], _ => rfl) (fun vs H Q E ⟨x, t, e, _⟩ => by rw [e]; rfl)
    (fun f cdv A out s H vs Q E hr h => ?_)
  obtain ⟨x, t, rfl, ty, k⟩ := h
  exact ⟨_, pss_one (ps_ret (pe_d dw hr (by decide) (by rfl) (pa_cons (pv 0) (pa_cons pe_int (pa_cons pe_int pa_nil))))),
    _, rfl, x, t, 0, 1, rfl, ty, k⟩

def spOne (K : PySem.W.Frag) : Sp := fun vs H Q _ => ∃ x t p ws, vs = [x, .ref p] ∧ Ty K H x t ∧
  H p = some (.tup (ws.map V.str)) ∧ Q (.bl (oneB x ws)) H
theorem scOneOf : FnScope ["thing", "words"] ["thing", "words"] (defScope sOneOf) := ⟨rfl, rfl, rfl, by decide +kernel, rfl, by decide +kernel, by decide +kernel⟩
theorem d_oneof (T : Txt mg) (A : At K mg "is_one_of" sOneOf) : Def P w K mg base "is_one_of" 1 ["thing", "words"] (spOne K) := by
  refine mkDef A scOneOf (fun _ _ _ _ _ _ us hl => match us, hl with | [_, _], _ => rfl) (fun vs H Q E ⟨x, t, p, ws, e, _⟩ => by rw [e]; rfl)
    (fun f cdv A out s H vs Q E hr h => ?_)
  obtain ⟨x, t, p, ws, rfl, ty, hp, k⟩ := h
  refine ⟨_, pss_one (ps_ret (pe_and (pe_is T.isinstance (by rfl) (pv 0) T.str (by rfl) (Tn := "str") (by decide +kernel))
    (pe_one (pe_cmpR op_in_seq (pv 0) (pv 1) (by rfl))))), ?_⟩
  refine ⟨_, rfl, x, .ty "str", t, .type "str", _, rfl, .ty "str", ty.q, ty.isStr, _, rfl, ?_⟩
  cases x with
  | str z =>
    refine iteT ?_
    refine ⟨_, rfl, _, rfl, p, ws.map V.str, rfl, .inr (SqT.of hp), rfl, ?_, ?_⟩
    · rw [List.all_eq_true]
      intro y hy
      obtain ⟨z', _, rfl⟩ := List.mem_map.mp hy
      rfl
    · have e : inV (.str z) (ws.map V.str) = oneB (.str z) ws := by
        show (ws.map V.str).any (fun y => eqV y (.str z)) = ws.any fun y => y == z
        rw [List.any_map]
        rfl
      show Q (.bl (inV (.str z) (ws.map V.str))) H
      rw [e]
      exact k
  | _ => exact iteF k

def spMark (K : PySem.W.Frag) : Sp := fun vs H Q _ => ∃ x t, vs = [x] ∧ Ty K H x t ∧ ∀ H', Same H H' → Q (.bl (oneB x ["good", "odd"])) H'
theorem scMark : FnScope ["thing"] ["thing"] (defScope sMark) := ⟨rfl, rfl, rfl, by decide +kernel, rfl, by decide +kernel, by decide +kernel⟩
theorem d_mark (A : At K mg "is_mark" sMark) (d1 : Def P w K mg base "is_one_of" 1 ["thing", "words"] (spOne K)) :
    Def P w K mg base "is_mark" 2 ["thing"] (spMark K) := by
  refine mkDef A scMark (fun _ _ _ _ _ _ us hl => match us, hl with | [_], _ => rfl) (fun vs H Q E ⟨x, t, e, _⟩ => by rw [e]; rfl)
    (fun f cdv A out s H vs Q E hr h => ?_)
  obtain ⟨x, t, rfl, ty, k⟩ := h
  refine ⟨_, pss_one (ps_ret (pe_d d1 hr (by decide) (by rfl) (pa_cons (pv 0) (pa_cons (pe_tup (pa_cons pe_str (pa_cons pe_str pa_nil))) pa_nil)))), ?_⟩
  refine ⟨_, rfl, by show 2 ≤ sizeLine; decide, fun q hq => ?_⟩
  exact ⟨x, t, q, ["good", "odd"], rfl, ty.same (Same.laid hq), upd_same, k _ (Same.laid hq)⟩

def spTupN (K : PySem.W.Frag) : Sp := fun vs H Q _ => ∃ x t n, vs = [x, .int n] ∧ Ty K H x t ∧ Q (.bl (tupNB H x n)) H
theorem scTuple : FnScope ["thing", "many"] ["thing", "many"] (defScope sTuple) := ⟨rfl, rfl, rfl, by decide +kernel, rfl, by decide +kernel, by decide +kernel⟩
theorem d_tuple (T : Txt mg) (A : At K mg "is_tuple" sTuple) : Def P w K mg base "is_tuple" 1 ["thing", "many"] (spTupN K) := by
  refine mkDef A scTuple (fun _ _ _ _ _ _ us hl => match us, hl with | [_, _], _ => rfl) (fun vs H Q E ⟨x, t, n, e, _⟩ => by rw [e]; rfl)
    (fun f cdv A out s H vs Q E hr h => ?_)
  obtain ⟨x, t, n, rfl, ty, k⟩ := h
  refine ⟨_, pss_one (ps_ret (pe_and (pe_is T.isinstance (by rfl) (pv 0) T.tuple (by rfl) (Tn := "tuple") (by decide +kernel))
    (pe_one (pe_cmpR op_eq (pe_callB call_len_seq (by rfl) T.len PySem.boot_len (pa_cons (pv 0) pa_nil)) (pv 1) (nomark _))))), ?_⟩
  refine ⟨_, rfl, x, .ty "tuple", t, .type "tuple", _, rfl, .ty "tuple", ty.q, ty.isTuple, _, rfl, ?_⟩
  cases ty with
  | @tup a xs e =>
    have e1 : tupB H (.ref a) = true := by simp only [tupB, e]
    have e2 : tupNB H (.ref a) n = decide ((xs.length : Int) = n) := by simp only [tupNB, e]
    rw [e1]
    rw [e2] at k
    refine iteT ?_
    refine ⟨_, rfl, a, xs, rfl, .inr (SqT.of e), _, rfl, ?_⟩
    have e3 : decide (V.int (xs.length : Int) = V.int n) = decide ((xs.length : Int) = n) :=
      decide_eq_decide.mpr ⟨V.int.inj, congrArg V.int⟩
    refine ⟨rfl, ?_⟩
    show Q (V.bl (decide (V.int (xs.length : Int) = V.int n))) H
    rw [e3]
    exact k
  | @lst a xs e =>
    have e1 : tupB H (.ref a) = false := by simp only [tupB, e]
    have e2 : tupNB H (.ref a) n = false := by simp only [tupNB, e]
    rw [e1]
    rw [e2] at k
    exact iteF k
  | @dct a xs e =>
    have e1 : tupB H (.ref a) = false := by simp only [tupB, e]
    have e2 : tupNB H (.ref a) n = false := by simp only [tupNB, e]
    rw [e1]
    rw [e2] at k
    exact iteF k
  | @exc a D t dx fs e ed c =>
    have e1 : tupB H (.ref a) = false := by simp only [tupB, e]; rfl
    have e2 : tupNB H (.ref a) n = false := by simp only [tupNB, e]; rfl
    rw [e1]
    rw [e2] at k
    exact iteF k
  | _ => exact iteF k

def spId (K : PySem.W.Frag) : Sp := fun vs H Q _ => ∃ x, vs = [x] ∧ T2 K H x ∧ Q (.bl (idB H x)) H
theorem scId : FnScope ["thing"] ["thing"] (defScope sId) := ⟨rfl, rfl, rfl, by decide +kernel, rfl, by decide +kernel, by decide +kernel⟩
theorem idB_of {H : Hp} {a : Addr} {xs : List V} (e : H a = some (.tup xs)) (h : ¬ (xs.length : Int) = 2) : idB H (.ref a) = false := by
  match xs, h with
  | [], _ => simp only [idB, e]
  | [_], _ => simp only [idB, e]
  | [_, _], h => exact absurd rfl h
  | _ :: _ :: _ :: _, _ => simp only [idB, e]
theorem d_id (T : Txt mg) (A : At K mg "is_id" sId) (dt : Def P w K mg base "is_tuple" 1 ["thing", "many"] (spTupN K))
    (dm : Def P w K mg base "is_term" 4 ["thing"] (spRange K 0 999))
    (dw : Def P w K mg base "is_whole" 3 ["thing", "low", "high"] (spWhole K)) : Def P w K mg base "is_id" 5 ["thing"] (spId K) := by
  refine mkDef A scId (fun _ _ _ _ _ _ us hl => match us, hl with | [_], _ => rfl) (fun vs H Q E ⟨x, e, _⟩ => by rw [e]; rfl)
    (fun f cdv A out s H vs Q E hr h => ?_)
  obtain ⟨x, rfl, th, k⟩ := h
  obtain ⟨t, ty⟩ := th.ty
  obtain ⟨tk, hc⟩ := T.most_id
  refine ⟨_, pss_one (ps_ret (pe_and (pe_d dt hr (by decide) (by rfl) (pa_cons (pv 0) (pa_cons pe_int pa_nil)))
    (pe_and (pe_d dm hr (by decide) (by rfl) (pa_cons (pe_ix ix_tup (pv 0) pe_int (fun _ _ => rfl)) pa_nil))
      (pe_one (pe_d dw hr (by decide) (by rfl) (pa_cons (pe_ix ix_tup (pv 0) pe_int (fun _ _ => rfl)) (pa_cons pe_int
        (pa_cons (pe_glob (v := .int 999) (by rfl) hc ⟨_, rfl⟩) pa_nil)))))))), ?_⟩
  refine ⟨_, rfl, x, t, 2, rfl, ty, _, rfl, ?_⟩
  cases hb : tupNB H x 2 with
  | false =>
    refine iteF ?_
    have e : idB H x = false := by
      cases x with
      | ref a =>
        cases q : H a with
        | none => simp only [idB, q]
        | some o =>
          cases o with
          | tup xs =>
            refine idB_of q fun z => ?_
            have e2 : tupNB H (.ref a) 2 = decide ((xs.length : Int) = 2) := by simp only [tupNB, q]
            rw [hb, decide_eq_true z] at e2
            cases e2
          | _ => simp only [idB, q]
      | _ => rfl
    rw [e] at k
    exact k
  | true =>
    refine iteT ?_
    cases x with
    | ref a =>
      cases q : H a with
      | none =>
        have e2 : tupNB H (.ref a) 2 = false := by simp only [tupNB, q]
        rw [hb] at e2
        cases e2
      | some o =>
        cases o with
        | tup xs =>
          have e2 : tupNB H (.ref a) 2 = decide ((xs.length : Int) = 2) := by simp only [tupNB, q]
          rw [hb] at e2
          have hl : (xs.length : Int) = 2 := of_decide_eq_true e2.symm
          obtain ⟨v0, v1, rfl⟩ : ∃ v0 v1, xs = [v0, v1] := by
            match xs, hl with
            | [v0, v1], _ => exact ⟨v0, v1, rfl⟩
            | [], h => cases h
            | [_], h => cases h
            | _ :: _ :: _ :: _, h =>
              simp only [List.length_cons] at h
              omega
          obtain ⟨_, hp⟩ := th.parts a _ rfl q
          obtain ⟨t0, ty0⟩ := hp v0 (by simp)
          obtain ⟨t1, ty1⟩ := hp v1 (by simp)
          have e3 : idB H (.ref a) = (wholeB v0 0 999 && wholeB v1 1 999) := by simp only [idB, q]
          refine ⟨_, rfl, a, [v0, v1], 0, v0, rfl, rfl, SqT.of q, rfl, v0, t0, rfl, ty0, _, rfl, ?_⟩
          rw [e3] at k
          cases h0 : wholeB v0 0 999 with
          | false =>
            refine iteF ?_
            rw [h0] at k
            exact k
          | true =>
            refine iteT ?_
            rw [h0] at k
            exact ⟨_, rfl, a, [v0, v1], 1, v1, rfl, rfl, SqT.of q, rfl, v1, t1, 1, 999, rfl, ty1, k⟩
        | _ =>
          have e2 : tupNB H (.ref a) 2 = false := by simp only [tupNB, q]
          rw [hb] at e2
          cases e2
    | _ => cases hb
end
end K1

namespace K1
open PySem PySem.Spec PyProof.Rows L2 Pw
abbrev sCell : Stmt := top 23
abbrev sBag : Stmt := top 24
abbrev sTake : Stmt := top 25
abbrev sLWhole : Stmt := top 26
abbrev sWithin : Stmt := top 32
abbrev sIs : Stmt := top 33

/-- a bag of draws -/
def BagAt (H : Hp) (p : Addr) (n : Nat) : Prop := ∃ b0 b1 b2 : Int, H p = some (.lst [.int b0, .int b1, .int b2]) ∧
  0 ≤ b1 ∧ b1 < 2147483629 ∧ 0 ≤ b2 ∧ b2 ≤ n
theorem BagAt.up {H : Hp} {p : Addr} {n m : Nat} (h : BagAt H p n) (l : n ≤ m) : BagAt H p m := by
  obtain ⟨b0, b1, b2, e, h1, h2, h3, h4⟩ := h
  exact ⟨b0, b1, b2, e, h1, h2, h3, by omega⟩
theorem BagAt.keep {H H' : Hp} {p : Addr} {n : Nat} (h : BagAt H p n) (S : Same H H') : BagAt H' p n := by
  obtain ⟨b0, b1, b2, e, r⟩ := h
  exact ⟨b0, b1, b2, S _ _ e, r⟩

section
variable {P : Program} {w : World} {K : PySem.W.Frag} {mg : Str → Option Value} {base : Heap}
def spCell (K : PySem.W.Frag) : Sp := fun vs H Q _ => ∃ (a : Addr) (ns : List Int) (k : Int), vs = [.ref a, .int k] ∧ SqL K H a (ns.map V.int) ∧ ns.length ≤ 63 ∧
  0 ≤ k ∧ k ≤ 100 ∧ ∀ c, Q (.int c) H
theorem scCell : FnScope ["_law_script", "_law_k"] ["_law_script", "_law_k"] (defScope sCell) := ⟨rfl, rfl, rfl, by decide +kernel, rfl, by decide +kernel, by decide +kernel⟩
theorem d_cell (T : Txt mg) (A : At K mg "_law_cell" sCell) : Def P w K mg base "_law_cell" 1 ["_law_script", "_law_k"] (spCell K) := by
  refine mkDef A scCell (fun _ _ _ _ _ _ us hl => match us, hl with | [_, _], _ => rfl) (fun vs H Q E ⟨a, ns, k, e, _⟩ => by rw [e]; rfl)
    (fun f cdv A out s H vs Q E hr h => ?_)
  obtain ⟨a, ns, i, rfl, hS, hl, h0, h1, k⟩ := h
  refine ⟨_, pss_cons (ps_if (pt_cmpR op_lt (pv 1) (pe_callB call_len_seq (by rfl) T.len PySem.boot_len (pa_cons (pv 0) pa_nil)) (nomark _))
      (pss_one (ps_ret (pe_ix ix_list (pv 0) (pv 1) (fun _ _ => rfl)))) pss_nil)
    (pss_one (ps_ret (pe_op op_add (pe_op op_mul pe_int (pv 1)) pe_int))), ?_⟩
  refine ⟨_, rfl, _, rfl, a, ns.map V.int, rfl, .inl hS, i, _, rfl, rfl, _, rfl, ?_⟩
  refine ite2 (fun hlt => ?_) (fun _ => ?_)
  · have hlt' : i < ((ns.map V.int).length : Int) := of_decide_eq_true hlt
    rw [List.length_map] at hlt'
    obtain ⟨j, rfl⟩ := Int.eq_ofNat_of_zero_le h0
    have hj : j < ns.length := by omega
    refine ⟨_, rfl, _, rfl, a, ns.map V.int, (j : Int), .int ns[j], rfl, rfl, hS, ?_, k _⟩
    exact atI_nat (by simp [hj])
  · exact ⟨_, rfl, _, _, rfl, rfl, .inl ⟨by decide, by decide⟩, _, _, rfl, rfl, k _⟩

def spBag (K : PySem.W.Frag) : Sp := fun vs H Q _ => ∃ c, vs = [.int c] ∧
  ∀ p H', H p = none → Same H H' → BagAt H' p 0 → Q (.ref p) H'
theorem scBag : FnScope ["_law_cell_here"] ["_law_cell_here"] (defScope sBag) := ⟨rfl, rfl, rfl, by decide +kernel, rfl, by decide +kernel, by decide +kernel⟩
theorem d_bag (T : Txt mg) (A : At K mg "_law_bag" sBag) : Def P w K mg base "_law_bag" 1 ["_law_cell_here"] (spBag K) := by
  refine mkDef A scBag (fun _ _ _ _ _ _ us hl => match us, hl with | [_], _ => rfl) (fun vs H Q E ⟨c, e, _⟩ => by rw [e]; rfl)
    (fun f cdv A out s H vs Q E hr h => ?_)
  obtain ⟨c, rfl, k⟩ := h
  refine ⟨_, pss_one (ps_ret (pe_lst (pa_cons
    (pe_callB (call_max2 rfl) (by rfl) T.max PyProof.Rows.boot_max (pa_cons pe_int (pa_cons (pe_op op_sub (pv 0) (pe_op op_pow pe_int pe_int)) pa_nil)))
    (pa_cons (pe_op op_mod (pv 0) pe_int) (pa_cons pe_int pa_nil))))), ?_⟩
  refine ⟨_, rfl, 10, 18, rfl, rfl, ⟨by decide, by decide, by decide⟩, _, _, rfl, rfl, 0, _, rfl, _, rfl, _, _, rfl, rfl, (by decide : (0 : Int) < 2147483629), (by show 3 ≤ sizeLine; decide), fun p hp => ?_⟩
  refine k p _ hp (Same.laid hp) ⟨_, _, _, upd_same, ?_, ?_, by decide, by decide⟩
  · exact Int.emod_nonneg _ (by decide)
  · exact Int.emod_lt_of_pos _ (by decide)

def spTake (K : PySem.W.Frag) : Sp := fun vs H Q _ => ∃ p m n, vs = [.ref p, .int m] ∧ BagAt H p n ∧ n ≤ 1000000 ∧ 0 < m ∧ m < 2 ^ 200 ∧
  ∀ i H', 0 ≤ i → i < m → BagAt H' p (n + 1) → But p H H' → Q (.int i) H'
theorem scTake : FnScope ["_law_bag_here", "_law_many", "_law_digit", "_law_number_here"] ["_law_bag_here", "_law_many"] (defScope sTake) :=
  ⟨rfl, rfl, rfl, by decide +kernel, rfl, by decide +kernel, by decide +kernel⟩
theorem d_take (A : At K mg "_law_take" sTake) : Def P w K mg base "_law_take" 1 ["_law_bag_here", "_law_many"] (spTake K) := by
  refine mkDef A scTake (fun _ _ _ _ _ _ us hl => match us, hl with | [_, _], _ => rfl) (fun vs H Q E ⟨p, m, n, e, _⟩ => by rw [e]; rfl)
    (fun f cdv A out s H vs Q E hr h => ?_)
  obtain ⟨p, m, n, rfl, ⟨b0, b1, b2, hp, h1, h2, h3, h4⟩, hn, m0, mb, k⟩ := h
  have mb' : m.natAbs < 2 ^ 200 := by omega
  have at0 : atI [V.int b0, .int b1, .int b2] 0 = some (.int b0) := rfl
  have at1 : atI [V.int b0, .int b1, .int b2] 1 = some (.int b1) := rfl
  have at2 : atI [V.int b0, .int b1, .int b2] 2 = some (.int b2) := rfl
  refine ⟨_, pss_cons (ps_if (pt_cmpR op_gt (pe_ix ix_list (pv 0) pe_int (fun _ _ => rfl)) pe_int (nomark _))
      (pss_cons (ps_set (i := 2) scTake.nd rfl (.inl rfl) (pe_op op_mod (pe_ix ix_list (pv 0) pe_int (fun _ _ => rfl)) (pv 1)))
      (pss_cons (ps_asg (pe_op op_fdivW (pe_ix ix_list (pv 0) pe_int (fun _ _ => rfl)) (pv 1)) (pg_sub (pv 0) pe_int set_list))
      (pss_one (ps_ret (pv 2))))) pss_nil)
    (pss_cons (ps_asg (pe_op op_add (pe_ix ix_list (pv 0) pe_int (fun _ _ => rfl)) pe_int) (pg_sub (pv 0) pe_int set_list))
    (pss_cons (ps_set (i := 3) scTake.nd rfl (.inl rfl) (pe_op op_mod (pe_op op_pow (pe_op op_add (pe_op op_add (pe_ix ix_list (pv 0) pe_int (fun _ _ => rfl))
      (pe_op op_mul pe_int (pe_ix ix_list (pv 0) pe_int (fun _ _ => rfl)))) pe_int) pe_int) pe_int))
    (pss_cons (ps_set (i := 3) scTake.nd rfl (.inl rfl) (pe_op op_mod (pe_op op_pow (pe_op op_add (pv 3)
      (pe_op op_mul pe_int (pe_ix ix_list (pv 0) pe_int (fun _ _ => rfl)))) pe_int) pe_int))
    (pss_one (ps_ret (pe_op op_mod (pe_op op_fdiv (pv 3) pe_int) (pv 1))))))), ?_⟩
  refine ⟨_, rfl, p, _, 0, _, rfl, rfl, SqL.of hp, at0, b0, 0, rfl, rfl, _, rfl, ?_⟩
  refine ite2 (fun hgt => ?_) (fun _ => ?_)
  · refine ⟨_, rfl, p, _, 0, _, rfl, rfl, SqL.of hp, at0, _, rfl, b0, m, rfl, rfl, m0, ?_⟩
    refine ⟨_, rfl, p, _, 0, _, rfl, rfl, SqL.of hp, at0, _, rfl, b0, m, rfl, rfl, wide_div m0 mb' (by decide) (by decide), ?_⟩
    refine ⟨_, rfl, p, _, 0, 0, rfl, rfl, hp, rfl, ?_⟩
    refine ⟨_, rfl, ?_⟩
    exact k _ _ (Int.emod_nonneg _ (by omega)) (Int.emod_lt_of_pos _ m0) ⟨_, b1, b2, upd_same, h1, h2, h3, by omega⟩ But.set
  · refine ⟨_, rfl, p, _, 2, _, rfl, rfl, SqL.of hp, at2, _, _, rfl, rfl, ?_⟩
    refine ⟨_, rfl, p, _, 2, 2, rfl, rfl, hp, rfl, ?_⟩
    have hp2 : upd H p (.lst [V.int b0, .int b1, .int (b2 + 1)]) p = some (.lst [V.int b0, .int b1, .int (b2 + 1)]) := upd_same
    have bt1 : atI [V.int b0, .int b1, .int (b2 + 1)] 1 = some (.int b1) := rfl
    have bt2 : atI [V.int b0, .int b1, .int (b2 + 1)] 2 = some (.int (b2 + 1)) := rfl
    refine ⟨_, rfl, p, _, 1, _, rfl, rfl, SqL.of hp2, bt1, _, rfl, p, _, 2, _, rfl, rfl, SqL.of hp2, bt2, _, _, rfl, rfl, .inl ⟨by decide, by decide⟩, _, _, rfl, rfl, _, _, rfl, rfl, 
      _, _, rfl, rfl, ⟨by decide, by decide, by omega⟩, _, _, rfl, rfl, (by decide : (0 : Int) < 2147483647), ?_⟩
    have e1 := Int.emod_nonneg ((b1 + 7919 * (b2 + 1) + 41) ^ (5 : Int).toNat) (by decide : (2147483647 : Int) ≠ 0)
    have e2 := Int.emod_lt_of_pos ((b1 + 7919 * (b2 + 1) + 41) ^ (5 : Int).toNat) (by decide : (0 : Int) < 2147483647)
    refine ⟨_, rfl, _, rfl, p, _, 2, _, rfl, rfl, SqL.of hp2, bt2, _, _, rfl, rfl, .inl ⟨by decide, by decide⟩, _, _, rfl, rfl, 
      _, _, rfl, rfl, ⟨by decide, by decide, ?_⟩, _, _, rfl, rfl, (by decide : (0 : Int) < 2147483587), ?_⟩
    · generalize (b1 + 7919 * (b2 + 1) + 41) ^ (5 : Int).toNat % 2147483647 = z at e1 e2
      omega
    · refine ⟨_, rfl, _, _, rfl, rfl, ⟨by decide, by decide⟩, _, rfl, _, _, rfl, rfl, m0, ?_⟩
      exact k _ _ (Int.emod_nonneg _ (by omega)) (Int.emod_lt_of_pos _ m0) ⟨b0, b1, b2 + 1, upd_same, h1, h2, by omega, by omega⟩ But.set
end
end K1

namespace K1
open PySem PySem.Spec PyProof.Rows L2 Pw
abbrev sLName : Stmt := top 31

theorem canLay_strs : ∀ ys : List Str, (∀ y ∈ ys, PyData.strOk y = true) → PyData.canLayAll0 (ys.map .str) = true
  | [], _ => by simp only [List.map_nil, PyData.canLayAll0]
  | y :: r, h => by
    have h1 := h y List.mem_cons_self
    simp only [List.map_cons, PyData.canLayAll0, PyData.canLay0, canLay_strs r (fun z hz => h z (List.mem_cons_of_mem _ hz)), h1, Bool.and_self]
theorem depth_strs : ∀ ys : List Str, PyData.depthAll (ys.map .str) = 0
  | [] => by simp only [List.map_nil, PyData.depthAll]
  | y :: r => by simp only [List.map_cons, PyData.depthAll, PyData.depth, depth_strs r, Nat.max_self]
theorem shaped_strs (ys : List Str) (h : ∀ y ∈ ys, PyData.strOk y = true) : SeqAt.shaped (.list (ys.map .str)) = true := by
  unfold SeqAt.shaped
  simp only [PyData.canLay0, PyData.depth, canLay_strs ys h, depth_strs]
  rfl
theorem eqv_strs (ys : List Str) : PyData.eqv (.list (ys.map .str)) (.list []) = ys.isEmpty := by
  cases ys <;> simp [PyData.eqv, PyData.eqvAll]
theorem dp_strs {K : PySem.W.Frag} {H : Hp} : ∀ ys : List Str, DpAll K H (ys.map V.str) (ys.map .str)
  | [] => .nil
  | y :: r => .cons (.str y) (dp_strs r)
/-- a list of texts, held against the empty one -/
theorem eq_nil {K : PySem.W.Frag} {H : Hp} {Q : VK} {D q : Addr} {ys : List Str} (hD : H D = some (.lst (ys.map V.str)))
    (hq : H q = some (.lst [])) (ho : ∀ y ∈ ys, PyData.strOk y = true) (h : Q (.bl ys.isEmpty) H) : rEqD K (.ref D) (.ref q) H Q :=
  ⟨.list (ys.map .str), .list [], .lst (SqL.of hD) (dp_strs ys), .lst (xs := []) (SqL.of hq) .nil, shaped_strs ys ho, rfl, by
    rw [eqv_strs]
    exact h⟩
theorem ne_nil {K : PySem.W.Frag} {H : Hp} {Q : VK} {D q : Addr} {ys : List Str} (hD : H D = some (.lst (ys.map V.str)))
    (hq : H q = some (.lst [])) (ho : ∀ y ∈ ys, PyData.strOk y = true) (h : Q (.bl !ys.isEmpty) H) : rNeD K (.ref D) (.ref q) H Q :=
  ⟨.list (ys.map .str), .list [], .lst (SqL.of hD) (dp_strs ys), .lst (xs := []) (SqL.of hq) .nil, shaped_strs ys ho, rfl, by
    rw [eqv_strs]
    exact h⟩

section
variable {P : Program} {w : World} {K : PySem.W.Frag} {mg : Str → Option Value} {base : Heap}
theorem scLWhole : FnScope ["_law_thing"] ["_law_thing"] (defScope sLWhole) := ⟨rfl, rfl, rfl, by decide +kernel, rfl, by decide +kernel, by decide +kernel⟩
theorem d_lwhole (T : Txt mg) (A : At K mg "_law_whole" sLWhole) : Def P w K mg base "_law_whole" 1 ["_law_thing"] (spNumber K) := by
  refine mkDef A scLWhole (fun _ _ _ _ _ _ us hl => match us, hl with | [_], _ => rfl) (fun vs H Q E ⟨x, t, e, _⟩ => by rw [e]; rfl)
    (fun f cdv A out s H vs Q E hr h => ?_)
  obtain ⟨x, t, rfl, ty, k⟩ := h
  refine ⟨_, pss_one (ps_ret (pe_and (pe_is T.isinstance (by rfl) (pv 0) T.int (by rfl) (Tn := "int") (by decide +kernel))
    (pe_one (pe_not (pe_is T.isinstance (by rfl) (pv 0) T.bool (by rfl) (Tn := "bool") (by decide +kernel)))))), ?_⟩
  refine ⟨_, rfl, x, .ty "int", t, .type "int", _, rfl, .ty "int", ty.q, ty.isInt, _, rfl, ?_⟩
  have e : numB x = ((numB x || blB x) && !blB x) := by cases x <;> rfl
  cases hb : numB x || blB x with
  | false =>
    refine iteF ?_
    rw [hb] at e
    rw [e] at k
    exact k
  | true =>
    refine iteT ?_
    refine ⟨_, rfl, x, .ty "bool", t, .type "bool", _, rfl, .ty "bool", ty.q, ty.isBool, _, rfl, ?_⟩
    rw [hb, Bool.true_and] at e
    rw [e] at k
    exact k
theorem scWithin : FnScope ["_law_thing", "_law_low", "_law_high"] ["_law_thing", "_law_low", "_law_high"] (defScope sWithin) :=
  ⟨rfl, rfl, rfl, by decide +kernel, rfl, by decide +kernel, by decide +kernel⟩
theorem d_within (A : At K mg "_law_within" sWithin) (dn : Def P w K mg base "_law_whole" 1 ["_law_thing"] (spNumber K)) :
    Def P w K mg base "_law_within" 2 ["_law_thing", "_law_low", "_law_high"] (spWhole K) := by
  refine mkDef A scWithin (fun _ _ _ _ _ _ us hl => match us, hl with | [_, _, _], _ => rfl) (fun vs H Q E ⟨x, t, lo, hi, e, _⟩ => by rw [e]; rfl)
    (fun f cdv A out s H vs Q E hr h => ?_)
  obtain ⟨x, t, lo, hi, rfl, ty, k⟩ := h
  refine ⟨_, pss_one (ps_ret (pe_and (pe_d dn hr (by decide) (by rfl) (pa_cons (pv 0) pa_nil))
      (pe_one (pe_chain op_le op_le (pv 1) (pv 0) (pv 2))))), ?_⟩
  refine ⟨_, rfl, x, t, rfl, ty, _, rfl, ?_⟩
  cases x with
  | int i =>
    refine iteT ⟨_, rfl, _, rfl, lo, i, rfl, rfl, _, rfl, ?_⟩
    by_cases hlo : lo ≤ i
    · rw [decide_eq_true hlo]
      refine iteT ⟨_, rfl, i, hi, rfl, rfl, ?_⟩
      have e : wholeB (.int i) lo hi = decide (i ≤ hi) := by
        show (decide (lo ≤ i) && decide (i ≤ hi)) = _
        rw [decide_eq_true hlo, Bool.true_and]
      rw [e] at k
      exact k
    · rw [decide_eq_false hlo]
      refine iteF ?_
      have e : wholeB (.int i) lo hi = false := by
        show (decide (lo ≤ i) && decide (i ≤ hi)) = _
        rw [decide_eq_false hlo, Bool.false_and]
      rw [e] at k
      exact k
  | _ => exact iteF k

def spIs : Sp := fun vs H Q _ => ∃ b, vs = [.bl b, .bl b] ∧ Q (.bl true) H
theorem scIs : FnScope ["_law_found", "_law_due"] ["_law_found", "_law_due"] (defScope sIs) :=
  ⟨rfl, rfl, rfl, by decide +kernel, rfl, by decide +kernel, by decide +kernel⟩
theorem d_is (T : Txt mg) (A : At K mg "_law_is" sIs) : Def P w K mg base "_law_is" 1 ["_law_found", "_law_due"] spIs := by
  refine mkDef A scIs (fun _ _ _ _ _ _ us hl => match us, hl with | [_, _], _ => rfl) (fun vs H Q E ⟨b, e, _⟩ => by rw [e]; rfl)
    (fun f cdv A out s H vs Q E hr h => ?_)
  obtain ⟨b, rfl, k⟩ := h
  refine ⟨_, pss_one (ps_ret (pe_and (pe_is T.isinstance (by rfl) (pv 0) T.bool (by rfl) (Tn := "bool") (by decide +kernel))
      (pe_one (pe_cmpR op_eq (pv 0) (pv 1) (nomark _))))), ?_⟩
  refine ⟨_, rfl, .bl b, .ty "bool", _, .type "bool", _, rfl, .ty "bool", (Ty.bl b).q (K := K), (Ty.bl (K := K) (H := H) b).isBool, _, rfl, ?_⟩
  refine iteT ⟨_, rfl, _, rfl, rfl, ?_⟩
  have e : decide (V.bl b = V.bl b) = true := decide_eq_true rfl
  show Q (.bl (decide (V.bl b = V.bl b))) H
  rw [e]
  exact k

theorem scLName : FnScope ["_law_thing", "_law_small", "_law_sign"] ["_law_thing"] (defScope sLName) :=
  ⟨rfl, rfl, rfl, by decide +kernel, rfl, by decide +kernel, by decide +kernel⟩
def small : Str := "abcdefghijklmnopqrstuvwxyz"
theorem small_mem (c : Nat) : c ∈ small.cps.toList ↔ 97 ≤ c ∧ c ≤ 122 := by
  have e : small.cps.toList = (List.range 26).map (97 + ·) := by decide +kernel
  rw [e, List.mem_map]
  constructor
  · rintro ⟨i, hi, rfl⟩
    have := List.mem_range.mp hi
    omega
  · rintro ⟨h1, h2⟩
    exact ⟨c - 97, List.mem_range.mpr (by omega), by omega⟩
/-- the signs that are no small letters -/
def odds (cs : List Nat) : List Str := (cs.filter fun c => !decide (c ∈ small.cps.toList)).map fun c => ⟨#[c]⟩
theorem odds_empty (cs : List Nat) : (odds cs).isEmpty = cs.all fun c => decide (97 ≤ c ∧ c ≤ 122) := by
  induction cs with
  | nil => rfl
  | cons c r ih =>
    unfold odds at ih ⊢
    rw [List.filter_cons, List.all_cons]
    by_cases h : 97 ≤ c ∧ c ≤ 122
    · have hm := (small_mem c).mpr h
      rw [decide_eq_true hm, decide_eq_true h, if_neg (by decide), Bool.true_and]
      exact ih
    · have hm : ¬ c ∈ small.cps.toList := fun q => h ((small_mem c).mp q)
      rw [decide_eq_false hm, decide_eq_false h, if_pos (by decide), Bool.false_and]
      rfl
theorem odds_ok {cs : List Nat} (h : ∀ c ∈ cs, c < 128) : ∀ y ∈ odds cs, PyData.strOk y = true := by
  intro y hy
  obtain ⟨c, hc, rfl⟩ := List.mem_map.mp hy
  have h1 := h c (List.mem_filter.mp hc).1
  show (#[c] : Array Nat).all (fun x => decide (x < 0x110000)) = true
  simp
  omega
theorem d_lname (T : Txt mg) (A : At K mg "_law_is_name" sLName) : Def P w K mg base "_law_is_name" 1 ["_law_thing"] (spName K) := by
  refine mkDef A scLName (fun _ _ _ _ _ _ us hl => match us, hl with | [_], _ => rfl) (fun vs H Q E ⟨x, t, e, _⟩ => by rw [e]; rfl)
    (fun f cdv A out s H vs Q E hr h => ?_)
  obtain ⟨x, t, rfl, ty, sh, k⟩ := h
  refine ⟨_, pss_cons (ps_set (i := 1) scLName.nd rfl (.inr rfl) pe_str)
    (pss_one (ps_ret (pe_and (pe_is T.isinstance (by rfl) (pv 0) T.str (by rfl) (Tn := "str") (by decide +kernel))
      (pe_and (pe_chain op_lt op_lt pe_int (pe_callB call_len_str (by rfl) T.len PySem.boot_len (pa_cons (pv 0) pa_nil)) pe_int)
        (pe_one (pe_cmpR (op_eqD hr.units) (pe_lc (own := [("_law_sign", 2)]) (g := gName 2) rfl scLName.nd (pi_str (pv 0))
          (blkOk_by (own := [("_law_sign", 2)]) (N := ["_law_thing", "_law_small", "_law_sign"]) (sc := defScope sLName) (by decide +kernel))
          (fun _ _ _ _ _ => pg_name (i := 2) scLName.nd rfl (Or.inl rfl))
          (fun _ _ _ _ _ => pts_one (pt_cmpR op_notIn_sign (pv 2) (pv 1) (by rfl)))
          (fun _ _ _ _ _ => pv 2)) (pe_lst pa_nil) (nomark _))))))), ?_⟩
  refine ⟨_, rfl, x, .ty "str", t, .type "str", _, rfl, .ty "str", ty.q, ty.isStr, _, rfl, ?_⟩
  cases x with
  | str z =>
    obtain ⟨hz, hcs⟩ := sh z rfl
    have hzl : z.length ≤ sizeLine := Nat.le_trans hz (by decide)
    refine iteT ?_
    have nm : nameB (.str z) = (decide (1 ≤ z.length ∧ z.length ≤ 8) && (odds z.cps.toList).isEmpty) := by
      rw [odds_empty]
      rfl
    refine ⟨_, rfl, z, rfl, hzl, 0, (z.length : Int), rfl, rfl, _, rfl, ?_⟩
    by_cases h1 : (0 : Int) < (z.length : Int)
    · rw [decide_eq_true h1]
      refine iteT ⟨(z.length : Int), 9, rfl, rfl, _, rfl, ?_⟩
      by_cases h2 : (z.length : Int) < 9
      · rw [decide_eq_true h2]
        refine iteT ?_
        have e1 : decide (1 ≤ z.length ∧ z.length ≤ 8) = true := decide_eq_true ⟨by omega, by omega⟩
        rw [e1, Bool.true_and] at nm
        refine ⟨_, rfl, z, rfl, fun D hD => ?_⟩
        refine lc_it walk_str (fun i H' => Same H H' ∧ H' D = some (.lst ((odds (z.cps.toList.take i)).map V.str)))
          ⟨Same.laid hD, upd_same⟩ (fun _ _ _ _ => trivial) ?_ ?_
        · rintro i v H1 H2 hi ⟨S1, e1⟩ ⟨rfl, c, hc, rfl⟩
          have hc' : z.cps.toList[i]? = some c := by rw [Array.getElem?_toList]; exact hc
          refine ⟨rfl, _, rfl, _, rfl, c, small, rfl, rfl, _, rfl, ?_⟩
          have et : z.cps.toList.take (i + 1) = z.cps.toList.take i ++ [c] := by
            rw [List.take_add_one, hc']
            rfl
          by_cases hm : c ∈ small.cps.toList
          · rw [decide_eq_true hm]
            refine iteF ⟨S1, ?_⟩
            rw [et]
            unfold odds at e1 ⊢
            rw [List.filter_append, List.filter_cons, decide_eq_true hm, if_neg (by decide), List.filter_nil, List.append_nil]
            exact e1
          · rw [decide_eq_false hm]
            refine iteT ⟨_, rfl, _, e1, ?_, ?_, ?_⟩
            · have h4 : z.cps.size ≤ 1000 := hz
              have h5 : (odds (z.cps.toList.take i)).length ≤ i := by
                unfold odds
                rw [List.length_map]
                exact Nat.le_trans (List.length_filter_le _ _) (by rw [List.length_take]; exact Nat.min_le_left _ _)
              rw [List.length_map]
              exact Nat.lt_of_le_of_lt h5 (Nat.lt_of_lt_of_le hi (Nat.le_trans h4 (by decide)))
            · exact fun b o e => (upd_ne (ne_of_none e hD)).trans (S1 b o e)
            · rw [upd_same, et]
              unfold odds
              rw [List.filter_append, List.filter_cons, decide_eq_false hm, if_pos (by decide), List.filter_nil]
              simp
        · rintro H2 ⟨S1, e1⟩
          refine ⟨by show 0 ≤ sizeLine; decide, fun q hq => ?_⟩
          rw [List.take_of_length_le (by simp)] at e1
          refine eq_nil (ys := odds z.cps.toList) ((upd_ne (ne_of_none e1 hq)).trans e1) upd_same (odds_ok hcs) ?_
          rw [← nm]
          exact k _ (S1.trans (Same.laid hq))
      · rw [decide_eq_false h2]
        refine iteF ?_
        have e1 : decide (1 ≤ z.length ∧ z.length ≤ 8) = false := decide_eq_false (fun q => h2 (by omega))
        rw [e1, Bool.false_and] at nm
        rw [nm] at k
        exact k H (Same.refl H)
    · rw [decide_eq_false h1]
      refine iteF ⟨_, rfl, ?_⟩
      refine iteF ?_
      have e1 : decide (1 ≤ z.length ∧ z.length ≤ 8) = false := decide_eq_false (fun q => h1 (by omega))
      rw [e1, Bool.false_and] at nm
      rw [nm] at k
      exact k H (Same.refl H)
  | _ => exact iteF (k H (Same.refl H))
end
end K1

namespace K1
open PySem PySem.Spec PyProof.Rows L2 Pw
abbrev sPE : Stmt := inClass (top 1) 0
abbrev sNT : Stmt := inClass (top 2) 0
abbrev sNM : Stmt := inClass (top 3) 0
abbrev sAny : Stmt := top 27
abbrev sNumb : Stmt := top 28
abbrev sSpoilt : Stmt := top 29
abbrev sNamed : Stmt := top 30

/-- the class under the name x, its __init__ st; its base class's __init__ -/
structure Exc (K : PySem.W.Frag) (mg : Str → Option Value) (x q : Str) (st : Stmt) (C : Addr) : Prop where
  mgC : mg x = some (.ref C)
  oex : OexC K C
  init : ∃ f fd, PySem.W.findIn K (.ref C) "__init__" = some (some (.ref f)) ∧ PySem.W.typeIn K (.ref f) = some (.type "function") ∧
    Fun K "__init__" q st f fd
  rep : ExR K C x
  typ : ExT K C
  nF : PySem.W.findIn K (.ref C) "found" = some none
/-- PanelError, read by name -/
structure Base1 (K : PySem.W.Frag) (mg : Str → Option Value) (C f : Addr) : Prop where
  mgC : mg "PanelError" = some (.ref C)
  sg : PySem.W.specialIn K (.ref C) "__getattribute__" = some (some (.builtin "type.__getattribute__"))
  rd : PySem.W.readsIn K C (.type "type") = true
  at_ : PySem.W.findCls K (.ref C) (.type "type") "__init__" = some (.val (.ref f))
  fn : ∃ fd, Fun K "__init__" "PanelError.__init__" sPE f fd
  veg : mg "ValueError" = none
  vV : PySem.W.findCls K (.type "ValueError") (.type "type") "__init__" = some (.val (.builtin "ValueError.__init__"))

section
variable {P : Program} {w : World} {K : PySem.W.Frag} {mg : Str → Option Value} {base : Heap}
/-- PanelError.__init__(self, text) -/
def spPE (K : PySem.W.Frag) : Sp := fun vs H Q _ => ∃ a C t0 x, vs = [.ref a, .str x] ∧ OexC K C ∧ H a = some (exq a C none t0) ∧
  ∀ t2, H t2 = none → t2 ≠ a → Q .non (upd (upd H t2 (.tup [.str x])) a (exq a C none t2))
theorem scPE : FnScope ["self", "text"] ["self", "text"] (defScope sPE) := ⟨rfl, rfl, rfl, by decide +kernel, rfl, by decide +kernel, by decide +kernel⟩
theorem ok_pe {C f : Addr} {fd : FuncData} (B : Base1 K mg C f) (F : Fun K "__init__" "PanelError.__init__" sPE f fd) :
    FnOk P w K mg base CX0 1 f fd ["self", "text"] (spPE K) := by
  refine F.ok scPE (fun vs H Q E ⟨a, C, t0, x, e, _⟩ => by rw [e]; rfl) (fun cdv A outer s H vs Q E hr h => ?_)
  obtain ⟨a, C, t0, x, rfl, T, ea, k⟩ := h
  refine ⟨_, pss_one (ps_expr (pe_veq (by rfl) B.veg B.vV (pa_cons (pv 0) (pa_cons (pv 1) pa_nil)))), ?_⟩
  exact ⟨_, rfl, _, rfl, a, C, t0, [.str x], rfl, (by show 1 ≤ 1000; decide), T, ea, k⟩

/-- X.__init__(self, found): the text x0 becomes its args -/
def spX (K : PySem.W.Frag) (x0 : Str) : Sp := fun vs H Q _ => ∃ a C t0 y, vs = [.ref a, y] ∧ OexC K C ∧ H a = some (exq a C none t0) ∧
  PySem.W.findIn K (.ref C) "found" = some none ∧
  ∀ t2 dx, H t2 = none → t2 ≠ a → H dx = none → dx ≠ a → dx ≠ t2 →
    Q .non (upd (upd (upd (upd H t2 (.tup [.str x0])) a (exq a C none t2)) dx (exd dx [("found", y)])) a (exq a C (some dx) t2))
theorem scNT : FnScope ["self", "found"] ["self", "found"] (defScope sNT) := ⟨rfl, rfl, rfl, by decide +kernel, rfl, by decide +kernel, by decide +kernel⟩
theorem scNM : FnScope ["self", "found"] ["self", "found"] (defScope sNM) := ⟨rfl, rfl, rfl, by decide +kernel, rfl, by decide +kernel, by decide +kernel⟩
theorem ok_nt {CB fB f : Addr} {fd : FuncData} (B : Base1 K mg CB fB) (F : Fun K "__init__" "NoTime.__init__" sNT f fd) :
    FnOk P w K mg base CX0 2 f fd ["self", "found"] (spX K "this is no time that will do") := by
  obtain ⟨fdB, FB⟩ := B.fn
  have bB := FB.binds (ps := ["self", "text"]) fun _ _ _ _ _ _ us hl => match us, hl with | [_, _], _ => rfl
  have G : FnOk P w K mg base CX0 1 fB fdB ["self", "text"] (spPE K) := ok_pe B FB
  refine F.ok scNT (fun vs H Q E ⟨a, C, t0, x, e, _⟩ => by rw [e]; rfl) (fun cdv A outer s H vs Q E hr h => ?_)
  obtain ⟨a, C, t0, y, rfl, T, ea, nF, k⟩ := h
  refine ⟨_, pss_cons (ps_expr (pe_off (by rfl) B.mgC B.sg B.rd B.at_ FB.kp G hr bB .nil pass0 (pa_cons (pv 0) (pa_cons pe_str pa_nil))))
    (pss_one (ps_est (pv 0) (pv 1))), ?_⟩
  refine ⟨_, rfl, a, C, t0, _, rfl, T, ea, fun t2 n2 ne => ?_⟩
  refine ⟨_, rfl, _, rfl, a, C, t2, rfl, T, nF, upd_same, fun dx nx nxa => ?_⟩
  have e1 : dx ≠ t2 := fun z => by
    rw [z, upd_ne ne, upd_same] at nx
    cases nx
  have e2 : H dx = none := by
    rw [upd_ne nxa, upd_ne e1] at nx
    exact nx
  exact k t2 dx n2 ne e2 nxa e1
theorem ok_nm {CB fB f : Addr} {fd : FuncData} (B : Base1 K mg CB fB) (F : Fun K "__init__" "NoMark.__init__" sNM f fd) :
    FnOk P w K mg base CX0 2 f fd ["self", "found"] (spX K "this is no mark") := by
  obtain ⟨fdB, FB⟩ := B.fn
  have bB := FB.binds (ps := ["self", "text"]) fun _ _ _ _ _ _ us hl => match us, hl with | [_, _], _ => rfl
  have G : FnOk P w K mg base CX0 1 fB fdB ["self", "text"] (spPE K) := ok_pe B FB
  refine F.ok scNM (fun vs H Q E ⟨a, C, t0, x, e, _⟩ => by rw [e]; rfl) (fun cdv A outer s H vs Q E hr h => ?_)
  obtain ⟨a, C, t0, y, rfl, T, ea, nF, k⟩ := h
  refine ⟨_, pss_cons (ps_expr (pe_off (by rfl) B.mgC B.sg B.rd B.at_ FB.kp G hr bB .nil pass0 (pa_cons (pv 0) (pa_cons pe_str pa_nil))))
    (pss_one (ps_est (pv 0) (pv 1))), ?_⟩
  refine ⟨_, rfl, a, C, t0, _, rfl, T, ea, fun t2 n2 ne => ?_⟩
  refine ⟨_, rfl, _, rfl, a, C, t2, rfl, T, nF, upd_same, fun dx nx nxa => ?_⟩
  have e1 : dx ≠ t2 := fun z => by
    rw [z, upd_ne ne, upd_same] at nx
    cases nx
  have e2 : H dx = none := by
    rw [upd_ne nxa, upd_ne e1] at nx
    exact nx
  exact k t2 dx n2 ne e2 nxa e1
end
end K1

namespace K1
open PySem PySem.Spec PyProof.Rows L2 Pw

/-- a thing that is no part of the bag at p: it is shown, and of a known kind -/
structure Thing (K : PySem.W.Frag) (H : Hp) (p : Addr) (v : V) : Prop where
  sh : ∃ d n t, Shw K (wo H p) v d n t ∧ d ≤ 3 ∧ n ≤ 20000
  t2 : T2 K (wo H p) v
theorem Thing.keep {K : PySem.W.Frag} {H H' : Hp} {p : Addr} {v : V} (h : Thing K H p v) (S : But p H H') : Thing K H' p v := by
  obtain ⟨d, n, t, s, l⟩ := h.sh
  exact ⟨⟨d, n, t, Shw.same S s, l⟩, h.t2.keep S⟩
section
variable {K : PySem.W.Frag} {H : Hp} {p : Addr}
theorem t2_flat {x : V} {t : Value} (ty : Ty K H x t) (sh : Short x) (hr : ∀ a, x ≠ .ref a) : T2 K H x :=
  ⟨⟨t, ty⟩, sh, fun a xs e _ => absurd e (hr a)⟩
theorem t2_lst {a : Addr} {xs : List V} (e : H a = some (.lst xs)) : T2 K H (.ref a) :=
  ⟨⟨_, .lst e⟩, (fun s z => nomatch z), fun b ys z q => by cases z; cases e.symm.trans q⟩
theorem t2_dct {a : Addr} {xs : List (Key × V)} (e : H a = some (.dK xs)) : T2 K H (.ref a) :=
  ⟨⟨_, .dct e⟩, (fun s z => nomatch z), fun b ys z q => by cases z; cases e.symm.trans q⟩
theorem t2_tup {a : Addr} {xs : List V} (e : H a = some (.tup xs)) (l : xs.length ≤ 1000) (h : ∀ y ∈ xs, ∃ t, Ty K H y t) : T2 K H (.ref a) :=
  ⟨⟨_, .tup e⟩, (fun s z => nomatch z), fun b ys z q => by cases z; cases e.symm.trans q; exact ⟨l, h⟩⟩
theorem th_non : Thing K H p .non := ⟨⟨0, 5, _, .non, by decide, by decide⟩, t2_flat .non (fun _ z => nomatch z) (fun _ z => nomatch z)⟩
theorem th_bl (b : Bool) : Thing K H p (.bl b) := ⟨⟨0, 5, _, .bl b, by decide, by decide⟩, t2_flat (.bl b) (fun _ z => nomatch z) (fun _ z => nomatch z)⟩
theorem th_int (i : Int) (h : i.natAbs.log2 < 1920) : Thing K H p (.int i) :=
  ⟨⟨0, 1921, _, .int i h, by decide, by decide⟩, t2_flat (.int i) (fun _ z => nomatch z) (fun _ z => nomatch z)⟩
theorem th_str (s : Str) (h : Short (.str s)) : Thing K H p (.str s) := by
  obtain ⟨h1, h2⟩ := h s rfl
  have h3 := PySem.StrLaws.reprText_len s fun c hc => Nat.lt_trans (h2 c hc) (by decide)
  exact ⟨⟨0, 10002, _, .str s 10002 (by omega), by decide, by decide⟩, t2_flat (.str s) h (fun _ z => nomatch z)⟩
theorem th_ref {a : Addr} {d n : Nat} {t : Str} (hs : Shw K (wo H p) (.ref a) d n t) (hd : d ≤ 3) (hn : n ≤ 20000) (h2 : T2 K (wo H p) (.ref a)) :
    Thing K H p (.ref a) := ⟨⟨d, n, t, hs, hd, hn⟩, h2⟩
theorem shw_a : Shw K H (.str "a") 0 3 (reprText "a") := .str "a" 3 (by decide +kernel)
theorem shw_1 : Shw K H (.int 1) 0 1921 (toString (1 : Int)) := .int 1 (by decide +kernel)
theorem ints_small {i : Int} (h0 : -(10 ^ 40) < i) (h1 : i < 10 ^ 40) : i.natAbs.log2 < 1920 := by
  have h2 : i.natAbs < 2 ^ 200 := by omega
  exact Nat.lt_of_lt_of_le (PySem.Flt.log2_lt_of (by decide) h2) (by decide)
end

section
variable {P : Program} {w : World} {K : PySem.W.Frag} {mg : Str → Option Value} {base : Heap}
def spAny (K : PySem.W.Frag) : Sp := fun vs H Q _ => ∃ p n, vs = [.ref p] ∧ BagAt H p n ∧ n ≤ 900000 ∧
  ∀ v H', Thing K H' p v → BagAt H' p (n + 1) → But p H H' → Q v H'
theorem scAny : FnScope ["_law_bag_here", "_law_some"] ["_law_bag_here"] (defScope sAny) :=
  ⟨rfl, rfl, rfl, by decide +kernel, rfl, by decide +kernel, by decide +kernel⟩
theorem d_any (A : At K mg "_law_any" sAny) (dt : Def P w K mg base "_law_take" 1 ["_law_bag_here", "_law_many"] (spTake K)) :
    Def P w K mg base "_law_any" 2 ["_law_bag_here"] (spAny K) := by
  refine mkDef A scAny (fun _ _ _ _ _ _ us hl => match us, hl with | [_], _ => rfl) (fun vs H Q E ⟨p, n, e, _⟩ => by rw [e]; rfl)
    (fun f cdv A out s H vs Q E hr h => ?_)
  obtain ⟨p, n, rfl, hb, hn, k⟩ := h
  have hu := hu_of hr
  obtain ⟨b0, b1, b2, hp, hb'⟩ := id hb
  refine ⟨_, pss_cons (ps_set (i := 1) scAny.nd rfl (.inl rfl) (pe_lst (pa_cons pe_non (pa_cons pe_bl (pa_cons pe_bl
      (pa_cons (pe_op op_sub pe_int pe_int) (pa_cons (pe_op op_pow pe_int pe_int) (pa_cons pe_str (pa_cons pe_str (pa_cons pe_str
      (pa_cons (pe_lst pa_nil) (pa_cons (pe_lst (pa_cons pe_str pa_nil)) (pa_cons (pe_tup (pa_cons pe_str pa_nil)) (pa_cons (pe_tup pa_nil)
      (pa_cons pe_dnewK (pa_cons (pe_disp (pps_cons pe_str pe_int pps_nil) (by rfl) (by rfl) (fun z => by cases z) (by decide))
      (pa_cons (pe_lst (pa_cons (pe_lst (pa_cons pe_int pa_nil)) pa_nil)) pa_nil)))))))))))))))))
    (pss_one (ps_ret (pe_ix ix_list (pv 1) (pe_d dt hr (by decide) (by rfl) (pa_cons (pv 0) (pa_cons pe_int pa_nil))) (fun _ _ => rfl)))), ?_⟩
  refine ⟨_, _, rfl, rfl, _, _, rfl, rfl, ⟨by decide, by decide, by decide⟩, by show 0 ≤ sizeLine; decide, fun a1 n1 => ?_⟩
  generalize q1 : upd H a1 (.lst []) = H1
  have S1 : Same H H1 := q1 ▸ Same.laid n1
  have e1 : H1 a1 = some (.lst []) := q1 ▸ upd_same
  refine ⟨by show 1 ≤ sizeLine; decide, fun a2 n2 => ?_⟩
  generalize q2 : upd H1 a2 (.lst [.str "a"]) = H2
  have S2 : Same H1 H2 := q2 ▸ Same.laid n2
  have e2 : H2 a2 = some (.lst [.str "a"]) := q2 ▸ upd_same
  refine ⟨by show 1 ≤ sizeLine; decide, fun a3 n3 => ?_⟩
  generalize q3 : upd H2 a3 (.tup [.str "a"]) = H3
  have S3 : Same H2 H3 := q3 ▸ Same.laid n3
  have e3 : H3 a3 = some (.tup [.str "a"]) := q3 ▸ upd_same
  refine ⟨by show 0 ≤ sizeLine; decide, fun a4 n4 => ?_⟩
  generalize q4 : upd H3 a4 (.tup []) = H4
  have S4 : Same H3 H4 := q4 ▸ Same.laid n4
  have e4 : H4 a4 = some (.tup []) := q4 ▸ upd_same
  refine fun a5 n5 => ?_
  generalize q5 : upd H4 a5 (.dK []) = H5
  have S5 : Same H4 H5 := q5 ▸ Same.laid n5
  have e5 : H5 a5 = some (.dK []) := q5 ▸ upd_same
  refine fun a6 n6 => ?_
  refine ⟨upd_same, [(Sum.inr "a", .int 1)], rfl, by decide, ?_⟩
  rw [upd_upd]
  generalize q6 : upd H5 a6 (.dK (mergeK [] [(Sum.inr "a", .int 1)])) = H6
  have S6 : Same H5 H6 := q6 ▸ Same.laid n6
  have e6 : H6 a6 = some (.dK [(Sum.inr "a", .int 1)]) := q6 ▸ upd_same
  refine ⟨by show 1 ≤ sizeLine; decide, fun a7 n7 => ?_⟩
  generalize q7 : upd H6 a7 (.lst [.int 1]) = H7
  have S7 : Same H6 H7 := q7 ▸ Same.laid n7
  have e7 : H7 a7 = some (.lst [.int 1]) := q7 ▸ upd_same
  refine ⟨by show 1 ≤ sizeLine; decide, fun a8 n8 => ?_⟩
  generalize q8 : upd H7 a8 (.lst [.ref a7]) = H8
  have S8 : Same H7 H8 := q8 ▸ Same.laid n8
  have e8 : H8 a8 = some (.lst [.ref a7]) := q8 ▸ upd_same
  refine ⟨by show 15 ≤ sizeLine; decide, fun L nL => ?_⟩
  have p1 := S1 _ _ hp
  have p2 := S2 _ _ p1
  have p3 := S3 _ _ p2
  have p4 := S4 _ _ p3
  have p5 := S5 _ _ p4
  have p6 := S6 _ _ p5
  have p7 := S7 _ _ p6
  have p8 := S8 _ _ p7
  have S48 : Same H4 H8 := S5.trans (S6.trans (S7.trans S8))
  have w1 := wo_of (ne_of_none hp n1).symm (S48 _ _ (S4 _ _ (S3 _ _ (S2 _ _ e1))))
  have w2 := wo_of (ne_of_none p1 n2).symm (S48 _ _ (S4 _ _ (S3 _ _ e2)))
  have w3 := wo_of (ne_of_none p2 n3).symm (S48 _ _ (S4 _ _ e3))
  have w4 := wo_of (ne_of_none p3 n4).symm (S48 _ _ e4)
  have w5 := wo_of (ne_of_none p4 n5).symm (S8 _ _ (S7 _ _ (S6 _ _ e5)))
  have w6 := wo_of (ne_of_none p5 n6).symm (S8 _ _ (S7 _ _ e6))
  have w7 := wo_of (ne_of_none p6 n7).symm (S8 _ _ e7)
  have w8 := wo_of (ne_of_none p7 n8).symm e8
  have nLp : L ≠ p := (ne_of_none p8 nL).symm
  generalize hxs : ([V.non, .bl true, .bl false, .int (0 - 1), .int (10 ^ (29 : Int).toNat), .str "", .str "no", .str "a b", .ref a1, .ref a2,
    .ref a3, .ref a4, .ref a5, .ref a6, .ref a8] : List V) = xs
  generalize qL : upd H8 L (.lst xs) = HL
  have SL : Same H8 HL := qL ▸ Same.laid nL
  have eL : HL L = some (.lst xs) := qL ▸ upd_same
  have lxs : xs.length = 15 := by rw [← hxs]; rfl
  have plain : ∀ s : Str, (s.length ≤ 1000 ∧ ∀ c ∈ s.cps.toList, c < 128) → Short (.str s) := fun s h z e => by cases e; exact h
  have key : ∀ v ∈ xs, Thing K HL p v := by
    have key8 : ∀ v ∈ xs, Thing K H8 p v := by
      rw [← hxs]
      simp only [List.forall_mem_cons]
      refine ⟨th_non, th_bl _, th_bl _, th_int _ (by decide +kernel), th_int _ (by decide +kernel), th_str _ (plain _ (by decide +kernel)),
        th_str _ (plain _ (by decide +kernel)), th_str _ (plain _ (by decide +kernel)), ?_, ?_, ?_, ?_, ?_, ?_, ?_, fun _ z => nomatch z⟩
      · exact th_ref (.lst w1 .nil) (by decide) (by decide) (t2_lst w1)
      · exact th_ref (.lst w2 (.cons shw_a .nil)) (by decide) (by decide) (t2_lst w2)
      · exact th_ref (.tup w3 (.cons shw_a .nil)) (by decide) (by decide) (t2_tup w3 (by decide) (by simp; exact ⟨_, .str _⟩))
      · exact th_ref (.tup w4 .nil) (by decide) (by decide) (t2_tup w4 (by decide) (by simp))
      · exact th_ref (.dct w5 .nil .nil) (by decide) (by decide) (t2_dct w5)
      · exact th_ref (.dct w6 (.cons shw_a .nil) (.cons shw_1 .nil)) (by decide) (by decide) (t2_dct w6)
      · exact th_ref (.lst w8 (.cons (.lst w7 (.cons shw_1 .nil)) .nil)) (by decide) (by decide) (t2_lst w8)
    exact fun v hv => (key8 v hv).keep (Pw.Same.but SL)
  have S0L : Same H HL := S1.trans (S2.trans (S3.trans (S4.trans (S48.trans SL))))
  refine ⟨_, rfl, _, rfl, p, 15, n, rfl, hb.keep S0L, by omega, by decide, by decide, fun i H' i0 i1 hb2 S' => ?_⟩
  obtain ⟨j, rfl⟩ := Int.eq_ofNat_of_zero_le i0
  have hj : j < xs.length := by omega
  exact ⟨L, xs, (j : Int), xs[j], rfl, rfl, SqL.of (S'.at nLp eL), atI_nat (by simp [hj]), k _ H' ((key _ (List.getElem_mem hj)).keep S') hb2 (But.trans (Pw.Same.but S0L) S')⟩
end
end K1

namespace K1
open PySem PySem.Spec PyProof.Rows L2 Pw

/-! ### plain texts -/
def Pl (m : Nat) (s : Str) : Prop := s.length ≤ m ∧ ∀ c ∈ s.cps.toList, c < 128
theorem Pl.up {m n : Nat} {s : Str} (h : Pl m s) (l : m ≤ n) : Pl n s := ⟨Nat.le_trans h.1 l, h.2⟩
theorem Pl.app {m n : Nat} {s t : Str} (h : Pl m s) (g : Pl n t) : Pl (m + n) (s ++ t) := by
  refine ⟨by rw [strLen_append]; exact Nat.add_le_add h.1 g.1, fun c hc => ?_⟩
  have e : (s ++ t).cps = s.cps ++ t.cps := rfl
  rw [e, Array.toList_append, List.mem_append] at hc
  exact hc.elim (h.2 c) (g.2 c)
theorem Pl.cut {m : Nat} {s : Str} (h : Pl m s) (lo hi : Option Int) : Pl m (cutS s lo hi) := by
  have e : (cutS s lo hi).cps.toList = (s.cps.toList.drop (HT.sIx s.length 0 lo)).take (HT.sIx s.length s.length hi - HT.sIx s.length 0 lo) := by
    unfold cutS
    simp
  refine ⟨?_, fun c hc => ?_⟩
  · have e2 : (cutS s lo hi).length = (cutS s lo hi).cps.toList.length := by
      show (cutS s lo hi).cps.size = _
      simp
    have e3 : s.length = s.cps.toList.length := by
      show s.cps.size = _
      simp
    rw [e2, e, List.length_take, List.length_drop]
    have h1 := h.1
    rw [e3] at h1
    omega
  · rw [e] at hc
    exact h.2 c (List.mem_of_mem_drop (List.mem_of_mem_take hc))
theorem Pl.one {c : Nat} (h : c < 128) : Pl 1 ⟨#[c]⟩ := ⟨Nat.le_refl 1, fun d hd => by
  have : d = c := by simpa using hd
  omega⟩
theorem Pl.join : ∀ ys : List Str, (∀ y ∈ ys, Pl 1 y) → Pl ys.length (Txt.join "" ys) := by
  intro ys h
  rw [TL.join_eq]
  induction ys with
  | nil => exact ⟨Nat.le_refl 0, fun c hc => nomatch hc⟩
  | cons y r ih =>
    cases r with
    | nil => exact h y List.mem_cons_self
    | cons z r' =>
      have i1 := ih fun u hu => h u (List.mem_cons_of_mem _ hu)
      have i0 : Pl 0 ("" : Str) := ⟨Nat.le_refl 0, fun c hc => nomatch hc⟩
      have i2 := ((h y List.mem_cons_self).app i0).app i1
      refine Pl.up i2 ?_
      simp only [List.length_cons]
      omega

section
variable {P : Program} {w : World} {K : PySem.W.Frag} {mg : Str → Option Value} {base : Heap}
def spNumb (K : PySem.W.Frag) : Sp := fun vs H Q _ => ∃ p n, vs = [.ref p] ∧ BagAt H p n ∧ n ≤ 900000 ∧
  ∀ i H', -(10 ^ 31) < i → i < 10 ^ 31 → BagAt H' p (n + 4) → But p H H' → Q (.int i) H'
theorem scNumb : FnScope ["_law_bag_here", "_law_some"] ["_law_bag_here"] (defScope sNumb) :=
  ⟨rfl, rfl, rfl, by decide +kernel, rfl, by decide +kernel, by decide +kernel⟩
theorem d_numb (A : At K mg "_law_number" sNumb) (dt : Def P w K mg base "_law_take" 1 ["_law_bag_here", "_law_many"] (spTake K)) :
    Def P w K mg base "_law_number" 2 ["_law_bag_here"] (spNumb K) := by
  refine mkDef A scNumb (fun _ _ _ _ _ _ us hl => match us, hl with | [_], _ => rfl) (fun vs H Q E ⟨p, n, e, _⟩ => by rw [e]; rfl)
    (fun f cdv A out s H vs Q E hr h => ?_)
  obtain ⟨p, n, rfl, hb, hn, k⟩ := h
  refine ⟨_, pss_cons (ps_set (i := 1) scNumb.nd rfl (.inl rfl) (pe_lst (pa_cons pe_int (pa_cons pe_int (pa_cons pe_int (pa_cons (pe_un un_neg pe_int)
      (pa_cons pe_int (pa_cons pe_int (pa_cons pe_int (pa_cons pe_int (pa_cons pe_int (pa_cons pe_int
      (pa_cons (pe_d dt hr (by decide) (by rfl) (pa_cons (pv 0) (pa_cons (pe_op op_sub (pe_op op_pow pe_int pe_int) pe_int) pa_nil))) pa_nil)))))))))))))
    (pss_one (ps_ret (pe_ix ix_list (pe_op op_cat (pv 1) (pe_lst (pa_cons (pe_op op_sub pe_int (pe_d dt hr (by decide) (by rfl) (pa_cons (pv 0)
      (pa_cons (pe_op op_sub (pe_op op_pow pe_int pe_int) pe_int) pa_nil)))) (pa_cons (pe_d dt hr (by decide) (by rfl) (pa_cons (pv 0) (pa_cons pe_int pa_nil))) pa_nil))))
      (pe_d dt hr (by decide) (by rfl) (pa_cons (pv 0) (pa_cons pe_int pa_nil))) (fun _ _ => rfl)))), ?_⟩
  have e30 : (10 : Int) ^ (30 : Int).toNat - 1 = 10 ^ 30 - 1 := rfl
  refine ⟨_, rfl, ?_⟩
  refine ⟨_, rfl, _, _, rfl, rfl, ⟨by decide, by decide, by decide⟩, _, _, rfl, rfl, p, _, n, rfl, hb, by omega, by decide +kernel, by decide +kernel, fun i1 H1 i10 i11 hb1 B1 => ?_⟩
  refine ⟨by show 11 ≤ sizeLine; decide, fun L nL => ?_⟩
  obtain ⟨_, _, _, hp1, _⟩ := id hb1
  have nLp : L ≠ p := (ne_of_none hp1 nL).symm
  generalize hxs : ([V.int 0, .int 1, .int 2, .int (-1), .int 998, .int 999, .int 1000, .int 9998, .int 9999, .int 10000, .int i1] : List V) = xs
  generalize qL : upd H1 L (.lst xs) = H2
  have S2 : Same H1 H2 := qL ▸ Same.laid nL
  have eL : H2 L = some (.lst xs) := qL ▸ upd_same
  refine ⟨_, rfl, ?_⟩
  refine ⟨_, rfl, _, _, rfl, rfl, ⟨by decide, by decide, by decide⟩, _, _, rfl, rfl, p, _, n + 1, rfl, hb1.keep S2, by omega, by decide +kernel, by decide +kernel, fun i2 H3 i20 i21 hb3 B3 => ?_⟩
  refine ⟨_, _, rfl, rfl, ?_⟩
  refine ⟨_, rfl, p, _, n + 2, rfl, hb3, by omega, by decide +kernel, by decide +kernel, fun i3 H4 i30 i31 hb4 B4 => ?_⟩
  refine ⟨by show 2 ≤ sizeLine; decide, fun M nM => ?_⟩
  have eL4 : H4 L = some (.lst xs) := B4.at nLp (B3.at nLp eL)
  generalize qM : upd H4 M (.lst [.int (1 - i2), .int i3]) = H5
  have S5 : Same H4 H5 := qM ▸ Same.laid nM
  have eM : H5 M = some (.lst [.int (1 - i2), .int i3]) := qM ▸ upd_same
  have l11 : xs.length = 11 := by rw [← hxs]; rfl
  refine ⟨L, M, xs, [.int (1 - i2), .int i3], rfl, rfl, S5 _ _ eL4, eM, ?_, fun N nN => ?_⟩
  · rw [l11]
    show 13 ≤ sizeLine
    decide
  obtain ⟨_, _, _, hp5, _⟩ := id (hb4.keep S5)
  have nNp : N ≠ p := (ne_of_none hp5 nN).symm
  generalize hys : xs ++ [V.int (1 - i2), .int i3] = ys
  generalize qN : upd H5 N (.lst ys) = H6
  have S6 : Same H5 H6 := qN ▸ Same.laid nN
  have eN : H6 N = some (.lst ys) := qN ▸ upd_same
  refine ⟨_, rfl, p, 13, n + 3, rfl, (hb4.keep S5).keep S6, by omega, by decide, by decide, fun j H7 j0 j1 hb7 B7 => ?_⟩
  obtain ⟨j, rfl⟩ := Int.eq_ofNat_of_zero_le j0
  have l13 : ys.length = 13 := by rw [← hys, List.length_append, l11]; rfl
  have hj : j < ys.length := by omega
  have key : ∀ v ∈ ys, ∃ i : Int, v = .int i ∧ -(10 ^ 31) < i ∧ i < 10 ^ 31 := by
    rw [← hys, ← hxs]
    simp only [List.cons_append, List.nil_append, List.forall_mem_cons]
    have e30' : ∀ z : Int, z < (10 : Int) ^ (30 : Int).toNat - 1 → z < 10 ^ 31 := fun z hz => by
      have : (10 : Int) ^ (30 : Int).toNat = 10 ^ 30 := rfl
      rw [this] at hz
      omega
    have h1 := e30' i1 i11
    have h2 := e30' i2 i21
    refine ⟨⟨_, rfl, by decide, by decide⟩, ⟨_, rfl, by decide, by decide⟩, ⟨_, rfl, by decide, by decide⟩, ⟨_, rfl, by decide, by decide⟩,
      ⟨_, rfl, by decide, by decide⟩, ⟨_, rfl, by decide, by decide⟩, ⟨_, rfl, by decide, by decide⟩, ⟨_, rfl, by decide, by decide⟩,
      ⟨_, rfl, by decide, by decide⟩, ⟨_, rfl, by decide, by decide⟩, ⟨_, rfl, by omega, h1⟩, ⟨_, rfl, by omega, by omega⟩, ⟨_, rfl, by omega, by omega⟩, fun _ z => nomatch z⟩
  obtain ⟨i, ei, ilo, ihi⟩ := key _ (List.getElem_mem hj)
  refine ⟨N, ys, (j : Int), ys[j], rfl, rfl, SqL.of (B7.at nNp eN), atI_nat (by simp [hj]), ?_⟩
  rw [ei]
  exact k i H7 ilo ihi hb7 (B1.trans ((Pw.Same.but S2).trans (B3.trans (B4.trans ((Pw.Same.but S5).trans ((Pw.Same.but S6).trans B7))))))

def spSpoilt (K : PySem.W.Frag) : Sp := fun vs H Q _ => ∃ p n z m, vs = [.ref p, .str z] ∧ BagAt H p n ∧ n ≤ 900000 ∧ Pl m z ∧ m ≤ 100 ∧
  ∀ y H', Pl (m + m + 1) y → BagAt H' p (n + 3) → But p H H' → Q (.str y) H'
theorem scSpoilt : FnScope ["_law_bag_here", "_law_name", "_law_sign", "_law_at", "_law_way"] ["_law_bag_here", "_law_name"] (defScope sSpoilt) :=
  ⟨rfl, rfl, rfl, by decide +kernel, rfl, by decide +kernel, by decide +kernel⟩
def signs22 : Str := "abzAZ09 ~_\n.-'!#+*/,;:"
theorem d_spoilt (T : Txt mg) (A : At K mg "_law_spoilt" sSpoilt) (dt : Def P w K mg base "_law_take" 1 ["_law_bag_here", "_law_many"] (spTake K)) :
    Def P w K mg base "_law_spoilt" 2 ["_law_bag_here", "_law_name"] (spSpoilt K) := by
  refine mkDef A scSpoilt (fun _ _ _ _ _ _ us hl => match us, hl with | [_, _], _ => rfl) (fun vs H Q E ⟨p, n, z, m, e, _⟩ => by rw [e]; rfl)
    (fun f cdv A out s H vs Q E hr h => ?_)
  obtain ⟨p, n, z, m, rfl, hb, hn, hz, hm, k⟩ := h
  have zl : z.length ≤ sizeLine := Nat.le_trans hz.1 (Nat.le_trans hm (by decide))
  refine ⟨_, pss_cons (ps_set (i := 2) scSpoilt.nd rfl (.inl rfl) (pe_ix ix_str pe_str (pe_d dt hr (by decide) (by rfl) (pa_cons (pv 0) (pa_cons pe_int pa_nil))) (fun _ _ => rfl)))
    (pss_cons (ps_set (i := 3) scSpoilt.nd rfl (.inl rfl) (pe_d dt hr (by decide) (by rfl) (pa_cons (pv 0) (pa_cons
      (pe_op op_add (pe_callB call_len_str (by rfl) T.len PySem.boot_len (pa_cons (pv 1) pa_nil)) pe_int) pa_nil))))
    (pss_cons (ps_set (i := 4) scSpoilt.nd rfl (.inl rfl) (pe_d dt hr (by decide) (by rfl) (pa_cons (pv 0) (pa_cons pe_int pa_nil))))
    (pss_cons (ps_if (pt_cmpR op_eq (pv 4) pe_int (nomark _))
      (pss_one (ps_ret (pe_op op_add_str (pe_op op_add_str (pe_slice sl_str (pv 1) po_none (po_some (pv 3))) (pv 2)) (pe_slice sl_str (pv 1) (po_some (pv 3)) po_none)))) pss_nil)
    (pss_cons (ps_if (pt_cmpR op_eq (pv 4) pe_int (nomark _))
      (pss_one (ps_ret (pe_op op_add_str (pe_slice sl_str (pv 1) po_none (po_some (pv 3))) (pe_slice sl_str (pv 1) (po_some (pe_op op_add (pv 3) pe_int)) po_none)))) pss_nil)
    (pss_one (ps_ret (pe_ifExp (pt_cmpR op_eq (pv 4) pe_int (nomark _))
      (pe_op op_add_str (pe_op op_add_str (pe_slice sl_str (pv 1) po_none (po_some (pv 3))) (pv 2)) (pe_slice sl_str (pv 1) (po_some (pe_op op_add (pv 3) pe_int)) po_none))
      (pv 1)))))))), ?_⟩
  refine ⟨_, rfl, p, 22, n, rfl, hb, by omega, by decide, by decide, fun i H1 i0 i1 hb1 B1 => ?_⟩
  obtain ⟨i, rfl⟩ := Int.eq_ofNat_of_zero_le i0
  have l22 : signs22.cps.toList.length = 22 := by decide +kernel
  have hi : i < signs22.cps.toList.length := by omega
  generalize hc : signs22.cps.toList[i] = c
  have hc128 : c < 128 := by
    have all : ∀ d ∈ signs22.cps.toList, d < 128 := by decide +kernel
    exact hc ▸ all _ (List.getElem_mem hi)
  refine ⟨signs22, (i : Int), c, rfl, rfl, by decide +kernel, atI_nat (by rw [← hc]; simp [hi]), ?_⟩
  refine ⟨_, rfl, _, rfl, z, rfl, zl, _, _, rfl, rfl, p, (z.length : Int) + 1, n + 1, rfl, hb1, by omega, by omega, by have := hz.1; omega, fun at_ H2 a0 a1 hb2 B2 => ?_⟩
  refine ⟨_, rfl, p, 6, n + 2, rfl, hb2, by omega, by decide, by decide, fun way H3 w0 w1 hb3 B3 => ?_⟩
  have B : But p H H3 := B1.trans (B2.trans B3)
  have hcp : Pl 1 ⟨#[c]⟩ := Pl.one hc128
  have ln : ∀ {a b : Nat} {s t : Str}, Pl a s → Pl b t → a + b ≤ 1000 → s.length + t.length ≤ sizeLine := fun hs ht hab =>
    Nat.le_trans (Nat.add_le_add hs.1 ht.1) (Nat.le_trans hab (by decide))
  have c1 := hz.cut none (some at_)
  have c2 := hz.cut (some at_) none
  have c3 := hz.cut (some (at_ + 1)) none
  refine ⟨_, rfl, rfl, _, rfl, ?_⟩
  refine ite2 (fun _ => ?_) (fun _ => ?_)
  · refine ⟨_, rfl, _, rfl, at_, rfl, z, rfl, zl, _, rfl, _, _, rfl, rfl, ln c1 hcp (by omega), _, rfl, _, rfl, at_, rfl, z, rfl, zl, _, _, rfl, rfl, ln (c1.app hcp) c2 (by omega), ?_⟩
    exact k _ H3 (((c1.app hcp).app c2).up (by omega)) hb3 B
  refine ⟨_, rfl, rfl, _, rfl, ?_⟩
  refine ite2 (fun _ => ?_) (fun _ => ?_)
  · refine ⟨_, rfl, _, rfl, at_, rfl, z, rfl, zl, _, rfl, _, rfl, _, _, rfl, rfl, at_ + 1, rfl, z, rfl, zl, _, _, rfl, rfl, ln c1 c3 (by omega), ?_⟩
    exact k _ H3 ((c1.app c3).up (by omega)) hb3 B
  refine ⟨_, rfl, rfl, _, rfl, ?_⟩
  refine ite2 (fun _ => ?_) (fun _ => ?_)
  · refine ⟨_, rfl, _, rfl, at_, rfl, z, rfl, zl, _, rfl, _, _, rfl, rfl, ln c1 hcp (by omega), _, rfl, _, rfl, _, _, rfl, rfl, at_ + 1, rfl, z, rfl, zl, _, _, rfl, rfl, ln (c1.app hcp) c3 (by omega), ?_⟩
    exact k _ H3 (((c1.app hcp).app c3).up (by omega)) hb3 B
  · exact ⟨_, rfl, k z H3 (hz.up (by omega)) hb3 B⟩
end
end K1

namespace K1
open PySem PySem.Spec PyProof.Rows L2 Pw
section
variable {P : Program} {w : World} {K : PySem.W.Frag} {mg : Str → Option Value} {base : Heap}
def spNamed (K : PySem.W.Frag) : Sp := fun vs H Q _ => ∃ p n, vs = [.ref p] ∧ BagAt H p n ∧ n ≤ 800000 ∧
  ∀ y H', Pl 100 y → BagAt H' p (n + 20) → But p H H' → Q (.str y) H'
theorem scNamed : FnScope ["_law_bag_here", "_law_small", "_law_k"] ["_law_bag_here"] (defScope sNamed) :=
  ⟨rfl, rfl, rfl, by decide +kernel, rfl, by decide +kernel, by decide +kernel⟩
theorem sum_one : ∀ ys : List Str, (∀ y ∈ ys, Pl 1 y) → (ys.map fun x => x.length).sum ≤ ys.length
  | [], _ => Nat.le_refl 0
  | y :: r, h => by
    have h1 := (h y List.mem_cons_self).1
    have h2 := sum_one r fun z hz => h z (List.mem_cons_of_mem _ hz)
    simp only [List.map_cons, List.sum_cons, List.length_cons]
    omega
theorem d_named (T : Txt mg) (A : At K mg "_law_named" sNamed) (dt : Def P w K mg base "_law_take" 1 ["_law_bag_here", "_law_many"] (spTake K))
    (ds : Def P w K mg base "_law_spoilt" 2 ["_law_bag_here", "_law_name"] (spSpoilt K)) :
    Def P w K mg base "_law_named" 3 ["_law_bag_here"] (spNamed K) := by
  refine mkDef A scNamed (fun _ _ _ _ _ _ us hl => match us, hl with | [_], _ => rfl) (fun vs H Q E ⟨p, n, e, _⟩ => by rw [e]; rfl)
    (fun f cdv A out s H vs Q E hr h => ?_)
  obtain ⟨p, n, rfl, hb, hn, k⟩ := h
  refine ⟨_, pss_cons (ps_set (i := 1) scNamed.nd rfl (.inr rfl) pe_str)
    (pss_cons (ps_if (pt_cmpR op_eq (pe_d dt hr (by decide) (by rfl) (pa_cons (pv 0) (pa_cons pe_int pa_nil))) pe_int (nomark _))
      (pss_one (ps_ret (pe_d ds hr (by decide) (by rfl) (pa_cons (pv 0) (pa_cons (pe_ix ix_list (pe_lst (pa_cons pe_str (pa_cons pe_str pa_nil)))
        (pe_d dt hr (by decide) (by rfl) (pa_cons (pv 0) (pa_cons pe_int pa_nil))) (fun _ _ => rfl)) pa_nil))))) pss_nil)
    (pss_one (ps_ret (pe_d ds hr (by decide) (by rfl) (pa_cons (pv 0) (pa_cons (pe_join pe_str
      (pe_lc (own := [("_law_k", 2)]) (g := gName 2) (tt := tYes) rfl scNamed.nd
        (pi_range1 (by rfl) T.range (pa_cons (pe_op op_add pe_int (pe_d dt hr (by decide) (by rfl) (pa_cons (pv 0) (pa_cons pe_int pa_nil)))) pa_nil))
        (blkOk_by (own := [("_law_k", 2)]) (N := ["_law_bag_here", "_law_small", "_law_k"]) (sc := defScope sNamed) (by decide +kernel))
        (fun _ _ _ _ _ => pg_name (i := 2) scNamed.nd rfl (Or.inl rfl)) (fun _ _ _ _ _ => pts_nil)
        (fun _ _ _ _ _ => pe_ix ix_str (pv 1) (pe_d dt hr (by decide) (by rfl) (pa_cons (pv 0) (pa_cons pe_int pa_nil))) (fun _ _ => rfl)))) pa_nil)))))), ?_⟩
  refine ⟨_, rfl, p, 4, n, rfl, hb, by omega, by decide, by decide, fun i0 H1 _ _ hb1 B1 => ?_⟩
  refine ⟨rfl, _, rfl, ?_⟩
  refine ite2 (fun _ => ?_) (fun _ => ?_)
  · refine ⟨_, rfl, by show 2 ≤ sizeLine; decide, fun L nL => ?_⟩
    obtain ⟨_, _, _, hp1, _⟩ := id hb1
    have nLp : L ≠ p := (ne_of_none hp1 nL).symm
    refine ⟨_, rfl, p, 2, n + 1, rfl, hb1.keep (Same.laid nL), by omega, by decide, by decide, fun i H2 i0 i1 hb2 B2 => ?_⟩
    obtain ⟨i, rfl⟩ := Int.eq_ofNat_of_zero_le i0
    have eL : H2 L = some (.lst [.str "good", .str "odd"]) := B2.at nLp upd_same
    have fin : ∀ z : Str, Pl 4 z → spSpoilt K [.ref p, .str z] H2 Q E0 := fun z hz =>
      ⟨p, n + 2, z, 4, rfl, hb2, by omega, hz, by decide, fun y H3 hy hb3 B3 => k y H3 (hy.up (by decide)) (hb3.up (by omega))
        (B1.trans ((But.laid nL).trans (B2.trans B3)))⟩
    match i, i1 with
    | 0, _ => exact ⟨L, _, 0, .str "good", rfl, rfl, SqL.of eL, rfl, fin _ ⟨by decide +kernel, by decide +kernel⟩⟩
    | 1, _ => exact ⟨L, _, 1, .str "odd", rfl, rfl, SqL.of eL, rfl, fin _ ⟨by decide +kernel, by decide +kernel⟩⟩
    | i + 2, h => omega
  · refine ⟨_, rfl, ⟨_, rfl⟩, _, rfl, p, 9, n + 1, rfl, hb1, by omega, by decide, by decide, fun c H2 c0 c1 hb2 B2 => ?_⟩
    refine ⟨_, _, rfl, rfl, ?_⟩
    refine ⟨1 + c, rfl, by omega, by omega, fun D hD => ?_⟩
    obtain ⟨_, _, _, hp2, _⟩ := id hb2
    have nDp : D ≠ p := (ne_of_none hp2 hD).symm
    refine lc_range (lo := 0) (n := (1 + c).toNat) (fun i H' => But p H2 H' ∧ BagAt H' p (n + 2 + i) ∧ ∃ ys : List Str, ys.length = i ∧
        (∀ y ∈ ys, Pl 1 y) ∧ H' D = some (.lst (ys.map V.str)))
      ⟨But.laid hD, hb2.keep (Same.laid hD), [], rfl, (fun _ z => nomatch z), upd_same⟩ ?_ ?_
    · rintro i H3 hi ⟨B3, hb3, ys, hl, hy, eD⟩
      refine ⟨rfl, ?_⟩
      unfold tYes
      refine iteT ?_
      refine ⟨_, rfl, _, rfl, p, 26, n + 2 + i, rfl, hb3, by omega, by decide, by decide, fun j H4 j0 j1 hb4 B4 => ?_⟩
      obtain ⟨j, rfl⟩ := Int.eq_ofNat_of_zero_le j0
      have l26 : small.cps.toList.length = 26 := by decide +kernel
      have hj : j < small.cps.toList.length := by omega
      generalize hc : small.cps.toList[j] = d
      have hd : d < 128 := by
        have all : ∀ d ∈ small.cps.toList, d < 128 := by decide +kernel
        exact hc ▸ all _ (List.getElem_mem hj)
      refine ⟨small, (j : Int), d, rfl, rfl, by decide +kernel, atI_nat (by rw [← hc]; simp [hj]), ?_⟩
      have eD4 := B4.at nDp eD
      refine ⟨_, eD4, ?_, ?_, ?_, ys ++ [⟨#[d]⟩], ?_, ?_, ?_⟩
      · rw [List.length_map, hl]
        have : (10 : Nat) < sizeLine := by decide
        omega
      · exact But.of fun b o hne e => (upd_ne (ne_of_none e hD)).trans ((B3.trans B4).at hne e)
      · obtain ⟨b0, b1, b2, e, r⟩ := hb4
        exact ⟨b0, b1, b2, (upd_ne nDp.symm).trans e, by omega⟩
      · rw [List.length_append, hl]
        rfl
      · intro y hy'
        rcases List.mem_append.mp hy' with q | q
        · exact hy y q
        · obtain rfl : y = _ := by simpa using q
          exact Pl.one hd
      · rw [upd_same]
        simp
    · rintro H3 ⟨B3, hb3, ys, hl, hy, eD⟩
      have hs : (ys.map fun x => x.length).sum ≤ ys.length := sum_one ys hy
      refine ⟨"", D, ys, rfl, rfl, .inl (SqL.of eD), ?_, p, n + 2 + (1 + c).toNat, Txt.join "" ys, ys.length, rfl, hb3, by omega, Pl.join ys hy, by omega, fun y H4 hy4 hb4 B4 => ?_⟩
      · show (ys.map fun x => x.length).sum + ys.length * 0 ≤ 16777216
        omega
      · exact k y H4 (hy4.up (by omega)) (hb4.up (by omega)) (B1.trans (B2.trans (B3.trans B4)))
end
end K1

namespace K1
open PySem PySem.Spec PyProof.Rows L2 Pw
abbrev sKinds : Stmt := top 34
theorem idB_same {K : PySem.W.Frag} {H H' : Hp} {x : V} (h : T2 K H x) (S : Same H H') : idB H' x = idB H x := by
  obtain ⟨t, ty⟩ := h.ty
  cases x with
  | ref a =>
    cases q : H a with
    | none => exact absurd q (Ty.there ty a rfl)
    | some o =>
      have q' := S a o q
      show (match H' a with | some (.tup [v0, v1]) => wholeB v0 0 999 && wholeB v1 1 999 | _ => false) =
        (match H a with | some (.tup [v0, v1]) => wholeB v0 0 999 && wholeB v1 1 999 | _ => false)
      rw [q, q']
  | _ => rfl

section
variable {P : Program} {w : World} {K : PySem.W.Frag} {mg : Str → Option Value} {base : Heap}

theorem ident_read {σ : L2.St} {H : Hp} {Q : VK} {x : V} (h0 : σ[0]? = some (some x)) (th : T2 K H x) (q : Q (.bl (tupNB H x 2)) H) :
    tAndV (tCB (rIsA K) (tCons (tVar 0) (tCons (tC (.ty "tuple")) tNil)))
      (tOp rEq (tCB (fun xs H Q => ∃ p ys, xs = [V.ref p] ∧ (SqL K H p ys ∨ SqT K H p ys) ∧ Q (.int (ys.length : Int)) H) (tCons (tVar 0) tNil)) (tC (.int 2))) σ H Q := by
  obtain ⟨t, ty⟩ := th.ty
  refine ⟨x, h0, x, .ty "tuple", t, .type "tuple", _, rfl, .ty "tuple", ty.q, ty.isTuple, _, rfl, ?_⟩
  cases ty with
  | @tup a xs e =>
    have e1 : tupB H (.ref a) = true := by simp only [tupB, e]
    have e2 : tupNB H (.ref a) 2 = decide ((xs.length : Int) = 2) := by simp only [tupNB, e]
    rw [e1]
    rw [e2] at q
    refine iteT ?_
    refine ⟨.ref a, h0, a, xs, rfl, .inr (SqT.of e), rfl, ?_⟩
    have e3 : decide (V.int (xs.length : Int) = V.int 2) = decide ((xs.length : Int) = 2) :=
      decide_eq_decide.mpr ⟨V.int.inj, congrArg V.int⟩
    show Q (V.bl (decide (V.int (xs.length : Int) = V.int 2))) H
    rw [e3]
    exact q
  | @lst a xs e =>
    have e1 : tupB H (.ref a) = false := by simp only [tupB, e]
    have e2 : tupNB H (.ref a) 2 = false := by simp only [tupNB, e]
    rw [e1]
    rw [e2] at q
    exact iteF q
  | @dct a xs e =>
    have e1 : tupB H (.ref a) = false := by simp only [tupB, e]
    have e2 : tupNB H (.ref a) 2 = false := by simp only [tupNB, e]
    rw [e1]
    rw [e2] at q
    exact iteF q
  | @exc a D t dx fs e ed c =>
    have e1 : tupB H (.ref a) = false := by simp only [tupB, e]; rfl
    have e2 : tupNB H (.ref a) 2 = false := by simp only [tupNB, e]; rfl
    rw [e1]
    rw [e2] at q
    exact iteF q
  | _ => exact iteF q
theorem idB_no {K : PySem.W.Frag} {H : Hp} {x : V} (hb : tupNB H x 2 = false) : idB H x = false := by
  cases x with
  | ref a =>
    cases q : H a with
    | none => simp only [idB, q]
    | some o =>
      cases o with
      | tup xs =>
        refine idB_of q fun z => ?_
        have e2 : tupNB H (.ref a) 2 = decide ((xs.length : Int) = 2) := by simp only [tupNB, q]
        rw [hb, decide_eq_true z] at e2
        cases e2
      | _ => simp only [idB, q]
  | _ => rfl
theorem pair_of {H : Hp} {x : V} (hb : tupNB H x 2 = true) : ∃ a v0 v1, x = .ref a ∧ H a = some (.tup [v0, v1]) := by
  cases x with
  | ref a =>
    cases q : H a with
    | none =>
      have e2 : tupNB H (.ref a) 2 = false := by simp only [tupNB, q]
      rw [hb] at e2
      cases e2
    | some o =>
      cases o with
      | tup xs =>
        have e2 : tupNB H (.ref a) 2 = decide ((xs.length : Int) = 2) := by simp only [tupNB, q]
        rw [hb] at e2
        have hl : (xs.length : Int) = 2 := of_decide_eq_true e2.symm
        match xs, hl with
        | [v0, v1], _ => exact ⟨a, v0, v1, rfl, q⟩
        | [], h => cases h
        | [_], h => cases h
        | _ :: _ :: _ :: _, h =>
          simp only [List.length_cons] at h
          omega
      | _ =>
        have e2 : tupNB H (.ref a) 2 = false := by simp only [tupNB, q]
        rw [hb] at e2
        cases e2
  | _ => cases hb
theorem due_read {σ : L2.St} {H : Hp} {Q : VK} {x : V} (h0 : σ[0]? = some (some x)) (h1 : σ[1]? = some (some (.bl (tupNB H x 2)))) (th : T2 K H x)
    (q : Q (.bl (idB H x)) H) :
    tAndV (tVar 1) (tAndV (tCall (spWhole K) [] E0 (tCons (tOp (rIxT K) (tVar 0) (tC (.int 0))) (tCons (tC (.int 0)) (tCons (tC (.int 999)) tNil))))
      (tCall (spWhole K) [] E0 (tCons (tOp (rIxT K) (tVar 0) (tC (.int 1))) (tCons (tC (.int 1)) (tCons (tC (.int 999)) tNil))))) σ H Q := by
  refine ⟨_, h1, _, rfl, ?_⟩
  cases hb : tupNB H x 2 with
  | false =>
    rw [idB_no (K := K) hb] at q
    exact iteF q
  | true =>
    refine iteT ?_
    obtain ⟨a, v0, v1, rfl, qa⟩ := pair_of hb
    obtain ⟨_, hp⟩ := th.parts a _ rfl qa
    obtain ⟨t0, ty0⟩ := hp v0 (by simp)
    obtain ⟨t1, ty1⟩ := hp v1 (by simp)
    have e3 : idB H (.ref a) = (wholeB v0 0 999 && wholeB v1 1 999) := by simp only [idB, qa]
    refine ⟨_, h0, a, [v0, v1], 0, v0, rfl, rfl, SqT.of qa, rfl, v0, t0, 0, 999, rfl, ty0, _, rfl, ?_⟩
    rw [e3] at q
    cases hw : wholeB v0 0 999 with
    | false =>
      rw [hw] at q
      exact iteF q
    | true =>
      refine iteT ?_
      rw [hw] at q
      exact ⟨_, h0, a, [v0, v1], 1, v1, rfl, rfl, SqT.of qa, rfl, v1, t1, 1, 999, rfl, ty1, q⟩
theorem mark_read {σ : L2.St} {H : Hp} {Q : VK} {x : V} (h0 : σ[0]? = some (some x)) (th : T2 K H x)
    (q : ∀ H', Same H H' → Q (.bl (oneB x ["good", "odd"])) H') :
    tAndV (tCB (rIsA K) (tCons (tVar 0) (tCons (tC (.ty "str")) tNil)))
      (tOp (rIn K false) (tVar 0) (tTup (tCons (tC (.str "good")) (tCons (tC (.str "odd")) tNil)))) σ H Q := by
  obtain ⟨t, ty⟩ := th.ty
  refine ⟨x, h0, x, .ty "str", t, .type "str", _, rfl, .ty "str", ty.q, ty.isStr, _, rfl, ?_⟩
  cases x with
  | str z =>
    refine iteT ?_
    refine ⟨_, h0, by show 2 ≤ sizeLine; decide, fun p hp => ?_⟩
    refine ⟨p, [.str "good", .str "odd"], rfl, .inr (SqT.of upd_same), rfl, rfl, ?_⟩
    exact q _ (Same.laid hp)
  | _ => exact iteF (q H (Same.refl H))

def spKinds (K : PySem.W.Frag) : Sp := fun vs H Q _ => ∃ x, vs = [x] ∧ T2 K H x ∧ ∀ H', Same H H' → Q (.bl true) H'
theorem scKinds : FnScope ["_law_thing", "_law_ident", "_law_due", "_law_mark", "_law_rows", "_law_row"] ["_law_thing"] (defScope sKinds) :=
  ⟨rfl, rfl, rfl, by decide +kernel, rfl, by decide +kernel, by decide +kernel⟩
theorem d_kinds (T : Txt mg) (A : At K mg "_law_kinds_right" sKinds)
    (dw : Def P w K mg base "_law_within" 2 ["_law_thing", "_law_low", "_law_high"] (spWhole K))
    (dis : Def P w K mg base "_law_is" 1 ["_law_found", "_law_due"] spIs)
    (dn : Def P w K mg base "is_name" 1 ["thing"] (spName K)) (dln : Def P w K mg base "_law_is_name" 1 ["_law_thing"] (spName K))
    (dti : Def P w K mg base "is_time" 4 ["thing"] (spRange K 0 9999)) (dte : Def P w K mg base "is_term" 4 ["thing"] (spRange K 0 999))
    (dro : Def P w K mg base "is_room" 4 ["thing"] (spRange K 0 1)) (dma : Def P w K mg base "is_mark" 2 ["thing"] (spMark K))
    (did : Def P w K mg base "is_id" 5 ["thing"] (spId K)) :
    Def P w K mg base "_law_kinds_right" 6 ["_law_thing"] (spKinds K) := by
  refine mkDef A scKinds (fun _ _ _ _ _ _ us hl => match us, hl with | [_], _ => rfl) (fun vs H Q E ⟨x, e, _⟩ => by rw [e]; rfl)
    (fun f cdv A out s H vs Q E hr h => ?_)
  obtain ⟨x, rfl, th, k⟩ := h
  obtain ⟨t, ty⟩ := th.ty
  refine ⟨_, pss_cons (ps_set (i := 1) scKinds.nd rfl (.inl rfl) (pe_and (pe_is T.isinstance (by rfl) (pv 0) T.tuple (by rfl) (Tn := "tuple") (by decide +kernel))
      (pe_one (pe_cmpR op_eq (pe_callB call_len_seq (by rfl) T.len PySem.boot_len (pa_cons (pv 0) pa_nil)) pe_int (nomark _)))))
    (pss_cons (ps_set (i := 2) scKinds.nd rfl (.inl rfl) (pe_and (pv 1) (pe_and (pe_d dw hr (by decide) (by rfl) (pa_cons (pe_ix ix_tup (pv 0) pe_int (fun _ _ => rfl)) (pa_cons pe_int (pa_cons pe_int pa_nil))))
      (pe_one (pe_d dw hr (by decide) (by rfl) (pa_cons (pe_ix ix_tup (pv 0) pe_int (fun _ _ => rfl)) (pa_cons pe_int (pa_cons pe_int pa_nil))))))))
    (pss_cons (ps_set (i := 3) scKinds.nd rfl (.inl rfl) (pe_and (pe_is T.isinstance (by rfl) (pv 0) T.str (by rfl) (Tn := "str") (by decide +kernel))
      (pe_one (pe_cmpR op_in_seq (pv 0) (pe_tup (pa_cons pe_str (pa_cons pe_str pa_nil))) (by rfl)))))
    (pss_cons (ps_set (i := 4) scKinds.nd rfl (.inl rfl) (pe_lst (pa_cons (pe_tup (pa_cons (pe_d dn hr (by decide) (by rfl) (pa_cons (pv 0) pa_nil)) (pa_cons (pe_d dln hr (by decide) (by rfl) (pa_cons (pv 0) pa_nil)) pa_nil)))
      (pa_cons (pe_tup (pa_cons (pe_d dti hr (by decide) (by rfl) (pa_cons (pv 0) pa_nil)) (pa_cons (pe_d dw hr (by decide) (by rfl) (pa_cons (pv 0) (pa_cons pe_int (pa_cons pe_int pa_nil)))) pa_nil))) pa_nil))))
    (pss_cons (ps_set (i := 4) scKinds.nd rfl (.inl rfl) (pe_op op_cat (pv 4) (pe_lst (pa_cons (pe_tup (pa_cons (pe_d dte hr (by decide) (by rfl) (pa_cons (pv 0) pa_nil)) (pa_cons (pe_d dw hr (by decide) (by rfl) (pa_cons (pv 0) (pa_cons pe_int (pa_cons pe_int pa_nil)))) pa_nil)))
      (pa_cons (pe_tup (pa_cons (pe_d dro hr (by decide) (by rfl) (pa_cons (pv 0) pa_nil)) (pa_cons (pe_d dw hr (by decide) (by rfl) (pa_cons (pv 0) (pa_cons pe_int (pa_cons pe_int pa_nil)))) pa_nil))) pa_nil)))))
    (pss_cons (ps_set (i := 4) scKinds.nd rfl (.inl rfl) (pe_op op_cat (pv 4) (pe_lst (pa_cons (pe_tup (pa_cons (pe_d dma hr (by decide) (by rfl) (pa_cons (pv 0) pa_nil)) (pa_cons (pv 3) pa_nil)))
      (pa_cons (pe_tup (pa_cons (pe_d did hr (by decide) (by rfl) (pa_cons (pv 0) pa_nil)) (pa_cons (pv 2) pa_nil))) pa_nil)))))
    (pss_one (ps_ret (pe_cmpR (op_eqD hr.units) (pe_lc (own := [("_law_row", 5)]) (g := gName 5) rfl scKinds.nd (pi_list (pv 4))
        (blkOk_by (own := [("_law_row", 5)]) (N := ["_law_thing", "_law_ident", "_law_due", "_law_mark", "_law_rows", "_law_row"]) (sc := defScope sKinds) (by decide +kernel))
        (fun _ _ _ _ _ => pg_name (i := 5) scKinds.nd rfl (Or.inl rfl))
        (fun _ _ _ _ _ => pts_one (pt_not (pt_val (pe_d dis hr (by decide) (by rfl) (pa_cons (pe_ix (r := rIxT K) ix_tup (pv 5) pe_int (fun _ _ => rfl)) (pa_cons (pe_ix (r := rIxT K) ix_tup (pv 5) pe_int (fun _ _ => rfl)) pa_nil))))))
        (fun _ _ _ _ _ => pv 5)) (pe_lst pa_nil) (nomark _))))))))), ?_⟩
  refine ident_read rfl th ?_
  refine due_read rfl rfl th ?_
  refine mark_read rfl th fun H1 S1 => ?_
  have th1 := th.keep S1
  obtain ⟨t1, ty1⟩ := th1.ty
  -- the first two rows
  refine ⟨_, rfl, x, t1, rfl, ty1, th.short, fun H2 S2 => ?_⟩
  have ty2 := ty1.same S2
  refine ⟨_, rfl, x, t1, rfl, ty2, th.short, fun H3 S3 => ?_⟩
  have ty3 := ty2.same S3
  refine ⟨by show 2 ≤ sizeLine; decide, fun r1 n1 => ?_⟩
  generalize q4 : upd H3 r1 (.tup [.bl (nameB x), .bl (nameB x)]) = H4
  have S4 : Same H3 H4 := q4 ▸ Same.laid n1
  have e1 : H4 r1 = some (.tup [.bl (nameB x), .bl (nameB x)]) := q4 ▸ upd_same
  have ty4 := ty3.same S4
  refine ⟨_, rfl, x, t1, rfl, ty4, _, rfl, x, t1, 0, 9999, rfl, ty4, ?_⟩
  refine ⟨by show 2 ≤ sizeLine; decide, fun r2 n2 => ?_⟩
  generalize q5 : upd H4 r2 (.tup [.bl (wholeB x 0 9999), .bl (wholeB x 0 9999)]) = H5
  have S5 : Same H4 H5 := q5 ▸ Same.laid n2
  have e2 : H5 r2 = some (.tup [.bl (wholeB x 0 9999), .bl (wholeB x 0 9999)]) := q5 ▸ upd_same
  refine ⟨by show 2 ≤ sizeLine; decide, fun L1 nL1 => ?_⟩
  generalize q6 : upd H5 L1 (.lst [.ref r1, .ref r2]) = H6
  have S6 : Same H5 H6 := q6 ▸ Same.laid nL1
  have eL1 : H6 L1 = some (.lst [.ref r1, .ref r2]) := q6 ▸ upd_same
  have ty6 := ty4.same (S5.trans S6)
  -- two more
  refine ⟨_, rfl, _, rfl, x, t1, rfl, ty6, _, rfl, x, t1, 0, 999, rfl, ty6, ?_⟩
  refine ⟨by show 2 ≤ sizeLine; decide, fun r3 n3 => ?_⟩
  generalize q7 : upd H6 r3 (.tup [.bl (wholeB x 0 999), .bl (wholeB x 0 999)]) = H7
  have S7 : Same H6 H7 := q7 ▸ Same.laid n3
  have e3 : H7 r3 = some (.tup [.bl (wholeB x 0 999), .bl (wholeB x 0 999)]) := q7 ▸ upd_same
  have ty7 := ty6.same S7
  refine ⟨_, rfl, x, t1, rfl, ty7, _, rfl, x, t1, 0, 1, rfl, ty7, ?_⟩
  refine ⟨by show 2 ≤ sizeLine; decide, fun r4 n4 => ?_⟩
  generalize q8 : upd H7 r4 (.tup [.bl (wholeB x 0 1), .bl (wholeB x 0 1)]) = H8
  have S8 : Same H7 H8 := q8 ▸ Same.laid n4
  have e4 : H8 r4 = some (.tup [.bl (wholeB x 0 1), .bl (wholeB x 0 1)]) := q8 ▸ upd_same
  refine ⟨by show 2 ≤ sizeLine; decide, fun L2 nL2 => ?_⟩
  generalize q9 : upd H8 L2 (.lst [.ref r3, .ref r4]) = H9
  have S9 : Same H8 H9 := q9 ▸ Same.laid nL2
  have eL2 : H9 L2 = some (.lst [.ref r3, .ref r4]) := q9 ▸ upd_same
  have S69 : Same H6 H9 := S7.trans (S8.trans S9)
  refine ⟨L1, L2, _, _, rfl, rfl, S69 _ _ eL1, eL2, by show 4 ≤ sizeLine; decide, fun L3 nL3 => ?_⟩
  generalize q10 : upd H9 L3 (.lst ([V.ref r1, .ref r2] ++ [.ref r3, .ref r4])) = H10
  have S10 : Same H9 H10 := q10 ▸ Same.laid nL3
  have eL3 : H10 L3 = some (.lst [.ref r1, .ref r2, .ref r3, .ref r4]) := q10 ▸ upd_same
  have ty10 := ty7.same (S8.trans (S9.trans S10))
  -- the last two
  refine ⟨_, rfl, _, rfl, x, t1, rfl, ty10, fun H11 S11 => ?_⟩
  refine ⟨_, rfl, by show 2 ≤ sizeLine; decide, fun r5 n5 => ?_⟩
  generalize q12 : upd H11 r5 (.tup [.bl (oneB x ["good", "odd"]), .bl (oneB x ["good", "odd"])]) = H12
  have S12 : Same H11 H12 := q12 ▸ Same.laid n5
  have e5 : H12 r5 = some (.tup [.bl (oneB x ["good", "odd"]), .bl (oneB x ["good", "odd"])]) := q12 ▸ upd_same
  have S0_12 : Same H H12 := S1.trans (S2.trans (S3.trans (S4.trans (S5.trans (S6.trans (S69.trans (S10.trans (S11.trans S12))))))))
  refine ⟨_, rfl, x, rfl, th.keep S0_12, ?_⟩
  have eI : idB H12 x = idB H x := idB_same th S0_12
  refine ⟨_, rfl, by show 2 ≤ sizeLine; decide, fun r6 n6 => ?_⟩
  rw [eI]
  generalize q13 : upd H12 r6 (.tup [.bl (idB H x), .bl (idB H x)]) = H13
  have S13 : Same H12 H13 := q13 ▸ Same.laid n6
  have e6 : H13 r6 = some (.tup [.bl (idB H x), .bl (idB H x)]) := q13 ▸ upd_same
  refine ⟨by show 2 ≤ sizeLine; decide, fun L4 nL4 => ?_⟩
  generalize q14 : upd H13 L4 (.lst [.ref r5, .ref r6]) = H14
  have S14 : Same H13 H14 := q14 ▸ Same.laid nL4
  have eL4 : H14 L4 = some (.lst [.ref r5, .ref r6]) := q14 ▸ upd_same
  have S10_14 : Same H10 H14 := S11.trans (S12.trans (S13.trans S14))
  refine ⟨L3, L4, _, _, rfl, rfl, S10_14 _ _ eL3, eL4, by show 6 ≤ sizeLine; decide, fun L5 nL5 => ?_⟩
  generalize q15 : upd H14 L5 (.lst ([V.ref r1, .ref r2, .ref r3, .ref r4] ++ [.ref r5, .ref r6])) = H15
  have S15 : Same H14 H15 := q15 ▸ Same.laid nL5
  have eL5 : H15 L5 = some (.lst [.ref r1, .ref r2, .ref r3, .ref r4, .ref r5, .ref r6]) := q15 ▸ upd_same
  have S4_15 : Same H4 H15 := S5.trans (S6.trans (S69.trans (S10.trans (S10_14.trans S15))))
  have f1 := S4_15 _ _ e1
  have f2 := (S6.trans (S69.trans (S10.trans (S10_14.trans S15)))) _ _ e2
  have f3 := (S8.trans (S9.trans (S10.trans (S10_14.trans S15)))) _ _ e3
  have f4 := (S9.trans (S10.trans (S10_14.trans S15))) _ _ e4
  have f5 := (S13.trans (S14.trans S15)) _ _ e5
  have f6 := (S14.trans S15) _ _ e6
  have S0_15 : Same H H15 := S0_12.trans (S13.trans (S14.trans S15))
  have rows : ∀ v ∈ [V.ref r1, .ref r2, .ref r3, .ref r4, .ref r5, .ref r6], ∃ r b, v = .ref r ∧ H15 r = some (.tup [.bl b, .bl b]) := by
    simp only [List.forall_mem_cons]
    exact ⟨⟨_, _, rfl, f1⟩, ⟨_, _, rfl, f2⟩, ⟨_, _, rfl, f3⟩, ⟨_, _, rfl, f4⟩, ⟨_, _, rfl, f5⟩, ⟨_, _, rfl, f6⟩, fun _ z => nomatch z⟩
  -- none of them fails
  refine ⟨_, rfl, L5, rfl, ⟨_, SqL.of eL5⟩, fun D hD => ?_⟩
  refine lc_list (K := K) (a := L5) (xs := [V.ref r1, .ref r2, .ref r3, .ref r4, .ref r5, .ref r6]) (fun i H' => Same H15 H' ∧ H' D = some (.lst []))
    ⟨Same.laid hD, upd_same⟩ (fun i H' _ ⟨S, _⟩ => SqL.of (S _ _ eL5)) ?_ ?_
  · rintro i v H' hi ⟨S, eD⟩
    obtain ⟨r, b, rfl, hr'⟩ := rows v (List.mem_of_getElem? hi)
    have hr2 := S _ _ hr'
    refine ⟨rfl, ?_⟩
    refine ⟨_, rfl, r, _, 0, .bl b, rfl, rfl, SqT.of hr2, rfl, _, rfl, r, _, 1, .bl b, rfl, rfl, SqT.of hr2, rfl, b, rfl, _, rfl, ?_⟩
    refine iteF ?_
    exact ⟨S, eD⟩
  · rintro H' ⟨S, eD⟩
    refine ⟨by show 0 ≤ sizeLine; decide, fun q hq => ?_⟩
    exact eq_nil (ys := []) ((upd_ne (ne_of_none eD hq)).trans eD) upd_same (fun _ z => nomatch z) (k _ (S0_15.trans (S.trans (Same.laid hq))))
end
end K1

namespace K1
open PySem PySem.Spec PyProof.Rows L2 Pw
abbrev sRight : Stmt := top 35
abbrev sLaw : Stmt := top 36

theorem shwl {K : PySem.W.Frag} {H : Hp} {D N : Nat} : ∀ xs : List V, (∀ v ∈ xs, ∃ d n t, Shw K H v d n t ∧ d ≤ D ∧ n ≤ N) →
    ∃ d n ts, ShwL K H xs d n ts ∧ d ≤ D ∧ n ≤ xs.length * (N + 2)
  | [], _ => ⟨0, 0, [], .nil, Nat.zero_le _, Nat.zero_le _⟩
  | v :: r, h => by
    obtain ⟨d, n, t, s, h1, h2⟩ := h v List.mem_cons_self
    obtain ⟨e, m, ts, ss, h3, h4⟩ := shwl r fun z hz => h z (List.mem_cons_of_mem _ hz)
    refine ⟨_, _, _, .cons s ss, Nat.max_le.mpr ⟨h1, h3⟩, ?_⟩
    rw [List.length_cons, Nat.succ_mul]
    omega
structure Item (K : PySem.W.Frag) (H : Hp) (p : Addr) (v : V) : Prop where
  sh : ∃ d n t, Shw K (wo H p) v d n t ∧ d ≤ 5 ∧ n ≤ 70000
  t2 : T2 K (wo H p) v
theorem Item.keep {K : PySem.W.Frag} {H H' : Hp} {p : Addr} {v : V} (h : Item K H p v) (S : But p H H') : Item K H' p v := by
  obtain ⟨d, n, t, s, l⟩ := h.sh
  exact ⟨⟨d, n, t, Shw.same S s, l⟩, h.t2.keep S⟩
theorem Thing.item {K : PySem.W.Frag} {H : Hp} {p : Addr} {v : V} (h : Thing K H p v) : Item K H p v := by
  obtain ⟨d, n, t, s, h1, h2⟩ := h.sh
  exact ⟨⟨d, n, t, s, by omega, by omega⟩, h.t2⟩
theorem it_tup {K : PySem.W.Frag} {H : Hp} {p a : Addr} {xs : List V} (e : H a = some (.tup xs)) (na : a ≠ p) (hl : xs.length ≤ 3)
    (h : ∀ y ∈ xs, Thing K H p y) : Item K H p (.ref a) := by
  obtain ⟨d, n, ts, s, h1, h2⟩ := shwl (K := K) (H := wo H p) (D := 3) (N := 20000) xs fun v hv => (h v hv).sh
  have w := wo_of na e
  have h3 : xs.length * (20000 + 2) ≤ 3 * (20000 + 2) := Nat.mul_le_mul_right _ hl
  exact ⟨⟨_, _, _, .tup w s, by omega, by omega⟩, t2_tup w (by omega) fun y hy => (h y hy).t2.ty⟩
theorem it_lst {K : PySem.W.Frag} {H : Hp} {p a : Addr} {xs : List V} (e : H a = some (.lst xs)) (na : a ≠ p) (hl : xs.length ≤ 3)
    (h : ∀ y ∈ xs, Thing K H p y) : Item K H p (.ref a) := by
  obtain ⟨d, n, ts, s, h1, h2⟩ := shwl (K := K) (H := wo H p) (D := 3) (N := 20000) xs fun v hv => (h v hv).sh
  have w := wo_of na e
  have h3 : xs.length * (20000 + 2) ≤ 3 * (20000 + 2) := Nat.mul_le_mul_right _ hl
  exact ⟨⟨_, _, _, .lst w s, by omega, by omega⟩, t2_lst w⟩

section
variable {P : Program} {w : World} {K : PySem.W.Frag} {mg : Str → Option Value} {base : Heap}
/-- an exception is made as a value -/
theorem mk_read {p C : Addr} {n : Nat} {x0 nm : Str} {v : V} {σ : L2.St} {H : Hp} {Q : VK} (oe : OexC K C) (R : ExR K C nm) (Ty0 : ExT K C)
    (nF : PySem.W.findIn K (.ref C) "found" = some none) (l1 : (clsHead nm).length ≤ 100) (l2 : (reprText x0).length ≤ 1000)
    (hb : BagAt H p n) (k : ∀ u H', Thing K H' p u → Same H H' → Q u H') : tMkq C (spX K x0) [] (tCons (tC v) tNil) σ H Q := by
  refine ⟨by show 1 ≤ 1000; decide, fun t0 a n0 na h0a => ?_⟩
  refine ⟨a, C, t0, v, rfl, oe, upd_same, nF, fun t2 dx n2 h2a nd hda hd2 => ⟨rfl, ?_⟩⟩
  obtain ⟨_, _, _, hp, _⟩ := id hb
  generalize q1 : upd (upd H t0 (.tup [v])) a (exq a C none t0) = H1 at n2 nd ⊢
  have S1 : Same H H1 := by
    have S0 : Same H (upd H t0 (.tup [v])) := Same.laid n0
    have na' : upd H t0 (.tup [v]) a = none := (upd_ne h0a.symm).trans na
    exact q1 ▸ S0.trans (Same.laid na')
  generalize q2 : upd (upd (upd (upd H1 t2 (.tup [.str x0])) a (exq a C none t2)) dx (exd dx [("found", v)])) a (exq a C (some dx) t2) = H2
  have ea : H2 a = some (exq a C (some dx) t2) := q2 ▸ upd_same
  have et : H2 t2 = some (.tup [.str x0]) := by
    rw [← q2, upd_ne h2a, upd_ne hd2.symm, upd_ne h2a, upd_same]
  have ed : H2 dx = some (exd dx [("found", v)]) := by
    rw [← q2, upd_ne hda, upd_same]
  have S2 : Same H H2 := fun b o e => by
    have e1 := S1 b o e
    have b1 : b ≠ a := ne_of_none e na
    have b2 : b ≠ t2 := ne_of_none e1 n2
    have b3 : b ≠ dx := ne_of_none e1 nd
    rw [← q2, upd_ne b1, upd_ne b3, upd_ne b1, upd_ne b2]
    exact e1
  have pa : a ≠ p := (ne_of_none hp na).symm
  have pt : t2 ≠ p := (ne_of_none (S1 _ _ hp) n2).symm
  have pd : dx ≠ p := (ne_of_none (S1 _ _ hp) nd).symm
  refine k (.ref a) H2 ?_ S2
  have wa := wo_of pa ea
  refine ⟨⟨_, _, _, .exc wa (wo_of pt et) R l1 l2, by decide, by omega⟩, ⟨_, .exc wa (wo_of pd ed) Ty0⟩, (fun s z => nomatch z), fun b ys z e => ?_⟩
  cases z
  exact absurd (Option.some.inj (wa.symm.trans e)) exq_tup

def spRight (K : PySem.W.Frag) : Sp := fun vs H Q _ => ∃ p, vs = [.ref p] ∧ BagAt H p 0 ∧ ∀ H', But p H H' → Q (.bl true) H'
theorem scRight : FnScope ["_law_bag_here", "_law_odd", "_law_number_here", "_law_other", "_law_low", "_law_high", "_law_some", "_law_kept", "_law_turn", "_law_thing"]
    ["_law_bag_here"] (defScope sRight) := ⟨rfl, rfl, rfl, by decide +kernel, rfl, by decide +kernel, by decide +kernel⟩
/-- the defs that it calls -/
structure Ds (P : Program) (w : World) (K : PySem.W.Frag) (mg : Str → Option Value) (base : Heap) : Prop where
  take : Def P w K mg base "_law_take" 1 ["_law_bag_here", "_law_many"] (spTake K)
  any : Def P w K mg base "_law_any" 2 ["_law_bag_here"] (spAny K)
  numb : Def P w K mg base "_law_number" 2 ["_law_bag_here"] (spNumb K)
  named : Def P w K mg base "_law_named" 3 ["_law_bag_here"] (spNamed K)
  is : Def P w K mg base "_law_is" 1 ["_law_found", "_law_due"] spIs
  whole : Def P w K mg base "is_whole" 3 ["thing", "low", "high"] (spWhole K)
  within : Def P w K mg base "_law_within" 2 ["_law_thing", "_law_low", "_law_high"] (spWhole K)
  kinds : Def P w K mg base "_law_kinds_right" 6 ["_law_thing"] (spKinds K)
theorem d_right {CB fB CM CT : Addr} (T : Txt mg) (A : At K mg "_law_right" sRight) (D : Ds P w K mg base) (B : Base1 K mg CB fB)
    (EM : Exc K mg "NoMark" "NoMark.__init__" sNM CM) (ET : Exc K mg "NoTime" "NoTime.__init__" sNT CT) :
    DefG P w K mg base "_law_right" 8 ["_law_bag_here"] (spRight K) := by
  obtain ⟨fM, fdM, iM, tM, FM⟩ := EM.init
  obtain ⟨fT, fdT, iT, tT, FT⟩ := ET.init
  have bM := FM.binds (ps := ["self", "found"]) fun _ _ _ _ _ _ us hl => match us, hl with | [_, _], _ => rfl
  have bT := FT.binds (ps := ["self", "found"]) fun _ _ _ _ _ _ us hl => match us, hl with | [_, _], _ => rfl
  have GM : FnOk P w K mg base CX0 2 fM fdM ["self", "found"] (spX K "this is no mark") := ok_nm B FM
  have GT : FnOk P w K mg base CX0 2 fT fdT ["self", "found"] (spX K "this is no time that will do") := ok_nt B FT
  obtain ⟨k1, c1⟩ := T.most_time
  obtain ⟨k2, c2⟩ := T.most_level
  obtain ⟨k3, c3⟩ := T.most_term
  refine mkDefG A scRight (fun _ _ _ _ _ _ us hl => match us, hl with | [_], _ => rfl) (fun vs H Q E ⟨p, e, _⟩ => by rw [e]; rfl)
    (fun f cdv A out s H vs Q E gd hr h => ?_)
  obtain ⟨p, rfl, hb, k⟩ := h
  have hr3 : Room 3 _ := hr.mono (by decide)
  have hu := hr.units
  refine' ⟨_, pss_cons ?s1 (pss_cons ?s2 (pss_cons ?s3 (pss_cons ?s4 (pss_cons ?s5 (pss_cons ?s6 (pss_cons ?s7 (pss_cons ?s8 (pss_one ?s9)))))))), ?rd⟩
  case s1 =>
    exact ps_set (i := 1) scRight.nd rfl (.inl rfl) (pe_ix ix_list (pe_lst (pa_cons (pe_d D.any hr (by decide) (by rfl) (pa_cons (pv 0) pa_nil))
      (pa_cons (pe_mkq EM.oex iM tM GM hr3 bM .nil pass0 (by rfl) EM.mgC (pa_cons pe_str pa_nil))
      (pa_cons (pe_mkq ET.oex iT tT GT hr3 bT .nil pass0 (by rfl) ET.mgC (pa_cons pe_int pa_nil)) pa_nil))))
      (pe_d D.take hr (by decide) (by rfl) (pa_cons (pv 0) (pa_cons pe_int pa_nil))) (fun _ _ => rfl))
  case s2 =>
    exact ps_par (i := 2) (j := 3) (by rfl) scRight.nd rfl rfl (by decide) rfl rfl (pa_cons (pe_d D.numb hr (by decide) (by rfl) (pa_cons (pv 0) pa_nil))
      (pa_cons (pe_d D.numb hr (by decide) (by rfl) (pa_cons (pv 0) pa_nil)) pa_nil)) (by rfl)
  case s3 =>
    exact ps_set (i := 4) scRight.nd rfl (.inl rfl) (pe_op op_sub (pe_op op_add (pe_ix ix_list (pe_lst (pa_cons (pv 2) (pa_cons (pv 3) pa_nil)))
      (pe_d D.take hr (by decide) (by rfl) (pa_cons (pv 0) (pa_cons pe_int pa_nil))) (fun _ _ => rfl)) (pe_d D.take hr (by decide) (by rfl) (pa_cons (pv 0) (pa_cons pe_int pa_nil)))) pe_int)
  case s4 =>
    exact ps_set (i := 5) scRight.nd rfl (.inl rfl) (pe_op op_sub (pe_op op_add (pe_ix ix_list (pe_lst (pa_cons (pv 2) (pa_cons (pv 3) pa_nil)))
      (pe_d D.take hr (by decide) (by rfl) (pa_cons (pv 0) (pa_cons pe_int pa_nil))) (fun _ _ => rfl)) (pe_d D.take hr (by decide) (by rfl) (pa_cons (pv 0) (pa_cons pe_int pa_nil)))) pe_int)
  case s5 =>
    exact ps_set (i := 6) scRight.nd rfl (.inl rfl) (pe_lst (pa_cons (pv 2) (pa_cons (pe_d D.named hr (by decide) (by rfl) (pa_cons (pv 0) pa_nil))
      (pa_cons (pe_tup (pa_cons (pv 2) (pa_cons (pv 3) pa_nil))) (pa_cons (pe_tup (pa_cons (pv 3) (pa_cons (pv 2) (pa_cons pe_int pa_nil))))
      (pa_cons (pe_lst (pa_cons (pv 2) (pa_cons (pv 3) pa_nil))) (pa_cons (pv 1) (pa_cons (pe_tup (pa_cons (pv 1) (pa_cons (pv 2) pa_nil))) pa_nil))))))))
  case s6 =>
    exact ps_set (i := 6) scRight.nd rfl (.inl rfl) (pe_op op_cat (pv 6) (pe_lst (pa_cons (pe_tup (pa_cons pe_int (pa_cons (pv 1) pa_nil)))
      (pa_cons (pe_tup (pa_cons pe_int pa_nil)) (pa_cons pe_bl (pa_cons pe_bl (pa_cons pe_str (pa_cons (pe_tup (pa_cons pe_bl (pa_cons pe_int pa_nil)))
      (pa_cons (pe_tup (pa_cons pe_int (pa_cons pe_int pa_nil))) (pa_cons (pe_tup (pa_cons pe_int (pa_cons pe_int pa_nil)))
      (pa_cons (pe_tup (pa_cons pe_int (pa_cons pe_int pa_nil))) pa_nil)))))))))))
  case s7 =>
    exact ps_set (i := 7) scRight.nd rfl (.inl rfl) (pe_callB (call_repr gd hu) (by rfl) T.repr PyProof.Rows.boot_repr (pa_cons (pv 6) pa_nil))
  case s8 =>
    exact ps_for PassesOwn.never rfl (pi_range1 (by rfl) T.range (pa_cons pe_int pa_nil)) (pg_name (i := 8) scRight.nd rfl (.inl rfl))
      (pss_cons (ps_for PassesOwn.never rfl (pi_list (pe_lst (pa_cons (pv 2) (pa_cons (pv 1) pa_nil)))) (pg_name (i := 9) scRight.nd rfl (.inl rfl))
        (pss_one (ps_if (pt_not (pt_val (pe_d D.is hr (by decide) (by rfl) (pa_cons (pe_d D.whole hr (by decide) (by rfl) (pa_cons (pv 9) (pa_cons (pv 4) (pa_cons (pv 5) pa_nil))))
          (pa_cons (pe_d D.within hr (by decide) (by rfl) (pa_cons (pv 9) (pa_cons (pv 4) (pa_cons (pv 5) pa_nil)))) pa_nil))))) (pss_one (ps_ret pe_bl)) pss_nil)))
      (pss_one (ps_if (pt_cmpR (op_neD hu) (pe_lc (own := [("_law_thing", 9)]) (g := gName 9) rfl scRight.nd (pi_list (pv 6))
          (blkOk_by (own := [("_law_thing", 9)]) (N := ["_law_bag_here", "_law_odd", "_law_number_here", "_law_other", "_law_low", "_law_high", "_law_some", "_law_kept", "_law_turn", "_law_thing"]) (sc := defScope sRight) (by decide +kernel))
          (fun _ _ _ _ _ => pg_name (i := 9) scRight.nd rfl (Or.inl rfl))
          (fun _ _ _ _ _ => pts_one (pt_not (pt_val (pe_d D.kinds hr (by decide) (by rfl) (pa_cons (pv 9) pa_nil)))))
          (fun _ _ _ _ _ => pv 9)) (pe_lst pa_nil) (nomark _)) (pss_one (ps_ret pe_bl)) pss_nil)))
  case s9 =>
    exact ps_ret (pe_and (pe_cmpR op_eq (pe_callB (call_repr gd hu) (by rfl) T.repr PyProof.Rows.boot_repr (pa_cons (pv 6) pa_nil)) (pv 7) (nomark _))
      (pe_one (pe_cmpR (op_eqD hu) (pe_lst (pa_cons (pe_glob (v := .int 9999) (by rfl) c1 ⟨_, rfl⟩) (pa_cons (pe_glob (v := .int 63) (by rfl) c2 ⟨_, rfl⟩) (pa_cons (pe_glob (v := .int 999) (by rfl) c3 ⟨_, rfl⟩) pa_nil))))
        (pe_lst (pa_cons pe_int (pa_cons pe_int (pa_cons pe_int pa_nil)))) (nomark _))))
  -- odd
  refine ⟨_, rfl, p, 0, rfl, hb, by decide, fun v0 H1 th0 hb1 B1 => ?_⟩
  refine mk_read (nm := "NoMark") EM.oex EM.rep EM.typ EM.nF (by decide +kernel) (by decide +kernel) hb1 fun v1 H2 th1 S2 => ?_
  refine mk_read (nm := "NoTime") ET.oex ET.rep ET.typ ET.nF (by decide +kernel) (by decide +kernel) (hb1.keep S2) fun v2 H3 th2 S3 => ?_
  refine ⟨by show 3 ≤ sizeLine; decide, fun L nL => ?_⟩
  have hb3 : BagAt H3 p 1 := (hb1.keep S2).keep S3
  obtain ⟨_, _, _, hp3, _⟩ := id hb3
  have nLp : L ≠ p := (ne_of_none hp3 nL).symm
  generalize hxs : ([v0, v1, v2] : List V) = xs
  generalize q4 : upd H3 L (.lst xs) = H4
  have S4 : Same H3 H4 := q4 ▸ Same.laid nL
  have eL : H4 L = some (.lst xs) := q4 ▸ upd_same
  have key : ∀ v ∈ xs, Thing K H4 p v := by
    rw [← hxs]
    simp only [List.forall_mem_cons]
    exact ⟨th0.keep (Pw.Same.but (S2.trans (S3.trans S4))), th1.keep (Pw.Same.but (S3.trans S4)), th2.keep (Pw.Same.but S4), fun _ z => nomatch z⟩
  refine ⟨_, rfl, p, 3, 1, rfl, hb3.keep S4, by decide, by decide, by decide, fun j H5 j0 j1 hb5 B5 => ?_⟩
  obtain ⟨j, rfl⟩ := Int.eq_ofNat_of_zero_le j0
  have hj : j < xs.length := by rw [← hxs]; show j < 3; omega
  generalize ho : xs[j] = odd
  have tho : Thing K H5 p odd := ho ▸ (key _ (List.getElem_mem hj)).keep B5
  refine ⟨L, xs, (j : Int), odd, rfl, rfl, SqL.of (B5.at nLp eL), atI_nat (by rw [← ho]; simp [hj]), ?_⟩
  have B05 : But p H H5 := B1.trans ((Pw.Same.but (S2.trans (S3.trans S4))).trans B5)
  -- two numbers
  refine ⟨_, rfl, p, 2, rfl, hb5, by decide, fun x H6 xl xh hb6 B6 => ?_⟩
  refine ⟨_, rfl, p, 6, rfl, hb6, by decide, fun y H7 yl yh hb7 B7 => ?_⟩
  refine ⟨_, _, rfl, ?_⟩
  have two : ∀ a : Nat, a < 2 → ∃ z, [V.int x, V.int y][a]? = some (.int z) := fun a ha =>
    match a, ha with
    | 0, _ => ⟨_, rfl⟩
    | 1, _ => ⟨_, rfl⟩
    | a + 2, h => absurd h (by omega)
  obtain ⟨_, _, _, hp7, _⟩ := id hb7
  -- low
  refine ⟨_, rfl, _, rfl, by show 2 ≤ sizeLine; decide, fun La nLa => ?_⟩
  have nLap : La ≠ p := (ne_of_none hp7 nLa).symm
  refine ⟨_, rfl, p, 2, 10, rfl, hb7.keep (Same.laid nLa), by decide, by decide, by decide, fun a H8 a0 a1 hb8 B8 => ?_⟩
  obtain ⟨a, rfl⟩ := Int.eq_ofNat_of_zero_le a0
  obtain ⟨za, hza⟩ := two a (by omega)
  refine ⟨La, _, (a : Int), _, rfl, rfl, SqL.of (B8.at nLap upd_same), atI_nat hza, ?_⟩
  refine ⟨_, rfl, p, 3, 11, rfl, hb8, by decide, by decide, by decide, fun a' H9 _ _ hb9 B9 => ?_⟩
  refine ⟨_, _, rfl, rfl, _, _, rfl, rfl, ?_⟩
  obtain ⟨lo, hlo⟩ : ∃ lo, za + a' - 1 = lo := ⟨_, rfl⟩
  obtain ⟨_, _, _, hp9, _⟩ := id hb9
  -- high
  refine ⟨_, rfl, _, rfl, by show 2 ≤ sizeLine; decide, fun Lb nLb => ?_⟩
  have nLbp : Lb ≠ p := (ne_of_none hp9 nLb).symm
  refine ⟨_, rfl, p, 2, 12, rfl, hb9.keep (Same.laid nLb), by decide, by decide, by decide, fun b H10 b0 b1 hb10 B10 => ?_⟩
  obtain ⟨b, rfl⟩ := Int.eq_ofNat_of_zero_le b0
  obtain ⟨zb, hzb⟩ := two b (by omega)
  refine ⟨Lb, _, (b : Int), _, rfl, rfl, SqL.of (B10.at nLbp upd_same), atI_nat hzb, ?_⟩
  refine ⟨_, rfl, p, 3, 13, rfl, hb10, by decide, by decide, by decide, fun b' H11 _ _ hb11 B11 => ?_⟩
  refine ⟨_, _, rfl, rfl, _, _, rfl, rfl, ?_⟩
  obtain ⟨hi, hhi⟩ : ∃ hi, zb + b' - 1 = hi := ⟨_, rfl⟩
  have B5_11 : But p H5 H11 := B6.trans (B7.trans ((But.laid nLa).trans (B8.trans (B9.trans ((But.laid nLb).trans (B10.trans B11))))))
  -- some
  refine ⟨_, rfl, _, rfl, p, 14, rfl, hb11, by decide, fun name H12 hnm hb12 B12 => ?_⟩
  have tho12 : Thing K H12 p odd := tho.keep (B5_11.trans B12)
  have B0_12 : But p H H12 := B05.trans (B5_11.trans B12)
  obtain ⟨_, _, _, hp12, _⟩ := id hb12
  have thx : ∀ {G : Hp}, Thing K G p (.int x) := fun {G} => th_int _ (ints_small (by omega) (by omega))
  have thy : ∀ {G : Hp}, Thing K G p (.int y) := fun {G} => th_int _ (ints_small (by omega) (by omega))
  have thn : ∀ {G : Hp}, Thing K G p (.str name) := fun {G} => th_str _ (fun z e => by cases e; exact ⟨Nat.le_trans hnm.1 (by decide), hnm.2⟩)
  have thk : ∀ {G : Hp} (i : Int), i.natAbs.log2 < 1920 → Thing K G p (.int i) := fun {G} i h => th_int i h
  refine ⟨_, rfl, _, rfl, by show 2 ≤ sizeLine; decide, fun a1 n1 => ?_⟩
  generalize q13 : upd H12 a1 (.tup [.int x, .int y]) = H13
  have S13 : Same H12 H13 := q13 ▸ Same.laid n1
  have e1 : H13 a1 = some (.tup [.int x, .int y]) := q13 ▸ upd_same
  have p1 := (ne_of_none hp12 n1).symm
  have hp13 := S13 _ _ hp12
  refine ⟨_, rfl, _, rfl, by show 3 ≤ sizeLine; decide, fun a2 n2 => ?_⟩
  generalize q14 : upd H13 a2 (.tup [.int y, .int x, .int 1]) = H14
  have S14 : Same H13 H14 := q14 ▸ Same.laid n2
  have e2 : H14 a2 = some (.tup [.int y, .int x, .int 1]) := q14 ▸ upd_same
  have p2 := (ne_of_none hp13 n2).symm
  have hp14 := S14 _ _ hp13
  refine ⟨_, rfl, _, rfl, by show 2 ≤ sizeLine; decide, fun a3 n3 => ?_⟩
  generalize q15 : upd H14 a3 (.lst [.int x, .int y]) = H15
  have S15 : Same H14 H15 := q15 ▸ Same.laid n3
  have e3 : H15 a3 = some (.lst [.int x, .int y]) := q15 ▸ upd_same
  have p3 := (ne_of_none hp14 n3).symm
  have hp15 := S15 _ _ hp14
  refine ⟨_, rfl, _, rfl, _, rfl, by show 2 ≤ sizeLine; decide, fun a4 n4 => ?_⟩
  generalize q16 : upd H15 a4 (.tup [odd, .int x]) = H16
  have S16 : Same H15 H16 := q16 ▸ Same.laid n4
  have e4 : H16 a4 = some (.tup [odd, .int x]) := q16 ▸ upd_same
  have p4 := (ne_of_none hp15 n4).symm
  have hp16 := S16 _ _ hp15
  refine ⟨by show 7 ≤ sizeLine; decide, fun M1 nM1 => ?_⟩
  generalize q17 : upd H16 M1 (.lst [.int x, .str name, .ref a1, .ref a2, .ref a3, odd, .ref a4]) = H17
  have S17 : Same H16 H17 := q17 ▸ Same.laid nM1
  have eM1 : H17 M1 = some (.lst [.int x, .str name, .ref a1, .ref a2, .ref a3, odd, .ref a4]) := q17 ▸ upd_same
  have hp17 := S17 _ _ hp16
  -- more of them
  refine ⟨_, rfl, _, rfl, by show 2 ≤ sizeLine; decide, fun a5 n5 => ?_⟩
  generalize q18 : upd H17 a5 (.tup [.int 1, odd]) = H18
  have S18 : Same H17 H18 := q18 ▸ Same.laid n5
  have e5 : H18 a5 = some (.tup [.int 1, odd]) := q18 ▸ upd_same
  have p5 := (ne_of_none hp17 n5).symm
  have hp18 := S18 _ _ hp17
  refine ⟨by show 1 ≤ sizeLine; decide, fun a6 n6 => ?_⟩
  generalize q19 : upd H18 a6 (.tup [.int 1]) = H19
  have S19 : Same H18 H19 := q19 ▸ Same.laid n6
  have e6 : H19 a6 = some (.tup [.int 1]) := q19 ▸ upd_same
  have p6 := (ne_of_none hp18 n6).symm
  have hp19 := S19 _ _ hp18
  refine ⟨by show 2 ≤ sizeLine; decide, fun a7 n7 => ?_⟩
  generalize q20 : upd H19 a7 (.tup [.bl true, .int 1]) = H20
  have S20 : Same H19 H20 := q20 ▸ Same.laid n7
  have e7 : H20 a7 = some (.tup [.bl true, .int 1]) := q20 ▸ upd_same
  have p7 := (ne_of_none hp19 n7).symm
  have hp20 := S20 _ _ hp19
  refine ⟨by show 2 ≤ sizeLine; decide, fun a8 n8 => ?_⟩
  generalize q21 : upd H20 a8 (.tup [.int 0, .int 1]) = H21
  have S21 : Same H20 H21 := q21 ▸ Same.laid n8
  have e8 : H21 a8 = some (.tup [.int 0, .int 1]) := q21 ▸ upd_same
  have p8 := (ne_of_none hp20 n8).symm
  have hp21 := S21 _ _ hp20
  refine ⟨by show 2 ≤ sizeLine; decide, fun a9 n9 => ?_⟩
  generalize q22 : upd H21 a9 (.tup [.int 999, .int 999]) = H22
  have S22 : Same H21 H22 := q22 ▸ Same.laid n9
  have e9 : H22 a9 = some (.tup [.int 999, .int 999]) := q22 ▸ upd_same
  have p9 := (ne_of_none hp21 n9).symm
  have hp22 := S22 _ _ hp21
  refine ⟨by show 2 ≤ sizeLine; decide, fun a10 n10 => ?_⟩
  generalize q23 : upd H22 a10 (.tup [.int 0, .int 0]) = H23
  have S23 : Same H22 H23 := q23 ▸ Same.laid n10
  have e10 : H23 a10 = some (.tup [.int 0, .int 0]) := q23 ▸ upd_same
  have p10 := (ne_of_none hp22 n10).symm
  have hp23 := S23 _ _ hp22
  refine ⟨by show 9 ≤ sizeLine; decide, fun M2 nM2 => ?_⟩
  generalize q24 : upd H23 M2 (.lst [.ref a5, .ref a6, .bl true, .bl false, .str "", .ref a7, .ref a8, .ref a9, .ref a10]) = H24
  have S24 : Same H23 H24 := q24 ▸ Same.laid nM2
  have eM2 : H24 M2 = some (.lst [.ref a5, .ref a6, .bl true, .bl false, .str "", .ref a7, .ref a8, .ref a9, .ref a10]) := q24 ▸ upd_same
  have hp24 := S24 _ _ hp23
  have S17_24 : Same H17 H24 := S18.trans (S19.trans (S20.trans (S21.trans (S22.trans (S23.trans S24)))))
  refine ⟨M1, M2, _, _, rfl, rfl, S17_24 _ _ eM1, eM2, by show 16 ≤ sizeLine; decide, fun M nM => ?_⟩
  generalize hys : ([V.int x, .str name, .ref a1, .ref a2, .ref a3, odd, .ref a4] ++ [.ref a5, .ref a6, .bl true, .bl false, .str "", .ref a7, .ref a8, .ref a9, .ref a10] : List V) = ys
  generalize q25 : upd H24 M (.lst ys) = H25
  have S25 : Same H24 H25 := q25 ▸ Same.laid nM
  have eM : H25 M = some (.lst ys) := q25 ▸ upd_same
  have pM := (ne_of_none hp24 nM).symm
  have T24 : Same H24 H25 := S25
  have T23 := S24.trans T24
  have T22 := S23.trans T23
  have T21 := S22.trans T22
  have T20 := S21.trans T21
  have T19 := S20.trans T20
  have T18 := S19.trans T19
  have T17 := S18.trans T18
  have T16 := S17.trans T17
  have T15 := S16.trans T16
  have T14 := S15.trans T15
  have T13 := S14.trans T14
  have T12 := S13.trans T13
  have tho25 : Thing K H25 p odd := tho12.keep (Pw.Same.but T12)
  have s1 : ((1 : Int)).natAbs.log2 < 1920 := by decide +kernel
  have s0 : ((0 : Int)).natAbs.log2 < 1920 := by decide +kernel
  have s9 : ((999 : Int)).natAbs.log2 < 1920 := by decide +kernel
  have all1 : ∀ u : V, ∀ {G : Hp}, Thing K G p u → ∀ v ∈ [u], Thing K G p v := fun u G h v hv => by
    obtain rfl : v = u := by simpa using hv
    exact h
  have all2 : ∀ (u v : V) {G : Hp}, Thing K G p u → Thing K G p v → ∀ z ∈ [u, v], Thing K G p z := fun u v G h g z hz => by
    rcases List.mem_cons.mp hz with e | hz
    · exact e ▸ h
    · obtain rfl : z = v := by simpa using hz
      exact g
  have items : ∀ v ∈ ys, Item K H25 p v := by
    rw [← hys]
    simp only [List.cons_append, List.nil_append, List.forall_mem_cons]
    refine ⟨thx.item, thn.item, it_tup (T13 _ _ e1) p1 (Nat.le_of_ble_eq_true rfl) (all2 _ _ thx thy), it_tup (T14 _ _ e2) p2 (Nat.le_of_ble_eq_true rfl) ?_,
      it_lst (T15 _ _ e3) p3 (Nat.le_of_ble_eq_true rfl) (all2 _ _ thx thy), tho25.item, it_tup (T16 _ _ e4) p4 (Nat.le_of_ble_eq_true rfl) (all2 _ _ tho25 thx),
      it_tup (T18 _ _ e5) p5 (Nat.le_of_ble_eq_true rfl) (all2 _ _ (thk 1 s1) tho25), it_tup (T19 _ _ e6) p6 (Nat.le_of_ble_eq_true rfl) (all1 _ (thk 1 s1)),
      (th_bl true).item, (th_bl false).item, (th_str _ (fun z e => by cases e; exact ⟨by decide +kernel, by decide +kernel⟩)).item,
      it_tup (T20 _ _ e7) p7 (Nat.le_of_ble_eq_true rfl) (all2 _ _ (th_bl true) (thk 1 s1)), it_tup (T21 _ _ e8) p8 (Nat.le_of_ble_eq_true rfl) (all2 _ _ (thk 0 s0) (thk 1 s1)),
      it_tup (T22 _ _ e9) p9 (Nat.le_of_ble_eq_true rfl) (all2 _ _ (thk 999 s9) (thk 999 s9)), it_tup (T23 _ _ e10) p10 (by decide) (all2 _ _ (thk 0 s0) (thk 0 s0)), fun _ z => nomatch z⟩
    intro z hz
    rcases List.mem_cons.mp hz with e | hz
    · exact e ▸ thy
    · exact all2 _ _ thx (thk 1 s1) z hz
  obtain ⟨d0, n0, ts, shl, hd0, hn0⟩ := shwl (K := K) (H := wo H25 p) (D := 5) (N := 70000) ys fun v hv => (items v hv).sh
  have l16 : ys.length = 16 := by rw [← hys]; rfl
  rw [l16] at hn0
  have shM : ∀ {G : Hp}, Same H25 G → Shw K G (.ref M) (d0 + 1) (n0 + 2) (listText ts) := fun {G} S =>
    Shw.same (wo_same.trans S) (.lst (wo_of pM eM) shl)
  have hnM : n0 + 2 ≤ sizeLine := by rw [sizeLine_eq]; omega
  have t2s : ∀ v ∈ ys, ∀ {G : Hp}, Same H25 G → T2 K G v := fun v hv G S => (items v hv).t2.keep (wo_same.trans S)
  -- kept
  refine ⟨_, rfl, .ref M, d0 + 1, n0 + 2, listText ts, rfl, shM (Same.refl _), fun _ _ => Nat.succ_pos _, hnM, by omega, ?_⟩
  generalize listText ts = t0 at shM
  -- the turns
  refine ⟨2, rfl, by decide, by decide, for_range (n := 2) (fun i σ G => ∃ v8 v9 : Option V, σ = [some (.ref p), some odd, some (.int x), some (.int y), some (.int lo),
    some (.int hi), some (.ref M), some (.str t0), v8, v9] ∧ Same H25 G) ⟨none, none, by rw [← hlo, ← hhi]; rfl, Same.refl _⟩ ?_ ?_⟩
  · rintro i σ G hi' ⟨v8, v9, rfl, S⟩
    refine ⟨_, rfl, _, rfl, by show 2 ≤ sizeLine; decide, fun L nL => ?_⟩
    have tyo : ∀ v ∈ [V.int x, odd], ∀ {G' : Hp}, Same H25 G' → ∃ t, Ty K G' v t := fun v hv G' S' => by
      rcases List.mem_cons.mp hv with e | hv
      · exact e ▸ ⟨_, .int x⟩
      · obtain rfl : v = odd := by simpa using hv
        obtain ⟨t, ty⟩ := tho25.t2.ty
        exact ⟨t, ty.same (wo_same.trans S')⟩
    refine ⟨L, rfl, ⟨_, SqL.of upd_same⟩, for_list (K := K) (a := L) (xs := [.int x, odd]) (fun j σ G2 => ∃ v9 : Option V, σ = [some (.ref p), some odd, some (.int x), some (.int y), some (.int lo),
      some (.int hi), some (.ref M), some (.str t0), some (.int (0 + (i : Int))), v9] ∧ Same H25 G2 ∧ G2 L = some (.lst [.int x, odd]))
      ⟨_, rfl, S.trans (Same.laid nL), upd_same⟩ (fun j σ G2 _ ⟨_, _, _, e⟩ => SqL.of e) ?_ ?_⟩
    · rintro j v σ G2 hj2 ⟨v9', rfl, S2', eL2⟩
      obtain ⟨t, ty⟩ := tyo v (List.mem_of_getElem? hj2) S2'
      refine ⟨_, rfl, _, rfl, _, rfl, v, t, lo, hi, rfl, ty, _, rfl, _, rfl, _, rfl, v, t, lo, hi, rfl, ty, _, rfl, _, rfl, ?_⟩
      refine iteF ?_
      exact ⟨_, rfl, S2', eL2⟩
    · rintro σ G2 ⟨v9', rfl, S2', eL2⟩
      refine ⟨_, rfl, M, rfl, ⟨_, SqL.of (S2' _ _ eM)⟩, fun Dl hD => ?_⟩
      refine lc_list (K := K) (a := M) (xs := ys) (fun i G3 => Same H25 G3 ∧ G3 Dl = some (.lst []))
        ⟨S2'.trans (Same.laid hD), upd_same⟩ (fun i G3 _ ⟨S3', _⟩ => SqL.of (S3' _ _ eM)) ?_ ?_
      · rintro j v G3 hj3 ⟨S3', eD⟩
        refine ⟨rfl, ?_⟩
        refine ⟨_, rfl, v, rfl, t2s v (List.mem_of_getElem? hj3) S3', fun G4 S4' => ⟨_, rfl, ?_⟩⟩
        refine iteF ?_
        exact ⟨S3'.trans S4', S4' _ _ eD⟩
      · rintro G3 ⟨S3', eD⟩
        refine ⟨by show 0 ≤ sizeLine; decide, fun q hq => ?_⟩
        refine ne_nil (ys := []) ((upd_ne (ne_of_none eD hq)).trans eD) upd_same (fun _ z => nomatch z) ⟨_, rfl, ?_⟩
        refine iteF ?_
        exact ⟨_, _, rfl, S3'.trans (Same.laid hq)⟩
  · rintro σ G ⟨v8, v9, rfl, S⟩
    refine ⟨_, rfl, .ref M, d0 + 1, n0 + 2, t0, rfl, shM S, fun _ _ => Nat.succ_pos _, hnM, by omega, _, rfl, rfl, _, rfl, ?_⟩
    have ed : decide (V.str t0 = V.str t0) = true := decide_eq_true rfl
    refine ite2 (fun _ => ?_) (fun z => absurd ed z)
    refine ⟨by show 3 ≤ sizeLine; decide, fun q1 m1 => ?_⟩
    refine ⟨by show 3 ≤ sizeLine; decide, fun q2 m2 => ?_⟩
    refine ⟨.list [.int 9999, .int 63, .int 999], .list [.int 9999, .int 63, .int 999], .lst (SqL.of ((Same.laid m2) _ _ upd_same)) (.cons (.int _) (.cons (.int _) (.cons (.int _) .nil))),
      .lst (SqL.of upd_same) (.cons (.int _) (.cons (.int _) (.cons (.int _) .nil))), by decide +kernel, by decide +kernel, ?_⟩
    have ev : PyData.eqv (.list [.int 9999, .int 63, .int 999]) (.list [.int 9999, .int 63, .int 999]) = true := by decide +kernel
    rw [ev]
    exact k _ (B0_12.trans (Pw.Same.but (T12.trans (S.trans ((Same.laid m1).trans (Same.laid m2))))))
end
end K1

namespace K1
open PySem PySem.Spec PyProof.Rows L2 Pw
section
variable {P : Program} {w : World} {K : PySem.W.Frag} {mg : Str → Option Value} {base : Heap}
def spLaw (K : PySem.W.Frag) : Sp := fun vs H Q _ => ∃ (a : Addr) (ns : List Int), vs = [.ref a] ∧ SqL K H a (ns.map V.int) ∧ ns.length ≤ 63 ∧ ∀ H', Q (.bl true) H'
theorem scLaw : FnScope ["_law_script", "_law_k"] ["_law_script"] (defScope sLaw) := ⟨rfl, rfl, rfl, by decide +kernel, rfl, by decide +kernel, by decide +kernel⟩
theorem ok_law {f : Addr} {fd : FuncData} (F : Fun K "law" "law" sLaw f fd) (T : Txt mg)
    (dc : Def P w K mg base "_law_cell" 1 ["_law_script", "_law_k"] (spCell K)) (db : Def P w K mg base "_law_bag" 1 ["_law_cell_here"] (spBag K))
    (dr : DefG P w K mg base "_law_right" 8 ["_law_bag_here"] (spRight K)) : FnG P w K mg base CX0 9 f fd ["_law_script"] (spLaw K) := by
  refine okG F scLaw (fun vs H Q E ⟨a, ns, e, _⟩ => by rw [e]; rfl) (fun cdv A out s H vs Q E gd hr h => ?_)
  obtain ⟨a, ns, rfl, hS, hl, k⟩ := h
  refine ⟨_, pss_cons (ps_for PassesOwn.never rfl (pi_range1 (by rfl) T.range (pa_cons (pe_callB (call_max2 rfl) (by rfl) T.max PyProof.Rows.boot_max (pa_cons pe_int
      (pa_cons (pe_callB (call_min2 rfl) (by rfl) T.min PyProof.Rows.boot_min (pa_cons pe_int (pa_cons (pe_callB call_len_seq (by rfl) T.len PySem.boot_len (pa_cons (pv 0) pa_nil)) pa_nil))) pa_nil))) pa_nil))
      (pg_name (i := 1) scLaw.nd rfl (.inl rfl))
      (pss_one (ps_if (pt_not (pt_val (pe_dG dr gd hr (by decide) (by rfl) (pa_cons (pe_d db hr (by decide) (by rfl) (pa_cons (pe_d dc hr (by decide) (by rfl) (pa_cons (pv 0) (pa_cons (pv 1) pa_nil))) pa_nil)) pa_nil))))
        (pss_one (ps_ret pe_bl)) pss_nil)))
    (pss_one (ps_ret pe_bl)), ?_⟩
  refine ⟨_, rfl, a, ns.map V.int, rfl, .inl hS, 12, _, rfl, 3, _, rfl, ?_⟩
  rw [List.length_map]
  generalize hj : (if (if (ns.length : Int) < 12 then (ns.length : Int) else 12) > 3 then (if (ns.length : Int) < 12 then (ns.length : Int) else 12) else 3 : Int) = j
  have j0 : 0 ≤ j := by rw [← hj]; split <;> split <;> omega
  have j1 : j ≤ 12 := by rw [← hj]; split <;> split <;> omega
  refine ⟨j, rfl, by omega, by omega, for_range (n := j.toNat) (fun i σ G => ∃ v1 : Option V, σ = [some (.ref a), v1] ∧ Same H G) ⟨none, rfl, Same.refl _⟩ ?_ ?_⟩
  · rintro i σ G hi ⟨v1, rfl, S⟩
    refine ⟨_, rfl, _, rfl, a, ns, 0 + (i : Int), rfl, S.seq hS, hl, by omega, by omega, fun c => ?_⟩
    refine ⟨c, rfl, fun p G2 np S2 hb2 => ?_⟩
    refine ⟨p, rfl, hb2, fun G3 B3 => ⟨_, rfl, ?_⟩⟩
    refine iteF ?_
    exact ⟨_, rfl, fun b o e => B3.at (ne_of_none (S b o e) np) (S2 b o (S b o e))⟩
  · rintro σ G ⟨v1, rfl, S⟩
    exact k G
end
end K1

namespace Pw
open PySem PySem.Spec PyProof.Rows L2
section
variable {K : PySem.W.Frag} {mg : Str → Option Value} {h : Heap}
/-- what the head finds of a def -/
theorem at_mk {x : Str} {st : Stmt} {f : Addr} {oc : Value} {od an : Option Addr} {osl : Array (Option Value)} {kV doc pm cdv ct : Value}
    (X : K.In h) (G : h.Ns mainGlobals mg) (a : PySem.W.nsIn K mainGlobals x = some (some (.ref f)))
    (l : K.lookup f = some ⟨oc, od, .func (PySem.W.fnOf x x (defArgs st) (defBody st) (defScope st) .none kV doc pm an cdv ct), osl⟩)
    (c : PySem.W.codeIn K cdv x = true) (k : PySem.W.keepIn K (.ref f) = true) : At K mg x st :=
  ⟨f, _, fun_mk (st := st) l c k, PySem.W.mg_of X G a⟩
end
end Pw
namespace K1
open PySem PySem.Spec PyProof.Rows L2 Pw
section
variable {K : PySem.W.Frag} {mg : Str → Option Value} {h : Heap}
theorem kit_own {C : Addr} {T : String} (h : PySem.W.mroIn K C (.type T) = some false) (hm : PySem.W.kitMeta T = true) :
    PySem.W.kitOne K (.ref C) (.type T) = some false := by
  have e : (Value.ref C == Value.type T) = false := rfl
  unfold PySem.W.kitOne PySem.W.kitCls
  rw [e, if_neg Bool.false_ne_true]
  simp only [hm, if_true]
  exact h
theorem txt_mk (X : K.In h) (G : h.Ns mainGlobals mg)
    (z_isinstance : PySem.W.nsIn K mainGlobals "isinstance" = some none)
    (z_int : PySem.W.nsIn K mainGlobals "int" = some none)
    (z_bool : PySem.W.nsIn K mainGlobals "bool" = some none)
    (z_str : PySem.W.nsIn K mainGlobals "str" = some none)
    (z_tuple : PySem.W.nsIn K mainGlobals "tuple" = some none)
    (z_len : PySem.W.nsIn K mainGlobals "len" = some none)
    (z_all : PySem.W.nsIn K mainGlobals "all" = some none)
    (z_max : PySem.W.nsIn K mainGlobals "max" = some none)
    (z_min : PySem.W.nsIn K mainGlobals "min" = some none)
    (z_range : PySem.W.nsIn K mainGlobals "range" = some none)
    (z_repr : PySem.W.nsIn K mainGlobals "repr" = some none)
    {t_most_time : Tok} (z_most_time : PySem.W.nsIn K mainGlobals "MOST_TIME" = some (some (.int 9999 t_most_time)))
    {t_most_level : Tok} (z_most_level : PySem.W.nsIn K mainGlobals "MOST_LEVEL" = some (some (.int 63 t_most_level)))
    {t_most_term : Tok} (z_most_term : PySem.W.nsIn K mainGlobals "MOST_TERM" = some (some (.int 999 t_most_term)))
    {t_most_name : Tok} (z_most_name : PySem.W.nsIn K mainGlobals "_MOST_NAME" = some (some (.int 8 t_most_name)))
    {t_most_id : Tok} (z_most_id : PySem.W.nsIn K mainGlobals "_MOST_ID" = some (some (.int 999 t_most_id))) : Txt mg :=
  {isinstance := PySem.W.mg_none_of X G z_isinstance, int := PySem.W.mg_none_of X G z_int, bool := PySem.W.mg_none_of X G z_bool, str := PySem.W.mg_none_of X G z_str, tuple := PySem.W.mg_none_of X G z_tuple, len := PySem.W.mg_none_of X G z_len, all := PySem.W.mg_none_of X G z_all, max := PySem.W.mg_none_of X G z_max, min := PySem.W.mg_none_of X G z_min, range := PySem.W.mg_none_of X G z_range, repr := PySem.W.mg_none_of X G z_repr, most_time := ⟨_, PySem.W.mg_of X G z_most_time⟩, most_level := ⟨_, PySem.W.mg_of X G z_most_level⟩, most_term := ⟨_, PySem.W.mg_of X G z_most_term⟩, most_name := ⟨_, PySem.W.mg_of X G z_most_name⟩, most_id := ⟨_, PySem.W.mg_of X G z_most_id⟩}
theorem exc_mk {x q : Str} {st : Stmt} {C CB f N : Addr} {qn : Str} {bs : List Value} {sn : List Str} {sub : List Value} {ab : Bool} {col : Option Bool} {dd : Option Addr} {m0 m1 m2 m3 m5 : Option Value}
    {oc : Value} {od an : Option Addr} {osl : Array (Option Value)} {kV doc pm cdv ct : Value} (X : K.In h) (G : h.Ns mainGlobals mg)
    (aC : PySem.W.nsIn K mainGlobals x = some (some (.ref C)))
    (xL : K.lookup C = some (excClassObj x qn C N bs [.ref CB, .type "ValueError", .type "Exception", .type "BaseException", .type "object"] true sn sub ab col dd m0 m1 m2 m3 m5 "ValueError.__new__"))
    (sa : PySem.W.findIn K (.ref C) "__setattr__" = some (some (.builtin "object.__setattr__")))
    (eC : PySem.W.subIn K (.ref C) (.type "BaseException") = some true) (tC : PySem.W.typeIn K (.ref C) = some (.type "type"))
    (kC : PySem.W.keepIn K (.ref C) = true) (i1 : PySem.W.findIn K (.ref C) "__init__" = some (some (.ref f)))
    (t1 : PySem.W.typeIn K (.ref f) = some (.type "function"))
    (l1 : K.lookup f = some ⟨oc, od, .func (PySem.W.fnOf "__init__" q (defArgs st) (defBody st) (defScope st) .none kV doc pm an cdv ct), osl⟩)
    (c1 : PySem.W.codeIn K cdv q = true) (k1 : PySem.W.keepIn K (.ref f) = true)
    (rp : PySem.W.findIn K (.ref C) "__repr__" = some (some (.builtin "BaseException.__repr__")))
    (hg : PySem.W.findIn K (.ref C) "__getattribute__" = some (some (.builtin "BaseException.__getattribute__")))
    (hk : PySem.W.findIn K (.ref C) "__getattr__" = some none) (hd : PySem.W.hasDictIn K C = true)
    (ha : PySem.W.findIn K (.ref C) "__class__" = some (some (.builtin "object.__class__")))
    (hn : PySem.W.specialIn K (.builtin "object.__class__") "__get__" = some (some (.builtin "getset_descriptor.__get__")))
    (ht : PySem.W.takesIn K (.builtin "object.__class__") = some true) (hm : PySem.W.mroIn K C (.type "object") = some true)
    (ki : PySem.W.mroIn K C (.type "int") = some false) (kb : PySem.W.mroIn K C (.type "bool") = some false)
    (ks : PySem.W.mroIn K C (.type "str") = some false) (kt : PySem.W.mroIn K C (.type "tuple") = some false)
    (nF : PySem.W.findIn K (.ref C) "found" = some none) : Exc K mg x q st C :=
  { mgC := PySem.W.mg_of X G aC
    oex := ⟨⟨x, qn, N, bs, _, sn, sub, ab, col, dd, m0, m1, m2, m3, m5, xL, (by decide +kernel :
      PySem.HandSPX.refsVE [.type "ValueError", .type "Exception", .type "BaseException", .type "object"] = true)⟩, sa, eC, tC, kC⟩
    init := ⟨f, _, i1, t1, fun_mk (st := st) l1 c1 k1⟩
    rep := ⟨rp, eC, { name := x, bases := bs, mro := .ref C :: [.ref CB, .type "ValueError", .type "Exception", .type "BaseException", .type "object"], ns := N, qualname := qn, hasDict := true, slotNames := sn, subclasses := sub, abstract := ab, collection := col, hasDel := false },
      by unfold PySem.W.clsIn; rw [xL] <;> rfl, rfl⟩
    typ := ⟨⟨hg, hk, eC, hd, ha, hn, ht, hm⟩, kit_own ki (by decide +kernel), kit_own kb (by decide +kernel), kit_own ks (by decide +kernel), kit_own kt (by decide +kernel)⟩
    nF := nF }
theorem base_mk {C f : Addr} {oc : Value} {od an : Option Addr} {osl : Array (Option Value)} {kV doc pm cdv ct : Value} (X : K.In h) (G : h.Ns mainGlobals mg)
    (aC : PySem.W.nsIn K mainGlobals "PanelError" = some (some (.ref C)))
    (sg : PySem.W.specialIn K (.ref C) "__getattribute__" = some (some (.builtin "type.__getattribute__")))
    (rd : PySem.W.readsIn K C (.type "type") = true)
    (at_ : PySem.W.findCls K (.ref C) (.type "type") "__init__" = some (.val (.ref f)))
    (l1 : K.lookup f = some ⟨oc, od, .func (PySem.W.fnOf "__init__" "PanelError.__init__" (defArgs sPE) (defBody sPE) (defScope sPE) .none kV doc pm an cdv ct), osl⟩)
    (c1 : PySem.W.codeIn K cdv "PanelError.__init__" = true) (k1 : PySem.W.keepIn K (.ref f) = true)
    (vg : PySem.W.nsIn K mainGlobals "ValueError" = some none)
    (vV : PySem.W.findCls K (.type "ValueError") (.type "type") "__init__" = some (.val (.builtin "ValueError.__init__"))) : Base1 K mg C f :=
  ⟨PySem.W.mg_of X G aC, sg, rd, at_, ⟨_, fun_mk (st := sPE) l1 c1 k1⟩, PySem.W.mg_none_of X G vg, vV⟩
end
theorem fin {P : Program} {w : World} {K : PySem.W.Frag} {mg : Str → Option Value} {fa CB fB CM CT : Addr} (hfa : mg "law" = some (.ref fa)) (T : Txt mg)
    (aNumber : At K mg "_is_number" sNumber)
    (aCheck : At K mg "_check_number" sCheck)
    (aWhole : At K mg "is_whole" sWhole)
    (aName : At K mg "is_name" sName)
    (aTime : At K mg "is_time" sTime)
    (aMark : At K mg "is_mark" sMark)
    (aRoom : At K mg "is_room" sRoom)
    (aTerm : At K mg "is_term" sTerm)
    (aId : At K mg "is_id" sId)
    (aOneOf : At K mg "is_one_of" sOneOf)
    (aTuple : At K mg "is_tuple" sTuple)
    (aCell : At K mg "_law_cell" sCell)
    (aBag : At K mg "_law_bag" sBag)
    (aTake : At K mg "_law_take" sTake)
    (aLWhole : At K mg "_law_whole" sLWhole)
    (aAny : At K mg "_law_any" sAny)
    (aNumb : At K mg "_law_number" sNumb)
    (aSpoilt : At K mg "_law_spoilt" sSpoilt)
    (aNamed : At K mg "_law_named" sNamed)
    (aLName : At K mg "_law_is_name" sLName)
    (aWithin : At K mg "_law_within" sWithin)
    (aIs : At K mg "_law_is" sIs)
    (aKinds : At K mg "_law_kinds_right" sKinds)
    (aRight : At K mg "_law_right" sRight)
    (aLaw : At K mg "law" sLaw) (B : Base1 K mg CB fB) (EM : Exc K mg "NoMark" "NoMark.__init__" sNM CM) (ET : Exc K mg "NoTime" "NoTime.__init__" sNT CT) :
    ∃ fd : FuncData, (∀ (s : Shared) (v : Value), BindsTo s fd ⟨[v], []⟩ [("_law_script", v)]) ∧
      ∀ base : Heap, K.In base → base.Ns mainGlobals mg → FnG P w K mg base CX0 9 fa fd ["_law_script"] (spLaw K) := by
  obtain ⟨f, fd, F, m⟩ := aLaw.ex
  cases hfa.symm.trans m
  have F' := F
  obtain ⟨oc, od, kV, doc, pm, an, cdv, ct, osl, rfl, lk, hcd⟩ := F.ex
  refine ⟨PySem.W.fnOf "law" "law" (defArgs sLaw) (defBody sLaw) (defScope sLaw) .none kV doc pm an cdv ct, fun s v => .of_eq rfl, fun base _ _ => ?_⟩
  have dNumber : Def P w K mg base "_is_number" 1 ["thing"] (spNumber K) := d_number T aNumber
  have dCheck := d_check aCheck dNumber
  have dWhole := d_whole aWhole dNumber dCheck
  have dOne : Def P w K mg base "is_one_of" 1 ["thing", "words"] (spOne K) := d_oneof T aOneOf
  have dTuple : Def P w K mg base "is_tuple" 1 ["thing", "many"] (spTupN K) := d_tuple T aTuple
  have dTerm := d_term T aTerm dWhole
  have dTake : Def P w K mg base "_law_take" 1 ["_law_bag_here", "_law_many"] (spTake K) := d_take aTake
  have dWithin := d_within aWithin (d_lwhole T aLWhole (P := P) (w := w) (base := base))
  have dIs : Def P w K mg base "_law_is" 1 ["_law_found", "_law_due"] spIs := d_is T aIs
  have dKinds := d_kinds T aKinds dWithin dIs (d_name T aName) (d_lname T aLName) (d_time T aTime dWhole) dTerm (d_room aRoom dWhole)
    (d_mark aMark dOne) (d_id T aId dTuple dTerm dWhole)
  have D : Ds P w K mg base := ⟨dTake, d_any aAny dTake, d_numb aNumb dTake, d_named T aNamed dTake (d_spoilt T aSpoilt dTake), dIs, dWhole, dWithin, dKinds⟩
  exact ok_law F' T (d_cell T aCell) (d_bag T aBag) (d_right T aRight D B EM ET)
end K1
open PySem PySem.W PyProof.Rows
set_option maxRecDepth 100000 in
set_option maxHeartbeats 0 in
theorem PySem.Challenge.cw_panelwatch_k01_kinds_of_any_thing_holds : PySem.Challenge.rw_panelwatch_k01_kinds_of_any_thing.Holds := by
  w_on; o_law; k_head; (case hw => w_witness2)
  k_fill
  refine Pw.walkG (l := PySem.Challenge.rw_panelwatch_k01_kinds_of_any_thing) (n := 63) (k := 9) (x := "_law_script") (CX := fun _ => L2.CX0) (sp := fun w => K1.spLaw _)
    rfl (by decide) rfl ⟨rfl, by decide, by decide⟩ (fun w h Y => PySem.W.kIn_of Y) ?F
    (fun _ _ a ns hl _ hS => ⟨a, ns, rfl, hS, hl, fun _ => rfl⟩) fun _ _ _ _ _ z => z
  case F =>
    intro w mg fa h KX G hmg
    refine' K1.fin hmg (K1.txt_mk KX G ?z_isinstance ?z_int ?z_bool ?z_str ?z_tuple ?z_len ?z_all ?z_max ?z_min ?z_range ?z_repr ?z_most_time ?z_most_level ?z_most_term ?z_most_name ?z_most_id)
      (Pw.at_mk KX G ?aNumber ?lNumber ?cNumber ?kNumber)
      (Pw.at_mk KX G ?aCheck ?lCheck ?cCheck ?kCheck)
      (Pw.at_mk KX G ?aWhole ?lWhole ?cWhole ?kWhole)
      (Pw.at_mk KX G ?aName ?lName ?cName ?kName)
      (Pw.at_mk KX G ?aTime ?lTime ?cTime ?kTime)
      (Pw.at_mk KX G ?aMark ?lMark ?cMark ?kMark)
      (Pw.at_mk KX G ?aRoom ?lRoom ?cRoom ?kRoom)
      (Pw.at_mk KX G ?aTerm ?lTerm ?cTerm ?kTerm)
      (Pw.at_mk KX G ?aId ?lId ?cId ?kId)
      (Pw.at_mk KX G ?aOneOf ?lOneOf ?cOneOf ?kOneOf)
      (Pw.at_mk KX G ?aTuple ?lTuple ?cTuple ?kTuple)
      (Pw.at_mk KX G ?aCell ?lCell ?cCell ?kCell)
      (Pw.at_mk KX G ?aBag ?lBag ?cBag ?kBag)
      (Pw.at_mk KX G ?aTake ?lTake ?cTake ?kTake)
      (Pw.at_mk KX G ?aLWhole ?lLWhole ?cLWhole ?kLWhole)
      (Pw.at_mk KX G ?aAny ?lAny ?cAny ?kAny)
      (Pw.at_mk KX G ?aNumb ?lNumb ?cNumb ?kNumb)
      (Pw.at_mk KX G ?aSpoilt ?lSpoilt ?cSpoilt ?kSpoilt)
      (Pw.at_mk KX G ?aNamed ?lNamed ?cNamed ?kNamed)
      (Pw.at_mk KX G ?aLName ?lLName ?cLName ?kLName)
      (Pw.at_mk KX G ?aWithin ?lWithin ?cWithin ?kWithin)
      (Pw.at_mk KX G ?aIs ?lIs ?cIs ?kIs)
      (Pw.at_mk KX G ?aKinds ?lKinds ?cKinds ?kKinds)
      (Pw.at_mk KX G ?aRight ?lRight ?cRight ?kRight)
      (Pw.at_mk KX G ?aLaw ?lLaw ?cLaw ?kLaw)
      (K1.base_mk KX G ?aB ?sgB ?rdB ?atB ?lB ?cB ?kB ?vgB ?vVB)
      (K1.exc_mk KX G ?aCM ?xLM ?saM ?eCM ?tCM ?kCM ?i1M ?t1M ?l1M ?c1M ?k1M ?rpM ?hgM ?hkM ?hdM ?haM ?hnM ?htM ?hmM ?kiM ?kbM ?ksM ?ktM ?nFM)
      (K1.exc_mk KX G ?aCT ?xLT ?saT ?eCT ?tCT ?kCT ?i1T ?t1T ?l1T ?c1T ?k1T ?rpT ?hgT ?hkT ?hdT ?haT ?hnT ?htT ?hmT ?kiT ?kbT ?ksT ?ktT ?nFT)
    case z_isinstance => k_is
    case z_int => k_is
    case z_bool => k_is
    case z_str => k_is
    case z_tuple => k_is
    case z_len => k_is
    case z_all => k_is
    case z_max => k_is
    case z_min => k_is
    case z_range => k_is
    case z_repr => k_is
    case z_most_time => k_is
    case z_most_level => k_is
    case z_most_term => k_is
    case z_most_name => k_is
    case z_most_id => k_is
    case aNumber => k_is
    case lNumber => k_is
    case cNumber => k_is
    case kNumber => k_is
    case aCheck => k_is
    case lCheck => k_is
    case cCheck => k_is
    case kCheck => k_is
    case aWhole => k_is
    case lWhole => k_is
    case cWhole => k_is
    case kWhole => k_is
    case aName => k_is
    case lName => k_is
    case cName => k_is
    case kName => k_is
    case aTime => k_is
    case lTime => k_is
    case cTime => k_is
    case kTime => k_is
    case aMark => k_is
    case lMark => k_is
    case cMark => k_is
    case kMark => k_is
    case aRoom => k_is
    case lRoom => k_is
    case cRoom => k_is
    case kRoom => k_is
    case aTerm => k_is
    case lTerm => k_is
    case cTerm => k_is
    case kTerm => k_is
    case aId => k_is
    case lId => k_is
    case cId => k_is
    case kId => k_is
    case aOneOf => k_is
    case lOneOf => k_is
    case cOneOf => k_is
    case kOneOf => k_is
    case aTuple => k_is
    case lTuple => k_is
    case cTuple => k_is
    case kTuple => k_is
    case aCell => k_is
    case lCell => k_is
    case cCell => k_is
    case kCell => k_is
    case aBag => k_is
    case lBag => k_is
    case cBag => k_is
    case kBag => k_is
    case aTake => k_is
    case lTake => k_is
    case cTake => k_is
    case kTake => k_is
    case aLWhole => k_is
    case lLWhole => k_is
    case cLWhole => k_is
    case kLWhole => k_is
    case aAny => k_is
    case lAny => k_is
    case cAny => k_is
    case kAny => k_is
    case aNumb => k_is
    case lNumb => k_is
    case cNumb => k_is
    case kNumb => k_is
    case aSpoilt => k_is
    case lSpoilt => k_is
    case cSpoilt => k_is
    case kSpoilt => k_is
    case aNamed => k_is
    case lNamed => k_is
    case cNamed => k_is
    case kNamed => k_is
    case aLName => k_is
    case lLName => k_is
    case cLName => k_is
    case kLName => k_is
    case aWithin => k_is
    case lWithin => k_is
    case cWithin => k_is
    case kWithin => k_is
    case aIs => k_is
    case lIs => k_is
    case cIs => k_is
    case kIs => k_is
    case aKinds => k_is
    case lKinds => k_is
    case cKinds => k_is
    case kKinds => k_is
    case aRight => k_is
    case lRight => k_is
    case cRight => k_is
    case kRight => k_is
    case aLaw => k_is
    case lLaw => k_is
    case cLaw => k_is
    case kLaw => k_is
    case aB => k_is
    case sgB => k_is
    case rdB => k_is
    case atB => k_is
    case lB => k_is
    case cB => k_is
    case kB => k_is
    case vgB => k_is
    case vVB => k_is
    case aCM => k_is
    case xLM => k_is
    case saM => k_is
    case eCM => k_is
    case tCM => k_is
    case kCM => k_is
    case i1M => k_is
    case t1M => k_is
    case l1M => k_is
    case c1M => k_is
    case k1M => k_is
    case rpM => k_is
    case hgM => k_is
    case hkM => k_is
    case hdM => k_is
    case haM => k_is
    case hnM => k_is
    case htM => k_is
    case hmM => k_is
    case kiM => k_is
    case kbM => k_is
    case ksM => k_is
    case ktM => k_is
    case nFM => k_is
    case aCT => k_is
    case xLT => k_is
    case saT => k_is
    case eCT => k_is
    case tCT => k_is
    case kCT => k_is
    case i1T => k_is
    case t1T => k_is
    case l1T => k_is
    case c1T => k_is
    case k1T => k_is
    case rpT => k_is
    case hgT => k_is
    case hkT => k_is
    case hdT => k_is
    case haT => k_is
    case hnT => k_is
    case htT => k_is
    case hmT => k_is
    case kiT => k_is
    case kbT => k_is
    case ksT => k_is
    case ktT => k_is
    case nFT => k_is

