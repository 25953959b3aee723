import PyProof.Rows.All
import Wide.All
import OpenK.AllK
import Wide.FinOn
import HandS.ForMost
import HandS.IsInst
import HandS.TupAny
import HandS.TupMul
import HandS.Style
import HandS.Defaults
import HandS.RaiseMore
import HandS.Codes
import PySem.Challenge.RW_shadeguards_k10_what_registers_are
set_option Elab.async false
set_option linter.all false
set_option maxRecDepth 100000
set_option maxHeartbeats 4000000
/-! What these proofs share: data at any depth, its repr, calls made while no repr is under way, the law's end. -/
namespace VK
open PySem PySem.Spec PyProof.Rows L2

/-! ### data -/
mutual
/-- v, in H, is the data d: tuples, lists, dicts with keys that are ints or texts -/
inductive Da (K : PySem.W.Frag) (H : Hp) : V → PyData → Prop
  | non : Da K H .non .none
  | bl (b : Bool) : Da K H (.bl b) (.bool b)
  | int (i : Int) : Da K H (.int i) (.int i)
  | str (x : Str) : Da K H (.str x) (.str x)
  | lst {a : Addr} {xs : List V} {ds : List PyData} : SqL K H a xs → DaAll K H xs ds → Da K H (.ref a) (.list ds)
  | tup {a : Addr} {xs : List V} {ds : List PyData} : SqT K H a xs → DaAll K H xs ds → Da K H (.ref a) (.tuple ds)
  | dic {a : Addr} {kvs : List (Key × V)} {es : List (PyData × PyData)} : H a = some (.dK kvs) → DaKv K H kvs es → Da K H (.ref a) (.dict es)
inductive DaAll (K : PySem.W.Frag) (H : Hp) : List V → List PyData → Prop
  | nil : DaAll K H [] []
  | cons {v : V} {vs : List V} {d : PyData} {ds : List PyData} : Da K H v d → DaAll K H vs ds → DaAll K H (v :: vs) (d :: ds)
inductive DaKv (K : PySem.W.Frag) (H : Hp) : List (Key × V) → List (PyData × PyData) → Prop
  | nil : DaKv K H [] []
  | cons {k : Key} {v : V} {kvs : List (Key × V)} {a b : PyData} {es : List (PyData × PyData)} : Da K H (kV k) a → Da K H v b → DaKv K H kvs es → DaKv K H ((k, v) :: kvs) ((a, b) :: es)
end

/-! no list stands anywhere in it -/
mutual
def noL : PyData → Bool
  | .list _ => false
  | .tuple xs => noLs xs
  | .dict kvs => noLk kvs
  | _ => true
def noLs : List PyData → Bool
  | [] => true
  | x :: xs => noL x && noLs xs
def noLk : List (PyData × PyData) → Bool
  | [] => true
  | (k, v) :: r => noL k && noL v && noLk r
end
section
variable {X : Cx} {pins : List (Addr × Obj)} {σ : L2.St} {H : Hp} {s : Shared}
mutual
theorem Da.reads (I : Inv X pins σ H s) : ∀ (d : PyData) (v : V) (u : Value), Da X.K H v d → RelV v u → ∃ as, Reads s.heap u d as ∧ (noL d = true → sysModules ∉ as)
  | .none, _, _, h, r => by
    cases h
    cases r
    exact ⟨_, Reads.none, fun _ z => (nomatch z)⟩
  | .bool b, _, _, h, r => by
    cases h
    cases r
    exact ⟨_, Reads.bool b, fun _ z => (nomatch z)⟩
  | .int i, _, _, h, r => by
    cases h
    obtain ⟨t, rfl⟩ := r
    exact ⟨_, Reads.int i t, fun _ z => (nomatch z)⟩
  | .str x, _, _, h, r => by
    cases h
    obtain ⟨t, rfl⟩ := r
    exact ⟨_, Reads.str x t, fun _ z => (nomatch z)⟩
  | .list ds, _, _, h, r => by
    cases h with
    | lst hs ha =>
      cases r
      obtain ⟨its, rv, ⟨o, n, ho, hc, _, hd⟩, _⟩ := I.list hs
      obtain ⟨as, hr, _⟩ := Da.readsAll I ds _ its ha rv
      exact ⟨_, Reads.list ho hc hd hr, fun z => Bool.noConfusion (show false = true from z)⟩
  | .tuple ds, _, _, h, r => by
    cases h with
    | tup hs ha =>
      cases r
      obtain ⟨its, rv, ⟨o, ho, hc, n, hd⟩, _⟩ := I.tuple hs
      obtain ⟨as, hr, hn⟩ := Da.readsAll I ds _ its ha rv
      exact ⟨_, Reads.tuple ho hc hd hr, hn⟩
  | .dict es, _, _, h, r => by
    cases h with
    | dic hs hk =>
      cases r
      obtain ⟨_, hsys, vs, rv, o, en, ep, ho, hc, hd, _, hp, _⟩ := I.hok _ _ hs
      obtain ⟨as, bs, r1, r2, n12⟩ := Da.readsKv I es _ _ _ hk rv hp
      refine ⟨_, Reads.dict ho hc.1 hd r1 r2, fun z m => ?_⟩
      rcases List.mem_append.mp m with m | m
      · rcases List.mem_cons.mp m with m | m
        · rw [← m] at hsys
          exact Bool.noConfusion hsys
        · exact (n12 z).1 m
      · exact (n12 z).2 m
theorem Da.readsAll (I : Inv X pins σ H s) : ∀ (ds : List PyData) (vs : List V) (us : List Value), DaAll X.K H vs ds → Vals vs us → ∃ as, ReadsAll s.heap us ds as ∧ (noLs ds = true → sysModules ∉ as)
  | [], _, _, h, r => by
    cases h
    cases r
    exact ⟨_, ReadsAll.nil, fun _ z => (nomatch z)⟩
  | d :: ds, _, _, h, r => by
    cases h with
    | cons h1 h2 =>
      cases r with
      | cons r1 r2 =>
        obtain ⟨as, q1, n1⟩ := Da.reads I d _ _ h1 r1
        obtain ⟨bs, q2, n2⟩ := Da.readsAll I ds _ _ h2 r2
        refine ⟨_, ReadsAll.cons q1 q2, fun z m => ?_⟩
        have z' : (noL d && noLs ds) = true := z
        rw [Bool.and_eq_true] at z'
        rcases List.mem_append.mp m with m | m
        · exact n1 z'.1 m
        · exact n2 z'.2 m
theorem Da.readsKv (I : Inv X pins σ H s) : ∀ (es : List (PyData × PyData)) (kvs : List (Key × V)) (vs : List (Key × Value)) (en : List DictEntry), DaKv X.K H kvs es → KV kvs vs → Pairs (mixKind X.prog X.w) en vs →
    ∃ as bs, ReadsAll s.heap (en.map (·.key)) (es.map (·.1)) as ∧ ReadsAll s.heap (en.map (·.val)) (es.map (·.2)) bs ∧ (noLk es = true → sysModules ∉ as ∧ sysModules ∉ bs)
  | [], _, _, _, h, r, p => by
    cases h
    cases r
    cases p
    exact ⟨_, _, ReadsAll.nil, ReadsAll.nil, fun _ => ⟨fun z => (nomatch z), fun z => (nomatch z)⟩⟩
  | (a, b) :: es, _, _, _, h, r, p => by
    cases h with
    | @cons k v kvs _ _ _ h1 h2 h3 =>
      cases r with
      | @cons _ kv _ vs re rt =>
        cases p with
        | @cons e _ en _ p1 p2 p3 =>
          obtain ⟨x1, x2⟩ := kv
          obtain ⟨e1, rv⟩ := re
          have e1' : k = x1 := e1
          subst e1'
          have rk : RelV (kV k) e.key := by
            have h1' : keyIs k e.key = true := p1
            rcases keyIs_shape h1' with ⟨i, t, q1, q2⟩ | ⟨x, t, q1, q2⟩
            · rw [q1, q2]
              exact ⟨t, rfl⟩
            · rw [q1, q2]
              exact ⟨t, rfl⟩
          have rv2 : RelV v e.val := by
            rw [p2]
            exact rv
          obtain ⟨as1, u1, n1⟩ := Da.reads I a _ _ h1 rk
          obtain ⟨as2, u2, n2⟩ := Da.reads I b _ _ h2 rv2
          obtain ⟨bs1, bs2, u3, u4, n3⟩ := Da.readsKv I es _ _ _ h3 rt p3
          refine ⟨_, _, ReadsAll.cons u1 u3, ReadsAll.cons u2 u4, fun z => ?_⟩
          have z' : (noL a && noL b && noLk es) = true := z
          rw [Bool.and_eq_true, Bool.and_eq_true] at z'
          refine ⟨fun m => ?_, fun m => ?_⟩
          · rcases List.mem_append.mp m with m | m
            · exact n1 z'.1.1 m
            · exact (n3 z'.2).1 m
          · rcases List.mem_append.mp m with m | m
            · exact n2 z'.1.2 m
            · exact (n3 z'.2).2 m
end
end

/-! ### repr -/
/-- such data has a repr that the machine can make -/
structure Sho (d : PyData) : Prop where
  sh : d.showable = true
  dp : d.depth ≤ 60
  sz : d.shown.length ≤ sizeLine
  ls : d.hasDict = true → noL d = true
def rRepr (K : PySem.W.Frag) : List V → Hp → VK → Prop := fun xs H Q => ∃ v d, xs = [v] ∧ Da K H v d ∧ Sho d ∧ Q (.str d.shown) H
theorem call_repr {X : Cx} (hg : X.A.guards = some []) (hu : X.A.units + 64 < cLine) : CallR X (.builtin "repr") (rRepr X.K) := by
  intro pins s σ H xs us Q I r h
  obtain ⟨v, d, rfl, hd, hs, q⟩ := h
  obtain ⟨u, rfl, ru⟩ := vals1 r
  obtain ⟨as, hr, hn⟩ := Da.reads I d v u hd ru
  have leaf : (∀ a, u ≠ .ref a) → wpAny (model X.prog X.w) X.A (call (.builtin "repr") [u]) (EP X pins σ Q) X.xe s := fun hne => by
    cases hr with
    | none => exact PySem.P.repr_of_none ⟨.str _, H, I.tok _, ⟨_, rfl⟩, q⟩
    | bool b => exact PySem.P.repr_of_bool ⟨.str _, H, I.tok _, ⟨_, rfl⟩, q⟩
    | int i t => exact PySem.P.repr_of_int (of_decide_eq_true hs.sh) ⟨.str _, H, I.tok _, ⟨_, rfl⟩, q⟩
    | str x t => exact PySem.P.repr_of_str ⟨.str _, H, I.tok _, ⟨_, rfl⟩, q⟩ hs.sz
    | list => exact absurd rfl (hne _)
    | tuple => exact absurd rfl (hne _)
    | dict => exact absurd rfl (hne _)
  cases u with
  | ref a =>
    exact repr_of_reads' hr hs.sh (fun z => hn (hs.ls z)) hg (by have := hs.dp; omega) (fun _ _ e => e) (fun h' u tk hk => ⟨.str _, H, I.kept (t' := tk) hk, ⟨_, rfl⟩, q⟩) hs.sz
  | _ => exact leaf fun a e => by cases e

/-! ### defs that are called while no repr is under way -/
structure FnG (P : Program) (w : World) (K : PySem.W.Frag) (mg : Str → Option Value) (base : Heap) (k : Nat) (f : Addr) (fd : FuncData) (ps : List Str) (sp : Sp) : Prop where
  len : ∀ vs H Q E, sp vs H Q E → vs.length = ps.length
  run : ∀ (A : Around) (outer : List Env) (s : Shared) (H : Hp) (args : Args) (us : List Value) (vs : List V) (Q : VK) (E : XK), Room k A → A.guards = some [] →
    Env0 P w K mg base A outer s H → BindsTo s fd args (ps.zip us) → Vals vs us → sp vs H Q E → codeAny (model P w) A (.call (.ref f) args) (CR CX0 outer P w H s Q E) s

section
variable {P : Program} {w : World} {K : PySem.W.Frag} {mg : Str → Option Value} {base : Heap}
theorem okG {x qual : Str} {st : Stmt} {f : Addr} {fd : FuncData} {N ps : List Str} {k : Nat} {sp : Sp} (F : Fun K x qual st f fd) (S : FnScope N ps (defScope st)) (len : ∀ vs H Q E, sp vs H Q E → vs.length = ps.length)
    (hbody : ∀ (cdv : Value) (A : Around) (outer : List Env) (s : Shared) (H : Hp) (vs : List V) (Q : VK) (E : XK), Room k (A.deeper (envOfC qual (defScope st) s.heap.objs.size f cdv)) → (A.deeper (envOfC qual (defScope st) s.heap.objs.size f cdv)).guards = some [] → sp vs H Q E →
      ∃ t, PSs (cxOf CX0 P w K mg base N qual (defScope st) f cdv A outer s H E).nox (defBody st) t ∧ t { nx := fun _ H' => Q .non H', rt := Q } (start N vs) H) :
    FnG P w K mg base (k + 1) f fd ps sp := by
  obtain ⟨oc, od, kV, doc, pm, an, cdv, ct, osl, rfl, lk, hcd⟩ := F.ex
  constructor
  · exact len
  intro A outer s H args us vs Q E hr hgd e0 hb r hsp
  have KX : K.In s.heap := e0.mod.kin.keeps fun b o e => (e0.bs b o e).1
  have NL := e0.mod.nolimit.keeps fun b o e => (e0.bs b o e).1
  have hl := len vs H Q E hsp
  refine codeAny_call_function hr.depth (KX f _ lk) rfl S.co S.gen rfl (PySem.W.codeRec_of KX hcd) (hb _ _ _ _ (wpAny_newFunctionEnv_cells S.kind ?_ ?_))
  · rintro ⟨n, v⟩ hy
    rcases S.par n (List.of_mem_zip hy).1 with q | q
    · exact Or.inl q
    · exact Or.inr ⟨q, PySem.W.cellsFrom_some _ _ _ (Or.inl q)⟩
  · rintro env rfl s1 x
    refine ⟨NL.keeps x.toInCall.keep, codeAny_func ?_⟩
    obtain ⟨t, ht, hq⟩ := hbody cdv A outer s H vs Q E (hr.deeper _) hgd hsp
    refine wpAny_mono (ht.nox.run [] s1 (start N vs) H _ (inv_start S hr.hd e0 hl r x) hq) ?_ ?_
    · intro fl s' hs
      cases fl with
      | ret u =>
        obtain ⟨v, σ', H', J, rv, q⟩ := hs
        exact ⟨v, H', J.os, J.bare, J.base, J.hok, rv, q⟩
      | next =>
        obtain ⟨σ', H', J, q⟩ := hs
        exact ⟨V.non, H', J.os, J.bare, J.base, J.hok, rfl, q⟩
      | brk =>
        obtain ⟨_, _, _, q⟩ := hs
        exact q.elim
      | cont =>
        obtain ⟨_, _, _, q⟩ := hs
        exact q.elim
    · intro e s' hs
      exact hs

variable {X : Cx} {k : Nat} {f : Addr} {fd : FuncData} {ps : List Str} {sp : Sp} {x : Str} {p pos : Pos} {e : Expr} {es : List Expr} {t : TA}
theorem runG {pins : List (Addr × Obj)} {σ : L2.St} {H : Hp} {s : Shared} {Q : VK} {us : List Value} {vs : List V} (F : FnG X.prog X.w X.K X.mg X.base k f fd ps sp) (hr : Room k X.A) (hgd : X.A.guards = some []) (hb : Binds X.K fd ps [])
    (I : Inv X pins σ H s) (r : Vals vs us) (h : sp vs H Q E0) : wpAny (model X.prog X.w) X.A (call (.ref f) us) (EP X pins σ Q) X.xe s := by
  have hl : us.length = ps.length := by
    rw [← r.length]
    exact F.len _ _ _ _ h
  have hbs := hb s us I.kIn (by rw [List.append_nil]; exact hl)
  rw [List.append_nil] at hbs
  refine wpAny_call (codeAny_mono (F.run X.A X.stack s H ⟨us, []⟩ us vs Q E0 hr hgd I.env0 hbs r h) ?_)
  intro r s' hq
  match r, hq with
  | .ok (.ret u), hq => exact I.after hq
  | .ok .next, hq => exact hq.elim
  | .ok .brk, hq => exact hq.elim
  | .ok .cont, hq => exact hq.elim
  | .error e, hq => exact hq.elim
/-- f(e, ..) -/
theorem pe_callG (F : FnG X.prog X.w X.K X.mg X.base k f fd ps sp) (hr : Room k X.A) (hgd : X.A.guards = some []) (hg : Gl X x) (hm : X.mg x = some (.ref f)) (hk : PySem.W.keepIn X.K (.ref f) = true) (hb : Binds X.K fd ps [])
    (ha : PA X (e :: es) t) (hdb : (x == ("__debug__" : Str)) = false := by decide) (he : starEach (e :: es) X.env = (false, eval e X.env) :: starEach es X.env := by rfl) (hpl : (backTo pos (starEach es X.env)).any (·.1) = false := by rfl) :
    PE X (.Call (.Name x p) (e :: es) [] pos) (tCall sp [] E0 t) := by
  constructor
  intro pins s σ H Q I h
  refine wpAny_Call_Name_kw (ld_glob I hg hm ?_ hdb)
  refine PySem.W.callWith_K (h₀ := X.base) I.ok.mod.kin hk (thn (ha.run pos pins s σ H _ I h) ?_) he hpl
  rintro us s1 ⟨vs, H1, I1, r, q⟩
  rw [List.append_nil] at q
  exact ⟨I1.kIn, runG F hr hgd hb I1 r q⟩
end
end VK
namespace VK
open PySem PySem.Spec PyProof.Rows L2
section
variable {P : Program} {w : World} {K : PySem.W.Frag} {mg mb : Str → Option Value} {k : Nat} {fa a : Addr} {fd : FuncData} {x : Str} {sp : Sp} {s₁ : Shared} {vs : List Value} {ns : List Int}
/-- the law's call, from its promise, in an abstract heap that tracks the script at most -/
theorem enterG (KX : K.In s₁.heap) (hns : s₁.heap.Ns mainGlobals mg) (hb : s₁.heap.Ns builtinsNs mb) (hbb : ∀ x : Str, x ≠ "__name__" → mb x = bootBuiltins x) (hlim : s₁.heap.NoLimit) (hg : s₁.gens = #[])
    (ha : s₁.heap.get? a = some { cls := .type "list", data := .seq vs.toArray }) (hr : Room k callerA)
    (F : ∀ base : Heap, K.In base → base.Ns mainGlobals mg → FnG P w K mg base k fa fd [x] sp) (hbind : ∀ (s : Shared) (u : Value), BindsTo s fd ⟨[u], []⟩ [(x, u)])
    (H : Hp) (hO : Only H) (hok : HOk P w H s₁.heap) (hA : ∀ b, H b ≠ none → b = a) (hK : H a ≠ none → K.lookup a = none)
    (hsp : sp [.ref a] H (fun v _ => v = .bl true) E0) :
    codeAny (model P w) callerA (.call (.ref fa) ⟨[.ref a], []⟩) (fun r s' => r = .ok (.ret (.bool true)) ∧ OldK s₁.heap s'.heap ∧ s'.os = s₁.os ∧ AllBare s'.gens) s₁ := by
  -- what is not the script is untracked
  have only_a : ∀ {b : Addr} {o : Obj}, s₁.heap.get? b = some o → o ≠ { cls := .type "list", data := .seq vs.toArray } → H b = none := fun {b o} e d => by
    cases q : H b with
    | none => rfl
    | some u =>
      have e' : b = a := hA b (by rw [q]; intro z; cases z)
      rw [e', ha] at e
      exact absurd (Option.some.inj e).symm d
  have nsB : ∀ {b : Addr} {m : Str → Option Value}, s₁.heap.Ns b m → (hidT s₁.heap H).Ns b m := by
    rintro b m ⟨o, es, ep, e, d, r⟩
    refine ⟨o, es, ep, hidT_get e (only_a e ?_), d, r⟩
    intro z
    rw [z] at d
    cases d
  have KB : K.In (hidT s₁.heap H) := by
    intro b o e
    refine hidT_get (KX b o e) ?_
    cases q : H b with
    | none => rfl
    | some u =>
      have nn : H b ≠ none := by rw [q]; intro z; cases z
      have e' := hA b nn
      rw [e'] at e nn
      rw [hK nn] at e
      cases e
  have gB := nsB hns
  have M : Mod K mg (hidT s₁.heap H) := by
    obtain ⟨mc, h1, h2⟩ := hlim
    exact ⟨KB, gB, ⟨mb, nsB hb, hbb⟩, ⟨mc, nsB h1, h2⟩⟩
  have e0 : Env0 P w K mg (hidT s₁.heap H) callerA [] s₁ H :=
    ⟨rfl, M, fun b o e => of_hidT e, Nat.le_of_eq (hidT_size _ _), trivial, fun b hb => (List.not_mem_nil hb).elim, hok, AllBare.of_eq hg⟩
  have run := (F _ KB gB).run callerA [] s₁ H ⟨[.ref a], []⟩ [.ref a] [.ref a] (fun v _ => v = .bl true) E0 hr rfl e0 (hbind s₁ (.ref a)) (.cons rfl .nil) hsp
  refine codeAny_mono run ?_
  intro r s' h
  match r, h with
  | .ok (.ret u), ⟨v, H', os, bare, un, hok', r', q⟩ =>
    have q' : v = .bl true := q
    rw [q'] at r'
    have eu : u = Value.bool true := r'
    rw [eu]
    refine ⟨rfl, OldK.of_keep ?_, os, bare⟩
    intro b o e
    rcases hO b with z | ⟨ob, xs, z⟩
    · exact un.keep b o e z (fun m => List.not_mem_nil m) (fun m => List.not_mem_nil m)
    · have e1 := (hok b _ z).1
      have e2 := (hok' b _ (un.frzs b ob _ z)).1
      rw [e1] at e
      cases e
      exact e2
  | .ok .next, h => exact h.elim
  | .ok .brk, h => exact h.elim
  | .ok .cont, h => exact h.elim
  | .error e, h => exact h.elim
end
/-- a law's end: its promise, as a def that is called while no repr is under way -/
theorem walk_ofG {l : PySem.W.OpenLaw} {n k : Nat} {q : Program} {loose : List Str} {XP : (Str → Option Value) → Heap → Prop} {YP : World → Heap → Prop} {d : DefRec} {K : Params → PySem.W.Frag} {sp : PySem.W.Frag → Sp} {x : Str}
    (hn : l.most = some n) (hn2 : n ≤ sizeLine) (hdf : d.params.defaults = []) (hr : Room k callerA) (hY : ∀ (w : World) (h : Heap), YP w h → (K w.params).In h)
    (F : ∀ (w : World) (mg : Str → Option Value) (fa : Addr) (h : Heap), (K w.params).In h → h.Ns mainGlobals mg → mg d.name = some (.ref fa) →
      ∃ fd : FuncData, (∀ (s : Shared) (u : Value), BindsTo s fd ⟨[u], []⟩ [(x, u)]) ∧ ∀ base : Heap, (K w.params).In base → base.Ns mainGlobals mg → FnG l.prog w (K w.params) mg base k fa fd [x] (sp (K w.params)))
    (hsp : ∀ (K : PySem.W.Frag) (H : Hp) (a : Addr) (ns : List Int), ns.length ≤ n → SqL K H a (ns.map V.int) → sp K [.ref a] H (fun v _ => v = .bl true) E0) :
    PySem.W.WalkO q loose XP YP l.row.toRowW d [] (fun f vs => PySem.call f vs) := by
  refine Att.attach_call hn hdf ?_
  intro w s₀ s₁ mg mb fa o pm cd doc a vs ns G Y ho hd hcd hmg hobj hints hlen hg
  have KX := hY w _ Y
  have hz : ns.length ≤ sizeLine := Nat.le_trans hlen hn2
  have rv := vals_ints hints
  obtain ⟨fd, hb, hF⟩ := F w mg fa _ KX G.T.g hmg
  have go := fun H h1 h3 h4 h2 h5 => enterG (H := H) KX G.T.g G.T.b G.T.builtins G.T.nolimit hg hobj hr hF hb h1 h2 h3 h4 (hsp _ H a ns hlen h5)
  cases hk : (K w.params).lookup a with
  | some ob =>
    have e := KX a ob hk
    rw [hobj] at e
    cases e
    refine go (fun _ => none) (fun _ => .inl rfl) (fun b z => (z rfl).elim) (fun z => (z rfl).elim) (fun b u z => nomatch z) (.inr ⟨_, vs.toArray, _, hk, rfl, rfl, rfl, ?_, rv⟩)
    rw [List.size_toArray, hints.length]
    exact hz
  | none =>
    let ob : Obj := { cls := .type "list", data := .seq vs.toArray }
    have at_a : ∀ u : HO, (fun b => if b = a then some u else none : Hp) a = some u := fun u => if_pos rfl
    have off : ∀ (u : HO) b, b ≠ a → (fun b => if b = a then some u else none : Hp) b = none := fun u b z => if_neg z
    refine go (fun b => if b = a then some (HO.frz ob (.lst (ns.map V.int))) else none) (fun b => ?_) (fun b z => ?_) (fun _ => hk) (fun b u z => ?_) (.inl (.inr ⟨ob, at_a _⟩))
    · by_cases e : b = a
      · rw [e]
        exact .inr ⟨_, _, at_a _⟩
      · exact .inl (off _ b e)
    · by_cases e : b = a
      · exact e
      · exact absurd (off _ b e) z
    · by_cases e : b = a
      · rw [e] at z
        have z2 := (at_a _).symm.trans z
        cases z2
        rw [e]
        refine ⟨hobj, ?_, vs, _, rv, hobj⟩
        rw [List.length_map]
        exact hz
      · have z2 := (off _ b e).symm.trans z
        cases z2
end VK
namespace VK
open PySem PySem.Spec PyProof.Rows L2
open C8 (Cal pe_c pe_gc)

/-! ### heaps: what is never changed stands in F; p alone may change -/
def Off (p : Addr) (H H' : Hp) : Prop := ∀ b o, b ≠ p → H b = some o → H' b = some o
theorem Off.refl (p : Addr) (H : Hp) : Off p H H := fun _ _ _ h => h
theorem Off.trans {p : Addr} {H H1 H2 : Hp} (a : Off p H H1) (b : Off p H1 H2) : Off p H H2 := fun c o n h => b c o n (a c o n h)
theorem Off.of {p : Addr} {H H' : Hp} (a : Same H H') : Off p H H' := fun c o _ h => a c o h
theorem Off.same {p : Addr} {F H H' : Hp} (a : Off p H H') (hp : F p = none) (h : Same F H) : Same F H' := fun c o e => a c o (ne_of_none e hp) (h c o e)
theorem Off.upd {p : Addr} {H : Hp} {o : HO} : Off p H (upd H p o) := fun b u n h => by
  rw [upd_ne n]
  exact h
theorem Off.new {p q : Addr} {H : Hp} {o : HO} (h : H q = none) : Off p H (L2.upd H q o) := fun b u _ e => by
  rw [upd_ne (ne_of_none e h)]
  exact e
theorem same_new {H : Hp} {q : Addr} {o : HO} (h : H q = none) : Same H (upd H q o) := fun b u e => by
  rw [upd_ne (ne_of_none e h)]
  exact e
theorem same_off {F H : Hp} {q : Addr} {o : HO} (s : Same F H) (h : F q = none) : Same F (upd H q o) := fun b u e => by
  rw [upd_ne (ne_of_none e h)]
  exact s b u e
theorem same_grow {F H : Hp} {q : Addr} {o : HO} (s : Same F H) (h : H q = none) : Same (upd F q o) (upd H q o) := fun b u e => by
  by_cases z : b = q
  · rw [z, upd_same] at e
    rw [z, upd_same]
    exact e
  · rw [upd_ne z] at e
    rw [upd_ne z]
    exact s b u e
theorem same_seqT {K : PySem.W.Frag} {H H' : Hp} {a : Addr} {xs : List V} (e : Same H H') (h : SqT K H a xs) : SqT K H' a xs := by
  rcases h with (h | ⟨o, h⟩) | h
  · exact .inl (.inl (e _ _ h))
  · exact .inl (.inr ⟨o, e _ _ h⟩)
  · exact .inr h
section
variable {K : PySem.W.Frag} {H H' : Hp}
mutual
theorem Da.mono (s : Same H H') : ∀ {v : V} {d : PyData}, Da K H v d → Da K H' v d
  | _, _, .non => .non
  | _, _, .bl b => .bl b
  | _, _, .int i => .int i
  | _, _, .str x => .str x
  | _, _, .lst h t => .lst (s.seq h) (DaAll.mono s t)
  | _, _, .tup h t => .tup (same_seqT s h) (DaAll.mono s t)
  | _, _, .dic h t => .dic (s _ _ h) (DaKv.mono s t)
theorem DaAll.mono (s : Same H H') : ∀ {vs : List V} {ds : List PyData}, DaAll K H vs ds → DaAll K H' vs ds
  | _, _, .nil => .nil
  | _, _, .cons h t => .cons (Da.mono s h) (DaAll.mono s t)
theorem DaKv.mono (s : Same H H') : ∀ {kvs : List (Key × V)} {es : List (PyData × PyData)}, DaKv K H kvs es → DaKv K H' kvs es
  | _, _, .nil => .nil
  | _, _, .cons h1 h2 t => .cons (Da.mono s h1) (Da.mono s h2) (DaKv.mono s t)
end
theorem DaAll.length : ∀ {vs : List V} {ds : List PyData}, DaAll K H vs ds → vs.length = ds.length
  | _, _, .nil => rfl
  | _, _, .cons _ t => by rw [List.length_cons, List.length_cons, DaAll.length t]
theorem DaAll.get : ∀ {vs : List V} {ds : List PyData}, DaAll K H vs ds → ∀ {i : Nat} {v : V}, vs[i]? = some v → ∃ d, ds[i]? = some d ∧ Da K H v d
  | _, _, .cons h _, 0, _, e => ⟨_, rfl, by cases e; exact h⟩
  | _, _, .cons _ t, i + 1, _, e => DaAll.get t (i := i) e
theorem DaAll.append : ∀ {vs us : List V} {ds es : List PyData}, DaAll K H vs ds → DaAll K H us es → DaAll K H (vs ++ us) (ds ++ es)
  | _, _, _, _, .nil, s => s
  | _, _, _, _, .cons h t, s => .cons h (DaAll.append t s)
theorem DaAll.take : ∀ {vs : List V} {ds : List PyData} (n : Nat), DaAll K H vs ds → DaAll K H (vs.take n) (ds.take n)
  | _, _, 0, _ => .nil
  | _, _, _ + 1, .nil => .nil
  | _, _, n + 1, .cons h t => .cons h (DaAll.take n t)
theorem DaAll.drop : ∀ {vs : List V} {ds : List PyData} (n : Nat), DaAll K H vs ds → DaAll K H (vs.drop n) (ds.drop n)
  | _, _, 0, r => r
  | _, _, _ + 1, .nil => .nil
  | _, _, n + 1, .cons _ t => DaAll.drop n t
theorem DaAll.one {v : V} {d : PyData} (h : Da K H v d) : DaAll K H [v] [d] := .cons h .nil
theorem DaAll.flat : ∀ {n : Nat} {vs : List V} {ds : List PyData}, DaAll K H vs ds → DaAll K H (List.replicate n vs).flatten (List.replicate n ds).flatten
  | 0, _, _, _ => .nil
  | n + 1, _, _, h => DaAll.append h (DaAll.flat (n := n) h)

/-! ### what kind of data -/
def tyN : PyData → String
  | .none => "NoneType"
  | .bool _ => "bool"
  | .int _ => "int"
  | .str _ => "str"
  | .list _ => "list"
  | .tuple _ => "tuple"
  | .dict _ => "dict"
theorem da_ty {v : V} {d : PyData} (h : Da K H v d) : TyX K H v (.type (tyN d)) := by
  cases h with
  | non => exact .base .non
  | bl b => exact .base (.bl b)
  | int i => exact .base (.int i)
  | str x => exact .base (.str x)
  | lst h _ =>
    rcases h with (h | ⟨o, h⟩) | ⟨o, its, n, h1, h2, _⟩
    · exact .base (.lst h)
    · exact .base (.frz h)
    · exact .kList h1 h2
  | tup h _ =>
    rcases h with (h | ⟨o, h⟩) | ⟨o, its, n, h1, h2, _⟩
    · exact .base (.tup h)
    · exact .fTuple h
    · exact .kTuple h1 h2
  | dic h _ => exact .base (.dK h)
def isInt : PyData → Bool
  | .int _ => true
  | .bool _ => true
  | _ => false
def isBool : PyData → Bool
  | .bool _ => true
  | _ => false
def isTup : PyData → Bool
  | .tuple _ => true
  | _ => false
def isStr : PyData → Bool
  | .str _ => true
  | _ => false
def isLst : PyData → Bool
  | .list _ => true
  | _ => false
theorem kI (d : PyData) : PySem.W.kitOne K (.type (tyN d)) (.type "int") = some (isInt d) := by cases d <;> (refine kit_ty ?_; dsimp only [tyN, isInt]; decide +kernel)
theorem kB (d : PyData) : PySem.W.kitOne K (.type (tyN d)) (.type "bool") = some (isBool d) := by cases d <;> (refine kit_ty ?_; dsimp only [tyN, isBool]; decide +kernel)
theorem kT (d : PyData) : PySem.W.kitOne K (.type (tyN d)) (.type "tuple") = some (isTup d) := by cases d <;> (refine kit_ty ?_; dsimp only [tyN, isTup]; decide +kernel)
theorem kS (d : PyData) : PySem.W.kitOne K (.type (tyN d)) (.type "str") = some (isStr d) := by cases d <;> (refine kit_ty ?_; dsimp only [tyN, isStr]; decide +kernel)
theorem kL (d : PyData) : PySem.W.kitOne K (.type (tyN d)) (.type "list") = some (isLst d) := by cases d <;> (refine kit_ty ?_; dsimp only [tyN, isLst]; decide +kernel)
end
def rLenSq (K : PySem.W.Frag) : List V → Hp → VK → Prop := fun xs H Q => ∃ p ys, xs = [.ref p] ∧ (SqL K H p ys ∨ SqT K H p ys) ∧ Q (.int ys.length) H
theorem call_lenSq {X : Cx} : CallR X (.builtin "len") (rLenSq X.K) := call_len_seq
def rListOf (K : PySem.W.Frag) : List V → Hp → VK → Prop := fun xs H Q => ∃ p ys, xs = [.ref p] ∧ (SqL K H p ys ∨ SqT K H p ys) ∧ ∀ l, H l = none → Q (.ref l) (upd H l (.lst ys))
theorem call_listOf {X : Cx} : CallR X (.type "list") (rListOf X.K) := call_list_of
/-- tuple(a list) -/
def rTupleL (K : PySem.W.Frag) : List V → Hp → VK → Prop := fun xs H Q => ∃ p ys, xs = [.ref p] ∧ SqL K H p ys ∧ ∀ l, H l = none → Q (.ref l) (upd H l (.tup ys))
theorem call_tupleL {X : Cx} : CallR X (.type "tuple") (rTupleL X.K) := fun pins s σ H xs us Q I r h => by
  obtain ⟨p, ys, e, hp, q⟩ := h
  exact call_tuple_of pins s σ H xs us Q I r ⟨p, ys, e, .inl ⟨hp, q⟩⟩

/-! ### calls of defs that know that no repr is under way, by name -/
structure CalG (P : Program) (w : World) (K : PySem.W.Frag) (mg : Str → Option Value) (base : Heap) (k : Nat) (x : Str) (sp : Sp) : Prop where
  ex : ∃ (f : Addr) (fd : FuncData) (ps : List Str), FnG P w K mg base k f fd ps sp ∧ mg x = some (.ref f) ∧ PySem.W.keepIn K (.ref f) = true ∧ Binds K fd ps []
section
variable {X : Cx} {k j : Nat} {sp : Sp} {x : Str} {p pos : Pos} {e : Expr} {es : List Expr} {t : TA}
theorem pe_cG (c : CalG X.prog X.w X.K X.mg X.base k x sp) (hr : Room j X.A) (hgd : X.A.guards = some []) (hk : k ≤ j) (hg : Gl X x) (ha : PA X (e :: es) t)
    (hdb : (x == ("__debug__" : Str)) = false := by decide) (he : starEach (e :: es) X.env = (false, eval e X.env) :: starEach es X.env := by rfl) (hpl : (backTo pos (starEach es X.env)).any (·.1) = false := by rfl) :
    PE X (.Call (.Name x p) (e :: es) [] pos) (tCall sp [] E0 t) := by
  obtain ⟨f, fd, ps, F, hm, kp, b⟩ := c.ex
  exact pe_callG F (hr.mono hk) hgd hg hm kp b ha hdb he hpl
end
/-- what a def of the text is, by its place -/
structure Df (K : PySem.W.Frag) (mg : Str → Option Value) (x : Str) (st : Stmt) : Prop where
  ex : ∃ (f : Addr) (fd : FuncData), Fun K x x st f fd ∧ mg x = some (.ref f)
section
variable {P : Program} {w : World} {K : PySem.W.Frag} {mg : Str → Option Value} {base : Heap} {x : Str} {st : Stmt} {N ps : List Str} {k : Nat} {sp : Sp}
theorem Df.cal (D : Df K mg x st) (S : FnScope N ps (defScope st))
    (hb : ∀ (kV doc pm : Value) (an : Option Addr) (cdv ct : Value) (us : List Value), us.length = ps.length → bindArgs (PySem.W.fnOf x x (defArgs st) (defBody st) (defScope st) .none kV doc pm an cdv ct) ⟨us, []⟩ = pure (ps.zip us))
    (len : ∀ vs H Q E, sp vs H Q E → vs.length = ps.length)
    (hbody : ∀ (f : Addr) (cdv : Value) (A : Around) (outer : List Env) (s : Shared) (H : Hp) (vs : List V) (Q : VK) (E : XK), Room k (A.deeper (envOfC x (defScope st) s.heap.objs.size f cdv)) → sp vs H Q E →
      ∃ t, PSs (cxOf CX0 P w K mg base N x (defScope st) f cdv A outer s H E).nox (defBody st) t ∧ t { nx := fun _ H' => Q .non H', rt := Q } (start N vs) H) : Cal P w K mg base (k + 1) x sp [] := by
  obtain ⟨f, fd, F, hm⟩ := D.ex
  exact ⟨f, fd, ps, [], F.ok S len (hbody f), hm, F.kp, F.binds hb, .nil⟩
theorem Df.calG (D : Df K mg x st) (S : FnScope N ps (defScope st))
    (hb : ∀ (kV doc pm : Value) (an : Option Addr) (cdv ct : Value) (us : List Value), us.length = ps.length → bindArgs (PySem.W.fnOf x x (defArgs st) (defBody st) (defScope st) .none kV doc pm an cdv ct) ⟨us, []⟩ = pure (ps.zip us))
    (len : ∀ vs H Q E, sp vs H Q E → vs.length = ps.length)
    (hbody : ∀ (f : Addr) (cdv : Value) (A : Around) (outer : List Env) (s : Shared) (H : Hp) (vs : List V) (Q : VK) (E : XK), Room k (A.deeper (envOfC x (defScope st) s.heap.objs.size f cdv)) → (A.deeper (envOfC x (defScope st) s.heap.objs.size f cdv)).guards = some [] → sp vs H Q E →
      ∃ t, PSs (cxOf CX0 P w K mg base N x (defScope st) f cdv A outer s H E).nox (defBody st) t ∧ t { nx := fun _ H' => Q .non H', rt := Q } (start N vs) H) : CalG P w K mg base (k + 1) x sp := by
  obtain ⟨f, fd, F, hm⟩ := D.ex
  exact ⟨f, fd, ps, okG F S len (hbody f), hm, F.kp, F.binds hb⟩
end
end VK
namespace VK
open PySem PySem.Spec PyProof.Rows L2
open C8 (Cal pe_c pe_gc)
/-! ### the pen at p that a law draws from: its cells (at c), the next one's index (at most n), the rest of a great one -/
def Pen (H : Hp) (p c : Addr) (n : Nat) : Prop := ∃ (cells : List Int) (at_ rest : Int), H p = some (.lst [.ref c, .int at_, .int rest]) ∧ H c = some (.lst (cells.map V.int)) ∧ c ≠ p ∧ cells.length ≤ 63 ∧ 0 ≤ at_ ∧ at_ ≤ n ∧ 0 ≤ rest
theorem Pen.mono {H H' : Hp} {p c : Addr} {n m : Nat} (s : Same H H') (h : Pen H p c n) (l : n ≤ m) : Pen H' p c m := by
  obtain ⟨cells, a, r, h1, h2, h3, h4, h5, h6, h7⟩ := h
  exact ⟨cells, a, r, s _ _ h1, s _ _ h2, h3, h4, h5, by omega, h7⟩
theorem Pen.le {H : Hp} {p c : Addr} {n m : Nat} (h : Pen H p c n) (l : n ≤ m) : Pen H p c m := h.mono (Same.refl H) l
theorem Pen.some {H : Hp} {p c : Addr} {n : Nat} (h : Pen H p c n) : ∃ o, H p = Option.some o := by
  obtain ⟨cells, a, r, h1, _⟩ := h
  exact ⟨_, h1⟩
theorem Pen.ne {H : Hp} {p c q : Addr} {n : Nat} (h : Pen H p c n) (hq : H q = none) : q ≠ p ∧ q ≠ c := by
  obtain ⟨cells, a, r, h1, h2, _⟩ := h
  exact ⟨(ne_of_none h1 hq).symm, (ne_of_none h2 hq).symm⟩
theorem Pen.off {H : Hp} {p c q : Addr} {n : Nat} {o : HO} (h : Pen H p c n) (hp : q ≠ p) (hc : q ≠ c) : Pen (upd H q o) p c n := by
  obtain ⟨cells, a, r, h1, h2, h3⟩ := h
  refine ⟨cells, a, r, ?_, ?_, h3⟩
  · rw [upd_ne hp.symm]
    exact h1
  · rw [upd_ne hc.symm]
    exact h2
theorem Off.free {p q : Addr} {H H' : Hp} (a : Off p H H') (h : H' q = none) (n : q ≠ p) : H q = none := by
  cases e : H q with
  | none => rfl
  | some o =>
    rw [a q o n e] at h
    cases h
theorem Off.mut {p q : Addr} {H H' : Hp} {o : HO} (a : Off p H H') (h : H q = none) : Off p H (L2.upd H' q o) := fun b u n e => by
  rw [upd_ne (ne_of_none e h)]
  exact a b u n e
/-- what stands in H apart from p -/
def cut (p : Addr) (H : Hp) : Hp := fun b => if b = p then none else H b
theorem cut_at {p : Addr} {H : Hp} : cut p H p = none := if_pos rfl
theorem cut_ne {p b : Addr} {H : Hp} (h : b ≠ p) : cut p H b = H b := if_neg h
theorem cut_same {p : Addr} {H : Hp} : Same (cut p H) H := fun b o e => by
  by_cases z : b = p
  · rw [z, cut_at] at e
    cases e
  · rw [cut_ne z] at e
    exact e
/-- a draw: from the pen p, that has given at most n cells, a number below many; the pen alone changes -/
def sp_draw : Sp := fun vs H Q _ => ∃ (p c : Addr) (n : Nat) (u : Int), vs = [.ref p, .int u] ∧ 0 < u ∧ u < 1000000 ∧ Pen H p c n ∧ n < 100000 ∧ ∀ r H', 0 ≤ r → r < u → Off p H H' → Pen H' p c (n + 1) → Q (.int r) H'
def sp_pen (K : PySem.W.Frag) : Sp := fun vs H Q _ => ∃ (a : Addr) (ns : List Int), vs = [.ref a] ∧ SqL K H a (ns.map V.int) ∧ ∀ p c H', Same H H' → H p = none → H c = none → Pen H' p c 0 → Q (.ref p) H'
theorem eqv_nil_ints : ∀ ns : List Int, PyData.eqv (.list (ns.map PyData.int)) (.list []) = decide (ns = [])
  | [] => rfl
  | _ :: _ => rfl
section
variable {K : PySem.W.Frag} {H : Hp}
theorem dp_ints : ∀ ns : List Int, DpAll K H (ns.map V.int) (ns.map PyData.int)
  | [] => .nil
  | _ :: r => .cons (.int _) (dp_ints r)
end
theorem can_ints : ∀ ns : List Int, PyData.canLayAll0 (ns.map PyData.int) = true
  | [] => by simp [PyData.canLayAll0]
  | n :: r => by
    have ih := can_ints r
    simp only [List.map_cons, PyData.canLayAll0, PyData.canLay0, ih, Bool.and_self]
theorem deep_ints : ∀ ns : List Int, PyData.depthAll (ns.map PyData.int) = 0
  | [] => by simp [PyData.depthAll]
  | n :: r => by
    have ih := deep_ints r
    simp only [List.map_cons, PyData.depthAll, PyData.depth, ih, Nat.max_self]
theorem shaped_ints (ns : List Int) : SeqAt.shaped (.list (ns.map PyData.int)) = true := by
  unfold SeqAt.shaped
  simp only [PyData.canLay0, PyData.depth, can_ints, deep_ints]
  decide
/-- a square within bounds -/
theorem sq_le {k a : Int} (hk : 0 ≤ k) (h0 : 0 ≤ a) (h1 : a ≤ 100000) : 0 ≤ k * a * a ∧ k * a * a ≤ k * 10000000000 := by
  have e1 : 0 ≤ k * a := Int.mul_nonneg hk h0
  have e2 : k * a ≤ k * 100000 := Int.mul_le_mul_of_nonneg_left h1 hk
  refine ⟨Int.mul_nonneg e1 h0, ?_⟩
  have e3 : k * a * a ≤ k * a * 100000 := Int.mul_le_mul_of_nonneg_left h1 e1
  have e4 : k * a * 100000 ≤ k * 100000 * 100000 := Int.mul_le_mul_of_nonneg_right e2 (by decide)
  omega
theorem abs_nn (x : Int) : 0 ≤ (if x < 0 then -x else x) := by
  split <;> omega
theorem mul_lt {f g : Int} {m n : Nat} (h0 : 0 ≤ f) (h1 : f ≤ m) (g0 : 0 ≤ g) (g1 : g ≤ n) : 0 ≤ f * g ∧ f * g ≤ (m * n : Nat) := by
  refine ⟨Int.mul_nonneg h0 g0, ?_⟩
  have e1 : f * g ≤ m * g := Int.mul_le_mul_of_nonneg_right h1 g0
  have e2 : (m : Int) * g ≤ m * n := Int.mul_le_mul_of_nonneg_left g1 (Int.natCast_nonneg _)
  have e3 : ((m * n : Nat) : Int) = (m : Int) * n := Int.natCast_mul m n
  omega
end VK
namespace VK
open PySem PySem.Spec PyProof.Rows L2
open C8 (Cal pe_c pe_gc)
/-! ### the drawing def's body as a reading, its numbers as letters -/
abbrev rAddI : R2 := rI0 fun i j => V.int (i + j)
abbrev rSubI : R2 := rI0 fun i j => V.int (i - j)
abbrev rMulI : R2 := rI CMul fun i j => V.int (i * j)
abbrev rModI : R2 := rI (fun _ j => 0 < j) fun i j => V.int (i % j)
abbrev rDivI : R2 := rI CDiv fun i j => V.int (i / j)
abbrev rPowI : R2 := rI CPow fun i j => V.int (i ^ j.toNat)
abbrev rLtI : R2 := rI0 fun i j => V.bl (decide (i < j))
abbrev rGeI : R2 := rI0 fun i j => V.bl (decide (j ≤ i))
abbrev rGtI : R2 := rI0 fun i j => V.bl (decide (j < i))
abbrev rAbs : List V → Hp → VK → Prop := fun xs H Q => ∃ i, xs = [.int i] ∧ Q (.int (if i < 0 then -i else i)) H
abbrev rInt1 : List V → Hp → VK → Prop := fun xs H Q => (∃ i, xs = [.int i] ∧ Q (.int i) H) ∨ ∃ k, xs = [.bl k] ∧ Q (.int (if k then 1 else 0)) H
abbrev cI (i : Int) : TE := tC (.int i)
section
variable (K : PySem.W.Frag)
/-- pen[i] -/
abbrev tPen (i : Int) : TE := tOp (rIxL K) (tVar 0) (cI i)
/-- ahead of the mixing: a digit of the rest; the next cell; a great one -/
def t_ahead (k1 k2 : Int) (great : TE) (mix : TS) : TS :=
  tSeq (tIfS (tTest (tOp rGtI (tPen K 2) (cI 0)))
      (tSeq (tAsg (tOp rModI (tPen K 2) (tVar 1)) (gName 2)) (tSeq (tAsg (tOp rDivI (tPen K 2) (tVar 1)) (gSub (tVar 0) (cI 2) rSetL)) (tRet (tVar 2)))) tNext)
    (tSeq (tAsg (tPen K 1) (gName 3)) (tSeq (tAsg (tOp rAddI (tVar 3) (cI 1)) (gSub (tVar 0) (cI 1) rSetL))
      (tSeq (tAsg (tOp rAddI (tOp rMulI (cI k1) (tVar 3)) (cI k2)) (gName 4))
        (tSeq (tIfS (tTest (tOp (rNeD K) (tPen K 0) (tLst tNil)))
            (tAsg (tOp (rIxL K) (tPen K 0) (tOp rModI (tVar 3) (tCB (rLenSq K) (tCons (tPen K 0) tNil)))) (gName 4)) tNext)
          (tSeq (tIfS (tAnd (tTest (tOp rLtI (tVar 3) (tCB (rLenSq K) (tCons (tPen K 0) tNil)))) (tTest (tOp rGeI (tCB rAbs (tCons (tVar 4) tNil)) (tOp rPowI (cI 10) (cI 18)))))
              (tSeq (tAsg (tOp rAddI great (tCB rInt1 (tCons (tOp rLtI (tVar 4) (cI 0)) tNil))) (gName 5))
                (tSeq (tAsg (tOp rDivI (tVar 5) (tVar 1)) (gSub (tVar 0) (cI 2) rSetL)) (tRet (tOp rModI (tVar 5) (tVar 1))))) tNext)
            mix)))))
/-- the rule of the head: mix is asked at any cell, in any heap in which the pen has given one more -/
theorem ahead {k1 k2 : Int} {great : TE} {mix : TS} {D : Ends} {p c : Addr} {n : Nat} {u : Int} {H : Hp} {x4 x5 : Option V} {rest2 : L2.St} (hk1 : -(2 ^ 64) < k1 ∧ k1 < 2 ^ 64) (u0 : 0 < u) (u1 : u < 1000000) (pen : Pen H p c n) (hn : n < 100000)
    (hg : ∀ (cell : Int) (σ : L2.St) (H1 : Hp) (Q : VK), σ[4]? = some (some (.int cell)) → ¬ (if cell < 0 then -cell else cell) < 10 ^ 18 → (∀ g, 0 ≤ g → Q (.int g) H1) → great σ H1 Q)
    (hm : ∀ (cell a : Int) (H1 : Hp), 0 ≤ a → a ≤ n → Off p H H1 → Pen H1 p c (n + 1) → mix D ([some (.ref p), some (.int u), none, some (.int a), some (.int cell)] ++ x5 :: rest2) H1)
    (q : ∀ r H', 0 ≤ r → r < u → Off p H H' → Pen H' p c (n + 1) → D.rt (.int r) H') :
    t_ahead K k1 k2 great mix D ([some (.ref p), some (.int u), none, none] ++ x4 :: x5 :: rest2) H := by
  obtain ⟨cells, a, r, hp, hc, ncp, hcl, a0, a1, r0⟩ := pen
  have hL : SqL K H p [.ref c, .int a, .int r] := .inl (.inl hp)
  refine ⟨.ref p, rfl, p, _, 2, .int r, rfl, rfl, hL, atI_nat (j := 2) rfl, r, 0, rfl, rfl, _, rfl, ite2 (fun hr1 => ?_) (fun hr1 => ?_)⟩
  · -- a digit of the rest
    refine ⟨.ref p, rfl, p, _, 2, .int r, rfl, rfl, hL, atI_nat (j := 2) rfl, .int u, rfl, r, u, rfl, rfl, u0, ?_⟩
    refine ⟨.ref p, rfl, p, _, 2, .int r, rfl, rfl, hL, atI_nat (j := 2) rfl, .int u, rfl, r, u, rfl, rfl, ⟨u0, by omega⟩, .ref p, rfl, p, _, 2, 2, rfl, rfl, hp, rfl, ?_⟩
    refine ⟨_, rfl, q (r % u) _ (Int.emod_nonneg _ (by omega)) (Int.emod_lt_of_pos _ u0) Off.upd ⟨cells, a, r / u, upd_same, ?_, ncp, hcl, a0, by omega, Int.ediv_nonneg r0 (by omega)⟩⟩
    rw [upd_ne ncp]
    exact hc
  · refine ⟨.ref p, rfl, p, _, 1, .int a, rfl, rfl, hL, atI_nat (j := 1) rfl, ?_⟩
    refine ⟨.int a, rfl, a, 1, rfl, rfl, .ref p, rfl, p, _, 1, 1, rfl, rfl, hp, rfl, ?_⟩
    refine ⟨.int a, rfl, k1, a, rfl, rfl, .inl hk1, _, k2, rfl, rfl, ?_⟩
    have o1 : Off p H (upd H p (.lst [.ref c, .int (a + 1), .int r])) := Off.upd
    have hp1 : upd H p (.lst [.ref c, .int (a + 1), .int r]) p = some (.lst [.ref c, .int (a + 1), .int r]) := upd_same
    have hc1 : upd H p (.lst [.ref c, .int (a + 1), .int r]) c = some (.lst (cells.map V.int)) := by
      rw [upd_ne ncp]
      exact hc
    have hL1 : SqL K (upd H p (.lst [.ref c, .int (a + 1), .int r])) p [.ref c, .int (a + 1), .int r] := .inl (.inl hp1)
    refine ⟨.ref p, rfl, p, _, 0, .ref c, rfl, rfl, hL1, atI_nat (j := 0) rfl, Nat.zero_le _, fun e ne => ?_⟩
    refine ⟨.list (cells.map PyData.int), .list [], .lst (.inl (.inl ((same_new ne) _ _ hc1))) (dp_ints cells), .lst (.inl (.inl upd_same)) .nil, shaped_ints _, shaped_ints [], _, rfl, ?_⟩
    rw [eqv_nil_ints]
    have o2 : Off p H (upd (upd H p (.lst [.ref c, .int (a + 1), .int r])) e (.lst [])) := o1.trans (Off.new ne)
    have hp2 := (same_new (o := .lst []) ne) _ _ hp1
    have hc2 := (same_new (o := .lst []) ne) _ _ hc1
    have hL2 : SqL K (upd (upd H p (.lst [.ref c, .int (a + 1), .int r])) e (.lst [])) p [.ref c, .int (a + 1), .int r] := .inl (.inl hp2)
    have hC2 : SqL K (upd (upd H p (.lst [.ref c, .int (a + 1), .int r])) e (.lst [])) c (cells.map V.int) := .inl (.inl hc2)
    have pen2 : Pen (upd (upd H p (.lst [.ref c, .int (a + 1), .int r])) e (.lst [])) p c (n + 1) := ⟨cells, a + 1, r, hp2, hc2, ncp, hcl, by omega, by omega, r0⟩
    -- the rest of it, at any cell
    have go : ∀ (H2 : Hp), Off p H H2 → H2 p = some (.lst [.ref c, .int (a + 1), .int r]) → H2 c = some (.lst (cells.map V.int)) → ∀ cell : Int, (tSeq (tIfS (tAnd (tTest (tOp rLtI (tVar 3) (tCB (rLenSq K) (tCons (tPen K 0) tNil)))) (tTest (tOp rGeI (tCB rAbs (tCons (tVar 4) tNil)) (tOp rPowI (cI 10) (cI 18)))))
              (tSeq (tAsg (tOp rAddI great (tCB rInt1 (tCons (tOp rLtI (tVar 4) (cI 0)) tNil))) (gName 5))
                (tSeq (tAsg (tOp rDivI (tVar 5) (tVar 1)) (gSub (tVar 0) (cI 2) rSetL)) (tRet (tOp rModI (tVar 5) (tVar 1))))) tNext)
            mix) D ([some (.ref p), some (.int u), none, some (.int a), some (.int cell)] ++ x5 :: rest2) H2 := by
      intro H2 o2 hp2 hc2 cell
      have hL2 : SqL K H2 p [.ref c, .int (a + 1), .int r] := .inl (.inl hp2)
      have hC2 : SqL K H2 c (cells.map V.int) := .inl (.inl hc2)
      have pen2 : Pen H2 p c (n + 1) := ⟨cells, a + 1, r, hp2, hc2, ncp, hcl, by omega, by omega, r0⟩
      refine ⟨.int a, rfl, .ref p, rfl, p, _, 0, .ref c, rfl, rfl, hL2, atI_nat (j := 0) rfl, c, _, rfl, .inl hC2, a, _, rfl, rfl, _, rfl, ite2 (fun h1 => ?_) (fun h1 => iteF (hm cell a H2 a0 a1 o2 pen2))⟩
      refine ⟨.int cell, rfl, cell, rfl, 10, 18, rfl, rfl, ⟨by decide, by decide, by decide⟩, _, _, rfl, rfl, _, rfl, ite2 (fun h2 => ?_) (fun h2 => hm cell a H2 a0 a1 o2 pen2)⟩
      have h2' : ((10 : Int) ^ (18 : Int).toNat) ≤ (if cell < 0 then -cell else cell) := of_decide_eq_true h2
      refine hg cell _ H2 _ rfl (by have e : ((10 : Int) ^ (18 : Int).toNat) = 10 ^ 18 := rfl; omega) fun g g0 => ?_
      refine ⟨.int cell, rfl, cell, 0, rfl, rfl, .inr ⟨_, rfl, g, _, rfl, rfl, ?_⟩⟩
      have i0 : 0 ≤ (if decide (cell < 0) = true then (1 : Int) else 0) := by split <;> decide
      generalize (if decide (cell < 0) = true then (1 : Int) else 0) = i at i0
      have g1 : 0 ≤ g + i := by omega
      refine ⟨.int (g + i), rfl, .int u, rfl, _, _, rfl, rfl, ⟨u0, by omega⟩, .ref p, rfl, p, _, 2, 2, rfl, rfl, hp2, rfl, ?_⟩
      refine ⟨.int (g + i), rfl, .int u, rfl, _, _, rfl, rfl, u0, q _ _ (Int.emod_nonneg _ (by omega)) (Int.emod_lt_of_pos _ u0) (o2.trans Off.upd) ⟨cells, a + 1, (g + i) / u, upd_same, ?_, ncp, hcl, by omega, by omega, Int.ediv_nonneg g1 (by omega)⟩⟩
      rw [upd_ne ncp]
      exact hc2
    refine ite2 (fun hne => ?_) (fun hne => go _ o2 hp2 hc2 _)
    have ne0 : cells ≠ [] := by
      intro z
      rw [z] at hne
      cases hne
    have cl0 : 0 < cells.length := List.length_pos_iff.mpr ne0
    have hm0 : 0 ≤ a % (cells.length : Int) := Int.emod_nonneg _ (by omega)
    have hm1 : a % (cells.length : Int) < cells.length := Int.emod_lt_of_pos _ (by omega)
    have hj : (a % (cells.length : Int)).toNat < cells.length := by omega
    obtain ⟨v, hv⟩ : ∃ v, cells[(a % (cells.length : Int)).toNat]? = some v := ⟨_, List.getElem?_eq_getElem hj⟩
    have at_ : atI (cells.map V.int) (a % ((cells.map V.int).length : Int)) = some (.int v) := by
      rw [List.length_map, show a % (cells.length : Int) = (((a % (cells.length : Int)).toNat : Nat) : Int) by omega]
      refine atI_nat ?_
      rw [List.getElem?_map, hv]
      rfl
    refine ⟨.ref p, rfl, p, _, 0, .ref c, rfl, rfl, hL2, atI_nat (j := 0) rfl, .int a, rfl, .ref p, rfl, p, _, 0, .ref c, rfl, rfl, hL2, atI_nat (j := 0) rfl, c, _, rfl, .inl hC2, a, _, rfl, rfl, ?_, c, _, _, _, rfl, rfl, hC2, at_, go _ o2 hp2 hc2 _⟩
    show (0 : Int) < ((cells.map V.int).length : Int)
    rw [List.length_map]
    omega
end
end VK
namespace VK
open PySem PySem.Spec PyProof.Rows L2
open C8 (Cal pe_c pe_gc)
/-! ### the great cell's number, the mixing, in the forms that laws have -/
def gLess : TE := tOp rMulI (cI 2) (tOp rSubI (tCB rAbs (tCons (tVar 4) tNil)) (tOp rPowI (cI 10) (cI 18)))
def gPlain : TE := tOp rMulI (cI 2) (tCB rAbs (tCons (tVar 4) tNil))
theorem gLess_ok (cell : Int) (σ : L2.St) (H1 : Hp) (Q : VK) (h4 : σ[4]? = some (some (.int cell))) (hb : ¬ (if cell < 0 then -cell else cell) < 10 ^ 18) (q : ∀ g, 0 ≤ g → Q (.int g) H1) : gLess σ H1 Q := by
  refine ⟨.int cell, h4, cell, rfl, 10, 18, rfl, rfl, ⟨by decide, by decide, by decide⟩, _, _, rfl, rfl, 2, _, rfl, rfl, .inl (by decide), q _ ?_⟩
  have e : ((10 : Int) ^ (18 : Int).toNat) = 10 ^ 18 := rfl
  rw [e]
  omega
theorem gPlain_ok (cell : Int) (σ : L2.St) (H1 : Hp) (Q : VK) (h4 : σ[4]? = some (some (.int cell))) (hb : ¬ (if cell < 0 then -cell else cell) < 10 ^ 18) (q : ∀ g, 0 ≤ g → Q (.int g) H1) : gPlain σ H1 Q := by
  refine ⟨.int cell, h4, cell, rfl, 2, _, rfl, rfl, .inl (by decide), q _ ?_⟩
  have := abs_nn cell
  omega
/-- x ** 3 % m1, then (x * (2 at + n) + s) ** 5 % m2, then // 64 -/
def mixP (m1 s1 s2 s3 m2 n s4 m3 : Int) : TS :=
  tSeq (tAsg (tOp rModI (tOp rPowI (tOp rAddI (tOp rAddI (tOp rAddI (tOp rModI (tVar 4) (cI m1)) (tOp rMulI (tOp rMulI (cI s1) (tVar 3)) (tVar 3))) (tOp rMulI (cI s2) (tVar 3))) (cI s3)) (cI 3)) (cI m2)) (gName 6))
    (tSeq (tAsg (tOp rModI (tOp rPowI (tOp rAddI (tOp rMulI (tVar 6) (tOp rAddI (tOp rMulI (cI 2) (tVar 3)) (cI n))) (cI s4)) (cI 5)) (cI m3)) (gName 7))
      (tRet (tOp rModI (tOp rDivI (tVar 7) (cI 64)) (tVar 1))))
/-- (cell % m1 + s1 at + s2) ** 3 % m2, then (x + s3 at at + s4) ** 5 % m3, then (x * (2 at + n) + s5) % m4 // 32 -/
def mixA (m1 s1 s2 m2 s3 s4 m3 n s5 m4 : Int) : TS :=
  tSeq (tAsg (tOp rModI (tOp rPowI (tOp rAddI (tOp rAddI (tOp rModI (tVar 4) (cI m1)) (tOp rMulI (cI s1) (tVar 3))) (cI s2)) (cI 3)) (cI m2)) (gName 6))
    (tSeq (tAsg (tOp rModI (tOp rPowI (tOp rAddI (tOp rAddI (tVar 6) (tOp rMulI (tOp rMulI (cI s3) (tVar 3)) (tVar 3))) (cI s4)) (cI 5)) (cI m3)) (gName 6))
      (tRet (tOp rModI (tOp rDivI (tOp rModI (tOp rAddI (tOp rMulI (tVar 6) (tOp rAddI (tOp rMulI (cI 2) (tVar 3)) (cI n))) (cI s5)) (cI m4)) (cI 32)) (tVar 1))))
/-- (cell % m1 + s1 at + s2) ** 5 % m2, then (x * (2 at + n) + s3 at at + s4) ** 3 % m3 // 32 -/
def mixB (m1 s1 s2 m2 n s3 s4 m3 : Int) : TS :=
  tSeq (tAsg (tOp rModI (tOp rPowI (tOp rAddI (tOp rAddI (tOp rModI (tVar 4) (cI m1)) (tOp rMulI (cI s1) (tVar 3))) (cI s2)) (cI 5)) (cI m2)) (gName 6))
    (tSeq (tAsg (tOp rModI (tOp rPowI (tOp rAddI (tOp rAddI (tOp rMulI (tVar 6) (tOp rAddI (tOp rMulI (cI 2) (tVar 3)) (cI n))) (tOp rMulI (tOp rMulI (cI s3) (tVar 3)) (tVar 3))) (cI s4)) (cI 3)) (cI m3)) (gName 6))
      (tRet (tOp rModI (tOp rDivI (tVar 6) (cI 32)) (tVar 1))))
section
variable {D : Ends} {p : Addr} {u cell a : Int} {H : Hp} {x5 y6 y7 : Option V}
theorem mixP_ok {m1 s1 s2 s3 m2 n s4 m3 : Int} (b1 : 0 < m1 ∧ m1 ≤ 2 ^ 31) (c1 : 0 ≤ s1 ∧ s1 ≤ 100000) (c2 : 0 ≤ s2 ∧ s2 ≤ 100000) (c3 : 0 ≤ s3 ∧ s3 ≤ 100000) (b2 : 0 < m2 ∧ m2 ≤ 2 ^ 31) (cn : 0 ≤ n ∧ n ≤ 100000) (c4 : 0 ≤ s4 ∧ s4 ≤ 100000) (b3 : 0 < m3)
    (u0 : 0 < u) (a0 : 0 ≤ a) (a1 : a ≤ 100000) (q : ∀ r, 0 ≤ r → r < u → D.rt (.int r) H) : mixP m1 s1 s2 s3 m2 n s4 m3 D [some (.ref p), some (.int u), none, some (.int a), some (.int cell), x5, y6, y7] H := by
  have e1 := Int.emod_nonneg cell (show m1 ≠ 0 by omega)
  have e2 := Int.emod_lt_of_pos cell b1.1
  obtain ⟨e3, e4⟩ := sq_le c1.1 a0 a1
  have e5 : 0 ≤ s2 * a := Int.mul_nonneg c2.1 a0
  have e6 : s2 * a ≤ s2 * 100000 := Int.mul_le_mul_of_nonneg_left a1 c2.1
  have e7 : s1 * a ≤ s1 * 100000 := Int.mul_le_mul_of_nonneg_left a1 c1.1
  have e8 : 0 ≤ s1 * a := Int.mul_nonneg c1.1 a0
  refine ⟨.int cell, rfl, _, _, rfl, rfl, b1.1, .int a, rfl, s1, a, rfl, rfl, .inl (by omega), .int a, rfl, _, _, rfl, rfl, .inl (by omega), _, _, rfl, rfl, .int a, rfl, s2, a, rfl, rfl, .inl (by omega), _, _, rfl, rfl, _, _, rfl, rfl,
    _, _, rfl, rfl, ⟨by decide, by decide, by omega⟩, _, _, rfl, rfl, b2.1, ?_⟩
  generalize hx : (cell % m1 + s1 * a * a + s2 * a + s3) ^ (3 : Int).toNat = x
  have f1 := Int.emod_nonneg x (show m2 ≠ 0 by omega)
  have f2 := Int.emod_lt_of_pos x b2.1
  obtain ⟨g1, g2⟩ := mul_lt (f := x % m2) (g := 2 * a + n) (m := 2147483648) (n := 300000) f1 (by omega) (by omega) (by omega)
  refine ⟨_, rfl, .int a, rfl, 2, a, rfl, rfl, .inl (by decide), _, _, rfl, rfl, _, _, rfl, rfl, .inl (by omega), _, _, rfl, rfl, _, _, rfl, rfl, ⟨by decide, by decide, by omega⟩, _, _, rfl, rfl, b3, ?_⟩
  refine ⟨_, rfl, _, 64, rfl, rfl, ⟨by decide, by decide⟩, .int u, rfl, _, u, rfl, rfl, u0, q _ (Int.emod_nonneg _ (by omega)) (Int.emod_lt_of_pos _ u0)⟩
theorem mixA_ok {m1 s1 s2 m2 s3 s4 m3 n s5 m4 : Int} (b1 : 0 < m1 ∧ m1 ≤ 2 ^ 31) (c1 : 0 ≤ s1 ∧ s1 ≤ 100000) (c2 : 0 ≤ s2 ∧ s2 ≤ 100000) (b2 : 0 < m2 ∧ m2 ≤ 2 ^ 31) (c3 : 0 ≤ s3 ∧ s3 ≤ 100000) (c4 : 0 ≤ s4 ∧ s4 ≤ 100000) (b3 : 0 < m3 ∧ m3 ≤ 2 ^ 31) (cn : 0 ≤ n ∧ n ≤ 100000) (b4 : 0 < m4)
    (u0 : 0 < u) (a0 : 0 ≤ a) (a1 : a ≤ 100000) (q : ∀ r, 0 ≤ r → r < u → D.rt (.int r) H) : mixA m1 s1 s2 m2 s3 s4 m3 n s5 m4 D [some (.ref p), some (.int u), none, some (.int a), some (.int cell), x5, y6] H := by
  have e1 := Int.emod_nonneg cell (show m1 ≠ 0 by omega)
  have e2 := Int.emod_lt_of_pos cell b1.1
  have e5 : 0 ≤ s1 * a := Int.mul_nonneg c1.1 a0
  have e6 : s1 * a ≤ s1 * 100000 := Int.mul_le_mul_of_nonneg_left a1 c1.1
  obtain ⟨e3, e4⟩ := sq_le c3.1 a0 a1
  have e7 : s3 * a ≤ s3 * 100000 := Int.mul_le_mul_of_nonneg_left a1 c3.1
  have e8 : 0 ≤ s3 * a := Int.mul_nonneg c3.1 a0
  refine ⟨.int cell, rfl, _, _, rfl, rfl, b1.1, .int a, rfl, s1, a, rfl, rfl, .inl (by omega), _, _, rfl, rfl, _, _, rfl, rfl, _, _, rfl, rfl, ⟨by decide, by decide, by omega⟩, _, _, rfl, rfl, b2.1, ?_⟩
  generalize hx : (cell % m1 + s1 * a + s2) ^ (3 : Int).toNat = x
  have f1 := Int.emod_nonneg x (show m2 ≠ 0 by omega)
  have f2 := Int.emod_lt_of_pos x b2.1
  refine ⟨_, rfl, .int a, rfl, s3, a, rfl, rfl, .inl (by omega), .int a, rfl, _, _, rfl, rfl, .inl (by omega), _, _, rfl, rfl, _, _, rfl, rfl, _, _, rfl, rfl, ⟨by decide, by decide, by omega⟩, _, _, rfl, rfl, b3.1, ?_⟩
  generalize hy : (x % m2 + s3 * a * a + s4) ^ (5 : Int).toNat = y
  have g1 := Int.emod_nonneg y (show m3 ≠ 0 by omega)
  have g2 := Int.emod_lt_of_pos y b3.1
  refine ⟨_, rfl, .int a, rfl, 2, a, rfl, rfl, .inl (by decide), _, _, rfl, rfl, _, _, rfl, rfl, .inl (by omega), _, _, rfl, rfl, _, _, rfl, rfl, b4, _, 32, rfl, rfl, ⟨by decide, by decide⟩, .int u, rfl, _, u, rfl, rfl, u0, q _ (Int.emod_nonneg _ (by omega)) (Int.emod_lt_of_pos _ u0)⟩
theorem mixB_ok {m1 s1 s2 m2 n s3 s4 m3 : Int} (b1 : 0 < m1 ∧ m1 ≤ 2 ^ 31) (c1 : 0 ≤ s1 ∧ s1 ≤ 100000) (c2 : 0 ≤ s2 ∧ s2 ≤ 100000) (b2 : 0 < m2 ∧ m2 ≤ 2 ^ 31) (cn : 0 ≤ n ∧ n ≤ 100000) (c3 : 0 ≤ s3 ∧ s3 ≤ 100000) (c4 : 0 ≤ s4 ∧ s4 ≤ 100000) (b3 : 0 < m3)
    (u0 : 0 < u) (a0 : 0 ≤ a) (a1 : a ≤ 100000) (q : ∀ r, 0 ≤ r → r < u → D.rt (.int r) H) : mixB m1 s1 s2 m2 n s3 s4 m3 D [some (.ref p), some (.int u), none, some (.int a), some (.int cell), x5, y6] H := by
  have e1 := Int.emod_nonneg cell (show m1 ≠ 0 by omega)
  have e2 := Int.emod_lt_of_pos cell b1.1
  have e5 : 0 ≤ s1 * a := Int.mul_nonneg c1.1 a0
  have e6 : s1 * a ≤ s1 * 100000 := Int.mul_le_mul_of_nonneg_left a1 c1.1
  obtain ⟨e3, e4⟩ := sq_le c3.1 a0 a1
  have e7 : s3 * a ≤ s3 * 100000 := Int.mul_le_mul_of_nonneg_left a1 c3.1
  have e8 : 0 ≤ s3 * a := Int.mul_nonneg c3.1 a0
  refine ⟨.int cell, rfl, _, _, rfl, rfl, b1.1, .int a, rfl, s1, a, rfl, rfl, .inl (by omega), _, _, rfl, rfl, _, _, rfl, rfl, _, _, rfl, rfl, ⟨by decide, by decide, by omega⟩, _, _, rfl, rfl, b2.1, ?_⟩
  generalize hx : (cell % m1 + s1 * a + s2) ^ (5 : Int).toNat = x
  have f1 := Int.emod_nonneg x (show m2 ≠ 0 by omega)
  have f2 := Int.emod_lt_of_pos x b2.1
  obtain ⟨g1, g2⟩ := mul_lt (f := x % m2) (g := 2 * a + n) (m := 2147483648) (n := 300000) f1 (by omega) (by omega) (by omega)
  refine ⟨_, rfl, .int a, rfl, 2, a, rfl, rfl, .inl (by decide), _, _, rfl, rfl, _, _, rfl, rfl, .inl (by omega), .int a, rfl, s3, a, rfl, rfl, .inl (by omega), .int a, rfl, _, _, rfl, rfl, .inl (by omega), _, _, rfl, rfl, _, _, rfl, rfl, _, _, rfl, rfl, ⟨by decide, by decide, by omega⟩, _, _, rfl, rfl, b3, ?_⟩
  refine ⟨_, rfl, _, 32, rfl, rfl, ⟨by decide, by decide⟩, .int u, rfl, _, u, rfl, rfl, u0, q _ (Int.emod_nonneg _ (by omega)) (Int.emod_lt_of_pos _ u0)⟩
end
end VK
namespace VK
open PySem PySem.Spec PyProof.Rows L2
open C8 (Cal pe_c pe_gc)
theorem at_in {α : Type} {xs : List α} {i : Int} (h0 : 0 ≤ i) (h1 : i < xs.length) : ∃ v, atI xs i = some v ∧ v ∈ xs := by
  have hj : i.toNat < xs.length := by omega
  refine ⟨xs[i.toNat], ?_, List.getElem_mem hj⟩
  have e : i = ((i.toNat : Nat) : Int) := by omega
  have h2 := atI_nat (xs := xs) (j := i.toNat) (List.getElem?_eq_getElem hj)
  rw [← e] at h2
  exact h2
/-- None, or a number from 0 on -/
def nnv (v : V) : Prop := v = .non ∨ ∃ k : Int, v = .int k ∧ 0 ≤ k
/-- a field's content, in a heap of this many objects -/
def okc (size : Int) (d : PyData) : Prop := d = .none ∨ ∃ k : Int, d = .int k ∧ 0 ≤ k ∧ k < size
/-- rows of fields -/
def okRows (wide size : Int) (rows : List PyData) : Prop := ∀ r ∈ rows, ∃ cs : List PyData, r = .tuple cs ∧ (cs.length : Int) = wide ∧ ∀ d ∈ cs, okc size d
/-- at a, in F, a heap of the laws' own making: its width, its objects -/
def PileAt (K : PySem.W.Frag) (F : Hp) (a : Addr) (wide : Int) (rows : List PyData) : Prop :=
  ∃ (o : Addr) (refs : List V), F a = some (.tup [.int wide, .ref o]) ∧ F o = some (.tup refs) ∧ DaAll K F refs rows ∧ 1 ≤ wide ∧ wide ≤ 4 ∧ okRows wide rows.length rows
theorem PileAt.mono {K : PySem.W.Frag} {F F' : Hp} {a : Addr} {wide : Int} {rows : List PyData} (s : Same F F') (h : PileAt K F a wide rows) : PileAt K F' a wide rows := by
  obtain ⟨o, refs, h1, h2, h3, h4⟩ := h
  exact ⟨o, refs, s _ _ h1, s _ _ h2, h3.mono s, h4⟩
theorem PileAt.da {K : PySem.W.Frag} {F : Hp} {a : Addr} {wide : Int} {rows : List PyData} (h : PileAt K F a wide rows) : Da K F (.ref a) (.tuple [.int wide, .tuple rows]) := by
  obtain ⟨o, refs, h1, h2, h3, h4⟩ := h
  exact .tup (.inl (.inl h1)) (.cons (.int _) (.cons (.tup (.inl (.inl h2)) h3) .nil))
/-- a pile is drawn -/
def sp_pile : PySem.W.Frag → Sp := fun K vs H Q _ => ∃ (p c wd : Addr) (n : Nat) (most : Int) (ws : List Int), vs = [.ref p, .int most, .ref wd] ∧ Pen H p c n ∧ n + 1000 ≤ 100000 ∧ 0 ≤ most ∧ most ≤ 40 ∧
  H wd = some (.lst (ws.map V.int)) ∧ wd ≠ p ∧ 0 < ws.length ∧ ws.length ≤ 100 ∧ (∀ x ∈ ws, 1 ≤ x ∧ x ≤ 4) ∧
  ∀ a H' wide rows, Off p H H' → Pen H' p c (n + 1000) → PileAt K (cut p H') a wide rows → wide ∈ ws → (rows.length : Int) ≤ most → Q (.ref a) H'
theorem same_cut {p : Addr} {F H : Hp} (s : Same F H) (h : F p = none) : Same F (cut p H) := fun b o e => by
  rw [cut_ne (ne_of_none e h)]
  exact s b o e
end VK
namespace VK
open PySem PySem.Spec PyProof.Rows L2
open C8 (Cal pe_c pe_gc)
/-! ### how long what is shown may be -/
theorem ofS_len (s : String) : (Str.ofString s).length = s.length := by
  rw [Str.ofString_eq_toList]
  show ((s.toList.map Char.toNat).toArray).size = s.length
  rw [List.size_toArray, List.length_map, String.length_toList]
/-- every sign is one that a repr can write shortly -/
def Cd (x : Str) : Prop := ∀ c ∈ x.cps.toList, c < 16 ^ 8
theorem cd_ofS (s : String) : Cd (Str.ofString s) := by
  intro c hc
  rw [Str.ofString_eq_toList] at hc
  have hc' : c ∈ s.toList.map Char.toNat := by simpa using hc
  obtain ⟨ch, _, rfl⟩ := List.mem_map.mp hc'
  have h := ch.valid
  have h2 : ch.toNat < 1114112 := by
    rcases h with h | ⟨_, h⟩
    · exact Nat.lt_trans h (by decide)
    · exact h
  exact Nat.lt_trans h2 (by decide)
theorem cd_app {x y : Str} (hx : Cd x) (hy : Cd y) : Cd (x ++ y) := by
  intro c hc
  have hc' : c ∈ x.cps.toList ++ y.cps.toList := by
    have e : (x ++ y).cps.toList = x.cps.toList ++ y.cps.toList := by
      show (x.cps ++ y.cps).toList = _
      rw [Array.toList_append]
    rw [e] at hc
    exact hc
  rcases List.mem_append.mp hc' with h | h
  · exact hx c h
  · exact hy c h
theorem cd_join {sep : Str} (hs : Cd sep) : ∀ ts : List Str, (∀ t ∈ ts, Cd t) → Cd (Str.join sep ts)
  | [], _ => fun c hc => by cases hc
  | [x], h => h x (List.mem_singleton.mpr rfl)
  | x :: y :: r, h => cd_app (cd_app (h x List.mem_cons_self) hs) (cd_join hs (y :: r) fun t ht => h t (List.mem_cons_of_mem _ ht))
theorem cd_tuple (ts : List Str) (h : ∀ t ∈ ts, Cd t) : Cd (tupleText ts) := by
  unfold tupleText
  refine cd_app (cd_app (cd_ofS _) (cd_join (cd_ofS _) ts h)) ?_
  split <;> exact cd_ofS _
theorem piled_le {m : Nat} : ∀ ts : List Str, (∀ t ∈ ts, t.length ≤ m) → piled ts ≤ ts.length * (m + 2)
  | [], _ => by simp [piled]
  | t :: r, h => by
    have h1 := h t List.mem_cons_self
    have ih := piled_le r fun x hx => h x (List.mem_cons_of_mem _ hx)
    rw [piled_cons, List.length_cons, Nat.succ_mul]
    omega
theorem tuple_len (ts : List Str) : (tupleText ts).length ≤ piled ts + 3 := by
  have e : (tupleText ts).length = 1 + (Str.join ", " ts).length + (if ts.length == 1 then ",)" else ")" : String).length := by
    unfold tupleText
    rw [strLen_append, strLen_append]
    congr 1
    split <;> rfl
  rw [e]
  have e2 : (if ts.length == 1 then ",)" else ")" : String).length ≤ 2 := by split <;> decide
  by_cases h : ts = []
  · subst h
    have : (Str.join ", " []).length = 0 := rfl
    omega
  · have := join_length_add ts h
    omega
theorem from_len : ∀ (ts : List Str) (k : Nat) (acc : Str), (textFrom k acc ts).length ≤ acc.length + piled ts
  | [], k, acc => by show acc.length ≤ _; omega
  | t :: r, k, acc => by
    have ih := from_len r (k + 1) (acc ++ (if k > 0 then ", " else "" : String) ++ t)
    have e : (acc ++ (if k > 0 then ", " else "" : String) ++ t).length ≤ acc.length + 2 + t.length := by
      rw [strLen_append, strLen_append]
      split
      · show acc.length + 2 + t.length ≤ _
        omega
      · show acc.length + 0 + t.length ≤ _
        omega
    rw [piled_cons]
    show (textFrom (k + 1) (acc ++ (if k > 0 then ", " else "" : String) ++ t) r).length ≤ _
    omega
theorem list_len (ts : List Str) : (listText ts).length ≤ piled ts + 2 := by
  have h := from_len ts 0 "["
  unfold listText
  rw [strLen_append]
  have e1 : ((("[" : String) : Str)).length = 1 := rfl
  have e2 : ((("]" : String) : Str)).length = 1 := rfl
  omega
theorem shownAll_map : ∀ ds : List PyData, PyData.shownAll ds = ds.map PyData.shown
  | [] => by simp [PyData.shownAll]
  | d :: r => by simp [PyData.shownAll, shownAll_map r]
theorem showableAll_all : ∀ {ds : List PyData}, (∀ d ∈ ds, d.showable = true) → PyData.showableAll ds = true
  | [], _ => by simp [PyData.showableAll]
  | d :: r, h => by
    simp only [PyData.showableAll, Bool.and_eq_true]
    exact ⟨h d List.mem_cons_self, showableAll_all fun e he => h e (List.mem_cons_of_mem _ he)⟩
theorem depthAll_le {m : Nat} : ∀ {ds : List PyData}, (∀ d ∈ ds, d.depth ≤ m) → PyData.depthAll ds ≤ m
  | [], _ => by simp [PyData.depthAll]
  | d :: r, h => by
    simp only [PyData.depthAll]
    exact Nat.max_le.mpr ⟨h d List.mem_cons_self, depthAll_le fun e he => h e (List.mem_cons_of_mem _ he)⟩
theorem hasDictAll_false : ∀ {ds : List PyData}, (∀ d ∈ ds, d.hasDict = false) → PyData.hasDictAll ds = false
  | [], _ => by simp [PyData.hasDictAll]
  | d :: r, h => by
    simp only [PyData.hasDictAll, Bool.or_eq_false_iff]
    exact ⟨h d List.mem_cons_self, hasDictAll_false fun e he => h e (List.mem_cons_of_mem _ he)⟩
theorem noLs_all : ∀ {ds : List PyData}, (∀ d ∈ ds, noL d = true) → noLs ds = true
  | [], _ => by simp [noLs]
  | d :: r, h => by
    simp only [noLs, Bool.and_eq_true]
    exact ⟨h d List.mem_cons_self, noLs_all fun e he => h e (List.mem_cons_of_mem _ he)⟩
/-- bounds: depth k, length m -/
structure Bd (k m : Nat) (d : PyData) : Prop where
  sh : d.showable = true
  dp : d.depth ≤ k
  sz : d.shown.length ≤ m
theorem Bd.le {k m k' m' : Nat} {d : PyData} (h : Bd k m d) (hk : k ≤ k') (hm : m ≤ m') : Bd k' m' d := ⟨h.sh, Nat.le_trans h.dp hk, Nat.le_trans h.sz hm⟩
theorem bd_none : Bd 0 4 .none := ⟨rfl, Nat.le_refl _, by decide⟩
theorem bd_bool (b : Bool) : Bd 0 5 (.bool b) := ⟨rfl, Nat.le_refl _, by cases b <;> decide⟩
theorem bd_int {i : Int} (h : i.natAbs < 10 ^ 60) : Bd 0 61 (.int i) := by
  refine ⟨decide_eq_true ?_, Nat.le_refl _, ?_⟩
  · by_cases h0 : i.natAbs = 0
    · rw [h0]
      decide
    · rw [Nat.log2_lt h0]
      exact Nat.lt_trans h (by decide)
  · show (Str.ofString (toString i)).length ≤ 61
    rw [ofS_len]
    exact int_text_length_le10 (by decide) h
theorem bd_tup {k m : Nat} {ds : List PyData} (h : ∀ d ∈ ds, Bd k m d) : Bd (k + 1) (ds.length * (m + 2) + 3) (.tuple ds) := by
  refine ⟨?_, ?_, ?_⟩
  · simp only [PyData.showable]
    exact showableAll_all fun d hd => (h d hd).sh
  · simp only [PyData.depth]
    exact Nat.succ_le_succ (depthAll_le fun d hd => (h d hd).dp)
  · simp only [PyData.shown, shownAll_map]
    refine Nat.le_trans (tuple_len _) (Nat.add_le_add_right ?_ 3)
    have := piled_le (m := m) (ds.map PyData.shown) fun t ht => by
      obtain ⟨d, hd, rfl⟩ := List.mem_map.mp ht
      exact (h d hd).sz
    rw [List.length_map] at this
    exact this
theorem bd_lst {k m : Nat} {ds : List PyData} (h : ∀ d ∈ ds, Bd k m d) : Bd (k + 1) (ds.length * (m + 2) + 2) (.list ds) := by
  refine ⟨?_, ?_, ?_⟩
  · simp only [PyData.showable]
    exact showableAll_all fun d hd => (h d hd).sh
  · simp only [PyData.depth]
    exact Nat.succ_le_succ (depthAll_le fun d hd => (h d hd).dp)
  · simp only [PyData.shown, shownAll_map]
    refine Nat.le_trans (list_len _) (Nat.add_le_add_right ?_ 2)
    have := piled_le (m := m) (ds.map PyData.shown) fun t ht => by
      obtain ⟨d, hd, rfl⟩ := List.mem_map.mp ht
      exact (h d hd).sz
    rw [List.length_map] at this
    exact this
theorem bd_str {x : Str} {m : Nat} (h : Cd x) (hl : x.length ≤ m) : Bd 0 (10 * m + 2) (.str x) := by
  refine ⟨rfl, Nat.le_refl _, ?_⟩
  simp only [PyData.shown]
  have := StrLaws.reprText_len x h
  omega
theorem bd_emp : Bd 1 2 (.dict []) := ⟨rfl, by decide, by decide⟩
/-- no dict, no list -/
structure Pl (d : PyData) : Prop where
  nd : d.hasDict = false
  nl : noL d = true
theorem pl_none : Pl .none := ⟨rfl, rfl⟩
theorem pl_bool (b : Bool) : Pl (.bool b) := ⟨rfl, rfl⟩
theorem pl_int (i : Int) : Pl (.int i) := ⟨rfl, rfl⟩
theorem pl_str (x : Str) : Pl (.str x) := ⟨rfl, rfl⟩
theorem pl_tup {ds : List PyData} (h : ∀ d ∈ ds, Pl d) : Pl (.tuple ds) := ⟨by simp only [PyData.hasDict]; exact hasDictAll_false fun d hd => (h d hd).nd, by simp only [noL]; exact noLs_all fun d hd => (h d hd).nl⟩
/-- a dict only where no list stands -/
def Dl (d : PyData) : Prop := d.hasDict = true → noL d = true
theorem Pl.dl {d : PyData} (h : Pl d) : Dl d := fun _ => h.nl
theorem dl_pair {a b : PyData} (ha : Pl a) (hb : Dl b) : Dl (.tuple [a, b]) := by
  intro h
  simp only [PyData.hasDict, PyData.hasDictAll, ha.nd, Bool.false_or, Bool.or_false] at h
  simp only [noL, noLs, ha.nl, hb h, Bool.and_self]
theorem Bd.sho {k m : Nat} {d : PyData} (h : Bd k m d) (hk : k ≤ 60) (hm : m ≤ 16777216) (hd : Dl d) : Sho d := ⟨h.sh, Nat.le_trans h.dp hk, Nat.le_trans h.sz (by rw [sizeLine_eq]; exact hm), hd⟩
theorem sho_bool (b : Bool) : Sho (.bool b) := (bd_bool b).sho (by decide) (by decide) (pl_bool b).dl
/-- the numbers of a pile -/
theorem bd_okc {z : Int} (hz : z ≤ 1000) {d : PyData} (h : okc z d) : Bd 0 61 d ∧ Pl d := by
  rcases h with rfl | ⟨k, rfl, k0, k1⟩
  · exact ⟨bd_none.le (Nat.le_refl _) (by decide), pl_none⟩
  · refine ⟨bd_int ?_, pl_int k⟩
    exact Nat.lt_of_lt_of_le (m := 1000) (by omega) (by decide)
theorem bd_pile {wide : Int} {rows : List PyData} (hw : 0 ≤ wide ∧ wide ≤ 10) (hz : rows.length ≤ 50) (h : okRows wide rows.length rows) : Bd 3 80000 (.tuple [.int wide, .tuple rows]) ∧ Pl (.tuple [.int wide, .tuple rows]) := by
  have hr : ∀ d ∈ rows, Bd 1 700 d ∧ Pl d := by
    intro d hd
    obtain ⟨cs, rfl, hl, hc⟩ := h d hd
    refine ⟨(bd_tup (k := 0) (m := 61) fun e he => (bd_okc (by omega) (hc e he)).1).le (Nat.le_refl _) ?_, pl_tup fun e he => (bd_okc (z := rows.length) (by omega) (hc e he)).2⟩
    have : cs.length ≤ 10 := by omega
    have := Nat.mul_le_mul_right 63 this
    omega
  have hb : Bd 2 36000 (.tuple rows) := (bd_tup fun d hd => (hr d hd).1).le (Nat.le_refl _) (by
    have := Nat.mul_le_mul_right 702 hz
    omega)
  have hi : Bd 0 61 (.int wide) := bd_int (Nat.lt_of_lt_of_le (m := 100) (by omega) (by decide))
  constructor
  · refine (bd_tup (k := 2) (m := 36000) (ds := [.int wide, .tuple rows]) ?_).le (Nat.le_refl _) ?_
    · intro d hd
      simp only [List.mem_cons, List.not_mem_nil, or_false] at hd
      rcases hd with e | e <;> rw [e]
      · exact hi.le (by decide) (by decide)
      · exact hb
    · show 2 * (36000 + 2) + 3 ≤ 80000
      decide
  · refine pl_tup ?_
    intro d hd
    simp only [List.mem_cons, List.not_mem_nil, or_false] at hd
    rcases hd with e | e <;> rw [e]
    · exact pl_int _
    · exact pl_tup fun d hd => (hr d hd).2
end VK
namespace VK
open PySem PySem.Spec PyProof.Rows L2
open C8 (Cal pe_c pe_gc)
/-! ### tuples cut and joined, wherever the result stands: it is an operand itself, or new -/
def rSlW (K : PySem.W.Frag) : V → Option Int → Option Int → Hp → VK → Prop := fun x lo hi H Q => ∃ a xs, x = .ref a ∧ SqT K H a xs ∧
  ∀ a' H', Same H H' → ((a' = a ∧ cutV xs lo hi = xs) ∨ (H a' = none ∧ H' a' = some (.tup (cutV xs lo hi)))) → Q (.ref a') H'
theorem cut_whole {xs : List V} {lo hi : Option Int} (h : HT.sIx xs.length 0 lo = 0 ∧ HT.sIx xs.length xs.length hi = xs.length) : cutV xs lo hi = xs := by
  unfold cutV
  rw [h.1, h.2, List.drop_zero, Nat.sub_zero, List.take_of_length_le (Nat.le_refl _)]
theorem sl_tupT {X : Cx} : SlR X (rSlW X.K) := fun pins s σ H x v vl vu lo hi sl Q I rx hs pl pu h => by
  obtain ⟨a, xs, e, ha, q⟩ := h
  exact sl_tupA pins s σ H x v vl vu lo hi sl Q I rx hs pl pu ⟨a, xs, e, ha, fun hw => q a H (Same.refl H) (.inl ⟨rfl, cut_whole hw⟩), fun _ p np => q p _ (same_new np) (.inr ⟨np, upd_same⟩)⟩
def rCatW (K : PySem.W.Frag) : R2 := fun x y H Q => ∃ a b xs ys, x = .ref a ∧ y = .ref b ∧ SqT K H a xs ∧ SqT K H b ys ∧ xs.length + ys.length ≤ sizeLine ∧
  ∀ a' H', Same H H' → ((a' = a ∧ xs ++ ys = xs) ∨ (a' = b ∧ xs ++ ys = ys) ∨ (H a' = none ∧ H' a' = some (.tup (xs ++ ys)))) → Q (.ref a') H'
theorem op_catT2 {X : Cx} : OpR X (binaryOp .Add) (rCatW X.K) := fun pins s σ H x y v u Q I rx ry h => by
  obtain ⟨a, b, xs, ys, e1, e2, ha, hb, hz, q⟩ := h
  refine op_catA pins s σ H x y v u Q I rx ry ⟨a, b, xs, ys, e1, e2, ha, hb, hz, fun z => q b H (Same.refl H) (.inr (.inl ⟨rfl, ?_⟩)), fun _ z => q a H (Same.refl H) (.inl ⟨rfl, ?_⟩), fun _ _ p np => q p _ (same_new np) (.inr (.inr ⟨np, upd_same⟩))⟩
  · rw [z, List.nil_append]
  · rw [z, List.append_nil]
theorem cut_take (xs : List V) (k : Nat) : cutV xs none (some (k : Int)) = xs.take k := by
  unfold cutV
  rw [HT.sIx_none, HT.sIx_nat, List.drop_zero, Nat.sub_zero]
  by_cases h : k ≤ xs.length
  · rw [Nat.min_eq_left h]
  · rw [Nat.min_eq_right (by omega), List.take_of_length_le (Nat.le_refl _), List.take_of_length_le (by omega)]
theorem cut_drop (xs : List V) (k : Nat) : cutV xs (some (k : Int)) none = xs.drop k := by
  unfold cutV
  rw [HT.sIx_none, HT.sIx_nat]
  by_cases h : k ≤ xs.length
  · rw [Nat.min_eq_left h, List.take_of_length_le (by rw [List.length_drop]; exact Nat.le_refl _)]
  · rw [Nat.min_eq_right (by omega), List.drop_of_length_le (Nat.le_refl _), List.drop_of_length_le (by omega)]
    exact List.take_nil
theorem sqT_cut {K : PySem.W.Frag} {H : Hp} {p a : Addr} {xs ys : List V} (hp : H p = some (.lst ys)) (h : SqT K H a xs) : SqT K (cut p H) a xs := by
  have ne : ∀ u, H a = some u → (∀ zs, u ≠ .lst zs) → a ≠ p := fun u hu hn e => by
    rw [e, hp] at hu
    cases hu
    exact hn _ rfl
  rcases h with (h | ⟨o, h⟩) | h
  · exact .inl (.inl (by rw [cut_ne (ne _ h fun zs z => by cases z)]; exact h))
  · exact .inl (.inr ⟨o, by rw [cut_ne (ne _ h fun zs z => by cases z)]; exact h⟩)
  · exact .inr h
theorem Off.cut {p : Addr} {H H' : Hp} (h : Off p H H') : Same (cut p H) (cut p H') := fun b o e => by
  by_cases z : b = p
  · rw [z, cut_at] at e
    cases e
  · rw [cut_ne z] at e ⊢
    exact h b o z e
theorem Pen.lst {H : Hp} {p c : Addr} {n : Nat} (h : Pen H p c n) : ∃ xs, H p = Option.some (.lst xs) := by
  obtain ⟨cells, a, r, h1, _⟩ := h
  exact ⟨_, h1⟩
theorem dl_tup {cs : List PyData} {od : PyData} (h : ∀ x ∈ cs, Pl x ∨ x = od) (ho : Dl od) : Dl (.tuple cs) := by
  intro hd
  simp only [PyData.hasDict] at hd
  cases e : od.hasDict with
  | false =>
    have := hasDictAll_false (ds := cs) fun d hd => (h d hd).elim (fun z => z.nd) fun z => by rw [z]; exact e
    rw [this] at hd
    cases hd
  | true =>
    simp only [noL]
    exact noLs_all fun d hd => (h d hd).elim (fun z => z.nl) fun z => by rw [z]; exact ho e
/-- an item that a law asks a def about: a repr can be made of it -/
def Ite (d : PyData) : Prop := Bd 4 30000 d ∧ Dl d
theorem Pl.ite {d : PyData} {k m : Nat} (h : Pl d) (b : Bd k m d) (hk : k ≤ 4) (hm : m ≤ 30000) : Ite d := ⟨b.le hk hm, h.dl⟩
/-! ### a frame that grows by what is new since H -/
def fr (F H H' : Hp) : Hp := fun b => match F b with
  | some o => some o
  | none => if H b = none then H' b else none
section
variable {F H H' : Hp} {p b : Addr} {o : HO}
theorem fr_old (h : F b = some o) : fr F H H' b = some o := by
  unfold fr
  rw [h]
theorem fr_new (hf : F b = none) (h : H b = none) : fr F H H' b = H' b := by
  unfold fr
  rw [hf]
  exact if_pos h
theorem fr_off (hf : F b = none) (h : H b = some o) : fr F H H' b = none := by
  unfold fr
  rw [hf]
  exact if_neg (by rw [h]; intro z; cases z)
theorem fr_ext : Same F (fr F H H') := fun _ _ h => fr_old h
theorem fr_same (s : Same F H) (hp : F p = none) (o : Off p H H') (hpH : ∃ u, H p = some u) : Same (fr F H H') H' := fun b u e => by
  cases hf : F b with
  | some v =>
    rw [fr_old hf] at e
    cases e
    exact o b _ (ne_of_none hf hp) (s b _ hf)
  | none =>
    cases hh : H b with
    | some v =>
      rw [fr_off hf hh] at e
      cases e
    | none =>
      rw [fr_new hf hh] at e
      exact e
/-- what was laid since H and still stands -/
theorem fr_at (s : Same F H) (h : H b = none) (h' : H' b = some o) : fr F H H' b = some o := by
  rw [fr_new (s.free h) h]
  exact h'
end
/-- a tuple: the given one at a, or a new one since H -/
def NT (p a : Addr) (ts : List V) (H Hj : Hp) (a' : Addr) (ys : List V) : Prop := (a' = a ∧ ys = ts) ∨ (H a' = none ∧ a' ≠ p ∧ Hj a' = some (.tup ys))
section
variable {K : PySem.W.Frag} {F H Hj Hk : Hp} {p a a0 a1 a' : Addr} {ts xs ys zs : List V}
theorem NT.mono (h : NT p a ts H Hj a' ys) (o : Off p Hj Hk) : NT p a ts H Hk a' ys := by
  rcases h with h | ⟨h1, h2, h3⟩
  · exact .inl h
  · exact .inr ⟨h1, h2, o _ _ h2 h3⟩
theorem NT.sq (h : NT p a ts H Hj a' ys) (hA : SqT K Hj a ts) : SqT K Hj a' ys := by
  rcases h with ⟨e1, e2⟩ | ⟨h1, h2, h3⟩
  · rw [e1, e2]
    exact hA
  · exact .inl (.inl h3)
theorem NT.new (oj : Off p H Hj) (hp : ∃ u, Hj p = some u) (h1 : Hj a' = none) (h2 : Hk a' = some (.tup ys)) : NT p a ts H Hk a' ys := by
  obtain ⟨u, hu⟩ := hp
  have ne : a' ≠ p := (ne_of_none hu h1).symm
  exact .inr ⟨oj.free h1 ne, ne, h2⟩
theorem NT.sl (h : NT p a ts H Hj a0 xs) (oj : Off p H Hj) (hp : ∃ u, Hj p = some u) (s : Same Hj Hk) (r : (a' = a0 ∧ ys = xs) ∨ (Hj a' = none ∧ Hk a' = some (.tup ys))) : NT p a ts H Hk a' ys := by
  rcases r with ⟨e1, e2⟩ | ⟨h1, h2⟩
  · rw [e1, e2]
    exact h.mono (Off.of s)
  · exact .new oj hp h1 h2
theorem NT.cat (h0 : NT p a ts H Hj a0 xs) (h1 : NT p a ts H Hj a1 ys) (oj : Off p H Hj) (hp : ∃ u, Hj p = some u) (s : Same Hj Hk) (r : (a' = a0 ∧ zs = xs) ∨ (a' = a1 ∧ zs = ys) ∨ (Hj a' = none ∧ Hk a' = some (.tup zs))) : NT p a ts H Hk a' zs := by
  rcases r with ⟨e1, e2⟩ | ⟨e1, e2⟩ | ⟨h2, h3⟩
  · rw [e1, e2]
    exact h0.mono (Off.of s)
  · rw [e1, e2]
    exact h1.mono (Off.of s)
  · exact .new oj hp h2 h3
theorem NT.da {es : List PyData} (h : NT p a ts H Hk a' ys) (s : Same F H) (ha : F a = some (.tup ts)) (hd : DaAll K (fr F H Hk) ys es) : Da K (fr F H Hk) (.ref a') (.tuple es) := by
  rcases h with ⟨e1, e2⟩ | ⟨h1, h2, h3⟩
  · rw [e1]
    rw [e2] at hd
    exact .tup (.inl (.inl (fr_old ha))) hd
  · exact .tup (.inl (.inl (fr_at s h1 h3))) hd
end
end VK
namespace VK
open PySem PySem.Spec PyProof.Rows L2
open C8 (Cal pe_c pe_gc)
/-! ### a def that is called by position and by keywords alone -/
structure Fok (P : Program) (w : World) (K : PySem.W.Frag) (mg : Str → Option Value) (base : Heap) (k : Nat) (x : Str) (st : Stmt) (ps : List Str) (sp : Sp) : Prop where
  ex : ∃ (f : Addr) (fd : FuncData), Fun K x x st f fd ∧ mg x = some (.ref f) ∧ FnOk P w K mg base CX0 k f fd ps sp
structure CalK (P : Program) (w : World) (K : PySem.W.Frag) (mg : Str → Option Value) (base : Heap) (k : Nat) (x : Str) (sp : Sp) (ks : List Str) (gV : List V → List V → List V) : Prop where
  ex : ∃ (f : Addr) (fd : FuncData) (ps : List Str) (g : List Value → List Value → List Value), FnOk P w K mg base CX0 k f fd ps sp ∧ mg x = some (.ref f) ∧ PySem.W.keepIn K (.ref f) = true ∧ KBn K fd ps 0 ks g gV
section
variable {P : Program} {w : World} {K : PySem.W.Frag} {mg : Str → Option Value} {base : Heap} {x : Str} {st : Stmt} {N ps ks : List Str} {k : Nat} {sp : Sp}
theorem Df.fok (D : Df K mg x st) (S : FnScope N ps (defScope st)) (len : ∀ vs H Q E, sp vs H Q E → vs.length = ps.length)
    (hbody : ∀ (f : Addr) (cdv : Value) (A : Around) (outer : List Env) (s : Shared) (H : Hp) (vs : List V) (Q : VK) (E : XK), Room k (A.deeper (envOfC x (defScope st) s.heap.objs.size f cdv)) → sp vs H Q E →
      ∃ t, PSs (cxOf CX0 P w K mg base N x (defScope st) f cdv A outer s H E).nox (defBody st) t ∧ t { nx := fun _ H' => Q .non H', rt := Q } (start N vs) H) : Fok P w K mg base (k + 1) x st ps sp := by
  obtain ⟨f, fd, F, hm⟩ := D.ex
  exact ⟨f, fd, F, hm, F.ok S len (hbody f)⟩
theorem Fok.cal (D : Fok P w K mg base k x st ps sp)
    (hb : ∀ (kV doc pm : Value) (an : Option Addr) (cdv ct : Value) (us : List Value), us.length = ps.length → bindArgs (PySem.W.fnOf x x (defArgs st) (defBody st) (defScope st) .none kV doc pm an cdv ct) ⟨us, []⟩ = pure (ps.zip us)) : Cal P w K mg base k x sp [] := by
  obtain ⟨f, fd, F, hm, G⟩ := D.ex
  exact ⟨f, fd, ps, [], G, hm, F.kp, F.binds hb, .nil⟩
theorem Fok.calK {g : List Value → List Value → List Value} {gV : List V → List V → List V} (D : Fok P w K mg base k x st ps sp)
    (hb : ∀ (kV doc pm : Value) (an : Option Addr) (cdv ct : Value) (ws : List Value), ws.length = ks.length → bindArgs (PySem.W.fnOf x x (defArgs st) (defBody st) (defScope st) .none kV doc pm an cdv ct) ⟨[], ks.zip ws⟩ = pure (ps.zip (g [] ws)))
    (hr : ∀ {vs : List V} {us : List Value} {zs : List V} {ws : List Value}, Vals vs us → Vals zs ws → Vals (gV vs zs) (g us ws)) : CalK P w K mg base k x sp ks gV := by
  obtain ⟨f, fd, F, hm, G⟩ := D.ex
  obtain ⟨oc, od, kV, doc, pm, an, cdv, ct, osl, e, lk, hcd⟩ := F.ex
  subst e
  refine ⟨f, _, ps, g, G, hm, F.kp, ⟨fun s us ws X l1 l2 => ?_, hr⟩⟩
  cases us with
  | nil => exact .of_eq (hb kV doc pm an cdv ct ws l2)
  | cons u us => cases l1
variable {X : Cx} {j : Nat} {p pos : Pos} {kws : List Keyword} {tk : TA} {gV : List V → List V → List V}
def tCallKw (m : Nat) (sp : Sp) (gV : List V → List V → List V) (tk : TA) : TE := fun σ H Q => tk σ H fun zs H2 => zs.length = m ∧ sp (gV [] zs) H2 Q E0
/-- f(k = v, ..) -/
theorem pe_cKw (c : CalK X.prog X.w X.K X.mg X.base k x sp ks gV) (hr : Room j X.A) (hk : k ≤ j) (hg : Gl X x) (hkw : PK X kws tk)
    (hall : (backToKw pos (keywordEach kws X.env)).all (·.1.isSome) = true := by rfl) (hks : (backToKw pos (keywordEach kws X.env)).filterMap (·.1) = ks := by rfl) (hdb : (x == ("__debug__" : Str)) = false := by decide)
    (hpl : ((backTo pos (starEach [] X.env)).any (·.1) || (backToKw pos (keywordEach kws X.env)).any (·.1.isNone)) = false := by rfl) : PE X (.Call (.Name x p) [] kws pos) (tCallKw ks.length sp gV tk) := by
  obtain ⟨f, fd, ps, g, F, hm, kp, hb⟩ := c.ex
  constructor
  intro pins s σ H Q I h
  refine wpAny_Call_Name_kw (ld_glob I hg hm ?_ hdb)
  refine PySem.W.callWith_KW0 (h₀ := X.base) I.ok.mod.kin kp hall (thn (hkw.run pos pins s σ H _ I h) ?_) hpl
  rintro ws s2 ⟨zs, H2, I2, rz, l2, q2⟩
  refine ⟨I2.kIn, ?_⟩
  rw [hks]
  exact run_fnN (us := []) (vs := []) F (hr.mono hk) hb pass0 I2 .nil rz rfl l2 q2
end
/-! ### the end -/
theorem df_mk {K : PySem.W.Frag} {h : Heap} {mg : Str → Option Value} (X : K.In h) (G : h.Ns mainGlobals mg) {x : Str} {st : Stmt} {f : Addr} {oc : Value} {od an : Option Addr} {osl : Array (Option Value)} {kV doc pm cdv ct : Value}
    (a : PySem.W.nsIn K mainGlobals x = some (some (.ref f))) (l : K.lookup f = some ⟨oc, od, .func (PySem.W.fnOf x x (defArgs st) (defBody st) (defScope st) .none kV doc pm an cdv ct), osl⟩) (c : PySem.W.codeIn K cdv x = true) (k : PySem.W.keepIn K (.ref f) = true) : Df K mg x st :=
  ⟨f, _, fun_mk l c k, PySem.W.mg_of X G a⟩
/-- what the law's end wants of its def -/
theorem law_end {P : Program} {w : World} {K : PySem.W.Frag} {mg : Str → Option Value} {st : Stmt} {k : Nat} {sp : Sp} {fa : Addr} {x : Str} (D : Df K mg "law" st) (hfa : mg "law" = some (.ref fa))
    (hb : ∀ (kV doc pm : Value) (an : Option Addr) (cdv ct u : Value), bindArgs (PySem.W.fnOf "law" "law" (defArgs st) (defBody st) (defScope st) .none kV doc pm an cdv ct) ⟨[u], []⟩ = pure [(x, u)])
    (F : ∀ (f : Addr) (fd : FuncData), Fun K "law" "law" st f fd → ∀ base : Heap, K.In base → base.Ns mainGlobals mg → FnG P w K mg base k f fd [x] sp) :
    ∃ fd : FuncData, (∀ (s : Shared) (u : Value), BindsTo s fd ⟨[u], []⟩ [(x, u)]) ∧ ∀ base : Heap, K.In base → base.Ns mainGlobals mg → FnG P w K mg base k fa fd [x] sp := by
  obtain ⟨f, fd, hF, hm⟩ := D.ex
  rw [hfa] at hm
  cases hm
  refine ⟨fd, ?_, F fa fd hF⟩
  obtain ⟨oc, od, kV, doc, pm, an, cdv, ct, osl, rfl, lk, hcd⟩ := hF.ex
  exact fun s u => .of_eq (hb kV doc pm an cdv ct u)
end VK
namespace K10
open PySem PySem.Spec PyProof.Rows L2 VK
open C8 (Cal pe_c pe_gc)
def topS (i : Nat) : Stmt := PySem.Challenge.pw_shadeguards_k10_what_registers_are.main.body.getD i (.Pass ⟨0, 0, 0, 0⟩)
def zs : List Str := ["isinstance", "int", "bool", "tuple", "list", "len", "all", "abs", "min", "range", "repr"]
section
variable {P : Program} {w : World} {K : PySem.W.Frag} {mg : Str → Option Value} {base : Heap}

/-! ### mirrors -/
def isNum : PyData → Bool
  | .int _ => true
  | _ => false
def isIx (n : Int) : PyData → Bool
  | .int i => decide (0 ≤ i) && decide (i < n)
  | _ => false
def mayH (n : Int) : PyData → Bool
  | .none => true
  | d => isIx n d
def isRegs (n : Int) : PyData → Bool
  | .tuple xs => decide (1 ≤ xs.length) && decide (xs.length ≤ 6) && xs.all (mayH n)
  | _ => false

/-! ### the program -/
abbrev s_is_number : Stmt := topS 1
theorem sc_is_number : FnScope ["thing"] ["thing"] (defScope s_is_number) := ⟨rfl, rfl, rfl, by decide +kernel, rfl, by decide +kernel, by decide +kernel⟩
def sp_is_number (K : PySem.W.Frag) : Sp := fun vs H Q _ => ∃ v d, vs = [v] ∧ Da K H v d ∧ Q (.bl (isNum d)) H
theorem ok_is_number (z : ∀ x, x ∈ zs → mg x = none) (D : Df K mg "is_number" s_is_number) : Cal P w K mg base 1 "is_number" (sp_is_number K) [] := by
  refine D.cal sc_is_number (fun _ _ _ _ _ _ us hl => match us, hl with | [_], _ => rfl) (fun vs H Q E ⟨v, d, e, _⟩ => by rw [e]; rfl) (fun f cdv A outer s H vs Q E hr h => ?_)
  obtain ⟨v, d, rfl, hd, q⟩ := h
  refine ⟨_, (pss_one (ps_ret (pe_and (pe_callB (r := rIsi K) call_isi (by rfl) (z "isinstance" (by decide)) PyProof.Rows.boot_isinstance (pa_cons (pv 0) (pa_cons (pe_bltn (v := .ty "int") (by rfl) (z "int" (by decide)) PyProof.Rows.boot_int rfl) pa_nil))) (pe_one (pe_not (pe_callB (r := rIsi K) call_isi (by rfl) (z "isinstance" (by decide)) PyProof.Rows.boot_isinstance (pa_cons (pv 0) (pa_cons (pe_bltn (v := .ty "bool") (by rfl) (z "bool" (by decide)) PyProof.Rows.boot_bool rfl) pa_nil)))))))), ?_⟩
  refine ⟨v, rfl, v, .ty "int", _, _, _, rfl, .ty _, da_ty hd, kI d, _, rfl, ?_⟩
  cases hi : isInt d with
  | false =>
    refine iteF ?_
    cases d <;> first | exact q | cases hi
  | true =>
    refine iteT ⟨v, rfl, v, .ty "bool", _, _, _, rfl, .ty _, da_ty hd, kB d, _, rfl, ?_⟩
    cases d <;> first | exact q | cases hi

abbrev s_is_index : Stmt := topS 2
theorem sc_is_index : FnScope ["thing", "many"] ["thing", "many"] (defScope s_is_index) := ⟨rfl, rfl, rfl, by decide +kernel, rfl, by decide +kernel, by decide +kernel⟩
def sp_is_index (K : PySem.W.Frag) : Sp := fun vs H Q _ => ∃ v d n, vs = [v, .int n] ∧ Da K H v d ∧ Q (.bl (isIx n d)) H
theorem ok_is_index (D : Df K mg "is_index" s_is_index) (c_is_number : Cal P w K mg base 1 "is_number" (sp_is_number K) []) : Cal P w K mg base 2 "is_index" (sp_is_index K) [] := by
  refine D.cal sc_is_index (fun _ _ _ _ _ _ us hl => match us, hl with | [_, _], _ => rfl) (fun vs H Q E ⟨v, d, n, e, _⟩ => by rw [e]; rfl) (fun f cdv A outer s H vs Q E hr h => ?_)
  obtain ⟨v, d, n, rfl, hd, q⟩ := h
  refine ⟨_, (pss_one (ps_ret (pe_and (pe_c c_is_number hr (by decide) (by rfl) (pa_cons (pv 0) pa_nil)) (pe_one (pe_chain op_le op_lt pe_int (pv 0) (pv 1)))))), ?_⟩
  refine ⟨v, rfl, v, d, rfl, hd, isNum d, rfl, ?_⟩
  cases hd with
  | int i =>
    refine iteT ⟨_, rfl, 0, i, rfl, rfl, decide (0 ≤ i), rfl, ?_⟩
    by_cases h0 : 0 ≤ i
    · rw [decide_eq_true h0]
      refine iteT ⟨_, rfl, i, n, rfl, rfl, ?_⟩
      have e : isIx n (.int i) = decide (i < n) := by
        show (decide (0 ≤ i) && decide (i < n)) = _
        rw [decide_eq_true h0]
        rfl
      rw [e] at q
      exact q
    · rw [decide_eq_false h0]
      refine iteF ?_
      have e : isIx n (.int i) = false := by
        show (decide (0 ≤ i) && decide (i < n)) = _
        rw [decide_eq_false h0]
        rfl
      rw [e] at q
      exact q
  | _ => exact iteF q

abbrev s_may_hold : Stmt := topS 5
theorem sc_may_hold : FnScope ["thing", "many"] ["thing", "many"] (defScope s_may_hold) := ⟨rfl, rfl, rfl, by decide +kernel, rfl, by decide +kernel, by decide +kernel⟩
def sp_may_hold (K : PySem.W.Frag) : Sp := fun vs H Q _ => ∃ v d n, vs = [v, .int n] ∧ Da K H v d ∧ Q (.bl (mayH n d)) H
theorem ok_may_hold (D : Df K mg "may_hold" s_may_hold) (c_is_index : Cal P w K mg base 2 "is_index" (sp_is_index K) []) : Cal P w K mg base 3 "may_hold" (sp_may_hold K) [] := by
  refine D.cal sc_may_hold (fun _ _ _ _ _ _ us hl => match us, hl with | [_, _], _ => rfl) (fun vs H Q E ⟨v, d, n, e, _⟩ => by rw [e]; rfl) (fun f cdv A outer s H vs Q E hr h => ?_)
  obtain ⟨v, d, n, rfl, hd, q⟩ := h
  refine ⟨_, (pss_one (ps_ret (pe_or (pe_cmpR op_isN (pv 0) pe_non (nomark _)) (pe_one (pe_c c_is_index hr (by decide) (by rfl) (pa_cons (pv 0) (pa_cons (pv 1) pa_nil))))))), ?_⟩
  refine ⟨v, rfl, rfl, decide (v = .non), rfl, ?_⟩
  by_cases e : v = .non
  · subst e
    rw [decide_eq_true rfl]
    cases hd
    exact iteT q
  · rw [decide_eq_false e]
    refine iteF ⟨v, rfl, _, rfl, v, d, n, rfl, hd, ?_⟩
    cases hd <;> first | exact q | exact absurd rfl e

abbrev s_is_registers : Stmt := topS 6
theorem sc_is_registers : FnScope ["heap", "thing", "held"] ["heap", "thing"] (defScope s_is_registers) := ⟨rfl, rfl, rfl, by decide +kernel, rfl, by decide +kernel, by decide +kernel⟩
/-- the heap is a tuple whose second part is a tuple of n things -/
def sp_is_registers (K : PySem.W.Frag) : Sp := fun vs H Q _ => ∃ a x o os v d, vs = [.ref a, v] ∧ SqT K H a [x, .ref o] ∧ SqT K H o os ∧ Da K H v d ∧ ∀ H', Same H H' → Q (.bl (isRegs os.length d)) H'
theorem ok_is_registers (z : ∀ x, x ∈ zs → mg x = none) (D : Df K mg "is_registers" s_is_registers) (c_may_hold : Cal P w K mg base 3 "may_hold" (sp_may_hold K) []) (g_REGISTERS_AT_MOST : ∃ u, mg "REGISTERS_AT_MOST" = some u ∧ RelV (.int 6) u) :
    Fok P w K mg base 4 "is_registers" s_is_registers ["heap", "thing"] (sp_is_registers K) := by
  refine D.fok sc_is_registers (fun vs H Q E ⟨a, x, o, os, v, d, e, _⟩ => by rw [e]; rfl) (fun f cdv A outer s H vs Q E hr h => ?_)
  obtain ⟨a, x, o, os, v, d, rfl, ha, ho, hd, q⟩ := h
  refine ⟨_, (pss_cons (ps_if (PW.pt (pw_or (pt_not (pt_val (pe_callB (r := rIsi K) call_isi (by rfl) (z "isinstance" (by decide)) PyProof.Rows.boot_isinstance (pa_cons (pv 1) (pa_cons (pe_bltn (v := .ty "tuple") (by rfl) (z "tuple" (by decide)) PyProof.Rows.boot_tuple rfl) pa_nil))))) (pw_or1 (pt_not (pt_chain op_le op_le pe_int (pe_callB (r := rLenSq K) call_lenSq (by rfl) (z "len" (by decide)) PySem.boot_len (pa_cons (pv 1) pa_nil)) (pe_gc (by rfl) g_REGISTERS_AT_MOST)))))) (pss_one (ps_ret pe_bl)) pss_nil)
      (pss_one (ps_ret (pe_callB (r := rAll K) (cr_all rfl) (by rfl) (z "all" (by decide)) PyProof.Rows.boot_all (pa_cons (pe_lc (own := [("held", 2)]) (g := gName 2) (tt := tYes) (by rfl) sc_is_registers.nd (pi_tup (pv 1)) (blkOk_by (own := [("held", 2)]) (N := ["heap", "thing", "held"]) (sc := defScope s_is_registers) (by decide +kernel)) (fun _ _ _ _ _ => (pg_name (i := 2) sc_is_registers.nd rfl (Or.inl rfl))) (fun _ _ _ _ _ => pts_nil) (fun _ _ _ _ _ => (pe_c c_may_hold hr (by decide) (by rfl) (pa_cons (pv 2) (pa_cons (pe_callB (r := rLenSq K) call_lenSq (by rfl) (z "len" (by decide)) PySem.boot_len (pa_cons (pe_ix (r := rIxT K) ix_tup (pv 0) pe_int (fun _ _ => rfl)) pa_nil)) pa_nil))))) pa_nil))))), ?_⟩
  refine ⟨v, rfl, v, .ty "tuple", _, _, _, rfl, .ty _, da_ty hd, kT d, _, rfl, ?_⟩
  cases hd with
  | @tup t xs ds ht hds =>
    have hl := hds.length
    refine iteF ⟨.ref t, rfl, t, xs, rfl, Or.inr ht, 1, xs.length, rfl, rfl, _, rfl, ?_⟩
    have out : ∀ b : Bool, b = false → isRegs os.length (.tuple ds) = b → Q (.bl false) H := fun b hb e => by
      have q' := q H (Same.refl H)
      rw [e, hb] at q'
      exact q'
    have un : isRegs os.length (.tuple ds) = (decide (1 ≤ ds.length) && decide (ds.length ≤ 6) && ds.all (mayH os.length)) := rfl
    by_cases h1 : (1 : Int) ≤ xs.length
    · rw [decide_eq_true h1]
      refine iteT ⟨(xs.length : Int), 6, rfl, rfl, _, rfl, ?_⟩
      by_cases h6 : (xs.length : Int) ≤ 6
      · rw [decide_eq_true h6]
        have un2 : isRegs os.length (.tuple ds) = ds.all (mayH os.length) := by
          rw [un, decide_eq_true (show 1 ≤ ds.length by omega), decide_eq_true (show ds.length ≤ 6 by omega)]
          rfl
        refine iteF ⟨.ref t, rfl, t, rfl, ⟨xs, ht⟩, fun D nD => ?_⟩
        refine lc_tup (K := K) (a := t) (xs := xs) (fun i H' => Same H H' ∧ H' D = some (.lst ((ds.take i).map fun d => V.bl (mayH os.length d)))) ⟨same_new nD, by rw [upd_same]; rfl⟩ (fun i H' _ h => same_seqT h.1 ht) (fun i x H' hx h => ?_) (fun H' h => ?_)
        · obtain ⟨sm, hD⟩ := h
          obtain ⟨d, hd, hxd⟩ := hds.get hx
          refine ⟨rfl, x, rfl, .ref a, rfl, a, _, _, _, rfl, rfl, same_seqT sm ha, atI_nat (j := 1) rfl, o, os, rfl, Or.inr (same_seqT sm ho), x, d, os.length, rfl, hxd.mono sm, ?_⟩
          refine ⟨_, hD, ?_, same_off sm nD, ?_⟩
          · rw [List.length_map, List.length_take]
            exact Nat.lt_of_le_of_lt (Nat.min_le_right _ _) (small1000 (by omega))
          · rw [upd_same, List.take_add_one, hd, List.map_append]
            rfl
        · obtain ⟨sm, hD⟩ := h
          rw [List.take_of_length_le (by omega)] at hD
          refine ⟨D, ds.map (mayH os.length), rfl, .inl (.inl ?_), ?_⟩
          · rw [hD, List.map_map]
            rfl
          · have e : (ds.map (mayH os.length)).all id = isRegs os.length (.tuple ds) := by
              rw [un2, List.all_map]
              rfl
            rw [e]
            exact q H' sm
      · rw [decide_eq_false h6]
        refine iteT (out false rfl ?_)
        rw [un, decide_eq_false (show ¬ ds.length ≤ 6 by omega), Bool.and_false]
        rfl
    · rw [decide_eq_false h1]
      refine iteF ⟨_, rfl, iteT (out false rfl ?_)⟩
      rw [un, decide_eq_false (show ¬ 1 ≤ ds.length by omega)]
      rfl
  | _ => exact iteT (q H (Same.refl H))
theorem cal_is_registers (D : Fok P w K mg base 4 "is_registers" s_is_registers ["heap", "thing"] (sp_is_registers K)) : Cal P w K mg base 4 "is_registers" (sp_is_registers K) [] := D.cal (fun _ _ _ _ _ _ us hl => match us, hl with | [_, _], _ => rfl)
def swap2 {α : Type} : List α → List α → List α := fun _ ws => match ws with
  | [a, b] => [b, a]
  | _ => []
theorem calK_is_registers (D : Fok P w K mg base 4 "is_registers" s_is_registers ["heap", "thing"] (sp_is_registers K)) : CalK P w K mg base 4 "is_registers" (sp_is_registers K) ["thing", "heap"] swap2 :=
  D.calK (g := swap2) (fun _ _ _ _ _ _ ws hl => match ws, hl with | [_, _], _ => rfl) (fun _ r => match r with
    | .nil => .nil
    | .cons _ .nil => .nil
    | .cons a (.cons b .nil) => .cons b (.cons a .nil)
    | .cons _ (.cons _ (.cons _ _)) => .nil)
end
end K10
namespace K10
open PySem PySem.Spec PyProof.Rows L2 VK
open C8 (Cal pe_c pe_gc)
section
variable {P : Program} {w : World} {K : PySem.W.Frag} {mg : Str → Option Value} {base : Heap}
/-! ### the pen -/
abbrev s_law_pen : Stmt := topS 8
theorem sc_law_pen : FnScope ["_law_script"] ["_law_script"] (defScope s_law_pen) := ⟨rfl, rfl, rfl, by decide +kernel, rfl, by decide +kernel, by decide +kernel⟩
theorem ok_law_pen (z : ∀ x, x ∈ zs → mg x = none) (D : Df K mg "_law_pen" s_law_pen) : Cal P w K mg base 1 "_law_pen" (sp_pen K) [] := by
  refine D.cal sc_law_pen (fun _ _ _ _ _ _ us hl => match us, hl with | [_], _ => rfl) (fun vs H Q E ⟨a, ns, e, _⟩ => by rw [e]; rfl) (fun f cdv A outer s H vs Q E hr h => ?_)
  obtain ⟨a, ns, rfl, ha, q⟩ := h
  refine ⟨_, (pss_one (ps_ret (pe_lst (pa_cons (pe_callTy (r := rListOf K) call_listOf (by rfl) (z "list" (by decide)) PyProof.Rows.boot_list (pa_cons (pe_slice (r := rSlL K) sl_list (pv 0) po_none (po_some pe_int)) pa_nil)) (pa_cons pe_int (pa_cons pe_int pa_nil)))))), ?_⟩
  refine ⟨.ref a, rfl, 63, rfl, a, _, rfl, ha, fun c1 n1 => ⟨c1, _, rfl, .inl (.inl (.inl upd_same)), fun c n2 => ⟨by show 3 ≤ sizeLine; decide, fun p np => ?_⟩⟩⟩
  have cut63 : cutV (ns.map V.int) none (some 63) = (ns.take 63).map V.int := by
    unfold cutV
    rw [HT.sIx_none, show HT.sIx (ns.map V.int).length (ns.map V.int).length (some 63) = min 63 (ns.map V.int).length from HT.sIx_nat _ _ 63, List.drop_zero, Nat.sub_zero, List.map_take]
    by_cases hz : 63 ≤ (ns.map V.int).length
    · rw [Nat.min_eq_left hz]
    · rw [Nat.min_eq_right (by omega), List.take_of_length_le (Nat.le_refl _), List.take_of_length_le (by omega)]
  rw [cut63] at n2 np ⊢
  have sm := (same_new (o := .lst ((ns.take 63).map V.int)) n1).trans ((same_new (o := .lst ((ns.take 63).map V.int)) n2).trans (same_new (o := .lst [.ref c, .int 0, .int 0]) np))
  have npc : c ≠ p := fun e => by
    rw [← e, upd_same] at np
    cases np
  refine q p c _ sm (((same_new n1).trans (same_new n2)).free np) ((same_new n1).free n2) ⟨ns.take 63, 0, 0, upd_same, by rw [upd_ne npc, upd_same], npc, ?_, by decide, by decide, by decide⟩
  rw [List.length_take]
  exact Nat.min_le_left _ _

abbrev s_law_pick : Stmt := topS 9
theorem sc_law_pick : FnScope ["_law_pen_here", "_law_upto", "_law_digit", "_law_at", "_law_cell", "_law_great", "_law_first", "_law_second"] ["_law_pen_here", "_law_upto"] (defScope s_law_pick) := ⟨rfl, rfl, rfl, by decide +kernel, rfl, by decide +kernel, by decide +kernel⟩
theorem ok_law_pick (z : ∀ x, x ∈ zs → mg x = none) (D : Df K mg "_law_pick" s_law_pick) : Cal P w K mg base 1 "_law_pick" sp_draw [] := by
  refine D.cal sc_law_pick (fun _ _ _ _ _ _ us hl => match us, hl with | [_, _], _ => rfl) (fun vs H Q E ⟨p, c, n, u, e, _⟩ => by rw [e]; rfl) (fun f cdv A outer s H vs Q E hr h => ?_)
  obtain ⟨p, c, n, u, rfl, u0, u1, pen, hn, q⟩ := h
  refine ⟨t_ahead K 8017 131 gLess (mixP 2147483563 51043 30011 71 2147483647 29 70009 2147483549), (pss_cons (ps_if (pt_cmpR op_gt (pe_ix (r := rIxL K) ix_list (pv 0) pe_int (fun _ _ => rfl)) pe_int (nomark _)) (pss_cons (ps_set (i := 2) sc_law_pick.nd rfl (Or.inl rfl) (pe_op op_mod (pe_ix (r := rIxL K) ix_list (pv 0) pe_int (fun _ _ => rfl)) (pv 1)))
        (pss_cons (ps_asg (pe_op op_fdiv (pe_ix (r := rIxL K) ix_list (pv 0) pe_int (fun _ _ => rfl)) (pv 1)) (pg_sub (pv 0) pe_int set_list))
        (pss_one (ps_ret (pv 2))))) pss_nil)
      (pss_cons (ps_set (i := 3) sc_law_pick.nd rfl (Or.inl rfl) (pe_ix (r := rIxL K) ix_list (pv 0) pe_int (fun _ _ => rfl)))
      (pss_cons (ps_asg (pe_op op_add (pv 3) pe_int) (pg_sub (pv 0) pe_int set_list))
      (pss_cons (ps_set (i := 4) sc_law_pick.nd rfl (Or.inl rfl) (pe_op op_add (pe_op op_mul pe_int (pv 3)) pe_int))
      (pss_cons (ps_if (pt_cmpR (r := rNeD K) (op_neD hr.units) (pe_ix (r := rIxL K) ix_list (pv 0) pe_int (fun _ _ => rfl)) (pe_lst pa_nil) (nomark _)) (pss_one (ps_set (i := 4) sc_law_pick.nd rfl (Or.inl rfl) (pe_ix (r := rIxL K) ix_list (pe_ix (r := rIxL K) ix_list (pv 0) pe_int (fun _ _ => rfl)) (pe_op op_mod (pv 3) (pe_callB (r := rLenSq K) call_lenSq (by rfl) (z "len" (by decide)) PySem.boot_len (pa_cons (pe_ix (r := rIxL K) ix_list (pv 0) pe_int (fun _ _ => rfl)) pa_nil))) (fun _ _ => rfl)))) pss_nil)
      (pss_cons (ps_if (PW.pt (pw_and (pt_cmpR op_lt (pv 3) (pe_callB (r := rLenSq K) call_lenSq (by rfl) (z "len" (by decide)) PySem.boot_len (pa_cons (pe_ix (r := rIxL K) ix_list (pv 0) pe_int (fun _ _ => rfl)) pa_nil)) (nomark _)) (pw_and1 (pt_cmpR op_ge (pe_callB call_abs (by rfl) (z "abs" (by decide)) PyProof.Rows.boot_abs (pa_cons (pv 4) pa_nil)) (pe_op op_pow pe_int pe_int) (nomark _))))) (pss_cons (ps_set (i := 5) sc_law_pick.nd rfl (Or.inl rfl) (pe_op op_add (pe_op op_mul pe_int (pe_op op_sub (pe_callB call_abs (by rfl) (z "abs" (by decide)) PyProof.Rows.boot_abs (pa_cons (pv 4) pa_nil)) (pe_op op_pow pe_int pe_int))) (pe_callTy call_int1 (by rfl) (z "int" (by decide)) PyProof.Rows.boot_int (pa_cons (pe_cmpR op_lt (pv 4) pe_int (nomark _)) pa_nil))))
        (pss_cons (ps_asg (pe_op op_fdiv (pv 5) (pv 1)) (pg_sub (pv 0) pe_int set_list))
        (pss_one (ps_ret (pe_op op_mod (pv 5) (pv 1)))))) pss_nil)
      (pss_cons (ps_set (i := 6) sc_law_pick.nd rfl (Or.inl rfl) (pe_op op_mod (pe_op op_pow (pe_op op_add (pe_op op_add (pe_op op_add (pe_op op_mod (pv 4) pe_int) (pe_op op_mul (pe_op op_mul pe_int (pv 3)) (pv 3))) (pe_op op_mul pe_int (pv 3))) pe_int) pe_int) pe_int))
      (pss_cons (ps_set (i := 7) sc_law_pick.nd rfl (Or.inl rfl) (pe_op op_mod (pe_op op_pow (pe_op op_add (pe_op op_mul (pv 6) (pe_op op_add (pe_op op_mul pe_int (pv 3)) pe_int)) pe_int) pe_int) pe_int))
      (pss_one (ps_ret (pe_op op_mod (pe_op op_fdiv (pv 7) pe_int) (pv 1)))))))))))), ?_⟩
  refine ahead K (x4 := none) (x5 := none) (rest2 := [none, none]) (by decide) u0 u1 pen hn gLess_ok (fun cell a H1 a0 a1 o1 p1 => ?_) q
  exact mixP_ok (by decide) (by decide) (by decide) (by decide) (by decide) (by decide) (by decide) (by decide) u0 a0 (by omega) (fun r r0 r1 => q r H1 r0 r1 o1 p1)
end
end K10
namespace K10
open PySem PySem.Spec PyProof.Rows L2 VK
open C8 (Cal pe_c pe_gc)
section
variable {P : Program} {w : World} {K : PySem.W.Frag} {mg : Str → Option Value} {base : Heap}
abbrev s_law_pile : Stmt := topS 10
theorem sc_law_pile : FnScope ["_law_pen_here", "_law_most", "_law_wides", "_law_wide", "_law_size", "_law_way", "_law_objects", "_law_x", "_law_fields", "_law_f", "_law_any_one", "_law_some", "_law_one"] ["_law_pen_here", "_law_most", "_law_wides"] (defScope s_law_pile) := ⟨rfl, rfl, rfl, by decide +kernel, rfl, by decide +kernel, by decide +kernel⟩
/- slots: 0 _law_pen_here, 1 _law_most, 2 _law_wides, 3 _law_wide, 4 _law_size, 5 _law_way, 6 _law_objects, 7 _law_x, 8 _law_fields, 9 _law_f, 10 _law_any_one, 11 _law_some, 12 _law_one -/
theorem ok_law_pile (z : ∀ x, x ∈ zs → mg x = none) (D : Df K mg "_law_pile" s_law_pile) (c_law_pick : Cal P w K mg base 1 "_law_pick" sp_draw []) : Cal P w K mg base 2 "_law_pile" (sp_pile K) [] := by
  refine D.cal sc_law_pile (fun _ _ _ _ _ _ us hl => match us, hl with | [_, _, _], _ => rfl) (fun vs H Q E ⟨p, c, wd, n, most, ws, e, _⟩ => by rw [e]; rfl) (fun f cdv A outer s H vs Q E hr h => ?_)
  obtain ⟨p, c, wd, n, most, ws, rfl, pen, hn, m0, m1, hw, nwp, w0, w1, wall, q⟩ := h
  refine ⟨_, (pss_cons (ps_set (i := 3) sc_law_pile.nd rfl (Or.inl rfl) (pe_ix (r := rIxL K) ix_list (pv 2) (pe_c c_law_pick hr (by decide) (by rfl) (pa_cons (pv 0) (pa_cons (pe_callB (r := rLenSq K) call_lenSq (by rfl) (z "len" (by decide)) PySem.boot_len (pa_cons (pv 2) pa_nil)) pa_nil))) (fun _ _ => rfl)))
      (pss_cons (ps_set (i := 4) sc_law_pile.nd rfl (Or.inl rfl) (pe_ix (r := rIxL K) ix_list (pe_lst (pa_cons (pe_c c_law_pick hr (by decide) (by rfl) (pa_cons (pv 0) (pa_cons (pe_callB (call_min2 rfl) (by rfl) (z "min" (by decide)) PyProof.Rows.boot_min (pa_cons pe_int (pa_cons (pe_op op_add (pv 1) pe_int) pa_nil))) pa_nil))) (pa_cons (pe_c c_law_pick hr (by decide) (by rfl) (pa_cons (pv 0) (pa_cons (pe_op op_add (pv 1) pe_int) pa_nil))) (pa_cons (pv 1) pa_nil)))) (pe_c c_law_pick hr (by decide) (by rfl) (pa_cons (pv 0) (pa_cons pe_int pa_nil))) (fun _ _ => rfl)))
      (pss_cons (ps_set (i := 5) sc_law_pile.nd rfl (Or.inl rfl) (pe_c c_law_pick hr (by decide) (by rfl) (pa_cons (pv 0) (pa_cons pe_int pa_nil))))
      (pss_cons (ps_set (i := 6) sc_law_pile.nd rfl (Or.inl rfl) (pe_lst pa_nil))
      (pss_cons (ps_for PassesOwn.never rfl (pi_range1 (by rfl) (z "range" (by decide)) (pa_cons (pv 4) pa_nil)) (pg_name (i := 7) sc_law_pile.nd rfl (Or.inl rfl))
        (pss_cons (ps_set (i := 8) sc_law_pile.nd rfl (Or.inl rfl) (pe_lst pa_nil))
        (pss_cons (ps_for PassesOwn.never rfl (pi_range1 (by rfl) (z "range" (by decide)) (pa_cons (pv 3) pa_nil)) (pg_name (i := 9) sc_law_pile.nd rfl (Or.inl rfl))
          (pss_cons (ps_set (i := 10) sc_law_pile.nd rfl (Or.inl rfl) (pe_c c_law_pick hr (by decide) (by rfl) (pa_cons (pv 0) (pa_cons (pv 4) pa_nil))))
          (pss_cons (ps_set (i := 11) sc_law_pile.nd rfl (Or.inl rfl) (pe_lst (pa_cons (pv 10) (pa_cons (pe_ifExp (pt_cmpR op_lt (pe_op op_add (pv 7) pe_int) (pv 4) (nomark _)) (pe_op op_add (pv 7) pe_int) pe_non) (pa_cons (pe_op op_mod (pe_op op_add (pv 7) pe_int) (pv 4)) (pa_cons pe_non (pa_cons (pe_op op_add (pe_op op_add (pe_op op_mul (pv 3) (pv 7)) (pv 9)) pe_int) (pa_cons (pv 7) pa_nil))))))))
          (pss_cons (ps_set (i := 12) sc_law_pile.nd rfl (Or.inl rfl) (pe_ix (r := rIxL K) ix_list (pe_lst (pa_cons (pe_ix (r := rIxL K) ix_list (pv 11) (pv 5) (fun _ _ => rfl)) (pa_cons pe_non (pa_cons (pv 10) pa_nil)))) (pe_ix (r := rIxL K) ix_list (pe_lst (pa_cons pe_int (pa_cons pe_int (pa_cons pe_int (pa_cons pe_int (pa_cons pe_int (pa_cons pe_int pa_nil))))))) (pe_c c_law_pick hr (by decide) (by rfl) (pa_cons (pv 0) (pa_cons pe_int pa_nil))) (fun _ _ => rfl)) (fun _ _ => rfl)))
          (pss_one (ps_expr (pe_bm PySem.F.plainAttrs_list PySem.F.slot_list_append PySem.F.type_list_append mt_append (pv 8) (pa_cons (pe_ifExp (PW.pt (pw_and (pt_cmpR op_notN (pv 12) pe_non (nomark _)) (pw_and1 (pt_cmpR op_ge (pv 12) (pv 4) (nomark _))))) pe_non (pv 12)) pa_nil))))))))
        (pss_one (ps_expr (pe_bm PySem.F.plainAttrs_list PySem.F.slot_list_append PySem.F.type_list_append mt_append (pv 6) (pa_cons (pe_callTy (r := rTupleL K) call_tupleL (by rfl) (z "tuple" (by decide)) PyProof.Rows.boot_tuple (pa_cons (pv 8) pa_nil)) pa_nil)))))))
      (pss_one (ps_ret (pe_tup (pa_cons (pv 3) (pa_cons (pe_callTy (r := rTupleL K) call_tupleL (by rfl) (z "tuple" (by decide)) PyProof.Rows.boot_tuple (pa_cons (pv 6) pa_nil)) pa_nil)))))))))), ?_⟩
  have hwl : (ws.map V.int).length = ws.length := List.length_map _
  refine ⟨.ref wd, rfl, .ref p, rfl, .ref wd, rfl, wd, _, rfl, .inl (.inl (.inl hw)), p, c, n, _, rfl, by omega, by omega, pen, by omega, fun r H1 r0 r1 o1 p1 => ?_⟩
  have hw1 := o1 _ _ nwp hw
  obtain ⟨wv, hwv, hwm⟩ := at_in (xs := ws.map V.int) r0 r1
  obtain ⟨wide, hwide, rfl⟩ := List.mem_map.mp hwm
  obtain ⟨wl, wh⟩ := wall wide hwide
  refine ⟨wd, _, r, _, rfl, rfl, .inl (.inl hw1), hwv, ?_⟩
  -- the size
  have mn : 0 < (if most + 1 < 7 then most + 1 else 7) ∧ (if most + 1 < 7 then most + 1 else 7) ≤ most + 1 ∧ (if most + 1 < 7 then most + 1 else 7) ≤ 7 := by split <;> omega
  refine ⟨.ref p, rfl, .int most, rfl, most, 1, rfl, rfl, 7, most + 1, rfl, p, c, n + 1, _, rfl, mn.1, by omega, p1, by omega, fun ra H2 ra0 ra1 o2 p2 => ?_⟩
  refine ⟨.ref p, rfl, .int most, rfl, most, 1, rfl, rfl, p, c, n + 2, _, rfl, by omega, by omega, p2, by omega, fun rb H3 rb0 rb1 o3 p3 => ?_⟩
  refine ⟨.int most, rfl, by show 3 ≤ sizeLine; decide, fun e1 ne1 => ?_⟩
  refine ⟨.ref p, rfl, p, c, n + 3, 3, rfl, by decide, by decide, p3.mono (same_new ne1) (Nat.le_refl _), by omega, fun rc H4 rc0 rc1 o4 p4 => ?_⟩
  have oA : Off p H H4 := o1.trans (o2.trans (o3.trans ((Off.new ne1).trans o4)))
  have ne1p : e1 ≠ p := (p3.ne ne1).1
  have he1 := o4 e1 _ ne1p upd_same
  obtain ⟨sv, hsv, hsm⟩ := at_in (xs := [V.int ra, V.int rb, V.int most]) rc0 rc1
  have hsz : ∃ size : Int, sv = .int size ∧ 0 ≤ size ∧ size ≤ most := by
    have hsm' : sv = V.int ra ∨ sv = V.int rb ∨ sv = V.int most := by simpa using hsm
    rcases hsm' with e | e | e
    · exact ⟨ra, e, ra0, by omega⟩
    · exact ⟨rb, e, rb0, by omega⟩
    · exact ⟨most, e, m0, by omega⟩
  obtain ⟨size, rfl, z0, z1⟩ := hsz
  refine ⟨e1, _, rc, _, rfl, rfl, .inl (.inl he1), hsv, ?_⟩
  -- the way
  refine ⟨.ref p, rfl, p, c, n + 4, 6, rfl, by decide, by decide, p4, by omega, fun way H5 y0 y1 o5 p5 => ?_⟩
  refine ⟨Nat.zero_le _, fun o no => ?_⟩
  have oB : Off p H (upd H5 o (.lst [])) := oA.trans (o5.trans (Off.new no))
  obtain ⟨nop, noc⟩ := p5.ne no
  have hoF : H o = none := (oA.trans o5).free no nop
  have pB : Pen (upd H5 o (.lst [])) p c (n + 5) := p5.mono (same_new no) (Nat.le_refl _)
  refine ⟨.int size, rfl, size, rfl, by omega, by omega, ?_⟩
  refine for_range (lo := 0) (n := size.toNat) (fun i σ H' => ∃ x7 x8 x9 x10 x11 x12 refs rows F, σ = [some (.ref p), some (.int most), some (.ref wd), some (.int wide), some (.int size), some (.int way), some (.ref o), x7, x8, x9, x10, x11, x12] ∧
    Off p H H' ∧ Pen H' p c (n + 5 + 8 * i) ∧ H' o = some (.lst refs) ∧ Same F H' ∧ F p = none ∧ F o = none ∧ DaAll K F refs rows ∧ rows.length = i ∧ okRows wide size rows) ?h0 ?hs ?hd
  case h0 =>
    refine ⟨_, _, _, _, _, _, [], [], cut o (cut p (upd H5 o (.lst []))), rfl, oB, pB, upd_same, ?_, ?_, cut_at, .nil, rfl, fun r hr => nomatch hr⟩
    · exact cut_same.trans cut_same
    · rw [cut_ne nop.symm]
      exact cut_at
  case hs =>
    rintro i σ H' hi ⟨x7, x8, x9, x10, x11, x12, refs, rows, F, rfl, oC, pC, hO, sF, fp, fo, hda, hrl, hok⟩
    refine ⟨Nat.zero_le _, fun fl nfl => ?_⟩
    obtain ⟨nfp, nfc⟩ := pC.ne nfl
    have hfF : H fl = none := oC.free nfl nfp
    have nfo : fl ≠ o := (ne_of_none hO nfl).symm
    have hi2 : (i : Int) < size := by omega
    refine ⟨.int wide, rfl, wide, rfl, by omega, by omega, ?_⟩
    refine for_range (lo := 0) (n := wide.toNat) (fun j σ H2 => ∃ x9 x10 x11 x12 vals cs, σ = [some (.ref p), some (.int most), some (.ref wd), some (.int wide), some (.int size), some (.int way), some (.ref o), some (.int (0 + (i : Int))), some (.ref fl), x9, x10, x11, x12] ∧
      Off p H H2 ∧ Pen H2 p c (n + 5 + 8 * i + 2 * j) ∧ H2 o = some (.lst refs) ∧ Same F H2 ∧ H2 fl = some (.lst vals) ∧ DaAll K F vals cs ∧ cs.length = j ∧ ∀ d ∈ cs, okc size d) ?i0 ?is ?id
    case i0 =>
      refine ⟨_, _, _, _, [], [], rfl, oC.trans (Off.new nfl), pC.mono (same_new nfl) (by omega), (same_new nfl) _ _ hO, sF.trans (same_new nfl), upd_same, .nil, rfl, fun d hd => nomatch hd⟩
    case is =>
      rintro j σ H2 hj ⟨y9, y10, y11, y12, vals, cs, rfl, oD, pD, hO2, sF2, hfl, hcs, hcl, hcok⟩
      have hj2 : (j : Int) < wide := by omega
      refine ⟨.ref p, rfl, .int size, rfl, p, c, _, size, rfl, by omega, by omega, pD, by omega, fun r1 H3 r10 r11 o6 p6 => ?_⟩
      refine ⟨.int r1, rfl, .int (0 + (i : Int)), rfl, _, _, rfl, rfl, .int size, rfl, _, _, rfl, rfl, _, rfl, ite2 (fun hc => ?_) (fun hc => ?_)⟩
      · refine ⟨.int (0 + (i : Int)), rfl, _, _, rfl, rfl, .int (0 + (i : Int)), rfl, _, _, rfl, rfl, .int size, rfl, _, _, rfl, rfl, (show (0 : Int) < size by omega), .int wide, rfl, .int (0 + (i : Int)), rfl, _, _, rfl, rfl, .inl (by omega), .int (0 + (j : Int)), rfl, _, _, rfl, rfl, _, _, rfl, rfl, .int (0 + (i : Int)), rfl, by show 6 ≤ sizeLine; decide, fun s6 n6 => ?_⟩
        have mx : 0 ≤ wide * (0 + (i : Int)) := Int.mul_nonneg (by omega) (by omega)
        have md : 0 ≤ (0 + (i : Int) + 1) % size := Int.emod_nonneg _ (by omega)
        have all6 : ∀ v ∈ [V.int r1, V.int (0 + (i : Int) + 1), V.int ((0 + (i : Int) + 1) % size), V.non, V.int (wide * (0 + (i : Int)) + (0 + (j : Int)) + 1), V.int (0 + (i : Int))], nnv v := by
          intro v hv
          simp only [List.mem_cons, List.not_mem_nil, or_false] at hv
          rcases hv with e | e | e | e | e | e <;> rw [e] <;> first | exact .inl rfl | exact .inr ⟨_, rfl, by omega⟩
        obtain ⟨v6, hv6, hm6⟩ := at_in (xs := [V.int r1, V.int (0 + (i : Int) + 1), V.int ((0 + (i : Int) + 1) % size), V.non, V.int (wide * (0 + (i : Int)) + (0 + (j : Int)) + 1), V.int (0 + (i : Int))]) y0 y1
        have nn6 := all6 v6 hm6
        have oE := (oD.trans o6).trans (Off.new (o := .lst [V.int r1, V.int (0 + (i : Int) + 1), V.int ((0 + (i : Int) + 1) % size), V.non, V.int (wide * (0 + (i : Int)) + (0 + (j : Int)) + 1), V.int (0 + (i : Int))]) n6)
        refine ⟨.ref s6, rfl, .int way, rfl, s6, _, way, v6, rfl, rfl, .inl (.inl upd_same), hv6, .int r1, rfl, by show 3 ≤ sizeLine; decide, fun s3 n3 => ⟨by show 6 ≤ sizeLine; decide, fun s4 n4 => ?_⟩⟩
        have sN := (same_new (o := .lst [V.int r1, V.int (0 + (i : Int) + 1), V.int ((0 + (i : Int) + 1) % size), V.non, V.int (wide * (0 + (i : Int)) + (0 + (j : Int)) + 1), V.int (0 + (i : Int))]) n6).trans ((same_new (o := .lst [v6, .non, .int r1]) n3).trans (same_new (o := .lst [.int 0, .int 0, .int 0, .int 0, .int 1, .int 2]) n4))
        have pN := p6.mono sN (Nat.le_refl _)
        refine ⟨.ref p, rfl, p, c, _, 6, rfl, by decide, by decide, pN, by omega, fun r2 H4 r20 r21 o7 p7 => ?_⟩
        have ne4 := (p6.mono ((same_new n6).trans (same_new n3)) (Nat.le_refl _)).ne n4
        have ne3 := (p6.mono (same_new n6) (Nat.le_refl _)).ne n3
        have h4 := o7 s4 _ ne4.1 upd_same
        have h3 := o7 s3 _ ne3.1 ((same_new n4) _ _ upd_same)
        obtain ⟨v2, hv2, hm2⟩ := at_in (xs := [V.int 0, V.int 0, V.int 0, V.int 0, V.int 1, V.int 2]) r20 r21
        have k2 : ∃ k : Int, v2 = .int k ∧ 0 ≤ k ∧ k < 3 := by
          simp only [List.mem_cons, List.not_mem_nil, or_false] at hm2
          rcases hm2 with e | e | e | e | e | e <;> exact ⟨_, e, by decide, by decide⟩
        obtain ⟨k, rfl, k0, k1⟩ := k2
        obtain ⟨v3, hv3, hm3⟩ := at_in (xs := [v6, V.non, V.int r1]) k0 k1
        have nn3 : nnv v3 := by
          simp only [List.mem_cons, List.not_mem_nil, or_false] at hm3
          rcases hm3 with e | e | e <;> rw [e] <;> first | exact nn6 | exact .inl rfl | exact .inr ⟨_, rfl, r10⟩
        refine ⟨s4, _, r2, _, rfl, rfl, .inl (.inl h4), hv2, s3, _, k, v3, rfl, rfl, .inl (.inl h3), hv3, ?_⟩
        have nflo := nfo
        have nop3 : H3 o = some (.lst refs) := o6 _ _ nop hO2
        have hO4 := o7 _ _ nop (sN _ _ nop3)
        have hf4 := o7 _ _ nfp (sN _ _ (o6 _ _ nfp hfl))
        have sF4 : Same F H4 := o7.same fp ((o6.same fp sF2).trans sN)
        have oF : Off p H H4 := (oD.trans o6).trans ((Off.of sN).trans o7)
        have lv : vals.length < sizeLine := by
          have := hcs.length
          exact small1000 (by omega)
        have done : ∀ (val : V) (d : PyData), Da K F val d → okc size d → ∃ x9 x10 x11 x12 vals' cs', ([some (.ref p), some (.int most), some (.ref wd), some (.int wide), some (.int size), some (.int way), some (.ref o), some (.int (0 + (i : Int))), some (.ref fl), some (.int (0 + (j : Int))), some (.int r1), some (.ref s6), some v3] : L2.St) = [some (.ref p), some (.int most), some (.ref wd), some (.int wide), some (.int size), some (.int way), some (.ref o), some (.int (0 + (i : Int))), some (.ref fl), x9, x10, x11, x12] ∧
            Off p H (upd H4 fl (.lst (vals ++ [val]))) ∧ Pen (upd H4 fl (.lst (vals ++ [val]))) p c (n + 5 + 8 * i + 2 * (j + 1)) ∧ upd H4 fl (.lst (vals ++ [val])) o = some (.lst refs) ∧ Same F (upd H4 fl (.lst (vals ++ [val]))) ∧ upd H4 fl (.lst (vals ++ [val])) fl = some (.lst vals') ∧ DaAll K F vals' cs' ∧ cs'.length = j + 1 ∧ ∀ d ∈ cs', okc size d := by
          intro val d hd hok2
          refine ⟨_, _, _, _, _ ++ [val], cs ++ [d], rfl, oF.mut hfF, (p7.off nfp nfc).le (by omega), ?_, same_off sF4 (sF.free nfl), upd_same, hcs.append (.one hd), ?_, ?_⟩
          · rw [upd_ne nfo.symm]
            exact hO4
          · rw [List.length_append, hcl]
            rfl
          · intro e he
            rcases List.mem_append.mp he with he | he
            · exact hcok e he
            · rw [List.mem_singleton] at he
              rw [he]
              exact hok2
        rcases nn3 with rfl | ⟨k3, rfl, k30⟩
        · exact ⟨.ref fl, rfl, .inl ⟨rfl, _, .inl (.inl hf4)⟩, .non, rfl, rfl, _, rfl, iteF ⟨.non, rfl, fl, _, .non, rfl, rfl, hf4, lv, done .non .none .non (.inl rfl)⟩⟩
        · refine ⟨.ref fl, rfl, .inl ⟨rfl, _, .inl (.inl hf4)⟩, .int k3, rfl, rfl, _, rfl, iteT ⟨.int k3, rfl, .int size, rfl, k3, size, rfl, rfl, _, rfl, ite2 (fun hk => ?_) (fun hk => ?_)⟩⟩
          · exact ⟨fl, _, .non, rfl, rfl, hf4, lv, done .non .none .non (.inl rfl)⟩
          · have hk2 : ¬ size ≤ k3 := fun z => hk (decide_eq_true z)
            exact ⟨.int k3, rfl, fl, _, .int k3, rfl, rfl, hf4, lv, done (.int k3) (.int k3) (.int k3) (.inr ⟨k3, rfl, k30, by omega⟩)⟩
      · refine ⟨.int (0 + (i : Int)), rfl, _, _, rfl, rfl, .int size, rfl, _, _, rfl, rfl, (show (0 : Int) < size by omega), .int wide, rfl, .int (0 + (i : Int)), rfl, _, _, rfl, rfl, .inl (by omega), .int (0 + (j : Int)), rfl, _, _, rfl, rfl, _, _, rfl, rfl, .int (0 + (i : Int)), rfl, by show 6 ≤ sizeLine; decide, fun s6 n6 => ?_⟩
        have mx : 0 ≤ wide * (0 + (i : Int)) := Int.mul_nonneg (by omega) (by omega)
        have md : 0 ≤ (0 + (i : Int) + 1) % size := Int.emod_nonneg _ (by omega)
        have all6 : ∀ v ∈ [V.int r1, V.non, V.int ((0 + (i : Int) + 1) % size), V.non, V.int (wide * (0 + (i : Int)) + (0 + (j : Int)) + 1), V.int (0 + (i : Int))], nnv v := by
          intro v hv
          simp only [List.mem_cons, List.not_mem_nil, or_false] at hv
          rcases hv with e | e | e | e | e | e <;> rw [e] <;> first | exact .inl rfl | exact .inr ⟨_, rfl, by omega⟩
        obtain ⟨v6, hv6, hm6⟩ := at_in (xs := [V.int r1, V.non, V.int ((0 + (i : Int) + 1) % size), V.non, V.int (wide * (0 + (i : Int)) + (0 + (j : Int)) + 1), V.int (0 + (i : Int))]) y0 y1
        have nn6 := all6 v6 hm6
        have oE := (oD.trans o6).trans (Off.new (o := .lst [V.int r1, V.non, V.int ((0 + (i : Int) + 1) % size), V.non, V.int (wide * (0 + (i : Int)) + (0 + (j : Int)) + 1), V.int (0 + (i : Int))]) n6)
        refine ⟨.ref s6, rfl, .int way, rfl, s6, _, way, v6, rfl, rfl, .inl (.inl upd_same), hv6, .int r1, rfl, by show 3 ≤ sizeLine; decide, fun s3 n3 => ⟨by show 6 ≤ sizeLine; decide, fun s4 n4 => ?_⟩⟩
        have sN := (same_new (o := .lst [V.int r1, V.non, V.int ((0 + (i : Int) + 1) % size), V.non, V.int (wide * (0 + (i : Int)) + (0 + (j : Int)) + 1), V.int (0 + (i : Int))]) n6).trans ((same_new (o := .lst [v6, .non, .int r1]) n3).trans (same_new (o := .lst [.int 0, .int 0, .int 0, .int 0, .int 1, .int 2]) n4))
        have pN := p6.mono sN (Nat.le_refl _)
        refine ⟨.ref p, rfl, p, c, _, 6, rfl, by decide, by decide, pN, by omega, fun r2 H4 r20 r21 o7 p7 => ?_⟩
        have ne4 := (p6.mono ((same_new n6).trans (same_new n3)) (Nat.le_refl _)).ne n4
        have ne3 := (p6.mono (same_new n6) (Nat.le_refl _)).ne n3
        have h4 := o7 s4 _ ne4.1 upd_same
        have h3 := o7 s3 _ ne3.1 ((same_new n4) _ _ upd_same)
        obtain ⟨v2, hv2, hm2⟩ := at_in (xs := [V.int 0, V.int 0, V.int 0, V.int 0, V.int 1, V.int 2]) r20 r21
        have k2 : ∃ k : Int, v2 = .int k ∧ 0 ≤ k ∧ k < 3 := by
          simp only [List.mem_cons, List.not_mem_nil, or_false] at hm2
          rcases hm2 with e | e | e | e | e | e <;> exact ⟨_, e, by decide, by decide⟩
        obtain ⟨k, rfl, k0, k1⟩ := k2
        obtain ⟨v3, hv3, hm3⟩ := at_in (xs := [v6, V.non, V.int r1]) k0 k1
        have nn3 : nnv v3 := by
          simp only [List.mem_cons, List.not_mem_nil, or_false] at hm3
          rcases hm3 with e | e | e <;> rw [e] <;> first | exact nn6 | exact .inl rfl | exact .inr ⟨_, rfl, r10⟩
        refine ⟨s4, _, r2, _, rfl, rfl, .inl (.inl h4), hv2, s3, _, k, v3, rfl, rfl, .inl (.inl h3), hv3, ?_⟩
        have nflo := nfo
        have nop3 : H3 o = some (.lst refs) := o6 _ _ nop hO2
        have hO4 := o7 _ _ nop (sN _ _ nop3)
        have hf4 := o7 _ _ nfp (sN _ _ (o6 _ _ nfp hfl))
        have sF4 : Same F H4 := o7.same fp ((o6.same fp sF2).trans sN)
        have oF : Off p H H4 := (oD.trans o6).trans ((Off.of sN).trans o7)
        have lv : vals.length < sizeLine := by
          have := hcs.length
          exact small1000 (by omega)
        have done : ∀ (val : V) (d : PyData), Da K F val d → okc size d → ∃ x9 x10 x11 x12 vals' cs', ([some (.ref p), some (.int most), some (.ref wd), some (.int wide), some (.int size), some (.int way), some (.ref o), some (.int (0 + (i : Int))), some (.ref fl), some (.int (0 + (j : Int))), some (.int r1), some (.ref s6), some v3] : L2.St) = [some (.ref p), some (.int most), some (.ref wd), some (.int wide), some (.int size), some (.int way), some (.ref o), some (.int (0 + (i : Int))), some (.ref fl), x9, x10, x11, x12] ∧
            Off p H (upd H4 fl (.lst (vals ++ [val]))) ∧ Pen (upd H4 fl (.lst (vals ++ [val]))) p c (n + 5 + 8 * i + 2 * (j + 1)) ∧ upd H4 fl (.lst (vals ++ [val])) o = some (.lst refs) ∧ Same F (upd H4 fl (.lst (vals ++ [val]))) ∧ upd H4 fl (.lst (vals ++ [val])) fl = some (.lst vals') ∧ DaAll K F vals' cs' ∧ cs'.length = j + 1 ∧ ∀ d ∈ cs', okc size d := by
          intro val d hd hok2
          refine ⟨_, _, _, _, _ ++ [val], cs ++ [d], rfl, oF.mut hfF, (p7.off nfp nfc).le (by omega), ?_, same_off sF4 (sF.free nfl), upd_same, hcs.append (.one hd), ?_, ?_⟩
          · rw [upd_ne nfo.symm]
            exact hO4
          · rw [List.length_append, hcl]
            rfl
          · intro e he
            rcases List.mem_append.mp he with he | he
            · exact hcok e he
            · rw [List.mem_singleton] at he
              rw [he]
              exact hok2
        rcases nn3 with rfl | ⟨k3, rfl, k30⟩
        · exact ⟨.ref fl, rfl, .inl ⟨rfl, _, .inl (.inl hf4)⟩, .non, rfl, rfl, _, rfl, iteF ⟨.non, rfl, fl, _, .non, rfl, rfl, hf4, lv, done .non .none .non (.inl rfl)⟩⟩
        · refine ⟨.ref fl, rfl, .inl ⟨rfl, _, .inl (.inl hf4)⟩, .int k3, rfl, rfl, _, rfl, iteT ⟨.int k3, rfl, .int size, rfl, k3, size, rfl, rfl, _, rfl, ite2 (fun hk => ?_) (fun hk => ?_)⟩⟩
          · exact ⟨fl, _, .non, rfl, rfl, hf4, lv, done .non .none .non (.inl rfl)⟩
          · have hk2 : ¬ size ≤ k3 := fun z => hk (decide_eq_true z)
            exact ⟨.int k3, rfl, fl, _, .int k3, rfl, rfl, hf4, lv, done (.int k3) (.int k3) (.int k3) (.inr ⟨k3, rfl, k30, by omega⟩)⟩
    case id =>
      rintro σ H2 ⟨y9, y10, y11, y12, vals, cs, rfl, oD, pD, hO2, sF2, hfl, hcs, hcl, hcok⟩
      refine ⟨.ref o, rfl, .inl ⟨rfl, _, .inl (.inl hO2)⟩, .ref fl, rfl, fl, vals, rfl, .inl (.inl hfl), fun t nt => ⟨o, refs, _, rfl, rfl, (same_new nt) _ _ hO2, ?_, ?_⟩⟩
      · have := hda.length
        exact small1000 (by omega)
      · have ntp : t ≠ p := by
          obtain ⟨u, hu⟩ := pD.some
          exact (ne_of_none hu nt).symm
        have nto : t ≠ o := (ne_of_none hO2 nt).symm
        have ft := sF2.free nt
        have sF3 : Same (upd F t (.tup vals)) (upd H2 t (.tup vals)) := same_grow sF2 nt
        have fo3 : upd F t (.tup vals) o = none := by
          rw [upd_ne nto.symm]
          exact fo
        have fp3 : upd F t (.tup vals) p = none := by
          rw [upd_ne ntp.symm]
          exact fp
        refine ⟨_, _, _, _, _, _, refs ++ [.ref t], rows ++ [.tuple cs], upd F t (.tup vals), rfl, (oD.trans (Off.new nt)).mut hoF, ((pD.mono (same_new nt) (by omega)).off nop noc), upd_same, same_off sF3 fo3, fp3, fo3, (hda.mono (same_new ft)).append (.one (.tup (.inl (.inl upd_same)) (hcs.mono (same_new ft)))), ?_, ?_⟩
        · rw [List.length_append, hrl]
          rfl
        · intro r hr
          rcases List.mem_append.mp hr with hr | hr
          · exact hok r hr
          · rw [List.mem_singleton] at hr
            exact ⟨cs, hr, by omega, hcok⟩
  case hd =>
    rintro σ H' ⟨x7, x8, x9, x10, x11, x12, refs, rows, F, rfl, oC, pC, hO, sF, fp, fo, hda, hrl, hok⟩
    refine ⟨.int wide, rfl, .ref o, rfl, o, refs, rfl, .inl (.inl hO), fun t nt => ⟨by show 2 ≤ sizeLine; decide, fun a na => ?_⟩⟩
    have np1 : t ≠ p := by
      obtain ⟨u, hu⟩ := pC.some
      exact (ne_of_none hu nt).symm
    have ft := sF.free nt
    have sF1 : Same (upd F t (.tup refs)) (upd H' t (.tup refs)) := same_grow sF nt
    have sF2 := same_grow (o := .tup [.int wide, .ref t]) sF1 na
    have na' : upd F t (.tup refs) a = none := sF1.free na
    have nap : a ≠ p := by
      obtain ⟨u, hu⟩ := (pC.mono (same_new (o := .tup refs) nt) (Nat.le_refl _)).some
      exact (ne_of_none hu na).symm
    have nta : t ≠ a := ne_of_none (o := .tup refs) upd_same na
    refine q a _ wide rows (oC.trans ((Off.new nt).trans (Off.new na))) (((pC.mono (same_new nt) (Nat.le_refl _)).mono (same_new na) (by omega))) (PileAt.mono (same_cut sF2 ?_) ⟨t, refs, upd_same, ?_, ?_, wl, wh, ?_⟩) hwide ?_
    · rw [upd_ne nap.symm, upd_ne np1.symm]
      exact fp
    · rw [upd_ne nta, upd_same]
    · exact (hda.mono (same_new ft)).mono (same_new na')
    · rw [hrl, Int.toNat_of_nonneg z0]
      exact hok
    · rw [hrl, Int.toNat_of_nonneg z0]
      exact z1
end
end K10
namespace K10
open PySem PySem.Spec PyProof.Rows L2 VK
open C8 (Cal pe_c pe_gc)
section
variable {P : Program} {w : World} {K : PySem.W.Frag} {mg : Str → Option Value} {base : Heap}
abbrev s_law_spots : Stmt := topS 11
theorem sc_law_spots : FnScope ["_law_pen_here", "_law_size", "_law_most", "_law_found", "_law_k", "_law_one"] ["_law_pen_here", "_law_size", "_law_most"] (defScope s_law_spots) := ⟨rfl, rfl, rfl, by decide +kernel, rfl, by decide +kernel, by decide +kernel⟩
/- slots: 0 _law_pen_here, 1 _law_size, 2 _law_most, 3 _law_found, 4 _law_k, 5 _law_one -/
def sp_spots (K : PySem.W.Frag) : Sp := fun vs H Q _ => ∃ (p c : Addr) (n : Nat) (size most : Int), vs = [.ref p, .int size, .int most] ∧ Pen H p c n ∧ n + 100 ≤ 100000 ∧ 0 ≤ size ∧ size ≤ 40 ∧ 1 ≤ most ∧ most ≤ 6 ∧
  ∀ a H' ts ds, Off p H H' → Pen H' p c (n + 100) → cut p H' a = some (.tup ts) → DaAll K (cut p H') ts ds → 1 ≤ ds.length → (ds.length : Int) ≤ most → (∀ d ∈ ds, okc size d) → Q (.ref a) H'
theorem ok_law_spots (z : ∀ x, x ∈ zs → mg x = none) (D : Df K mg "_law_spots" s_law_spots) (c_law_pick : Cal P w K mg base 1 "_law_pick" sp_draw []) : Cal P w K mg base 2 "_law_spots" (sp_spots K) [] := by
  refine D.cal sc_law_spots (fun _ _ _ _ _ _ us hl => match us, hl with | [_, _, _], _ => rfl) (fun vs H Q E ⟨p, c, n, size, most, e, _⟩ => by rw [e]; rfl) (fun f cdv A outer s H vs Q E hr h => ?_)
  obtain ⟨p, c, n, size, most, rfl, pen, hn, z0, z1, m0, m1, q⟩ := h
  refine ⟨_, (pss_cons (ps_set (i := 3) sc_law_spots.nd rfl (Or.inl rfl) (pe_lst pa_nil))
      (pss_cons (ps_for PassesOwn.never rfl (pi_range1 (by rfl) (z "range" (by decide)) (pa_cons (pe_op op_add pe_int (pe_c c_law_pick hr (by decide) (by rfl) (pa_cons (pv 0) (pa_cons (pv 2) pa_nil)))) pa_nil)) (pg_name (i := 4) sc_law_spots.nd rfl (Or.inl rfl))
        (pss_cons (ps_set (i := 5) sc_law_spots.nd rfl (Or.inl rfl) (pe_c c_law_pick hr (by decide) (by rfl) (pa_cons (pv 0) (pa_cons (pe_op op_add (pv 1) pe_int) pa_nil))))
        (pss_one (ps_expr (pe_bm PySem.F.plainAttrs_list PySem.F.slot_list_append PySem.F.type_list_append mt_append (pv 3) (pa_cons (pe_ifExp (pt_cmpR op_lt (pv 5) (pv 1) (nomark _)) (pv 5) pe_non) pa_nil))))))
      (pss_one (ps_ret (pe_callTy (r := rTupleL K) call_tupleL (by rfl) (z "tuple" (by decide)) PyProof.Rows.boot_tuple (pa_cons (pv 3) pa_nil)))))), ?_⟩
  refine ⟨Nat.zero_le _, fun o no => ?_⟩
  obtain ⟨nop, noc⟩ := pen.ne no
  refine ⟨.ref p, rfl, .int most, rfl, p, c, n, most, rfl, by omega, by omega, pen.mono (same_new no) (Nat.le_refl _), by omega, fun r H1 r0 r1 o1 p1 => ?_⟩
  have hO := o1 _ _ nop (upd_same (H := H) (a := o) (o := .lst []))
  have oA : Off p H H1 := (Off.new no).trans o1
  refine ⟨1, r, rfl, rfl, 1 + r, rfl, by omega, by omega, ?_⟩
  refine for_range (lo := 0) (n := (1 + r).toNat) (fun i σ H' => ∃ x4 x5 vals ds, σ = [some (.ref p), some (.int size), some (.int most), some (.ref o), x4, x5] ∧
    Off p H H' ∧ Pen H' p c (n + 1 + i) ∧ H' o = some (.lst vals) ∧ (∀ F, DaAll K F vals ds) ∧ ds.length = i ∧ ∀ d ∈ ds, okc size d) ?h0 ?hs ?hd
  case h0 => exact ⟨_, _, [], [], rfl, oA, p1, hO, fun _ => .nil, rfl, fun d hd => nomatch hd⟩
  case hs =>
    rintro i σ H' hi ⟨x4, x5, vals, ds, rfl, oC, pC, hO2, hda, hdl, hok⟩
    refine ⟨.ref p, rfl, .int size, rfl, size, 1, rfl, rfl, p, c, _, _, rfl, by omega, by omega, pC, by omega, fun r2 H2 r20 r21 o2 p2 => ?_⟩
    have hO3 := o2 _ _ nop hO2
    have lv : vals.length < sizeLine := by
      have := (hda H).length
      exact small1000 (by omega)
    have done : ∀ (v : V) (d : PyData), (∀ F, Da K F v d) → okc size d → ∃ x4 x5 vals' ds', ([some (.ref p), some (.int size), some (.int most), some (.ref o), some (.int (0 + (i : Int))), some (.int r2)] : L2.St) = [some (.ref p), some (.int size), some (.int most), some (.ref o), x4, x5] ∧
        Off p H (upd H2 o (.lst (vals ++ [v]))) ∧ Pen (upd H2 o (.lst (vals ++ [v]))) p c (n + 1 + (i + 1)) ∧ upd H2 o (.lst (vals ++ [v])) o = some (.lst vals') ∧ (∀ F, DaAll K F vals' ds') ∧ ds'.length = i + 1 ∧ ∀ d ∈ ds', okc size d := by
      intro v d hd hk
      refine ⟨_, _, vals ++ [v], ds ++ [d], rfl, (oC.trans o2).mut no, (p2.off nop noc).le (by omega), upd_same, fun F => (hda F).append (.one (hd F)), ?_, ?_⟩
      · rw [List.length_append, hdl]
        rfl
      · intro e he
        rcases List.mem_append.mp he with he | he
        · exact hok e he
        · rw [List.mem_singleton] at he
          rw [he]
          exact hk
    refine ⟨.ref o, rfl, .inl ⟨rfl, _, .inl (.inl hO3)⟩, .int r2, rfl, .int size, rfl, r2, size, rfl, rfl, _, rfl, ite2 (fun hk => ?_) (fun hk => ?_)⟩
    · have hk2 := of_decide_eq_true hk
      exact ⟨.int r2, rfl, o, vals, .int r2, rfl, rfl, hO3, lv, done (.int r2) (.int r2) (fun _ => .int r2) (.inr ⟨r2, rfl, r20, hk2⟩)⟩
    · exact ⟨o, vals, .non, rfl, rfl, hO3, lv, done .non .none (fun _ => .non) (.inl rfl)⟩
  case hd =>
    rintro σ H' ⟨x4, x5, vals, ds, rfl, oC, pC, hO2, hda, hdl, hok⟩
    refine ⟨.ref o, rfl, o, vals, rfl, .inl (.inl hO2), fun a na => ?_⟩
    obtain ⟨nap, nac⟩ := pC.ne na
    refine q a _ vals ds (oC.trans (Off.new na)) (pC.mono (same_new na) (by omega)) ?_ (hda _) (by omega) (by omega) hok
    rw [cut_ne nap, upd_same]

abbrev s_law_due : Stmt := topS 12
theorem sc_law_due : FnScope ["_law_size", "_law_item", "_law_one"] ["_law_size", "_law_item"] (defScope s_law_due) := ⟨rfl, rfl, rfl, by decide +kernel, rfl, by decide +kernel, by decide +kernel⟩
/- slots: 0 _law_size, 1 _law_item, 2 _law_one -/
def sp_due (K : PySem.W.Frag) : Sp := fun vs H Q _ => ∃ (n : Int) (v : V) (d : PyData), vs = [.int n, v] ∧ Da K H v d ∧ Q (.bl (isRegs n d)) H
theorem ok_law_due (z : ∀ x, x ∈ zs → mg x = none) (D : Df K mg "_law_due" s_law_due) : Cal P w K mg base 1 "_law_due" (sp_due K) [] := by
  refine D.cal sc_law_due (fun _ _ _ _ _ _ us hl => match us, hl with | [_, _], _ => rfl) (fun vs H Q E ⟨n, v, d, e, _⟩ => by rw [e]; rfl) (fun f cdv A outer s H vs Q E hr h => ?_)
  obtain ⟨n, v, d, rfl, hd, q⟩ := h
  refine ⟨_, (pss_cons (ps_if (PW.pt (pw_or (pt_not (pt_val (pe_callB (r := rIsi K) call_isi (by rfl) (z "isinstance" (by decide)) PyProof.Rows.boot_isinstance (pa_cons (pv 1) (pa_cons (pe_bltn (v := .ty "tuple") (by rfl) (z "tuple" (by decide)) PyProof.Rows.boot_tuple rfl) pa_nil))))) (pw_or1 (pt_not (pt_chain op_le op_le pe_int (pe_callB (r := rLenSq K) call_lenSq (by rfl) (z "len" (by decide)) PySem.boot_len (pa_cons (pv 1) pa_nil)) pe_int))))) (pss_one (ps_ret pe_bl)) pss_nil)
      (pss_cons (ps_for PassesOwn.never rfl (pi_tup (pv 1)) (pg_name (i := 2) sc_law_due.nd rfl (Or.inl rfl))
        (pss_one (ps_if (PW.pt (pw_and (pt_cmpR op_notN (pv 2) pe_non (nomark _)) (pw_and1 (PW.pt (pw_or (pt_not (pt_val (pe_callB (r := rIsi K) call_isi (by rfl) (z "isinstance" (by decide)) PyProof.Rows.boot_isinstance (pa_cons (pv 2) (pa_cons (pe_bltn (v := .ty "int") (by rfl) (z "int" (by decide)) PyProof.Rows.boot_int rfl) pa_nil))))) (pw_or (pt_val (pe_callB (r := rIsi K) call_isi (by rfl) (z "isinstance" (by decide)) PyProof.Rows.boot_isinstance (pa_cons (pv 2) (pa_cons (pe_bltn (v := .ty "bool") (by rfl) (z "bool" (by decide)) PyProof.Rows.boot_bool rfl) pa_nil)))) (pw_or1 (pt_not (pt_chain op_le op_lt pe_int (pv 2) (pv 0)))))))))) (pss_one (ps_ret pe_bl)) pss_nil)))
      (pss_one (ps_ret pe_bl)))), ?_⟩
  refine ⟨v, rfl, v, .ty "tuple", _, _, _, rfl, .ty _, da_ty hd, kT d, _, rfl, ?_⟩
  cases hd with
  | @tup t xs ds ht hds =>
    have hl := hds.length
    have un : isRegs n (.tuple ds) = (decide (1 ≤ ds.length) && decide (ds.length ≤ 6) && ds.all (mayH n)) := rfl
    refine iteF ⟨.ref t, rfl, t, xs, rfl, Or.inr ht, 1, xs.length, rfl, rfl, _, rfl, ?_⟩
    by_cases h1 : (1 : Int) ≤ xs.length
    · rw [decide_eq_true h1]
      refine iteT ⟨(xs.length : Int), 6, rfl, rfl, _, rfl, ?_⟩
      by_cases h6 : (xs.length : Int) ≤ 6
      · rw [decide_eq_true h6]
        have un2 : isRegs n (.tuple ds) = ds.all (mayH n) := by
          rw [un, decide_eq_true (show 1 ≤ ds.length by omega), decide_eq_true (show ds.length ≤ 6 by omega)]
          rfl
        refine iteF ⟨.ref t, rfl, t, rfl, ⟨xs, ht⟩, ?_⟩
        refine for_tup (K := K) (a := t) (xs := xs) (fun i σ H' => ∃ x2, σ = [some (.int n), some (.ref t), x2] ∧ H' = H ∧ ∀ d ∈ ds.take i, mayH n d = true) ⟨_, rfl, rfl, fun d hd => by simp at hd⟩ (fun i σ H' _ ⟨_, _, e, _⟩ => by rw [e]; exact ht) ?_ ?_
        · rintro i x σ H' hx ⟨x2, rfl, rfl, hall⟩
          obtain ⟨d, hd, hxd⟩ := hds.get hx
          have go : mayH n d = true → ∃ x3, ([some (.int n), some (.ref t), some x] : L2.St) = [some (.int n), some (.ref t), x3] ∧ H' = H' ∧ ∀ d ∈ ds.take (i + 1), mayH n d = true := fun hm => by
            refine ⟨_, rfl, rfl, fun e he => ?_⟩
            rw [List.take_add_one, hd] at he
            rcases List.mem_append.mp he with he | he
            · exact hall e he
            · have e2 : e = d := by simpa using he
              rw [e2]
              exact hm
          have bad : mayH n d = false → isRegs n (.tuple ds) = false := fun hm => by
            rw [un2, List.all_eq_false]
            exact ⟨d, List.mem_of_getElem? hd, by rw [hm]; decide⟩
          have ret : mayH n d = false → Q (.bl false) H' := fun hm => by
            have q' := q
            rw [bad hm] at q'
            exact q'
          refine ⟨x, rfl, rfl, _, rfl, ?_⟩
          by_cases hx0 : x = .non
          · subst hx0
            cases hxd
            exact iteF (go rfl)
          · rw [decide_eq_false hx0]
            refine iteT ⟨x, rfl, x, .ty "int", _, _, _, rfl, .ty _, da_ty hxd, kI d, _, rfl, ?_⟩
            cases hi : isInt d with
            | false =>
              refine iteT (ret ?_)
              cases d <;> first | rfl | (cases hi; done) | (cases hxd; exact absurd rfl hx0)
            | true =>
              refine iteF ⟨x, rfl, x, .ty "bool", _, _, _, rfl, .ty _, da_ty hxd, kB d, _, rfl, ?_⟩
              cases hb : isBool d with
              | true =>
                refine iteT (ret ?_)
                cases d <;> first | rfl | (cases hb; done)
              | false =>
                cases hxd with
                | int k =>
                  refine iteF ⟨.int k, rfl, 0, k, rfl, rfl, _, rfl, ?_⟩
                  by_cases hk0 : 0 ≤ k
                  · rw [decide_eq_true hk0]
                    refine iteT ⟨.int n, rfl, k, n, rfl, rfl, _, rfl, ?_⟩
                    by_cases hkn : k < n
                    · rw [decide_eq_true hkn]
                      refine iteF (go ?_)
                      show (decide (0 ≤ k) && decide (k < n)) = true
                      rw [decide_eq_true hk0, decide_eq_true hkn]
                      rfl
                    · rw [decide_eq_false hkn]
                      refine iteT (ret ?_)
                      show (decide (0 ≤ k) && decide (k < n)) = false
                      rw [decide_eq_false hkn, Bool.and_false]
                  · rw [decide_eq_false hk0]
                    refine iteF ⟨_, rfl, iteT (ret ?_)⟩
                    show (decide (0 ≤ k) && decide (k < n)) = false
                    rw [decide_eq_false hk0, Bool.false_and]
                | _ => first | (cases hi; done) | (cases hb; done)
        · rintro σ H' ⟨x2, rfl, rfl, hall⟩
          have e : isRegs n (.tuple ds) = true := by
            rw [un2, List.all_eq_true]
            rw [List.take_of_length_le (by omega)] at hall
            exact hall
          rw [e] at q
          exact q
      · rw [decide_eq_false h6]
        refine iteT ?_
        rw [un, decide_eq_false (show ¬ ds.length ≤ 6 by omega), Bool.and_false] at q
        exact q
    · rw [decide_eq_false h1]
      refine iteF ⟨_, rfl, iteT ?_⟩
      rw [un, decide_eq_false (show ¬ 1 ≤ ds.length by omega)] at q
      exact q
  | _ => exact iteT q
end
end K10
namespace K10
open PySem PySem.Spec PyProof.Rows L2 VK
open C8 (Cal pe_c pe_gc)
section
variable {P : Program} {w : World} {K : PySem.W.Frag} {mg : Str → Option Value} {base : Heap}
abbrev s_law_bent : Stmt := topS 13
theorem sc_law_bent : FnScope ["_law_pen_here", "_law_spots_here", "_law_size", "_law_at", "_law_odd", "_law_some"] ["_law_pen_here", "_law_spots_here", "_law_size"] (defScope s_law_bent) := ⟨rfl, rfl, rfl, by decide +kernel, rfl, by decide +kernel, by decide +kernel⟩
/- slots: 0 _law_pen_here, 1 _law_spots_here, 2 _law_size, 3 _law_at, 4 _law_odd, 5 _law_some -/
def sp_bent (K : PySem.W.Frag) : Sp := fun vs H Q _ => ∃ (p c a : Addr) (n : Nat) (size : Int) (ts : List V) (ds : List PyData) (F : Hp), vs = [.ref p, .ref a, .int size] ∧ Pen H p c n ∧ n + 10 ≤ 100000 ∧ 0 ≤ size ∧ size ≤ 40 ∧
  Same F H ∧ F p = none ∧ F a = some (.tup ts) ∧ DaAll K F ts ds ∧ 1 ≤ ds.length ∧ ds.length ≤ 6 ∧ (∀ d ∈ ds, okc size d) ∧
  ∀ v d H', Off p H H' → Pen H' p c (n + 10) → Da K (fr F H H') v d → Ite d → Q v H'
theorem ok_law_bent (z : ∀ x, x ∈ zs → mg x = none) (D : Df K mg "_law_bent" s_law_bent) (c_law_pick : Cal P w K mg base 1 "_law_pick" sp_draw []) : CalG P w K mg base 2 "_law_bent" (sp_bent K) := by
  refine D.calG sc_law_bent (fun _ _ _ _ _ _ us hl => match us, hl with | [_, _, _], _ => rfl) (fun vs H Q E ⟨p, c, a, n, size, ts, ds, F, e, _⟩ => by rw [e]; rfl) (fun f cdv A outer s H vs Q E hr hgd h => ?_)
  obtain ⟨p, c, a, n, size, ts, ds, F, rfl, pen, hn, z0, z1, sF, fp, ha, hds, d0, d6, hok, q⟩ := h
  refine ⟨_, (pss_cons (ps_set (i := 3) sc_law_bent.nd rfl (Or.inl rfl) (pe_c c_law_pick hr (by decide) (by rfl) (pa_cons (pv 0) (pa_cons (pe_op op_add (pe_callB (r := rLenSq K) call_lenSq (by rfl) (z "len" (by decide)) PySem.boot_len (pa_cons (pv 1) pa_nil)) pe_int) pa_nil))))
      (pss_cons (ps_set (i := 4) sc_law_bent.nd rfl (Or.inl rfl) (pe_ix (r := rIxL K) ix_list (pe_lst (pa_cons (pv 2) (pa_cons (pe_un un_neg pe_int) (pa_cons pe_bl (pa_cons pe_bl (pa_cons pe_str (pa_cons (pe_tup pa_nil) (pa_cons (pe_lst (pa_cons pe_int pa_nil)) (pa_cons (pe_op op_pow pe_int pe_int) (pa_cons pe_int (pa_cons pe_non (pa_cons pe_int (pa_cons pe_int (pa_cons pe_dnewK pa_nil)))))))))))))) (pe_c c_law_pick hr (by decide) (by rfl) (pa_cons (pv 0) (pa_cons pe_int pa_nil))) (fun _ _ => rfl)))
      (pss_cons (ps_set (i := 5) sc_law_bent.nd rfl (Or.inl rfl) (pe_lst (pa_cons (pe_op (r := rCatW K) op_catT2 (pe_op (r := rCatW K) op_catT2 (pe_slice (r := rSlW K) sl_tupT (pv 1) po_none (po_some (pv 3))) (pe_tup (pa_cons (pv 4) pa_nil))) (pe_slice (r := rSlW K) sl_tupT (pv 1) (po_some (pe_op op_add (pv 3) pe_int)) po_none)) (pa_cons (pe_op (r := rCatW K) op_catT2 (pe_op (r := rCatW K) op_catT2 (pe_slice (r := rSlW K) sl_tupT (pv 1) po_none (po_some (pv 3))) (pe_tup (pa_cons (pv 4) pa_nil))) (pe_slice (r := rSlW K) sl_tupT (pv 1) (po_some (pv 3)) po_none)) (pa_cons (pe_callTy (r := rListOf K) call_listOf (by rfl) (z "list" (by decide)) PyProof.Rows.boot_list (pa_cons (pv 1) pa_nil)) (pa_cons (pe_op (r := rRepT K) op_repT (pv 1) pe_int) (pa_cons (pe_slice (r := rSlW K) sl_tupT (pv 1) po_none (po_some pe_int)) pa_nil)))))))
      (pss_one (ps_ret (pe_ix (r := rIxL K) ix_list (pe_op op_cat (pv 5) (pe_lst (pa_cons (pv 4) (pa_cons (pe_op (r := rCatW K) op_catT2 (pv 1) (pe_op (r := rRepT K) op_repT (pe_tup (pa_cons pe_non pa_nil)) pe_int)) (pa_cons (pe_tup (pa_cons (pv 1) pa_nil)) (pa_cons (pe_callB (r := rRepr K) (call_repr hgd hr.units) (by rfl) (z "repr" (by decide)) PyProof.Rows.boot_repr (pa_cons (pv 1) pa_nil)) (pa_cons (pe_slice (r := rSlW K) sl_tupT (pv 1) (po_some (pv 3)) po_none) pa_nil))))))) (pe_c c_law_pick hr (by decide) (by rfl) (pa_cons (pv 0) (pa_cons pe_int pa_nil))) (fun _ _ => rfl))))))), ?_⟩
  have hap : a ≠ p := ne_of_none ha fp
  have hal : ∀ H', Off p H H' → SqT K H' a ts := fun H' o => .inl (.inl (o _ _ hap (sF _ _ ha)))
  have tl := hds.length
  have A0 := hal H (Off.refl p H)
  refine ⟨.ref p, rfl, .ref a, rfl, a, ts, rfl, .inr A0, ts.length, 1, rfl, rfl, p, c, n, _, rfl, by omega, by omega, pen, by omega, fun at_ H1 t0 t1 o1 p1 => ?_⟩
  -- the odd one
  refine ⟨.int size, rfl, 1, rfl, Nat.zero_le _, fun e1 n1 => ⟨by show 1 ≤ sizeLine; decide, fun e2 n2 => ⟨10, 50, rfl, rfl, ⟨by decide, by decide, by decide⟩, fun e3 n3 => ⟨by show 13 ≤ sizeLine; decide, fun e4 n4 => ?_⟩⟩⟩⟩
  have sA := same_new (o := .tup []) n1
  have sB := same_new (o := .lst [V.int 0]) n2
  have sC := same_new (o := .dK []) n3
  have sD := same_new (o := .lst [V.int size, V.int (-1), V.bl true, V.bl false, V.str "0", V.ref e1, V.ref e2, V.int (10 ^ (50 : Int).toNat), V.int 0, V.non, V.int 39, V.int 40, V.ref e3]) n4
  have m1 := p1.ne n1
  have m2 := (p1.mono sA (Nat.le_refl _)).ne n2
  have m3 := ((p1.mono sA (Nat.le_refl _)).mono sB (Nat.le_refl _)).ne n3
  have pB := ((p1.mono sA (Nat.le_refl _)).mono sB (Nat.le_refl _)).mono sC (Nat.le_refl _)
  have m4 := pB.ne n4
  refine ⟨.ref p, rfl, p, c, _, 13, rfl, by decide, by decide, pB.mono sD (Nat.le_refl _), by omega, fun r13 H2 r130 r131 o2 p2 => ?_⟩
  have g1 := o2 e1 _ m1.1 (sD _ _ (sC _ _ (sB _ _ upd_same)))
  have g2 := o2 e2 _ m2.1 (sD _ _ (sC _ _ upd_same))
  have g3 := o2 e3 _ m3.1 (sD _ _ upd_same)
  have g4 := o2 e4 _ m4.1 upd_same
  have oH2 : Off p H H2 := o1.trans ((Off.of (sA.trans (sB.trans (sC.trans sD)))).trans o2)
  obtain ⟨odd, hodd, hoddm⟩ := at_in (xs := [V.int size, V.int (-1), V.bl true, V.bl false, V.str "0", V.ref e1, V.ref e2, V.int (10 ^ (50 : Int).toNat), V.int 0, V.non, V.int 39, V.int 40, V.ref e3]) r130 r131
  have w1 : H e1 = none := o1.free n1 m1.1
  have w2 : H e2 = none := o1.free (sA.free n2) m2.1
  have w3 : H e3 = none := o1.free ((sA.trans sB).free n3) m3.1
  have ho : ∃ od, (∀ Hz, Off p H2 Hz → Da K (fr F H Hz) odd od) ∧ Bd 1 100 od ∧ Dl od := by
    have l1 : ∀ {i : Int}, i.natAbs < 10 ^ 60 → Bd 1 100 (.int i) := fun h => (bd_int h).le (by decide) (by decide)
    simp only [List.mem_cons, List.not_mem_nil, or_false] at hoddm
    rcases hoddm with e | e | e | e | e | e | e | e | e | e | e | e | e <;> rw [e]
    · exact ⟨_, fun _ _ => .int _, l1 (Nat.lt_of_lt_of_le (m := 100) (by omega) (by decide)), (pl_int _).dl⟩
    · exact ⟨_, fun _ _ => .int _, l1 (by decide), (pl_int _).dl⟩
    · exact ⟨_, fun _ _ => .bl _, (bd_bool _).le (by decide) (by decide), (pl_bool _).dl⟩
    · exact ⟨_, fun _ _ => .bl _, (bd_bool _).le (by decide) (by decide), (pl_bool _).dl⟩
    · exact ⟨_, fun _ _ => .str _, (bd_str (m := 1) (cd_ofS "0") (by decide)).le (by decide) (by decide), (pl_str _).dl⟩
    · exact ⟨_, fun Hz oz => .tup (.inl (.inl (fr_at sF w1 (oz _ _ m1.1 g1)))) .nil, (bd_tup (k := 0) (m := 0) (ds := []) fun d hd => nomatch hd).le (by decide) (by decide), (pl_tup (ds := []) fun d hd => nomatch hd).dl⟩
    · exact ⟨_, fun Hz oz => .lst (.inl (.inl (fr_at sF w2 (oz _ _ m2.1 g2)))) (.one (.int 0)), (bd_lst (k := 0) (m := 61) (ds := [.int 0]) fun d hd => by rw [List.mem_singleton] at hd; rw [hd]; exact bd_int (by decide)).le (by decide) (by decide), fun z => Bool.noConfusion (show false = true from z)⟩
    · exact ⟨_, fun _ _ => .int _, l1 (by decide), (pl_int _).dl⟩
    · exact ⟨_, fun _ _ => .int _, l1 (by decide), (pl_int _).dl⟩
    · exact ⟨_, fun _ _ => .non, bd_none.le (by decide) (by decide), pl_none.dl⟩
    · exact ⟨_, fun _ _ => .int _, l1 (by decide), (pl_int _).dl⟩
    · exact ⟨_, fun _ _ => .int _, l1 (by decide), (pl_int _).dl⟩
    · exact ⟨_, fun Hz oz => .dic (fr_at sF w3 (oz _ _ m3.1 g3)) .nil, bd_emp.le (by decide) (by decide), fun _ => rfl⟩
  obtain ⟨od, hod, bod, dod⟩ := ho
  refine ⟨e4, _, r13, odd, rfl, rfl, .inl (.inl g4), hodd, ?_⟩
  -- the first five
  have T2 := hal H2 oH2
  have e7 : ∃ k : Nat, at_ = k := ⟨at_.toNat, by omega⟩
  obtain ⟨k, rfl⟩ := e7
  have sz : ∀ {n : Nat}, n ≤ 1000 → n ≤ sizeLine := fun h => Nat.le_of_lt (small1000 h)
  have lt1 : (ts.take k).length ≤ ts.length := by rw [List.length_take]; omega
  have ld1 : ∀ j, (ts.drop j).length ≤ ts.length := fun j => by rw [List.length_drop]; omega
  refine ⟨.ref a, rfl, .int k, rfl, k, rfl, a, ts, rfl, T2, fun a1 H3 s3 t3 => ?_⟩
  rw [cut_take] at t3
  have P2 := p2.some
  have pp : ∀ {Hj : Hp}, Same H2 Hj → ∃ u, Hj p = some u := fun s' => by
    obtain ⟨u, hu⟩ := P2
    exact ⟨u, s' _ _ hu⟩
  have N0 : NT p a ts H H2 a ts := .inl ⟨rfl, rfl⟩
  have N3 := N0.sl oH2 P2 s3 t3
  have o3 : Off p H H3 := oH2.trans (Off.of s3)
  refine ⟨odd, rfl, (by show 1 ≤ sizeLine; decide), fun t4 n4' => ?_⟩
  have s4 := same_new (o := .tup [odd]) n4'
  have o4 := o3.trans (Off.of s4)
  refine ⟨a1, t4, _, [odd], rfl, rfl, (N3.mono (Off.of s4)).sq (hal _ o4), .inl (.inl upd_same), sz (by simp only [List.length_singleton]; omega), fun a5 H5 s5 t5 => ?_⟩
  have N5 := (N3.mono (Off.of s4)).cat (NT.new o3 (pp s3) n4' upd_same) o4 (pp (s3.trans s4)) s5 t5
  have o5 := o4.trans (Off.of s5)
  refine ⟨.ref a, rfl, .int k, rfl, k, 1, rfl, rfl, (k : Int) + 1, rfl, a, ts, rfl, hal H5 o5, fun a6 H6 s6 t6 => ?_⟩
  rw [show ((k : Int) + 1) = ((k + 1 : Nat) : Int) by omega, cut_drop] at t6
  have N6 := NT.sl (.inl ⟨rfl, rfl⟩) o5 (pp (s3.trans (s4.trans s5))) s6 t6
  have o6 := o5.trans (Off.of s6)
  refine ⟨a5, a6, _, _, rfl, rfl, (N5.mono (Off.of s6)).sq (hal _ o6), N6.sq (hal _ o6), sz (by have := ld1 (k + 1); simp only [List.length_append, List.length_singleton]; omega), fun a7 H7 s7 t7 => ?_⟩
  have N7 := (N5.mono (Off.of s6)).cat N6 o6 (pp (s3.trans (s4.trans (s5.trans s6)))) s7 t7
  have c7 : Same H2 H7 := s3.trans (s4.trans (s5.trans (s6.trans s7)))
  have o7 : Off p H H7 := oH2.trans (Off.of c7)
  refine ⟨.ref a, rfl, .int k, rfl, k, rfl, a, ts, rfl, hal H7 o7, fun a8 H8 s8 t8 => ?_⟩
  rw [cut_take] at t8
  have N8 := NT.sl (.inl ⟨rfl, rfl⟩) o7 (pp c7) s8 t8
  have o8 := o7.trans (Off.of s8)
  refine ⟨odd, rfl, (by show 1 ≤ sizeLine; decide), fun t9 n9 => ?_⟩
  have s9 := same_new (o := .tup [odd]) n9
  have o9 := o8.trans (Off.of s9)
  refine ⟨a8, t9, _, [odd], rfl, rfl, (N8.mono (Off.of s9)).sq (hal _ o9), .inl (.inl upd_same), sz (by simp only [List.length_singleton]; omega), fun a10 H10 s10 t10 => ?_⟩
  have N10 := (N8.mono (Off.of s9)).cat (NT.new o8 (pp (c7.trans s8)) n9 upd_same) o9 (pp (c7.trans (s8.trans s9))) s10 t10
  have o10 := o9.trans (Off.of s10)
  refine ⟨.ref a, rfl, .int k, rfl, k, rfl, a, ts, rfl, hal H10 o10, fun a11 H11 s11 t11 => ?_⟩
  rw [cut_drop] at t11
  have N11 := NT.sl (.inl ⟨rfl, rfl⟩) o10 (pp (c7.trans (s8.trans (s9.trans s10)))) s11 t11
  have o11 := o10.trans (Off.of s11)
  refine ⟨a10, a11, _, _, rfl, rfl, (N10.mono (Off.of s11)).sq (hal _ o11), N11.sq (hal _ o11), sz (by have := ld1 k; simp only [List.length_append, List.length_singleton]; omega), fun a12 H12 s12 t12 => ?_⟩
  have N12 := (N10.mono (Off.of s11)).cat N11 o11 (pp (c7.trans (s8.trans (s9.trans (s10.trans s11))))) s12 t12
  have c12 : Same H7 H12 := s8.trans (s9.trans (s10.trans (s11.trans s12)))
  have o12 : Off p H H12 := o7.trans (Off.of c12)
  refine ⟨.ref a, rfl, a, ts, rfl, .inr (hal H12 o12), fun a13 n13 => ?_⟩
  have s13 := same_new (o := .lst ts) n13
  refine ⟨.ref a, rfl, a, 7, ts, rfl, rfl, hal _ (o12.trans (Off.of s13)), (fun z => by rw [z] at tl; simp at tl; omega), by decide, by decide, by omega, fun a14 n14 => ?_⟩
  have s14 := same_new (o := .tup (List.replicate (7 : Int).toNat ts).flatten) n14
  refine ⟨.ref a, rfl, 0, rfl, a, ts, rfl, hal _ (o12.trans (Off.of (s13.trans s14))), fun a15 H15 s15 t15 => ⟨(by show 5 ≤ sizeLine; decide), fun so nso => ?_⟩⟩
  rw [show cutV ts none (some 0) = ts.take 0 from cut_take ts 0] at t15
  have N15 := NT.sl (.inl ⟨rfl, rfl⟩) (o12.trans (Off.of (s13.trans s14))) (pp (c7.trans (c12.trans (s13.trans s14)))) s15 t15
  have sso := same_new (o := .lst [V.ref a7, V.ref a12, V.ref a13, V.ref a14, V.ref a15]) nso
  have c16 : Same H12 (upd H15 so (.lst [V.ref a7, V.ref a12, V.ref a13, V.ref a14, V.ref a15])) := s13.trans (s14.trans (s15.trans sso))
  have o16 := o12.trans (Off.of c16)
  have hso : ∀ {H' : Hp}, Same (upd H15 so (.lst [V.ref a7, V.ref a12, V.ref a13, V.ref a14, V.ref a15])) H' → H' so = some (.lst [V.ref a7, V.ref a12, V.ref a13, V.ref a14, V.ref a15]) := fun s' => s' _ _ upd_same
  have c2s : Same H2 (upd H15 so (.lst [V.ref a7, V.ref a12, V.ref a13, V.ref a14, V.ref a15])) := c7.trans (c12.trans c16)
  have bt : ∀ d ∈ ds, Bd 0 61 d ∧ Pl d := fun d hd => bd_okc (by omega) (hok d hd)
  have btup : Bd 1 400 (.tuple ds) := (bd_tup fun d hd => (bt d hd).1).le (by decide) (by have := Nat.mul_le_mul_right 63 d6; omega)
  have ptup : Pl (.tuple ds) := pl_tup fun d hd => (bt d hd).2
  refine ⟨.ref so, rfl, odd, rfl, .ref a, rfl, sz (by decide), fun b1 nb1 => ?_⟩
  have sb1 := same_new (o := .tup [V.non]) nb1
  refine ⟨b1, 6, [.non], rfl, rfl, .inl (.inl upd_same), (fun z => nomatch z), by decide, by decide, by decide, fun b2 nb2 => ?_⟩
  have sb2 := same_new (o := .tup (List.replicate (6 : Int).toNat [V.non]).flatten) nb2
  have oB2 := o16.trans ((Off.of sb1).trans (Off.of sb2))
  refine ⟨a, b2, ts, _, rfl, rfl, hal _ oB2, .inl (.inl upd_same), sz (by show ts.length + 6 ≤ 1000; omega), fun b3 HB3 sb3 tb3 => ?_⟩
  have NB3 := NT.cat (.inl ⟨rfl, rfl⟩) (NT.new (o16.trans (Off.of sb1)) (pp (c2s.trans sb1)) nb2 upd_same) oB2 (pp (c2s.trans (sb1.trans sb2))) sb3 tb3
  refine ⟨.ref a, rfl, (by show 1 ≤ sizeLine; decide), fun b4 nb4 => ?_⟩
  have sb4 := same_new (o := .tup [V.ref a]) nb4
  have oB4 := (oB2.trans (Off.of sb3)).trans (Off.of sb4)
  have D4 : Da K (upd HB3 b4 (.tup [V.ref a])) (.ref a) (.tuple ds) := .tup (hal _ oB4) (hds.mono (oB4.same fp sF))
  refine ⟨.ref a, rfl, .ref a, .tuple ds, rfl, D4, btup.sho (by decide) (by decide) ptup.dl, ?_⟩
  refine ⟨.ref a, rfl, .int k, rfl, k, rfl, a, ts, rfl, hal _ oB4, fun b5 HB5 sb5 tb5 => ⟨(by show 5 ≤ sizeLine; decide), fun b6 nb6 => ?_⟩⟩
  rw [cut_drop] at tb5
  have NB5 := NT.sl (.inl ⟨rfl, rfl⟩) oB4 (pp (c2s.trans (sb1.trans (sb2.trans (sb3.trans sb4))))) sb5 tb5
  have sb6 := same_new (o := .lst [odd, V.ref b3, V.ref b4, V.str (PyData.tuple ds).shown, V.ref b5]) nb6
  have cs6 := sb1.trans (sb2.trans (sb3.trans (sb4.trans (sb5.trans sb6))))
  refine ⟨so, b6, _, _, rfl, rfl, hso cs6, upd_same, (by show 10 ≤ sizeLine; decide), fun b7 nb7 => ?_⟩
  have sb7 := same_new (o := .lst ([V.ref a7, V.ref a12, V.ref a13, V.ref a14, V.ref a15] ++ [odd, V.ref b3, V.ref b4, V.str (PyData.tuple ds).shown, V.ref b5])) nb7
  have cAll : Same H2 _ := c2s.trans (cs6.trans sb7)
  have pF := p2.mono (c2s.trans cs6) (Nat.le_refl _)
  have m7 := pF.ne nb7
  refine ⟨.ref p, rfl, p, c, _, 10, rfl, by decide, by decide, pF.mono sb7 (Nat.le_refl _), by omega, fun r10 H' r100 r101 oF pZ => ?_⟩
  have h7 := oF b7 _ m7.1 upd_same
  obtain ⟨v, hv, hvm⟩ := at_in (xs := [V.ref a7, V.ref a12, V.ref a13, V.ref a14, V.ref a15] ++ [odd, V.ref b3, V.ref b4, V.str (PyData.tuple ds).shown, V.ref b5]) r100 r101
  refine ⟨b7, _, r10, v, rfl, rfl, .inl (.inl h7), hv, ?_⟩
  have oAll : Off p H H' := oH2.trans ((Off.of cAll).trans oF)
  have o2H : Off p H2 H' := (Off.of cAll).trans oF
  -- what the ten are
  have D0 : DaAll K (fr F H H') ts ds := hds.mono fr_ext
  have hodd' := hod H' o2H
  have item : ∀ (Hj : Hp) (aj : Addr) (xs : List V) (es : List PyData), Off p Hj H' → NT p a ts H Hj aj xs → DaAll K (fr F H H') xs es → Da K (fr F H H') (.ref aj) (.tuple es) := fun Hj aj xs es c2 t h => (t.mono c2).da sF ha h
  have iteT : ∀ es : List PyData, (∀ x ∈ es, okc 41 x ∨ x = od) → es.length ≤ 50 → Ite (.tuple es) := fun es h hl => by
    refine ⟨(bd_tup (k := 1) (m := 100) fun x hx => ?_).le (by decide) (by have := Nat.mul_le_mul_right 102 hl; omega), dl_tup (od := od) (fun x hx => (h x hx).elim (fun z => .inl (bd_okc (by decide) z).2) .inr) dod⟩
    rcases h x hx with z | z
    · exact (bd_okc (z := 41) (by decide) z).1.le (by decide) (by decide)
    · rw [z]
      exact bod
  have okA : ∀ d ∈ ds, okc 41 d := fun d hd => by
    rcases hok d hd with z | ⟨j, z, j0, j1⟩
    · exact .inl z
    · exact .inr ⟨j, z, j0, by omega⟩
  have fin : ∀ u d, Da K (fr F H H') u d → Ite d → v = u → Q v H' := fun u d h1 h2 e => by
    rw [e]
    exact q u d H' oAll (pZ.le (by omega)) h1 h2
  have cH12 : Same H2 H12 := c7.trans c12
  have out : ∀ {Hj Hk : Hp}, Same Hj Hk → Off p Hk H' → Off p Hj H' := fun s' o' => (Off.of s').trans o'
  have oEnd : Off p (upd H15 so (.lst [V.ref a7, V.ref a12, V.ref a13, V.ref a14, V.ref a15])) H' := (Off.of (cs6.trans sb7)).trans oF
  have oB5 : Off p HB5 H' := (Off.of (sb6.trans sb7)).trans oF
  have oB3 : Off p HB3 H' := (Off.of (sb4.trans sb5)).trans oB5
  have memA : ∀ x ∈ ds.take k ++ [od] ++ ds.drop (k + 1), okc 41 x ∨ x = od := fun x hx => by
    rcases List.mem_append.mp hx with hx | hx
    · rcases List.mem_append.mp hx with hx | hx
      · exact .inl (okA x (List.mem_of_mem_take hx))
      · exact .inr (List.mem_singleton.mp hx)
    · exact .inl (okA x (List.mem_of_mem_drop hx))
  have memB : ∀ x ∈ ds.take k ++ [od] ++ ds.drop k, okc 41 x ∨ x = od := fun x hx => by
    rcases List.mem_append.mp hx with hx | hx
    · rcases List.mem_append.mp hx with hx | hx
      · exact .inl (okA x (List.mem_of_mem_take hx))
      · exact .inr (List.mem_singleton.mp hx)
    · exact .inl (okA x (List.mem_of_mem_drop hx))
  have lenA : (ds.take k ++ [od] ++ ds.drop (k + 1)).length ≤ 50 := by simp only [List.length_append, List.length_take, List.length_drop, List.length_singleton]; omega
  have lenB : (ds.take k ++ [od] ++ ds.drop k).length ≤ 50 := by simp only [List.length_append, List.length_take, List.length_drop, List.length_singleton]; omega
  simp only [List.cons_append, List.nil_append, List.mem_cons, List.not_mem_nil, or_false] at hvm
  rcases hvm with e | e | e | e | e | e | e | e | e | e
  · exact fin _ _ (item H7 a7 _ _ (out (c12.trans c16) oEnd) N7 (((D0.take k).append (.one hodd')).append (D0.drop (k + 1)))) (iteT _ memA lenA) e
  · exact fin _ _ (item H12 a12 _ _ (out c16 oEnd) N12 (((D0.take k).append (.one hodd')).append (D0.drop k))) (iteT _ memB lenB) e
  · -- the list of them
    have m13 : a13 ≠ p := (p2.mono cH12 (Nat.le_refl _)).ne n13 |>.1
    have h13 : H' a13 = some (.lst ts) := (out (s14.trans (s15.trans sso)) oEnd) a13 _ m13 upd_same
    refine fin _ _ (.lst (.inl (.inl (fr_at sF (o12.free n13 m13) h13))) D0) ⟨(bd_lst fun d hd => (bt d hd).1).le (by decide) (by have := Nat.mul_le_mul_right 63 d6; omega), fun z => ?_⟩ e
    have z2 : PyData.hasDictAll ds = true := by simpa only [PyData.hasDict] using z
    rw [hasDictAll_false fun d hd => (bt d hd).2.nd] at z2
    cases z2
  · refine fin _ _ (item _ a14 _ _ (out (s15.trans sso) oEnd) (NT.new (o12.trans (Off.of s13)) (pp (cH12.trans s13)) n14 upd_same) (DaAll.flat (n := (7 : Int).toNat) D0)) (iteT _ (fun x hx => ?_) ?_) e
    · obtain ⟨l, hl, hx⟩ := List.mem_flatten.mp hx
      rw [(List.mem_replicate.mp hl).2] at hx
      exact .inl (okA x hx)
    · show (ds ++ (ds ++ (ds ++ (ds ++ (ds ++ (ds ++ (ds ++ []))))))).length ≤ 50
      simp only [List.length_append, List.length_nil]
      omega
  · exact fin _ _ (item H15 a15 _ _ (out sso oEnd) N15 (D0.take 0)) (iteT _ (fun x hx => by rw [List.take_zero] at hx; cases hx) (by rw [List.take_zero]; decide)) e
  · exact fin _ _ hodd' ⟨bod.le (by decide) (by decide), dod⟩ e
  · refine fin _ _ (item HB3 b3 _ _ oB3 NB3 (D0.append (DaAll.flat (n := (6 : Int).toNat) (.one .non)))) (iteT _ (fun x hx => ?_) ?_) e
    · rcases List.mem_append.mp hx with hx | hx
      · exact .inl (okA x hx)
      · obtain ⟨l, hl, hx⟩ := List.mem_flatten.mp hx
        rw [(List.mem_replicate.mp hl).2] at hx
        exact .inl (.inl (List.mem_singleton.mp hx))
    · show (ds ++ [PyData.none, PyData.none, PyData.none, PyData.none, PyData.none, PyData.none]).length ≤ 50
      rw [List.length_append]
      show ds.length + 6 ≤ 50
      omega
  · have m4' : b4 ≠ p := ((p2.mono (c2s.trans (sb1.trans (sb2.trans sb3))) (Nat.le_refl _)).ne nb4).1
    have h4' : H' b4 = some (.tup [V.ref a]) := (out sb5 oB5) b4 _ m4' upd_same
    have hDa : Da K (fr F H H') (.ref a) (.tuple ds) := .tup (.inl (.inl (fr_old ha))) D0
    refine fin _ (.tuple [.tuple ds]) (.tup (.inl (.inl (fr_at sF ((oB2.trans (Off.of sb3)).free nb4 m4') h4'))) (.one hDa)) ((pl_tup fun d hd => ?_).ite ((bd_tup (k := 1) (m := 400) fun d hd => ?_)) (by decide) (by show 1 * (400 + 2) + 3 ≤ 30000; decide)) e
    · rw [List.mem_singleton] at hd
      rw [hd]
      exact ptup
    · rw [List.mem_singleton] at hd
      rw [hd]
      exact btup
  · refine fin _ (.str (PyData.tuple ds).shown) (.str _) ((pl_str _).ite (bd_str (m := 400) ?_ btup.sz) (by decide) (by decide)) e
    simp only [PyData.shown, shownAll_map]
    refine cd_tuple _ fun t ht => ?_
    obtain ⟨d, hd, rfl⟩ := List.mem_map.mp ht
    rcases hok d hd with z | ⟨j, z, _⟩ <;> rw [z]
    · exact cd_ofS _
    · exact cd_ofS _
  · exact fin _ _ (item HB5 b5 _ _ oB5 NB5 (D0.drop k)) (iteT _ (fun x hx => .inl (okA x (List.mem_of_mem_drop hx))) (by rw [List.length_drop]; omega)) e
end
end K10
namespace K10
open PySem PySem.Spec PyProof.Rows L2 VK
open C8 (Cal pe_c pe_gc)
section
variable {P : Program} {w : World} {K : PySem.W.Frag} {mg : Str → Option Value} {base : Heap}
abbrev s_law : Stmt := topS 14
theorem sc_law : FnScope ["_law_script", "_law_pen_here", "_law_turn", "_law_pile_here", "_law_size", "_law_spots_here", "_law_item", "_law_kept", "_law_k"] ["_law_script"] (defScope s_law) := ⟨rfl, rfl, rfl, by decide +kernel, rfl, by decide +kernel, by decide +kernel⟩
/- slots: 0 _law_script, 1 _law_pen_here, 2 _law_turn, 3 _law_pile_here, 4 _law_size, 5 _law_spots_here, 6 _law_item, 7 _law_kept, 8 _law_k -/
def sp_law (K : PySem.W.Frag) : Sp := fun vs H Q _ => ∃ (a : Addr) (ns : List Int), vs = [.ref a] ∧ SqL K H a (ns.map V.int) ∧ ∀ H', Q (.bl true) H'
theorem ok_law {f : Addr} {fd : FuncData} (z : ∀ x, x ∈ zs → mg x = none) (D : Fun K "law" "law" s_law f fd) (c_law_pen : Cal P w K mg base 1 "_law_pen" (sp_pen K) []) (c_law_pile : Cal P w K mg base 2 "_law_pile" (sp_pile K) []) (c_law_spots : Cal P w K mg base 2 "_law_spots" (sp_spots K) [])
    (c_law_bent : CalG P w K mg base 2 "_law_bent" (sp_bent K)) (c_law_due : Cal P w K mg base 1 "_law_due" (sp_due K) []) (c_is_registers : Cal P w K mg base 4 "is_registers" (sp_is_registers K) []) (k_is_registers : CalK P w K mg base 4 "is_registers" (sp_is_registers K) ["thing", "heap"] swap2) :
    FnG P w K mg base 5 f fd ["_law_script"] (sp_law K) := by
  refine okG D sc_law (fun vs H Q E ⟨a, ns, e, _⟩ => by rw [e]; rfl) (fun cdv A outer s H vs Q E hr hgd h => ?_)
  obtain ⟨sa, ns, rfl, hS, q⟩ := h
  refine ⟨_, (pss_cons (ps_set (i := 1) sc_law.nd rfl (Or.inr rfl) (pe_c c_law_pen hr (by decide) (by rfl) (pa_cons (pv 0) pa_nil)))
      (pss_cons (ps_for PassesOwn.never rfl (pi_range1 (by rfl) (z "range" (by decide)) (pa_cons pe_int pa_nil)) (pg_name (i := 2) sc_law.nd rfl (Or.inl rfl))
        (pss_cons (ps_set (i := 3) sc_law.nd rfl (Or.inl rfl) (pe_c c_law_pile hr (by decide) (by rfl) (pa_cons (pv 1) (pa_cons (pe_ix (r := rIxL K) ix_list (pe_lst (pa_cons pe_int (pa_cons pe_int pa_nil))) (pe_op op_mod (pv 2) pe_int) (fun _ _ => rfl)) (pa_cons (pe_lst (pa_cons pe_int (pa_cons pe_int (pa_cons pe_int (pa_cons pe_int pa_nil))))) pa_nil)))))
        (pss_cons (ps_set (i := 4) sc_law.nd rfl (Or.inr rfl) (pe_callB (r := rLenSq K) call_lenSq (by rfl) (z "len" (by decide)) PySem.boot_len (pa_cons (pe_ix (r := rIxT K) ix_tup (pv 3) pe_int (fun _ _ => rfl)) pa_nil)))
        (pss_cons (ps_set (i := 5) sc_law.nd rfl (Or.inr rfl) (pe_c c_law_spots hr (by decide) (by rfl) (pa_cons (pv 1) (pa_cons (pv 4) (pa_cons pe_int pa_nil)))))
        (pss_cons (ps_for PassesOwn.never rfl (pi_list (pe_op op_cat (pe_lst (pa_cons (pv 5) pa_nil)) (pe_lc (own := [("_law_k", 8)]) (g := gName 8) (tt := tYes) (by rfl) sc_law.nd (pi_range1 (by rfl) (z "range" (by decide)) (pa_cons pe_int pa_nil)) (blkOk_by (own := [("_law_k", 8)]) (N := ["_law_script", "_law_pen_here", "_law_turn", "_law_pile_here", "_law_size", "_law_spots_here", "_law_item", "_law_kept", "_law_k"]) (sc := defScope s_law) (by decide +kernel)) (fun _ _ _ _ _ => (pg_name (i := 8) sc_law.nd rfl (Or.inl rfl))) (fun _ _ _ _ _ => pts_nil) (fun _ _ _ _ _ => (pe_cG c_law_bent hr hgd (by decide) (by rfl) (pa_cons (pv 1) (pa_cons (pv 5) (pa_cons (pv 4) pa_nil)))))))) (pg_name (i := 6) sc_law.nd rfl (Or.inl rfl))
          (pss_cons (ps_set (i := 7) sc_law.nd rfl (Or.inl rfl) (pe_callB (r := rRepr K) (call_repr hgd hr.units) (by rfl) (z "repr" (by decide)) PyProof.Rows.boot_repr (pa_cons (pe_tup (pa_cons (pv 3) (pa_cons (pv 6) pa_nil))) pa_nil)))
          (pss_one (ps_if (PW.pt (pw_or (pt_cmpR op_ne (pe_callB (r := rRepr K) (call_repr hgd hr.units) (by rfl) (z "repr" (by decide)) PyProof.Rows.boot_repr (pa_cons (pe_c c_is_registers hr (by decide) (by rfl) (pa_cons (pv 3) (pa_cons (pv 6) pa_nil))) pa_nil)) (pe_callB (r := rRepr K) (call_repr hgd hr.units) (by rfl) (z "repr" (by decide)) PyProof.Rows.boot_repr (pa_cons (pe_c c_law_due hr (by decide) (by rfl) (pa_cons (pv 4) (pa_cons (pv 6) pa_nil))) pa_nil)) (nomark _)) (pw_or1 (pt_cmpR op_ne (pe_callB (r := rRepr K) (call_repr hgd hr.units) (by rfl) (z "repr" (by decide)) PyProof.Rows.boot_repr (pa_cons (pe_tup (pa_cons (pv 3) (pa_cons (pv 6) pa_nil))) pa_nil)) (pv 7) (nomark _))))) (pss_one (ps_ret pe_bl)) pss_nil))))
        (pss_one (ps_if (pt_cmpR op_notBl (pe_cKw k_is_registers hr (by decide) (by rfl) (pk_cons (pv 5) (pk_cons (pv 3) pk_nil))) pe_bl (nomark _)) (pss_one (ps_ret pe_bl)) pss_nil)))))))
      (pss_cons (ps_if (PW.pt (pw_or (pt_cmpR op_notBl (pe_c c_is_registers hr (by decide) (by rfl) (pa_cons (pe_tup (pa_cons pe_int (pa_cons (pe_tup pa_nil) pa_nil))) (pa_cons (pe_tup (pa_cons pe_int pa_nil)) pa_nil))) pe_bl (nomark _)) (pw_or1 (pt_cmpR op_notBl (pe_c c_is_registers hr (by decide) (by rfl) (pa_cons (pe_tup (pa_cons pe_int (pa_cons (pe_tup pa_nil) pa_nil))) (pa_cons (pe_tup (pa_cons pe_non pa_nil)) pa_nil))) pe_bl (nomark _))))) (pss_one (ps_ret pe_bl)) pss_nil)
      (pss_one (ps_ret (pe_and (pe_cmpR op_isBl (pe_c c_is_registers hr (by decide) (by rfl) (pa_cons (pe_tup (pa_cons pe_int (pa_cons (pe_tup pa_nil) pa_nil))) (pa_cons (pe_op (r := rRepT K) op_repT (pe_tup (pa_cons pe_non pa_nil)) pe_int) pa_nil))) pe_bl (nomark _)) (pe_one (pe_cmpR op_isBl (pe_c c_is_registers hr (by decide) (by rfl) (pa_cons (pe_tup (pa_cons pe_int (pa_cons (pe_tup pa_nil) pa_nil))) (pa_cons (pe_op (r := rRepT K) op_repT (pe_tup (pa_cons pe_non pa_nil)) pe_int) pa_nil))) pe_bl (nomark _))))))))), ?_⟩
  refine ⟨.ref sa, rfl, sa, ns, rfl, hS, fun p c H1 s1 fp fc pen1 => ?_⟩
  refine ⟨8, rfl, by decide, by decide, for_range (lo := 0) (n := 8) (fun i σ H' => ∃ x2 x3 x4 x5 x6 x7 x8, σ = [some (.ref sa), some (.ref p), x2, x3, x4, x5, x6, x7, x8] ∧ Pen H' p c (2000 * i)) ⟨_, _, _, _, _, _, _, rfl, pen1⟩ ?hs ?hd⟩
  case hs =>
    rintro i σ H0 hi ⟨x2, x3, x4, x5, x6, x7, x8, rfl, pen⟩
    refine ⟨.ref p, rfl, by show 2 ≤ sizeLine; decide, fun l1 nl1 => ?_⟩
    have sl1 := same_new (o := .lst [V.int 6, V.int 40]) nl1
    obtain ⟨mv, hmv, hmm⟩ := at_in (xs := [V.int 6, V.int 40]) (i := (0 + (i : Int)) % 2) (Int.emod_nonneg _ (by decide)) (Int.emod_lt_of_pos _ (by decide))
    have hmost : ∃ m : Int, mv = .int m ∧ 0 ≤ m ∧ m ≤ 40 := by
      simp only [List.mem_cons, List.not_mem_nil, or_false] at hmm
      rcases hmm with e | e <;> exact ⟨_, e, by decide, by decide⟩
    obtain ⟨most, rfl, m0, m1⟩ := hmost
    refine ⟨.int (0 + (i : Int)), rfl, _, _, rfl, rfl, (show (0 : Int) < 2 by decide), l1, _, _, _, rfl, rfl, .inl (.inl upd_same), hmv, by show 4 ≤ sizeLine; decide, fun wd nwd => ?_⟩
    have swd := same_new (o := .lst [V.int 1, V.int 2, V.int 3, V.int 4]) nwd
    have penA := (pen.mono sl1 (Nat.le_refl _)).mono swd (Nat.le_refl _)
    refine ⟨p, c, wd, _, most, [1, 2, 3, 4], rfl, penA, by omega, m0, m1, upd_same, ((pen.mono sl1 (Nat.le_refl _)).ne nwd).1, by decide, by decide, by decide, fun pa H2 wide rows o2 p2 pile _ zr => ?_⟩
    obtain ⟨po, refs, hpa, hpo, hrefs, wl, wh, hrows⟩ := pile
    have pile' : PileAt K (cut p H2) pa wide rows := ⟨po, refs, hpa, hpo, hrefs, wl, wh, hrows⟩
    have sT : ∀ {F H' : Hp} {a : Addr} {xs : List V}, Same F H' → F a = some (.tup xs) → SqT K H' a xs := fun s' h' => .inl (.inl (s' _ _ h'))
    refine ⟨.ref pa, rfl, pa, _, _, _, rfl, rfl, sT cut_same hpa, atI_nat (j := 1) rfl, po, refs, rfl, .inr (sT cut_same hpo), ?_⟩
    have rl := hrefs.length
    refine ⟨.ref p, rfl, .int refs.length, rfl, p, c, _, _, 6, rfl, p2, by omega, by omega, by omega, by decide, by decide, fun sp H3 ts ds o3 p3 hsp hds d0 d6 hok => ?_⟩
    -- the items
    have F3 : Same (cut p H2) (cut p H3) := o3.cut
    refine ⟨.ref sp, rfl, by show 1 ≤ sizeLine; decide, fun l2 nl2 => ⟨4, rfl, by decide, by decide, fun Dn nD => ?_⟩⟩
    have sl2 := same_new (o := .lst [V.ref sp]) nl2
    have sD := same_new (o := .lst []) nD
    have pen4 := (p3.mono sl2 (Nat.le_refl _)).mono sD (Nat.le_refl _)
    have nDp := ((p3.mono sl2 (Nat.le_refl _)).ne nD)
    have nl2p := p3.ne nl2
    have nl2D : l2 ≠ Dn := ne_of_none (o := .lst [V.ref sp]) upd_same nD
    have F3l : cut p H3 l2 = none := by
      rw [cut_ne nl2p.1]
      exact nl2
    have F3D : cut p H3 Dn = none := by
      rw [cut_ne nDp.1]
      exact sl2.free nD
    refine lc_range (lo := 0) (n := 4) (fun j H' => Pen H' p c (2000 * i + 1100 + 10 * j) ∧ H' l2 = some (.lst [V.ref sp]) ∧ ∃ F vals items, Same (cut p H3) F ∧ Same F H' ∧ F p = none ∧ F l2 = none ∧ F Dn = none ∧ H' Dn = some (.lst vals) ∧ DaAll K F vals items ∧ items.length = j ∧ ∀ d ∈ items, Ite d)
      ⟨pen4.le (by omega), sD _ _ upd_same, cut p H3, [], [], Same.refl _, (cut_same.trans sl2).trans sD, cut_at, F3l, F3D, upd_same, .nil, rfl, fun d hd => nomatch hd⟩ ?ls ?ld
    case ls =>
      rintro j H4 hj ⟨pen5, hl2, F, vals, items, sF3, sF, Fp, Fl2, FD, hDn, hda, hil, hite⟩
      refine ⟨rfl, .ref p, rfl, .ref sp, rfl, .int refs.length, rfl, p, c, sp, _, _, ts, ds, F, rfl, pen5, by omega, by omega, by omega, sF, Fp, sF3 _ _ hsp, hds.mono sF3, d0, by omega, hok, fun v d H5 o5 p5 hv hid => ?_⟩
      have hDn5 := o5 _ _ nDp.1 hDn
      have sF5 : Same (fr F H4 H5) H5 := fr_same sF Fp o5 pen5.some
      have FD5 : fr F H4 H5 Dn = none := fr_off FD hDn
      have Fl25 : fr F H4 H5 l2 = none := fr_off Fl2 hl2
      obtain ⟨up, hup⟩ := pen5.some
      refine ⟨vals, hDn5, small1000 (by have := hda.length; omega), (p5.off nDp.1 nDp.2).le (by omega), ?_, fr F H4 H5, vals ++ [v], items ++ [d], sF3.trans fr_ext, same_off sF5 FD5, fr_off Fp hup, Fl25, FD5, upd_same, (hda.mono fr_ext).append (.one hv), ?_, ?_⟩
      · rw [upd_ne nl2D]
        exact o5 _ _ nl2p.1 hl2
      · rw [List.length_append, hil]
        rfl
      · intro e he
        rcases List.mem_append.mp he with he | he
        · exact hite e he
        · rw [List.mem_singleton] at he
          rw [he]
          exact hid
    case ld =>
      rintro H4 ⟨pen5, hl2, F, vals, items, sF3, sF, Fp, Fl2, FD, hDn, hda, hil, hite⟩
      refine ⟨l2, Dn, _, _, rfl, rfl, hl2, hDn, small1000 (by have := hda.length; simp only [List.length_singleton]; omega) |> Nat.le_of_lt, fun L nL => ?_⟩
      have sL := same_new (o := .lst ([V.ref sp] ++ vals)) nL
      have fpa := sF3 _ _ (F3 _ _ hpa)
      have fpo := sF3 _ _ (F3 _ _ hpo)
      have pile5 := (pile'.mono F3).mono sF3
      have daAll : DaAll K F ([V.ref sp] ++ vals) (.tuple ds :: items) := .cons (.tup (.inl (.inl (sF3 _ _ hsp))) (hds.mono sF3)) hda
      have spIte : Ite (.tuple ds) := (pl_tup fun d hd => (bd_okc (by omega) (hok d hd)).2).ite ((bd_tup fun d hd => (bd_okc (by omega) (hok d hd)).1)) (by decide) (by have := Nat.mul_le_mul_right 63 (show ds.length ≤ 6 by omega); omega)
      have allIte : ∀ d ∈ (.tuple ds :: items : List PyData), Ite d := fun d hd => by
        rcases List.mem_cons.mp hd with e | hd
        · rw [e]
          exact spIte
        · exact hite d hd
      obtain ⟨bdP, plP⟩ := bd_pile ⟨by omega, by omega⟩ (by omega) hrows
      have reg : isRegs refs.length (.tuple ds) = true := by
        show (decide (1 ≤ ds.length) && decide (ds.length ≤ 6) && ds.all (mayH refs.length)) = true
        rw [decide_eq_true d0, decide_eq_true (show ds.length ≤ 6 by omega), Bool.true_and, Bool.true_and, List.all_eq_true]
        intro d hd
        rcases hok d hd with e | ⟨k, e, k0, k1⟩ <;> rw [e]
        · rfl
        · show (decide (0 ≤ k) && decide (k < refs.length)) = true
          rw [decide_eq_true k0, decide_eq_true k1]
          rfl
      refine ⟨L, rfl, ⟨_, .inl (.inl upd_same)⟩, for_list (K := K) (a := L) (xs := [V.ref sp] ++ vals) (fun j σ H' => ∃ x6 x7 x8, σ = [some (.ref sa), some (.ref p), some (.int (0 + (i : Int))), some (.ref pa), some (.int refs.length), some (.ref sp), x6, x7, x8] ∧ Same (upd H4 L (.lst ([V.ref sp] ++ vals))) H')
        ⟨_, _, _, rfl, Same.refl _⟩ (fun j σ H' _ ⟨_, _, _, _, s'⟩ => .inl (.inl (s' _ _ upd_same))) ?fs ?fd⟩
      case fs =>
        rintro j x σ H5 hx ⟨x6, x7, x8, rfl, s5⟩
        obtain ⟨d, hd, hxd⟩ := daAll.get hx
        have sF5 : Same F H5 := sF.trans (sL.trans s5)
        have hdi := allIte d (List.mem_of_getElem? hd)
        have two : ∀ {H' : Hp} {t : Addr}, Same F H' → H' t = some (.tup [V.ref pa, x]) → Da K H' (.ref t) (.tuple [.tuple [.int wide, .tuple rows], d]) := fun s' h' => .tup (.inl (.inl h')) (.cons (pile5.da.mono s') (.one (hxd.mono s')))
        have sho : Sho (.tuple [.tuple [.int wide, .tuple rows], d]) := by
          refine (bd_tup (k := 4) (m := 80000) fun e he => ?_).sho (by decide) (by show 2 * (80000 + 2) + 3 ≤ 16777216; decide) (dl_pair plP hdi.2)
          simp only [List.mem_cons, List.not_mem_nil, or_false] at he
          rcases he with e' | e' <;> rw [e']
          · exact bdP.le (by decide) (by decide)
          · exact hdi.1.le (by decide) (by decide)
        refine ⟨.ref pa, rfl, x, rfl, by show 2 ≤ sizeLine; decide, fun t nt => ?_⟩
        have st := same_new (o := .tup [V.ref pa, x]) nt
        refine ⟨.ref t, _, rfl, two (sF5.trans st) upd_same, sho, ?_⟩
        refine ⟨.ref pa, rfl, x, rfl, pa, .int wide, po, refs, x, d, rfl, sT (sF5.trans st) fpa, sT (sF5.trans st) fpo, hxd.mono (sF5.trans st), fun H6 s6 => ?_⟩
        refine ⟨.bl _, .bool _, rfl, .bl _, sho_bool _, .int refs.length, rfl, x, rfl, refs.length, x, d, rfl, hxd.mono ((sF5.trans st).trans s6), .bl _, .bool _, rfl, .bl _, sho_bool _, rfl, _, rfl, ?_⟩
        rw [decide_eq_true rfl]
        refine iteF ⟨.ref pa, rfl, x, rfl, by show 2 ≤ sizeLine; decide, fun t2 nt2 => ?_⟩
        have st2 := same_new (o := .tup [V.ref pa, x]) nt2
        refine ⟨.ref t2, _, rfl, two (((sF5.trans st).trans s6).trans st2) upd_same, sho, _, rfl, rfl, _, rfl, ?_⟩
        rw [decide_eq_true rfl]
        exact iteF ⟨_, _, _, rfl, s5.trans (st.trans (s6.trans st2))⟩
      case fd =>
        rintro σ H5 ⟨x6, x7, x8, rfl, s5⟩
        have sF5 : Same F H5 := sF.trans (sL.trans s5)
        refine ⟨.ref sp, rfl, .ref pa, rfl, rfl, pa, .int wide, po, refs, .ref sp, .tuple ds, rfl, sT sF5 fpa, sT sF5 fpo, (Da.tup (.inl (.inl (sF3 _ _ hsp))) (hds.mono sF3)).mono sF5, fun H6 s6 => ⟨_, _, rfl, rfl, _, rfl, ?_⟩⟩
        rw [reg]
        exact iteF ⟨_, _, _, _, _, _, _, rfl, (pen5.mono (sL.trans (s5.trans s6)) (by omega))⟩
  case hd =>
    rintro σ H0 ⟨x2, x3, x4, x5, x6, x7, x8, rfl, pen⟩
    refine ⟨Nat.zero_le _, fun t1 n1 => ⟨by show 2 ≤ sizeLine; decide, fun t2 n2 => ⟨by show 1 ≤ sizeLine; decide, fun t3 n3 => ?_⟩⟩⟩
    have s2 := same_new (o := .tup [V.int 1, V.ref t1]) n2
    have s3 := same_new (o := .tup [V.int 0]) n3
    refine ⟨t2, .int 1, t1, [], .ref t3, .tuple [.int 0], rfl, .inl (.inl (s3 _ _ upd_same)), .inl (.inl (s3 _ _ (s2 _ _ upd_same))), .tup (.inl (.inl upd_same)) (.one (.int 0)), fun H4 s4 => ⟨_, _, rfl, rfl, _, rfl, iteF ?_⟩⟩
    refine ⟨Nat.zero_le _, fun t5 n5 => ⟨by show 2 ≤ sizeLine; decide, fun t6 n6 => ⟨by show 1 ≤ sizeLine; decide, fun t7 n7 => ?_⟩⟩⟩
    have s6 := same_new (o := .tup [V.int 1, V.ref t5]) n6
    have s7 := same_new (o := .tup [V.non]) n7
    refine ⟨t6, .int 1, t5, [], .ref t7, .tuple [.none], rfl, .inl (.inl (s7 _ _ upd_same)), .inl (.inl (s7 _ _ (s6 _ _ upd_same))), .tup (.inl (.inl upd_same)) (.one .non), fun H8 s8 => ⟨_, _, rfl, rfl, _, rfl, iteF ?_⟩⟩
    refine ⟨Nat.zero_le _, fun t9 n9 => ⟨by show 2 ≤ sizeLine; decide, fun ta na => ⟨by show 1 ≤ sizeLine; decide, fun tb nb => ?_⟩⟩⟩
    have sa' := same_new (o := .tup [V.int 1, V.ref t9]) na
    have sb := same_new (o := .tup [V.non]) nb
    refine ⟨tb, 6, [V.non], rfl, rfl, .inl (.inl upd_same), (fun z => nomatch z), by decide, by decide, by decide, fun tc nc => ?_⟩
    have sc := same_new (o := .tup (List.replicate (6 : Int).toNat [V.non]).flatten) nc
    refine ⟨ta, .int 1, t9, [], .ref tc, .tuple (List.replicate (6 : Int).toNat [PyData.none]).flatten, rfl, .inl (.inl (sc _ _ (sb _ _ upd_same))), .inl (.inl (sc _ _ (sb _ _ (sa' _ _ upd_same)))), .tup (.inl (.inl upd_same)) (DaAll.flat (.one .non)), fun Hd sd => ⟨_, _, rfl, rfl, _, rfl, iteT ?_⟩⟩
    refine ⟨Nat.zero_le _, fun u9 m9 => ⟨by show 2 ≤ sizeLine; decide, fun ua ma => ⟨by show 1 ≤ sizeLine; decide, fun ub mb => ?_⟩⟩⟩
    have ra := same_new (o := .tup [V.int 1, V.ref u9]) ma
    have rb := same_new (o := .tup [V.non]) mb
    refine ⟨ub, 7, [V.non], rfl, rfl, .inl (.inl upd_same), (fun z => nomatch z), by decide, by decide, by decide, fun uc mc => ?_⟩
    have rc := same_new (o := .tup (List.replicate (7 : Int).toNat [V.non]).flatten) mc
    refine ⟨ua, .int 1, u9, [], .ref uc, .tuple (List.replicate (7 : Int).toNat [PyData.none]).flatten, rfl, .inl (.inl (rc _ _ (rb _ _ upd_same))), .inl (.inl (rc _ _ (rb _ _ (ra _ _ upd_same)))), .tup (.inl (.inl upd_same)) (DaAll.flat (.one .non)), fun Hd2 sd2 => ⟨_, _, rfl, rfl, ?_⟩⟩
    exact q Hd2
theorem all_ok {f : Addr} {fd : FuncData} (z : ∀ x, x ∈ zs → mg x = none) (g6 : ∃ u, mg "REGISTERS_AT_MOST" = some u ∧ RelV (.int 6) u) (d1 : Df K mg "is_number" s_is_number) (d2 : Df K mg "is_index" s_is_index) (d5 : Df K mg "may_hold" s_may_hold) (d6 : Df K mg "is_registers" s_is_registers)
    (d8 : Df K mg "_law_pen" s_law_pen) (d9 : Df K mg "_law_pick" s_law_pick) (d10 : Df K mg "_law_pile" s_law_pile) (d11 : Df K mg "_law_spots" s_law_spots) (d12 : Df K mg "_law_due" s_law_due) (d13 : Df K mg "_law_bent" s_law_bent) (D : Fun K "law" "law" s_law f fd) :
    FnG P w K mg base 5 f fd ["_law_script"] (sp_law K) := by
  have c9 : Cal P w K mg base 1 "_law_pick" sp_draw [] := ok_law_pick z d9
  have c6 : Fok P w K mg base 4 "is_registers" s_is_registers ["heap", "thing"] (sp_is_registers K) := ok_is_registers z d6 (ok_may_hold d5 (ok_is_index d2 (ok_is_number z d1))) g6
  exact ok_law z D (ok_law_pen z d8) (ok_law_pile z d10 c9) (ok_law_spots z d11 c9) (ok_law_bent z d13 c9) (ok_law_due z d12) (cal_is_registers c6) (calK_is_registers c6)
end
end K10
open PySem PySem.W PyProof.Rows
set_option maxHeartbeats 0 in
theorem PySem.Challenge.cw_shadeguards_k10_what_registers_are_holds : PySem.Challenge.rw_shadeguards_k10_what_registers_are.Holds := by
  w_on; o_law; k_head; (case hw => w_witness2)
  k_fill
  refine VK.walk_ofG (l := PySem.Challenge.rw_shadeguards_k10_what_registers_are) (n := 63) (k := 5) (x := "_law_script") (sp := K10.sp_law) rfl (by decide) rfl ⟨rfl, by decide, by decide⟩ (fun w h Y => PySem.W.kIn_of Y) ?F (fun K H a ns hl hS => ⟨a, ns, rfl, hS, fun _ => rfl⟩)
  case F =>
    intro w mg fa h KX G hmg
    have hz : ∀ x, x ∈ K10.zs → mg x = none := by
      intro x hx
      simp only [K10.zs, List.mem_cons, List.not_mem_nil, or_false] at hx
      rcases hx with e | e | e | e | e | e | e | e | e | e | e <;> rw [e] <;> exact PySem.W.mg_none_of KX G (by k_is)
    have g6 : ∃ u, mg "REGISTERS_AT_MOST" = some u ∧ L2.RelV (.int 6) u := by
      refine' ⟨_, PySem.W.mg_of KX G ?g, ?r⟩
      (case g => k_is)
      (case r => exact ⟨_, rfl⟩)
    have d1 := VK.df_mk (x := "is_number") (st := K10.s_is_number) KX G (by k_is) (by k_is) (by k_is) (by k_is)
    have d2 := VK.df_mk (x := "is_index") (st := K10.s_is_index) KX G (by k_is) (by k_is) (by k_is) (by k_is)
    have d5 := VK.df_mk (x := "may_hold") (st := K10.s_may_hold) KX G (by k_is) (by k_is) (by k_is) (by k_is)
    have d6 := VK.df_mk (x := "is_registers") (st := K10.s_is_registers) KX G (by k_is) (by k_is) (by k_is) (by k_is)
    have d8 := VK.df_mk (x := "_law_pen") (st := K10.s_law_pen) KX G (by k_is) (by k_is) (by k_is) (by k_is)
    have d9 := VK.df_mk (x := "_law_pick") (st := K10.s_law_pick) KX G (by k_is) (by k_is) (by k_is) (by k_is)
    have d10 := VK.df_mk (x := "_law_pile") (st := K10.s_law_pile) KX G (by k_is) (by k_is) (by k_is) (by k_is)
    have d11 := VK.df_mk (x := "_law_spots") (st := K10.s_law_spots) KX G (by k_is) (by k_is) (by k_is) (by k_is)
    have d12 := VK.df_mk (x := "_law_due") (st := K10.s_law_due) KX G (by k_is) (by k_is) (by k_is) (by k_is)
    have d13 := VK.df_mk (x := "_law_bent") (st := K10.s_law_bent) KX G (by k_is) (by k_is) (by k_is) (by k_is)
    have d14 := VK.df_mk (x := "law") (st := K10.s_law) KX G (by k_is) (by k_is) (by k_is) (by k_is)
    exact VK.law_end d14 hmg (fun _ _ _ _ _ _ _ => rfl) (fun f fd hF base _ _ => K10.all_ok hz g6 d1 d2 d5 d6 d8 d9 d10 d11 d12 d13 hF)
