import PyProof.Rows.All
import Wide.All
import OpenK.AllK
import Wide.FinOn
import HandS.ForMost
import HandS.IsInst
import HandS.TupAny
import HandS.TupMul
import HandS.Style
import HandS.Defaults
import HandS.RaiseMore
import HandS.Codes
import HandS.More
import HandS.Strs
import HandS.Zip
import PyProof.Rows.All
import Wide.All
import OpenK.AllK
import Wide.FinOn
import PySem.Challenge.RW_shadeguards_k15_forms_of_steps
set_option Elab.async false
set_option linter.all false
set_option maxRecDepth 100000
set_option maxHeartbeats 4000000
/-! What these proofs share: data at any depth, its repr, calls made while no repr is under way, the law's end. -/
namespace VK
open PySem PySem.Spec PyProof.Rows L2

/-! ### data -/
mutual
/-- v, in H, is the data d: tuples, lists, dicts with keys that are ints or texts -/
inductive Da (K : PySem.W.Frag) (H : Hp) : V → PyData → Prop
  | non : Da K H .non .none
  | bl (b : Bool) : Da K H (.bl b) (.bool b)
  | int (i : Int) : Da K H (.int i) (.int i)
  | str (x : Str) : Da K H (.str x) (.str x)
  | lst {a : Addr} {xs : List V} {ds : List PyData} : SqL K H a xs → DaAll K H xs ds → Da K H (.ref a) (.list ds)
  | tup {a : Addr} {xs : List V} {ds : List PyData} : SqT K H a xs → DaAll K H xs ds → Da K H (.ref a) (.tuple ds)
  | dic {a : Addr} {kvs : List (Key × V)} {es : List (PyData × PyData)} : H a = some (.dK kvs) → DaKv K H kvs es → Da K H (.ref a) (.dict es)
inductive DaAll (K : PySem.W.Frag) (H : Hp) : List V → List PyData → Prop
  | nil : DaAll K H [] []
  | cons {v : V} {vs : List V} {d : PyData} {ds : List PyData} : Da K H v d → DaAll K H vs ds → DaAll K H (v :: vs) (d :: ds)
inductive DaKv (K : PySem.W.Frag) (H : Hp) : List (Key × V) → List (PyData × PyData) → Prop
  | nil : DaKv K H [] []
  | cons {k : Key} {v : V} {kvs : List (Key × V)} {a b : PyData} {es : List (PyData × PyData)} : Da K H (kV k) a → Da K H v b → DaKv K H kvs es → DaKv K H ((k, v) :: kvs) ((a, b) :: es)
end

/-! no list stands anywhere in it -/
mutual
def noL : PyData → Bool
  | .list _ => false
  | .tuple xs => noLs xs
  | .dict kvs => noLk kvs
  | _ => true
def noLs : List PyData → Bool
  | [] => true
  | x :: xs => noL x && noLs xs
def noLk : List (PyData × PyData) → Bool
  | [] => true
  | (k, v) :: r => noL k && noL v && noLk r
end
section
variable {X : Cx} {pins : List (Addr × Obj)} {σ : L2.St} {H : Hp} {s : Shared}
mutual
theorem Da.reads (I : Inv X pins σ H s) : ∀ (d : PyData) (v : V) (u : Value), Da X.K H v d → RelV v u → ∃ as, Reads s.heap u d as ∧ (noL d = true → sysModules ∉ as)
  | .none, _, _, h, r => by
    cases h
    cases r
    exact ⟨_, Reads.none, fun _ z => (nomatch z)⟩
  | .bool b, _, _, h, r => by
    cases h
    cases r
    exact ⟨_, Reads.bool b, fun _ z => (nomatch z)⟩
  | .int i, _, _, h, r => by
    cases h
    obtain ⟨t, rfl⟩ := r
    exact ⟨_, Reads.int i t, fun _ z => (nomatch z)⟩
  | .str x, _, _, h, r => by
    cases h
    obtain ⟨t, rfl⟩ := r
    exact ⟨_, Reads.str x t, fun _ z => (nomatch z)⟩
  | .list ds, _, _, h, r => by
    cases h with
    | lst hs ha =>
      cases r
      obtain ⟨its, rv, ⟨o, n, ho, hc, _, hd⟩, _⟩ := I.list hs
      obtain ⟨as, hr, _⟩ := Da.readsAll I ds _ its ha rv
      exact ⟨_, Reads.list ho hc hd hr, fun z => Bool.noConfusion (show false = true from z)⟩
  | .tuple ds, _, _, h, r => by
    cases h with
    | tup hs ha =>
      cases r
      obtain ⟨its, rv, ⟨o, ho, hc, n, hd⟩, _⟩ := I.tuple hs
      obtain ⟨as, hr, hn⟩ := Da.readsAll I ds _ its ha rv
      exact ⟨_, Reads.tuple ho hc hd hr, hn⟩
  | .dict es, _, _, h, r => by
    cases h with
    | dic hs hk =>
      cases r
      obtain ⟨_, hsys, vs, rv, o, en, ep, ho, hc, hd, _, hp, _⟩ := I.hok _ _ hs
      obtain ⟨as, bs, r1, r2, n12⟩ := Da.readsKv I es _ _ _ hk rv hp
      refine ⟨_, Reads.dict ho hc.1 hd r1 r2, fun z m => ?_⟩
      rcases List.mem_append.mp m with m | m
      · rcases List.mem_cons.mp m with m | m
        · rw [← m] at hsys
          exact Bool.noConfusion hsys
        · exact (n12 z).1 m
      · exact (n12 z).2 m
theorem Da.readsAll (I : Inv X pins σ H s) : ∀ (ds : List PyData) (vs : List V) (us : List Value), DaAll X.K H vs ds → Vals vs us → ∃ as, ReadsAll s.heap us ds as ∧ (noLs ds = true → sysModules ∉ as)
  | [], _, _, h, r => by
    cases h
    cases r
    exact ⟨_, ReadsAll.nil, fun _ z => (nomatch z)⟩
  | d :: ds, _, _, h, r => by
    cases h with
    | cons h1 h2 =>
      cases r with
      | cons r1 r2 =>
        obtain ⟨as, q1, n1⟩ := Da.reads I d _ _ h1 r1
        obtain ⟨bs, q2, n2⟩ := Da.readsAll I ds _ _ h2 r2
        refine ⟨_, ReadsAll.cons q1 q2, fun z m => ?_⟩
        have z' : (noL d && noLs ds) = true := z
        rw [Bool.and_eq_true] at z'
        rcases List.mem_append.mp m with m | m
        · exact n1 z'.1 m
        · exact n2 z'.2 m
theorem Da.readsKv (I : Inv X pins σ H s) : ∀ (es : List (PyData × PyData)) (kvs : List (Key × V)) (vs : List (Key × Value)) (en : List DictEntry), DaKv X.K H kvs es → KV kvs vs → Pairs (mixKind X.prog X.w) en vs →
    ∃ as bs, ReadsAll s.heap (en.map (·.key)) (es.map (·.1)) as ∧ ReadsAll s.heap (en.map (·.val)) (es.map (·.2)) bs ∧ (noLk es = true → sysModules ∉ as ∧ sysModules ∉ bs)
  | [], _, _, _, h, r, p => by
    cases h
    cases r
    cases p
    exact ⟨_, _, ReadsAll.nil, ReadsAll.nil, fun _ => ⟨fun z => (nomatch z), fun z => (nomatch z)⟩⟩
  | (a, b) :: es, _, _, _, h, r, p => by
    cases h with
    | @cons k v kvs _ _ _ h1 h2 h3 =>
      cases r with
      | @cons _ kv _ vs re rt =>
        cases p with
        | @cons e _ en _ p1 p2 p3 =>
          obtain ⟨x1, x2⟩ := kv
          obtain ⟨e1, rv⟩ := re
          have e1' : k = x1 := e1
          subst e1'
          have rk : RelV (kV k) e.key := by
            have h1' : keyIs k e.key = true := p1
            rcases keyIs_shape h1' with ⟨i, t, q1, q2⟩ | ⟨x, t, q1, q2⟩
            · rw [q1, q2]
              exact ⟨t, rfl⟩
            · rw [q1, q2]
              exact ⟨t, rfl⟩
          have rv2 : RelV v e.val := by
            rw [p2]
            exact rv
          obtain ⟨as1, u1, n1⟩ := Da.reads I a _ _ h1 rk
          obtain ⟨as2, u2, n2⟩ := Da.reads I b _ _ h2 rv2
          obtain ⟨bs1, bs2, u3, u4, n3⟩ := Da.readsKv I es _ _ _ h3 rt p3
          refine ⟨_, _, ReadsAll.cons u1 u3, ReadsAll.cons u2 u4, fun z => ?_⟩
          have z' : (noL a && noL b && noLk es) = true := z
          rw [Bool.and_eq_true, Bool.and_eq_true] at z'
          refine ⟨fun m => ?_, fun m => ?_⟩
          · rcases List.mem_append.mp m with m | m
            · exact n1 z'.1.1 m
            · exact (n3 z'.2).1 m
          · rcases List.mem_append.mp m with m | m
            · exact n2 z'.1.2 m
            · exact (n3 z'.2).2 m
end
end

/-! ### repr -/
/-- such data has a repr that the machine can make -/
structure Sho (d : PyData) : Prop where
  sh : d.showable = true
  dp : d.depth ≤ 60
  sz : d.shown.length ≤ sizeLine
  ls : d.hasDict = true → noL d = true
def rRepr (K : PySem.W.Frag) : List V → Hp → VK → Prop := fun xs H Q => ∃ v d, xs = [v] ∧ Da K H v d ∧ Sho d ∧ Q (.str d.shown) H
theorem call_repr {X : Cx} (hg : X.A.guards = some []) (hu : X.A.units + 64 < cLine) : CallR X (.builtin "repr") (rRepr X.K) := by
  intro pins s σ H xs us Q I r h
  obtain ⟨v, d, rfl, hd, hs, q⟩ := h
  obtain ⟨u, rfl, ru⟩ := vals1 r
  obtain ⟨as, hr, hn⟩ := Da.reads I d v u hd ru
  have leaf : (∀ a, u ≠ .ref a) → wpAny (model X.prog X.w) X.A (call (.builtin "repr") [u]) (EP X pins σ Q) X.xe s := fun hne => by
    cases hr with
    | none => exact PySem.P.repr_of_none ⟨.str _, H, I.tok _, ⟨_, rfl⟩, q⟩
    | bool b => exact PySem.P.repr_of_bool ⟨.str _, H, I.tok _, ⟨_, rfl⟩, q⟩
    | int i t => exact PySem.P.repr_of_int (of_decide_eq_true hs.sh) ⟨.str _, H, I.tok _, ⟨_, rfl⟩, q⟩
    | str x t => exact PySem.P.repr_of_str ⟨.str _, H, I.tok _, ⟨_, rfl⟩, q⟩ hs.sz
    | list => exact absurd rfl (hne _)
    | tuple => exact absurd rfl (hne _)
    | dict => exact absurd rfl (hne _)
  cases u with
  | ref a =>
    exact repr_of_reads' hr hs.sh (fun z => hn (hs.ls z)) hg (by have := hs.dp; omega) (fun _ _ e => e) (fun h' u tk hk => ⟨.str _, H, I.kept (t' := tk) hk, ⟨_, rfl⟩, q⟩) hs.sz
  | _ => exact leaf fun a e => by cases e

/-! ### defs that are called while no repr is under way -/
structure FnG (P : Program) (w : World) (K : PySem.W.Frag) (mg : Str → Option Value) (base : Heap) (k : Nat) (f : Addr) (fd : FuncData) (ps : List Str) (sp : Sp) : Prop where
  len : ∀ vs H Q E, sp vs H Q E → vs.length = ps.length
  run : ∀ (A : Around) (outer : List Env) (s : Shared) (H : Hp) (args : Args) (us : List Value) (vs : List V) (Q : VK) (E : XK), Room k A → A.guards = some [] →
    Env0 P w K mg base A outer s H → BindsTo s fd args (ps.zip us) → Vals vs us → sp vs H Q E → codeAny (model P w) A (.call (.ref f) args) (CR CX0 outer P w H s Q E) s

section
variable {P : Program} {w : World} {K : PySem.W.Frag} {mg : Str → Option Value} {base : Heap}
theorem okG {x qual : Str} {st : Stmt} {f : Addr} {fd : FuncData} {N ps : List Str} {k : Nat} {sp : Sp} (F : Fun K x qual st f fd) (S : FnScope N ps (defScope st)) (len : ∀ vs H Q E, sp vs H Q E → vs.length = ps.length)
    (hbody : ∀ (cdv : Value) (A : Around) (outer : List Env) (s : Shared) (H : Hp) (vs : List V) (Q : VK) (E : XK), Room k (A.deeper (envOfC qual (defScope st) s.heap.objs.size f cdv)) → (A.deeper (envOfC qual (defScope st) s.heap.objs.size f cdv)).guards = some [] → sp vs H Q E →
      ∃ t, PSs (cxOf CX0 P w K mg base N qual (defScope st) f cdv A outer s H E).nox (defBody st) t ∧ t { nx := fun _ H' => Q .non H', rt := Q } (start N vs) H) :
    FnG P w K mg base (k + 1) f fd ps sp := by
  obtain ⟨oc, od, kV, doc, pm, an, cdv, ct, osl, rfl, lk, hcd⟩ := F.ex
  constructor
  · exact len
  intro A outer s H args us vs Q E hr hgd e0 hb r hsp
  have KX : K.In s.heap := e0.mod.kin.keeps fun b o e => (e0.bs b o e).1
  have NL := e0.mod.nolimit.keeps fun b o e => (e0.bs b o e).1
  have hl := len vs H Q E hsp
  refine codeAny_call_function hr.depth (KX f _ lk) rfl S.co S.gen rfl (PySem.W.codeRec_of KX hcd) (hb _ _ _ _ (wpAny_newFunctionEnv_cells S.kind ?_ ?_))
  · rintro ⟨n, v⟩ hy
    rcases S.par n (List.of_mem_zip hy).1 with q | q
    · exact Or.inl q
    · exact Or.inr ⟨q, PySem.W.cellsFrom_some _ _ _ (Or.inl q)⟩
  · rintro env rfl s1 x
    refine ⟨NL.keeps x.toInCall.keep, codeAny_func ?_⟩
    obtain ⟨t, ht, hq⟩ := hbody cdv A outer s H vs Q E (hr.deeper _) hgd hsp
    refine wpAny_mono (ht.nox.run [] s1 (start N vs) H _ (inv_start S hr.hd e0 hl r x) hq) ?_ ?_
    · intro fl s' hs
      cases fl with
      | ret u =>
        obtain ⟨v, σ', H', J, rv, q⟩ := hs
        exact ⟨v, H', J.os, J.bare, J.base, J.hok, rv, q⟩
      | next =>
        obtain ⟨σ', H', J, q⟩ := hs
        exact ⟨V.non, H', J.os, J.bare, J.base, J.hok, rfl, q⟩
      | brk =>
        obtain ⟨_, _, _, q⟩ := hs
        exact q.elim
      | cont =>
        obtain ⟨_, _, _, q⟩ := hs
        exact q.elim
    · intro e s' hs
      exact hs

variable {X : Cx} {k : Nat} {f : Addr} {fd : FuncData} {ps : List Str} {sp : Sp} {x : Str} {p pos : Pos} {e : Expr} {es : List Expr} {t : TA}
theorem runG {pins : List (Addr × Obj)} {σ : L2.St} {H : Hp} {s : Shared} {Q : VK} {us : List Value} {vs : List V} (F : FnG X.prog X.w X.K X.mg X.base k f fd ps sp) (hr : Room k X.A) (hgd : X.A.guards = some []) (hb : Binds X.K fd ps [])
    (I : Inv X pins σ H s) (r : Vals vs us) (h : sp vs H Q E0) : wpAny (model X.prog X.w) X.A (call (.ref f) us) (EP X pins σ Q) X.xe s := by
  have hl : us.length = ps.length := by
    rw [← r.length]
    exact F.len _ _ _ _ h
  have hbs := hb s us I.kIn (by rw [List.append_nil]; exact hl)
  rw [List.append_nil] at hbs
  refine wpAny_call (codeAny_mono (F.run X.A X.stack s H ⟨us, []⟩ us vs Q E0 hr hgd I.env0 hbs r h) ?_)
  intro r s' hq
  match r, hq with
  | .ok (.ret u), hq => exact I.after hq
  | .ok .next, hq => exact hq.elim
  | .ok .brk, hq => exact hq.elim
  | .ok .cont, hq => exact hq.elim
  | .error e, hq => exact hq.elim
/-- f(e, ..) -/
theorem pe_callG (F : FnG X.prog X.w X.K X.mg X.base k f fd ps sp) (hr : Room k X.A) (hgd : X.A.guards = some []) (hg : Gl X x) (hm : X.mg x = some (.ref f)) (hk : PySem.W.keepIn X.K (.ref f) = true) (hb : Binds X.K fd ps [])
    (ha : PA X (e :: es) t) (hdb : (x == ("__debug__" : Str)) = false := by decide) (he : starEach (e :: es) X.env = (false, eval e X.env) :: starEach es X.env := by rfl) (hpl : (backTo pos (starEach es X.env)).any (·.1) = false := by rfl) :
    PE X (.Call (.Name x p) (e :: es) [] pos) (tCall sp [] E0 t) := by
  constructor
  intro pins s σ H Q I h
  refine wpAny_Call_Name_kw (ld_glob I hg hm ?_ hdb)
  refine PySem.W.callWith_K (h₀ := X.base) I.ok.mod.kin hk (thn (ha.run pos pins s σ H _ I h) ?_) he hpl
  rintro us s1 ⟨vs, H1, I1, r, q⟩
  rw [List.append_nil] at q
  exact ⟨I1.kIn, runG F hr hgd hb I1 r q⟩
end
end VK
namespace VK
open PySem PySem.Spec PyProof.Rows L2
section
variable {P : Program} {w : World} {K : PySem.W.Frag} {mg mb : Str → Option Value} {k : Nat} {fa a : Addr} {fd : FuncData} {x : Str} {sp : Sp} {s₁ : Shared} {vs : List Value} {ns : List Int}
/-- the law's call, from its promise, in an abstract heap that tracks the script at most -/
theorem enterG (KX : K.In s₁.heap) (hns : s₁.heap.Ns mainGlobals mg) (hb : s₁.heap.Ns builtinsNs mb) (hbb : ∀ x : Str, x ≠ "__name__" → mb x = bootBuiltins x) (hlim : s₁.heap.NoLimit) (hg : s₁.gens = #[])
    (ha : s₁.heap.get? a = some { cls := .type "list", data := .seq vs.toArray }) (hr : Room k callerA)
    (F : ∀ base : Heap, K.In base → base.Ns mainGlobals mg → FnG P w K mg base k fa fd [x] sp) (hbind : ∀ (s : Shared) (u : Value), BindsTo s fd ⟨[u], []⟩ [(x, u)])
    (H : Hp) (hO : Only H) (hok : HOk P w H s₁.heap) (hA : ∀ b, H b ≠ none → b = a) (hK : H a ≠ none → K.lookup a = none)
    (hsp : sp [.ref a] H (fun v _ => v = .bl true) E0) :
    codeAny (model P w) callerA (.call (.ref fa) ⟨[.ref a], []⟩) (fun r s' => r = .ok (.ret (.bool true)) ∧ OldK s₁.heap s'.heap ∧ s'.os = s₁.os ∧ AllBare s'.gens) s₁ := by
  -- what is not the script is untracked
  have only_a : ∀ {b : Addr} {o : Obj}, s₁.heap.get? b = some o → o ≠ { cls := .type "list", data := .seq vs.toArray } → H b = none := fun {b o} e d => by
    cases q : H b with
    | none => rfl
    | some u =>
      have e' : b = a := hA b (by rw [q]; intro z; cases z)
      rw [e', ha] at e
      exact absurd (Option.some.inj e).symm d
  have nsB : ∀ {b : Addr} {m : Str → Option Value}, s₁.heap.Ns b m → (hidT s₁.heap H).Ns b m := by
    rintro b m ⟨o, es, ep, e, d, r⟩
    refine ⟨o, es, ep, hidT_get e (only_a e ?_), d, r⟩
    intro z
    rw [z] at d
    cases d
  have KB : K.In (hidT s₁.heap H) := by
    intro b o e
    refine hidT_get (KX b o e) ?_
    cases q : H b with
    | none => rfl
    | some u =>
      have nn : H b ≠ none := by rw [q]; intro z; cases z
      have e' := hA b nn
      rw [e'] at e nn
      rw [hK nn] at e
      cases e
  have gB := nsB hns
  have M : Mod K mg (hidT s₁.heap H) := by
    obtain ⟨mc, h1, h2⟩ := hlim
    exact ⟨KB, gB, ⟨mb, nsB hb, hbb⟩, ⟨mc, nsB h1, h2⟩⟩
  have e0 : Env0 P w K mg (hidT s₁.heap H) callerA [] s₁ H :=
    ⟨rfl, M, fun b o e => of_hidT e, Nat.le_of_eq (hidT_size _ _), trivial, fun b hb => (List.not_mem_nil hb).elim, hok, AllBare.of_eq hg⟩
  have run := (F _ KB gB).run callerA [] s₁ H ⟨[.ref a], []⟩ [.ref a] [.ref a] (fun v _ => v = .bl true) E0 hr rfl e0 (hbind s₁ (.ref a)) (.cons rfl .nil) hsp
  refine codeAny_mono run ?_
  intro r s' h
  match r, h with
  | .ok (.ret u), ⟨v, H', os, bare, un, hok', r', q⟩ =>
    have q' : v = .bl true := q
    rw [q'] at r'
    have eu : u = Value.bool true := r'
    rw [eu]
    refine ⟨rfl, OldK.of_keep ?_, os, bare⟩
    intro b o e
    rcases hO b with z | ⟨ob, xs, z⟩
    · exact un.keep b o e z (fun m => List.not_mem_nil m) (fun m => List.not_mem_nil m)
    · have e1 := (hok b _ z).1
      have e2 := (hok' b _ (un.frzs b ob _ z)).1
      rw [e1] at e
      cases e
      exact e2
  | .ok .next, h => exact h.elim
  | .ok .brk, h => exact h.elim
  | .ok .cont, h => exact h.elim
  | .error e, h => exact h.elim
end
/-- a law's end: its promise, as a def that is called while no repr is under way -/
theorem walk_ofG {l : PySem.W.OpenLaw} {n k : Nat} {q : Program} {loose : List Str} {XP : (Str → Option Value) → Heap → Prop} {YP : World → Heap → Prop} {d : DefRec} {K : Params → PySem.W.Frag} {sp : PySem.W.Frag → Sp} {x : Str}
    (hn : l.most = some n) (hn2 : n ≤ sizeLine) (hdf : d.params.defaults = []) (hr : Room k callerA) (hY : ∀ (w : World) (h : Heap), YP w h → (K w.params).In h)
    (F : ∀ (w : World) (mg : Str → Option Value) (fa : Addr) (h : Heap), (K w.params).In h → h.Ns mainGlobals mg → mg d.name = some (.ref fa) →
      ∃ fd : FuncData, (∀ (s : Shared) (u : Value), BindsTo s fd ⟨[u], []⟩ [(x, u)]) ∧ ∀ base : Heap, (K w.params).In base → base.Ns mainGlobals mg → FnG l.prog w (K w.params) mg base k fa fd [x] (sp (K w.params)))
    (hsp : ∀ (K : PySem.W.Frag) (H : Hp) (a : Addr) (ns : List Int), ns.length ≤ n → SqL K H a (ns.map V.int) → sp K [.ref a] H (fun v _ => v = .bl true) E0) :
    PySem.W.WalkO q loose XP YP l.row.toRowW d [] (fun f vs => PySem.call f vs) := by
  refine Att.attach_call hn hdf ?_
  intro w s₀ s₁ mg mb fa o pm cd doc a vs ns G Y ho hd hcd hmg hobj hints hlen hg
  have KX := hY w _ Y
  have hz : ns.length ≤ sizeLine := Nat.le_trans hlen hn2
  have rv := vals_ints hints
  obtain ⟨fd, hb, hF⟩ := F w mg fa _ KX G.T.g hmg
  have go := fun H h1 h3 h4 h2 h5 => enterG (H := H) KX G.T.g G.T.b G.T.builtins G.T.nolimit hg hobj hr hF hb h1 h2 h3 h4 (hsp _ H a ns hlen h5)
  cases hk : (K w.params).lookup a with
  | some ob =>
    have e := KX a ob hk
    rw [hobj] at e
    cases e
    refine go (fun _ => none) (fun _ => .inl rfl) (fun b z => (z rfl).elim) (fun z => (z rfl).elim) (fun b u z => nomatch z) (.inr ⟨_, vs.toArray, _, hk, rfl, rfl, rfl, ?_, rv⟩)
    rw [List.size_toArray, hints.length]
    exact hz
  | none =>
    let ob : Obj := { cls := .type "list", data := .seq vs.toArray }
    have at_a : ∀ u : HO, (fun b => if b = a then some u else none : Hp) a = some u := fun u => if_pos rfl
    have off : ∀ (u : HO) b, b ≠ a → (fun b => if b = a then some u else none : Hp) b = none := fun u b z => if_neg z
    refine go (fun b => if b = a then some (HO.frz ob (.lst (ns.map V.int))) else none) (fun b => ?_) (fun b z => ?_) (fun _ => hk) (fun b u z => ?_) (.inl (.inr ⟨ob, at_a _⟩))
    · by_cases e : b = a
      · rw [e]
        exact .inr ⟨_, _, at_a _⟩
      · exact .inl (off _ b e)
    · by_cases e : b = a
      · exact e
      · exact absurd (off _ b e) z
    · by_cases e : b = a
      · rw [e] at z
        have z2 := (at_a _).symm.trans z
        cases z2
        rw [e]
        refine ⟨hobj, ?_, vs, _, rv, hobj⟩
        rw [List.length_map]
        exact hz
      · have z2 := (off _ b e).symm.trans z
        cases z2
end VK
namespace VK
open PySem PySem.Spec PyProof.Rows L2
open C8 (Cal pe_c pe_gc)

/-! ### heaps: what is never changed stands in F; p alone may change -/
def Off (p : Addr) (H H' : Hp) : Prop := ∀ b o, b ≠ p → H b = some o → H' b = some o
theorem Off.refl (p : Addr) (H : Hp) : Off p H H := fun _ _ _ h => h
theorem Off.trans {p : Addr} {H H1 H2 : Hp} (a : Off p H H1) (b : Off p H1 H2) : Off p H H2 := fun c o n h => b c o n (a c o n h)
theorem Off.of {p : Addr} {H H' : Hp} (a : Same H H') : Off p H H' := fun c o _ h => a c o h
theorem Off.same {p : Addr} {F H H' : Hp} (a : Off p H H') (hp : F p = none) (h : Same F H) : Same F H' := fun c o e => a c o (ne_of_none e hp) (h c o e)
theorem Off.upd {p : Addr} {H : Hp} {o : HO} : Off p H (upd H p o) := fun b u n h => by
  rw [upd_ne n]
  exact h
theorem Off.new {p q : Addr} {H : Hp} {o : HO} (h : H q = none) : Off p H (L2.upd H q o) := fun b u _ e => by
  rw [upd_ne (ne_of_none e h)]
  exact e
theorem same_new {H : Hp} {q : Addr} {o : HO} (h : H q = none) : Same H (upd H q o) := fun b u e => by
  rw [upd_ne (ne_of_none e h)]
  exact e
theorem same_off {F H : Hp} {q : Addr} {o : HO} (s : Same F H) (h : F q = none) : Same F (upd H q o) := fun b u e => by
  rw [upd_ne (ne_of_none e h)]
  exact s b u e
theorem same_grow {F H : Hp} {q : Addr} {o : HO} (s : Same F H) (h : H q = none) : Same (upd F q o) (upd H q o) := fun b u e => by
  by_cases z : b = q
  · rw [z, upd_same] at e
    rw [z, upd_same]
    exact e
  · rw [upd_ne z] at e
    rw [upd_ne z]
    exact s b u e
theorem same_seqT {K : PySem.W.Frag} {H H' : Hp} {a : Addr} {xs : List V} (e : Same H H') (h : SqT K H a xs) : SqT K H' a xs := by
  rcases h with (h | ⟨o, h⟩) | h
  · exact .inl (.inl (e _ _ h))
  · exact .inl (.inr ⟨o, e _ _ h⟩)
  · exact .inr h
section
variable {K : PySem.W.Frag} {H H' : Hp}
mutual
theorem Da.mono (s : Same H H') : ∀ {v : V} {d : PyData}, Da K H v d → Da K H' v d
  | _, _, .non => .non
  | _, _, .bl b => .bl b
  | _, _, .int i => .int i
  | _, _, .str x => .str x
  | _, _, .lst h t => .lst (s.seq h) (DaAll.mono s t)
  | _, _, .tup h t => .tup (same_seqT s h) (DaAll.mono s t)
  | _, _, .dic h t => .dic (s _ _ h) (DaKv.mono s t)
theorem DaAll.mono (s : Same H H') : ∀ {vs : List V} {ds : List PyData}, DaAll K H vs ds → DaAll K H' vs ds
  | _, _, .nil => .nil
  | _, _, .cons h t => .cons (Da.mono s h) (DaAll.mono s t)
theorem DaKv.mono (s : Same H H') : ∀ {kvs : List (Key × V)} {es : List (PyData × PyData)}, DaKv K H kvs es → DaKv K H' kvs es
  | _, _, .nil => .nil
  | _, _, .cons h1 h2 t => .cons (Da.mono s h1) (Da.mono s h2) (DaKv.mono s t)
end
theorem DaAll.length : ∀ {vs : List V} {ds : List PyData}, DaAll K H vs ds → vs.length = ds.length
  | _, _, .nil => rfl
  | _, _, .cons _ t => by rw [List.length_cons, List.length_cons, DaAll.length t]
theorem DaAll.get : ∀ {vs : List V} {ds : List PyData}, DaAll K H vs ds → ∀ {i : Nat} {v : V}, vs[i]? = some v → ∃ d, ds[i]? = some d ∧ Da K H v d
  | _, _, .cons h _, 0, _, e => ⟨_, rfl, by cases e; exact h⟩
  | _, _, .cons _ t, i + 1, _, e => DaAll.get t (i := i) e
theorem DaAll.append : ∀ {vs us : List V} {ds es : List PyData}, DaAll K H vs ds → DaAll K H us es → DaAll K H (vs ++ us) (ds ++ es)
  | _, _, _, _, .nil, s => s
  | _, _, _, _, .cons h t, s => .cons h (DaAll.append t s)
theorem DaAll.take : ∀ {vs : List V} {ds : List PyData} (n : Nat), DaAll K H vs ds → DaAll K H (vs.take n) (ds.take n)
  | _, _, 0, _ => .nil
  | _, _, _ + 1, .nil => .nil
  | _, _, n + 1, .cons h t => .cons h (DaAll.take n t)
theorem DaAll.drop : ∀ {vs : List V} {ds : List PyData} (n : Nat), DaAll K H vs ds → DaAll K H (vs.drop n) (ds.drop n)
  | _, _, 0, r => r
  | _, _, _ + 1, .nil => .nil
  | _, _, n + 1, .cons _ t => DaAll.drop n t
theorem DaAll.one {v : V} {d : PyData} (h : Da K H v d) : DaAll K H [v] [d] := .cons h .nil
theorem DaAll.flat : ∀ {n : Nat} {vs : List V} {ds : List PyData}, DaAll K H vs ds → DaAll K H (List.replicate n vs).flatten (List.replicate n ds).flatten
  | 0, _, _, _ => .nil
  | n + 1, _, _, h => DaAll.append h (DaAll.flat (n := n) h)

/-! ### what kind of data -/
def tyN : PyData → String
  | .none => "NoneType"
  | .bool _ => "bool"
  | .int _ => "int"
  | .str _ => "str"
  | .list _ => "list"
  | .tuple _ => "tuple"
  | .dict _ => "dict"
theorem da_ty {v : V} {d : PyData} (h : Da K H v d) : TyX K H v (.type (tyN d)) := by
  cases h with
  | non => exact .base .non
  | bl b => exact .base (.bl b)
  | int i => exact .base (.int i)
  | str x => exact .base (.str x)
  | lst h _ =>
    rcases h with (h | ⟨o, h⟩) | ⟨o, its, n, h1, h2, _⟩
    · exact .base (.lst h)
    · exact .base (.frz h)
    · exact .kList h1 h2
  | tup h _ =>
    rcases h with (h | ⟨o, h⟩) | ⟨o, its, n, h1, h2, _⟩
    · exact .base (.tup h)
    · exact .fTuple h
    · exact .kTuple h1 h2
  | dic h _ => exact .base (.dK h)
def isInt : PyData → Bool
  | .int _ => true
  | .bool _ => true
  | _ => false
def isBool : PyData → Bool
  | .bool _ => true
  | _ => false
def isTup : PyData → Bool
  | .tuple _ => true
  | _ => false
def isStr : PyData → Bool
  | .str _ => true
  | _ => false
def isLst : PyData → Bool
  | .list _ => true
  | _ => false
theorem kI (d : PyData) : PySem.W.kitOne K (.type (tyN d)) (.type "int") = some (isInt d) := by cases d <;> (refine kit_ty ?_; dsimp only [tyN, isInt]; decide +kernel)
theorem kB (d : PyData) : PySem.W.kitOne K (.type (tyN d)) (.type "bool") = some (isBool d) := by cases d <;> (refine kit_ty ?_; dsimp only [tyN, isBool]; decide +kernel)
theorem kT (d : PyData) : PySem.W.kitOne K (.type (tyN d)) (.type "tuple") = some (isTup d) := by cases d <;> (refine kit_ty ?_; dsimp only [tyN, isTup]; decide +kernel)
theorem kS (d : PyData) : PySem.W.kitOne K (.type (tyN d)) (.type "str") = some (isStr d) := by cases d <;> (refine kit_ty ?_; dsimp only [tyN, isStr]; decide +kernel)
theorem kL (d : PyData) : PySem.W.kitOne K (.type (tyN d)) (.type "list") = some (isLst d) := by cases d <;> (refine kit_ty ?_; dsimp only [tyN, isLst]; decide +kernel)
end
def rLenSq (K : PySem.W.Frag) : List V → Hp → VK → Prop := fun xs H Q => ∃ p ys, xs = [.ref p] ∧ (SqL K H p ys ∨ SqT K H p ys) ∧ Q (.int ys.length) H
theorem call_lenSq {X : Cx} : CallR X (.builtin "len") (rLenSq X.K) := call_len_seq
def rListOf (K : PySem.W.Frag) : List V → Hp → VK → Prop := fun xs H Q => ∃ p ys, xs = [.ref p] ∧ (SqL K H p ys ∨ SqT K H p ys) ∧ ∀ l, H l = none → Q (.ref l) (upd H l (.lst ys))
theorem call_listOf {X : Cx} : CallR X (.type "list") (rListOf X.K) := call_list_of
/-- tuple(a list) -/
def rTupleL (K : PySem.W.Frag) : List V → Hp → VK → Prop := fun xs H Q => ∃ p ys, xs = [.ref p] ∧ SqL K H p ys ∧ ∀ l, H l = none → Q (.ref l) (upd H l (.tup ys))
theorem call_tupleL {X : Cx} : CallR X (.type "tuple") (rTupleL X.K) := fun pins s σ H xs us Q I r h => by
  obtain ⟨p, ys, e, hp, q⟩ := h
  exact call_tuple_of pins s σ H xs us Q I r ⟨p, ys, e, .inl ⟨hp, q⟩⟩

/-! ### calls of defs that know that no repr is under way, by name -/
structure CalG (P : Program) (w : World) (K : PySem.W.Frag) (mg : Str → Option Value) (base : Heap) (k : Nat) (x : Str) (sp : Sp) : Prop where
  ex : ∃ (f : Addr) (fd : FuncData) (ps : List Str), FnG P w K mg base k f fd ps sp ∧ mg x = some (.ref f) ∧ PySem.W.keepIn K (.ref f) = true ∧ Binds K fd ps []
section
variable {X : Cx} {k j : Nat} {sp : Sp} {x : Str} {p pos : Pos} {e : Expr} {es : List Expr} {t : TA}
theorem pe_cG (c : CalG X.prog X.w X.K X.mg X.base k x sp) (hr : Room j X.A) (hgd : X.A.guards = some []) (hk : k ≤ j) (hg : Gl X x) (ha : PA X (e :: es) t)
    (hdb : (x == ("__debug__" : Str)) = false := by decide) (he : starEach (e :: es) X.env = (false, eval e X.env) :: starEach es X.env := by rfl) (hpl : (backTo pos (starEach es X.env)).any (·.1) = false := by rfl) :
    PE X (.Call (.Name x p) (e :: es) [] pos) (tCall sp [] E0 t) := by
  obtain ⟨f, fd, ps, F, hm, kp, b⟩ := c.ex
  exact pe_callG F (hr.mono hk) hgd hg hm kp b ha hdb he hpl
end
/-- what a def of the text is, by its place -/
structure Df (K : PySem.W.Frag) (mg : Str → Option Value) (x : Str) (st : Stmt) : Prop where
  ex : ∃ (f : Addr) (fd : FuncData), Fun K x x st f fd ∧ mg x = some (.ref f)
section
variable {P : Program} {w : World} {K : PySem.W.Frag} {mg : Str → Option Value} {base : Heap} {x : Str} {st : Stmt} {N ps : List Str} {k : Nat} {sp : Sp}
theorem Df.cal (D : Df K mg x st) (S : FnScope N ps (defScope st))
    (hb : ∀ (kV doc pm : Value) (an : Option Addr) (cdv ct : Value) (us : List Value), us.length = ps.length → bindArgs (PySem.W.fnOf x x (defArgs st) (defBody st) (defScope st) .none kV doc pm an cdv ct) ⟨us, []⟩ = pure (ps.zip us))
    (len : ∀ vs H Q E, sp vs H Q E → vs.length = ps.length)
    (hbody : ∀ (f : Addr) (cdv : Value) (A : Around) (outer : List Env) (s : Shared) (H : Hp) (vs : List V) (Q : VK) (E : XK), Room k (A.deeper (envOfC x (defScope st) s.heap.objs.size f cdv)) → sp vs H Q E →
      ∃ t, PSs (cxOf CX0 P w K mg base N x (defScope st) f cdv A outer s H E).nox (defBody st) t ∧ t { nx := fun _ H' => Q .non H', rt := Q } (start N vs) H) : Cal P w K mg base (k + 1) x sp [] := by
  obtain ⟨f, fd, F, hm⟩ := D.ex
  exact ⟨f, fd, ps, [], F.ok S len (hbody f), hm, F.kp, F.binds hb, .nil⟩
theorem Df.calG (D : Df K mg x st) (S : FnScope N ps (defScope st))
    (hb : ∀ (kV doc pm : Value) (an : Option Addr) (cdv ct : Value) (us : List Value), us.length = ps.length → bindArgs (PySem.W.fnOf x x (defArgs st) (defBody st) (defScope st) .none kV doc pm an cdv ct) ⟨us, []⟩ = pure (ps.zip us))
    (len : ∀ vs H Q E, sp vs H Q E → vs.length = ps.length)
    (hbody : ∀ (f : Addr) (cdv : Value) (A : Around) (outer : List Env) (s : Shared) (H : Hp) (vs : List V) (Q : VK) (E : XK), Room k (A.deeper (envOfC x (defScope st) s.heap.objs.size f cdv)) → (A.deeper (envOfC x (defScope st) s.heap.objs.size f cdv)).guards = some [] → sp vs H Q E →
      ∃ t, PSs (cxOf CX0 P w K mg base N x (defScope st) f cdv A outer s H E).nox (defBody st) t ∧ t { nx := fun _ H' => Q .non H', rt := Q } (start N vs) H) : CalG P w K mg base (k + 1) x sp := by
  obtain ⟨f, fd, F, hm⟩ := D.ex
  exact ⟨f, fd, ps, okG F S len (hbody f), hm, F.kp, F.binds hb⟩
end
end VK
namespace VK
open PySem PySem.Spec PyProof.Rows L2
open C8 (Cal pe_c pe_gc)
/-! ### the pen at p that a law draws from: its cells (at c), the next one's index (at most n), the rest of a great one -/
def Pen (H : Hp) (p c : Addr) (n : Nat) : Prop := ∃ (cells : List Int) (at_ rest : Int), H p = some (.lst [.ref c, .int at_, .int rest]) ∧ H c = some (.lst (cells.map V.int)) ∧ c ≠ p ∧ cells.length ≤ 63 ∧ 0 ≤ at_ ∧ at_ ≤ n ∧ 0 ≤ rest
theorem Pen.mono {H H' : Hp} {p c : Addr} {n m : Nat} (s : Same H H') (h : Pen H p c n) (l : n ≤ m) : Pen H' p c m := by
  obtain ⟨cells, a, r, h1, h2, h3, h4, h5, h6, h7⟩ := h
  exact ⟨cells, a, r, s _ _ h1, s _ _ h2, h3, h4, h5, by omega, h7⟩
theorem Pen.le {H : Hp} {p c : Addr} {n m : Nat} (h : Pen H p c n) (l : n ≤ m) : Pen H p c m := h.mono (Same.refl H) l
theorem Pen.some {H : Hp} {p c : Addr} {n : Nat} (h : Pen H p c n) : ∃ o, H p = Option.some o := by
  obtain ⟨cells, a, r, h1, _⟩ := h
  exact ⟨_, h1⟩
theorem Pen.ne {H : Hp} {p c q : Addr} {n : Nat} (h : Pen H p c n) (hq : H q = none) : q ≠ p ∧ q ≠ c := by
  obtain ⟨cells, a, r, h1, h2, _⟩ := h
  exact ⟨(ne_of_none h1 hq).symm, (ne_of_none h2 hq).symm⟩
theorem Pen.off {H : Hp} {p c q : Addr} {n : Nat} {o : HO} (h : Pen H p c n) (hp : q ≠ p) (hc : q ≠ c) : Pen (upd H q o) p c n := by
  obtain ⟨cells, a, r, h1, h2, h3⟩ := h
  refine ⟨cells, a, r, ?_, ?_, h3⟩
  · rw [upd_ne hp.symm]
    exact h1
  · rw [upd_ne hc.symm]
    exact h2
theorem Off.free {p q : Addr} {H H' : Hp} (a : Off p H H') (h : H' q = none) (n : q ≠ p) : H q = none := by
  cases e : H q with
  | none => rfl
  | some o =>
    rw [a q o n e] at h
    cases h
theorem Off.mut {p q : Addr} {H H' : Hp} {o : HO} (a : Off p H H') (h : H q = none) : Off p H (L2.upd H' q o) := fun b u n e => by
  rw [upd_ne (ne_of_none e h)]
  exact a b u n e
/-- what stands in H apart from p -/
def cut (p : Addr) (H : Hp) : Hp := fun b => if b = p then none else H b
theorem cut_at {p : Addr} {H : Hp} : cut p H p = none := if_pos rfl
theorem cut_ne {p b : Addr} {H : Hp} (h : b ≠ p) : cut p H b = H b := if_neg h
theorem cut_same {p : Addr} {H : Hp} : Same (cut p H) H := fun b o e => by
  by_cases z : b = p
  · rw [z, cut_at] at e
    cases e
  · rw [cut_ne z] at e
    exact e
/-- a draw: from the pen p, that has given at most n cells, a number below many; the pen alone changes -/
def sp_draw : Sp := fun vs H Q _ => ∃ (p c : Addr) (n : Nat) (u : Int), vs = [.ref p, .int u] ∧ 0 < u ∧ u < 1000000 ∧ Pen H p c n ∧ n < 100000 ∧ ∀ r H', 0 ≤ r → r < u → Off p H H' → Pen H' p c (n + 1) → Q (.int r) H'
def sp_pen (K : PySem.W.Frag) : Sp := fun vs H Q _ => ∃ (a : Addr) (ns : List Int), vs = [.ref a] ∧ SqL K H a (ns.map V.int) ∧ ∀ p c H', Same H H' → H p = none → H c = none → Pen H' p c 0 → Q (.ref p) H'
theorem eqv_nil_ints : ∀ ns : List Int, PyData.eqv (.list (ns.map PyData.int)) (.list []) = decide (ns = [])
  | [] => rfl
  | _ :: _ => rfl
section
variable {K : PySem.W.Frag} {H : Hp}
theorem dp_ints : ∀ ns : List Int, DpAll K H (ns.map V.int) (ns.map PyData.int)
  | [] => .nil
  | _ :: r => .cons (.int _) (dp_ints r)
end
theorem can_ints : ∀ ns : List Int, PyData.canLayAll0 (ns.map PyData.int) = true
  | [] => by simp [PyData.canLayAll0]
  | n :: r => by
    have ih := can_ints r
    simp only [List.map_cons, PyData.canLayAll0, PyData.canLay0, ih, Bool.and_self]
theorem deep_ints : ∀ ns : List Int, PyData.depthAll (ns.map PyData.int) = 0
  | [] => by simp [PyData.depthAll]
  | n :: r => by
    have ih := deep_ints r
    simp only [List.map_cons, PyData.depthAll, PyData.depth, ih, Nat.max_self]
theorem shaped_ints (ns : List Int) : SeqAt.shaped (.list (ns.map PyData.int)) = true := by
  unfold SeqAt.shaped
  simp only [PyData.canLay0, PyData.depth, can_ints, deep_ints]
  decide
/-- a square within bounds -/
theorem sq_le {k a : Int} (hk : 0 ≤ k) (h0 : 0 ≤ a) (h1 : a ≤ 100000) : 0 ≤ k * a * a ∧ k * a * a ≤ k * 10000000000 := by
  have e1 : 0 ≤ k * a := Int.mul_nonneg hk h0
  have e2 : k * a ≤ k * 100000 := Int.mul_le_mul_of_nonneg_left h1 hk
  refine ⟨Int.mul_nonneg e1 h0, ?_⟩
  have e3 : k * a * a ≤ k * a * 100000 := Int.mul_le_mul_of_nonneg_left h1 e1
  have e4 : k * a * 100000 ≤ k * 100000 * 100000 := Int.mul_le_mul_of_nonneg_right e2 (by decide)
  omega
theorem abs_nn (x : Int) : 0 ≤ (if x < 0 then -x else x) := by
  split <;> omega
theorem mul_lt {f g : Int} {m n : Nat} (h0 : 0 ≤ f) (h1 : f ≤ m) (g0 : 0 ≤ g) (g1 : g ≤ n) : 0 ≤ f * g ∧ f * g ≤ (m * n : Nat) := by
  refine ⟨Int.mul_nonneg h0 g0, ?_⟩
  have e1 : f * g ≤ m * g := Int.mul_le_mul_of_nonneg_right h1 g0
  have e2 : (m : Int) * g ≤ m * n := Int.mul_le_mul_of_nonneg_left g1 (Int.natCast_nonneg _)
  have e3 : ((m * n : Nat) : Int) = (m : Int) * n := Int.natCast_mul m n
  omega
end VK
namespace VK
open PySem PySem.Spec PyProof.Rows L2
open C8 (Cal pe_c pe_gc)
/-! ### the drawing def's body as a reading, its numbers as letters -/
abbrev rAddI : R2 := rI0 fun i j => V.int (i + j)
abbrev rSubI : R2 := rI0 fun i j => V.int (i - j)
abbrev rMulI : R2 := rI CMul fun i j => V.int (i * j)
abbrev rModI : R2 := rI (fun _ j => 0 < j) fun i j => V.int (i % j)
abbrev rDivI : R2 := rI CDiv fun i j => V.int (i / j)
abbrev rPowI : R2 := rI CPow fun i j => V.int (i ^ j.toNat)
abbrev rLtI : R2 := rI0 fun i j => V.bl (decide (i < j))
abbrev rGeI : R2 := rI0 fun i j => V.bl (decide (j ≤ i))
abbrev rGtI : R2 := rI0 fun i j => V.bl (decide (j < i))
abbrev rAbs : List V → Hp → VK → Prop := fun xs H Q => ∃ i, xs = [.int i] ∧ Q (.int (if i < 0 then -i else i)) H
abbrev rInt1 : List V → Hp → VK → Prop := fun xs H Q => (∃ i, xs = [.int i] ∧ Q (.int i) H) ∨ ∃ k, xs = [.bl k] ∧ Q (.int (if k then 1 else 0)) H
abbrev cI (i : Int) : TE := tC (.int i)
section
variable (K : PySem.W.Frag)
/-- pen[i] -/
abbrev tPen (i : Int) : TE := tOp (rIxL K) (tVar 0) (cI i)
/-- ahead of the mixing: a digit of the rest; the next cell; a great one -/
def t_ahead (k1 k2 : Int) (great : TE) (mix : TS) : TS :=
  tSeq (tIfS (tTest (tOp rGtI (tPen K 2) (cI 0)))
      (tSeq (tAsg (tOp rModI (tPen K 2) (tVar 1)) (gName 2)) (tSeq (tAsg (tOp rDivI (tPen K 2) (tVar 1)) (gSub (tVar 0) (cI 2) rSetL)) (tRet (tVar 2)))) tNext)
    (tSeq (tAsg (tPen K 1) (gName 3)) (tSeq (tAsg (tOp rAddI (tVar 3) (cI 1)) (gSub (tVar 0) (cI 1) rSetL))
      (tSeq (tAsg (tOp rAddI (tOp rMulI (cI k1) (tVar 3)) (cI k2)) (gName 4))
        (tSeq (tIfS (tTest (tOp (rNeD K) (tPen K 0) (tLst tNil)))
            (tAsg (tOp (rIxL K) (tPen K 0) (tOp rModI (tVar 3) (tCB (rLenSq K) (tCons (tPen K 0) tNil)))) (gName 4)) tNext)
          (tSeq (tIfS (tAnd (tTest (tOp rLtI (tVar 3) (tCB (rLenSq K) (tCons (tPen K 0) tNil)))) (tTest (tOp rGeI (tCB rAbs (tCons (tVar 4) tNil)) (tOp rPowI (cI 10) (cI 18)))))
              (tSeq (tAsg (tOp rAddI great (tCB rInt1 (tCons (tOp rLtI (tVar 4) (cI 0)) tNil))) (gName 5))
                (tSeq (tAsg (tOp rDivI (tVar 5) (tVar 1)) (gSub (tVar 0) (cI 2) rSetL)) (tRet (tOp rModI (tVar 5) (tVar 1))))) tNext)
            mix)))))
/-- the rule of the head: mix is asked at any cell, in any heap in which the pen has given one more -/
theorem ahead {k1 k2 : Int} {great : TE} {mix : TS} {D : Ends} {p c : Addr} {n : Nat} {u : Int} {H : Hp} {x4 x5 : Option V} {rest2 : L2.St} (hk1 : -(2 ^ 64) < k1 ∧ k1 < 2 ^ 64) (u0 : 0 < u) (u1 : u < 1000000) (pen : Pen H p c n) (hn : n < 100000)
    (hg : ∀ (cell : Int) (σ : L2.St) (H1 : Hp) (Q : VK), σ[4]? = some (some (.int cell)) → ¬ (if cell < 0 then -cell else cell) < 10 ^ 18 → (∀ g, 0 ≤ g → Q (.int g) H1) → great σ H1 Q)
    (hm : ∀ (cell a : Int) (H1 : Hp), 0 ≤ a → a ≤ n → Off p H H1 → Pen H1 p c (n + 1) → mix D ([some (.ref p), some (.int u), none, some (.int a), some (.int cell)] ++ x5 :: rest2) H1)
    (q : ∀ r H', 0 ≤ r → r < u → Off p H H' → Pen H' p c (n + 1) → D.rt (.int r) H') :
    t_ahead K k1 k2 great mix D ([some (.ref p), some (.int u), none, none] ++ x4 :: x5 :: rest2) H := by
  obtain ⟨cells, a, r, hp, hc, ncp, hcl, a0, a1, r0⟩ := pen
  have hL : SqL K H p [.ref c, .int a, .int r] := .inl (.inl hp)
  refine ⟨.ref p, rfl, p, _, 2, .int r, rfl, rfl, hL, atI_nat (j := 2) rfl, r, 0, rfl, rfl, _, rfl, ite2 (fun hr1 => ?_) (fun hr1 => ?_)⟩
  · -- a digit of the rest
    refine ⟨.ref p, rfl, p, _, 2, .int r, rfl, rfl, hL, atI_nat (j := 2) rfl, .int u, rfl, r, u, rfl, rfl, u0, ?_⟩
    refine ⟨.ref p, rfl, p, _, 2, .int r, rfl, rfl, hL, atI_nat (j := 2) rfl, .int u, rfl, r, u, rfl, rfl, ⟨u0, by omega⟩, .ref p, rfl, p, _, 2, 2, rfl, rfl, hp, rfl, ?_⟩
    refine ⟨_, rfl, q (r % u) _ (Int.emod_nonneg _ (by omega)) (Int.emod_lt_of_pos _ u0) Off.upd ⟨cells, a, r / u, upd_same, ?_, ncp, hcl, a0, by omega, Int.ediv_nonneg r0 (by omega)⟩⟩
    rw [upd_ne ncp]
    exact hc
  · refine ⟨.ref p, rfl, p, _, 1, .int a, rfl, rfl, hL, atI_nat (j := 1) rfl, ?_⟩
    refine ⟨.int a, rfl, a, 1, rfl, rfl, .ref p, rfl, p, _, 1, 1, rfl, rfl, hp, rfl, ?_⟩
    refine ⟨.int a, rfl, k1, a, rfl, rfl, .inl hk1, _, k2, rfl, rfl, ?_⟩
    have o1 : Off p H (upd H p (.lst [.ref c, .int (a + 1), .int r])) := Off.upd
    have hp1 : upd H p (.lst [.ref c, .int (a + 1), .int r]) p = some (.lst [.ref c, .int (a + 1), .int r]) := upd_same
    have hc1 : upd H p (.lst [.ref c, .int (a + 1), .int r]) c = some (.lst (cells.map V.int)) := by
      rw [upd_ne ncp]
      exact hc
    have hL1 : SqL K (upd H p (.lst [.ref c, .int (a + 1), .int r])) p [.ref c, .int (a + 1), .int r] := .inl (.inl hp1)
    refine ⟨.ref p, rfl, p, _, 0, .ref c, rfl, rfl, hL1, atI_nat (j := 0) rfl, Nat.zero_le _, fun e ne => ?_⟩
    refine ⟨.list (cells.map PyData.int), .list [], .lst (.inl (.inl ((same_new ne) _ _ hc1))) (dp_ints cells), .lst (.inl (.inl upd_same)) .nil, shaped_ints _, shaped_ints [], _, rfl, ?_⟩
    rw [eqv_nil_ints]
    have o2 : Off p H (upd (upd H p (.lst [.ref c, .int (a + 1), .int r])) e (.lst [])) := o1.trans (Off.new ne)
    have hp2 := (same_new (o := .lst []) ne) _ _ hp1
    have hc2 := (same_new (o := .lst []) ne) _ _ hc1
    have hL2 : SqL K (upd (upd H p (.lst [.ref c, .int (a + 1), .int r])) e (.lst [])) p [.ref c, .int (a + 1), .int r] := .inl (.inl hp2)
    have hC2 : SqL K (upd (upd H p (.lst [.ref c, .int (a + 1), .int r])) e (.lst [])) c (cells.map V.int) := .inl (.inl hc2)
    have pen2 : Pen (upd (upd H p (.lst [.ref c, .int (a + 1), .int r])) e (.lst [])) p c (n + 1) := ⟨cells, a + 1, r, hp2, hc2, ncp, hcl, by omega, by omega, r0⟩
    -- the rest of it, at any cell
    have go : ∀ (H2 : Hp), Off p H H2 → H2 p = some (.lst [.ref c, .int (a + 1), .int r]) → H2 c = some (.lst (cells.map V.int)) → ∀ cell : Int, (tSeq (tIfS (tAnd (tTest (tOp rLtI (tVar 3) (tCB (rLenSq K) (tCons (tPen K 0) tNil)))) (tTest (tOp rGeI (tCB rAbs (tCons (tVar 4) tNil)) (tOp rPowI (cI 10) (cI 18)))))
              (tSeq (tAsg (tOp rAddI great (tCB rInt1 (tCons (tOp rLtI (tVar 4) (cI 0)) tNil))) (gName 5))
                (tSeq (tAsg (tOp rDivI (tVar 5) (tVar 1)) (gSub (tVar 0) (cI 2) rSetL)) (tRet (tOp rModI (tVar 5) (tVar 1))))) tNext)
            mix) D ([some (.ref p), some (.int u), none, some (.int a), some (.int cell)] ++ x5 :: rest2) H2 := by
      intro H2 o2 hp2 hc2 cell
      have hL2 : SqL K H2 p [.ref c, .int (a + 1), .int r] := .inl (.inl hp2)
      have hC2 : SqL K H2 c (cells.map V.int) := .inl (.inl hc2)
      have pen2 : Pen H2 p c (n + 1) := ⟨cells, a + 1, r, hp2, hc2, ncp, hcl, by omega, by omega, r0⟩
      refine ⟨.int a, rfl, .ref p, rfl, p, _, 0, .ref c, rfl, rfl, hL2, atI_nat (j := 0) rfl, c, _, rfl, .inl hC2, a, _, rfl, rfl, _, rfl, ite2 (fun h1 => ?_) (fun h1 => iteF (hm cell a H2 a0 a1 o2 pen2))⟩
      refine ⟨.int cell, rfl, cell, rfl, 10, 18, rfl, rfl, ⟨by decide, by decide, by decide⟩, _, _, rfl, rfl, _, rfl, ite2 (fun h2 => ?_) (fun h2 => hm cell a H2 a0 a1 o2 pen2)⟩
      have h2' : ((10 : Int) ^ (18 : Int).toNat) ≤ (if cell < 0 then -cell else cell) := of_decide_eq_true h2
      refine hg cell _ H2 _ rfl (by have e : ((10 : Int) ^ (18 : Int).toNat) = 10 ^ 18 := rfl; omega) fun g g0 => ?_
      refine ⟨.int cell, rfl, cell, 0, rfl, rfl, .inr ⟨_, rfl, g, _, rfl, rfl, ?_⟩⟩
      have i0 : 0 ≤ (if decide (cell < 0) = true then (1 : Int) else 0) := by split <;> decide
      generalize (if decide (cell < 0) = true then (1 : Int) else 0) = i at i0
      have g1 : 0 ≤ g + i := by omega
      refine ⟨.int (g + i), rfl, .int u, rfl, _, _, rfl, rfl, ⟨u0, by omega⟩, .ref p, rfl, p, _, 2, 2, rfl, rfl, hp2, rfl, ?_⟩
      refine ⟨.int (g + i), rfl, .int u, rfl, _, _, rfl, rfl, u0, q _ _ (Int.emod_nonneg _ (by omega)) (Int.emod_lt_of_pos _ u0) (o2.trans Off.upd) ⟨cells, a + 1, (g + i) / u, upd_same, ?_, ncp, hcl, by omega, by omega, Int.ediv_nonneg g1 (by omega)⟩⟩
      rw [upd_ne ncp]
      exact hc2
    refine ite2 (fun hne => ?_) (fun hne => go _ o2 hp2 hc2 _)
    have ne0 : cells ≠ [] := by
      intro z
      rw [z] at hne
      cases hne
    have cl0 : 0 < cells.length := List.length_pos_iff.mpr ne0
    have hm0 : 0 ≤ a % (cells.length : Int) := Int.emod_nonneg _ (by omega)
    have hm1 : a % (cells.length : Int) < cells.length := Int.emod_lt_of_pos _ (by omega)
    have hj : (a % (cells.length : Int)).toNat < cells.length := by omega
    obtain ⟨v, hv⟩ : ∃ v, cells[(a % (cells.length : Int)).toNat]? = some v := ⟨_, List.getElem?_eq_getElem hj⟩
    have at_ : atI (cells.map V.int) (a % ((cells.map V.int).length : Int)) = some (.int v) := by
      rw [List.length_map, show a % (cells.length : Int) = (((a % (cells.length : Int)).toNat : Nat) : Int) by omega]
      refine atI_nat ?_
      rw [List.getElem?_map, hv]
      rfl
    refine ⟨.ref p, rfl, p, _, 0, .ref c, rfl, rfl, hL2, atI_nat (j := 0) rfl, .int a, rfl, .ref p, rfl, p, _, 0, .ref c, rfl, rfl, hL2, atI_nat (j := 0) rfl, c, _, rfl, .inl hC2, a, _, rfl, rfl, ?_, c, _, _, _, rfl, rfl, hC2, at_, go _ o2 hp2 hc2 _⟩
    show (0 : Int) < ((cells.map V.int).length : Int)
    rw [List.length_map]
    omega
end
end VK
namespace VK
open PySem PySem.Spec PyProof.Rows L2
open C8 (Cal pe_c pe_gc)
/-! ### the great cell's number, the mixing, in the forms that laws have -/
def gLess : TE := tOp rMulI (cI 2) (tOp rSubI (tCB rAbs (tCons (tVar 4) tNil)) (tOp rPowI (cI 10) (cI 18)))
def gPlain : TE := tOp rMulI (cI 2) (tCB rAbs (tCons (tVar 4) tNil))
theorem gLess_ok (cell : Int) (σ : L2.St) (H1 : Hp) (Q : VK) (h4 : σ[4]? = some (some (.int cell))) (hb : ¬ (if cell < 0 then -cell else cell) < 10 ^ 18) (q : ∀ g, 0 ≤ g → Q (.int g) H1) : gLess σ H1 Q := by
  refine ⟨.int cell, h4, cell, rfl, 10, 18, rfl, rfl, ⟨by decide, by decide, by decide⟩, _, _, rfl, rfl, 2, _, rfl, rfl, .inl (by decide), q _ ?_⟩
  have e : ((10 : Int) ^ (18 : Int).toNat) = 10 ^ 18 := rfl
  rw [e]
  omega
theorem gPlain_ok (cell : Int) (σ : L2.St) (H1 : Hp) (Q : VK) (h4 : σ[4]? = some (some (.int cell))) (hb : ¬ (if cell < 0 then -cell else cell) < 10 ^ 18) (q : ∀ g, 0 ≤ g → Q (.int g) H1) : gPlain σ H1 Q := by
  refine ⟨.int cell, h4, cell, rfl, 2, _, rfl, rfl, .inl (by decide), q _ ?_⟩
  have := abs_nn cell
  omega
/-- x ** 3 % m1, then (x * (2 at + n) + s) ** 5 % m2, then // 64 -/
def mixP (m1 s1 s2 s3 m2 n s4 m3 : Int) : TS :=
  tSeq (tAsg (tOp rModI (tOp rPowI (tOp rAddI (tOp rAddI (tOp rAddI (tOp rModI (tVar 4) (cI m1)) (tOp rMulI (tOp rMulI (cI s1) (tVar 3)) (tVar 3))) (tOp rMulI (cI s2) (tVar 3))) (cI s3)) (cI 3)) (cI m2)) (gName 6))
    (tSeq (tAsg (tOp rModI (tOp rPowI (tOp rAddI (tOp rMulI (tVar 6) (tOp rAddI (tOp rMulI (cI 2) (tVar 3)) (cI n))) (cI s4)) (cI 5)) (cI m3)) (gName 7))
      (tRet (tOp rModI (tOp rDivI (tVar 7) (cI 64)) (tVar 1))))
/-- (cell % m1 + s1 at + s2) ** 3 % m2, then (x + s3 at at + s4) ** 5 % m3, then (x * (2 at + n) + s5) % m4 // 32 -/
def mixA (m1 s1 s2 m2 s3 s4 m3 n s5 m4 : Int) : TS :=
  tSeq (tAsg (tOp rModI (tOp rPowI (tOp rAddI (tOp rAddI (tOp rModI (tVar 4) (cI m1)) (tOp rMulI (cI s1) (tVar 3))) (cI s2)) (cI 3)) (cI m2)) (gName 6))
    (tSeq (tAsg (tOp rModI (tOp rPowI (tOp rAddI (tOp rAddI (tVar 6) (tOp rMulI (tOp rMulI (cI s3) (tVar 3)) (tVar 3))) (cI s4)) (cI 5)) (cI m3)) (gName 6))
      (tRet (tOp rModI (tOp rDivI (tOp rModI (tOp rAddI (tOp rMulI (tVar 6) (tOp rAddI (tOp rMulI (cI 2) (tVar 3)) (cI n))) (cI s5)) (cI m4)) (cI 32)) (tVar 1))))
/-- (cell % m1 + s1 at + s2) ** 5 % m2, then (x * (2 at + n) + s3 at at + s4) ** 3 % m3 // 32 -/
def mixB (m1 s1 s2 m2 n s3 s4 m3 : Int) : TS :=
  tSeq (tAsg (tOp rModI (tOp rPowI (tOp rAddI (tOp rAddI (tOp rModI (tVar 4) (cI m1)) (tOp rMulI (cI s1) (tVar 3))) (cI s2)) (cI 5)) (cI m2)) (gName 6))
    (tSeq (tAsg (tOp rModI (tOp rPowI (tOp rAddI (tOp rAddI (tOp rMulI (tVar 6) (tOp rAddI (tOp rMulI (cI 2) (tVar 3)) (cI n))) (tOp rMulI (tOp rMulI (cI s3) (tVar 3)) (tVar 3))) (cI s4)) (cI 3)) (cI m3)) (gName 6))
      (tRet (tOp rModI (tOp rDivI (tVar 6) (cI 32)) (tVar 1))))
section
variable {D : Ends} {p : Addr} {u cell a : Int} {H : Hp} {x5 y6 y7 : Option V}
theorem mixP_ok {m1 s1 s2 s3 m2 n s4 m3 : Int} (b1 : 0 < m1 ∧ m1 ≤ 2 ^ 31) (c1 : 0 ≤ s1 ∧ s1 ≤ 100000) (c2 : 0 ≤ s2 ∧ s2 ≤ 100000) (c3 : 0 ≤ s3 ∧ s3 ≤ 100000) (b2 : 0 < m2 ∧ m2 ≤ 2 ^ 31) (cn : 0 ≤ n ∧ n ≤ 100000) (c4 : 0 ≤ s4 ∧ s4 ≤ 100000) (b3 : 0 < m3)
    (u0 : 0 < u) (a0 : 0 ≤ a) (a1 : a ≤ 100000) (q : ∀ r, 0 ≤ r → r < u → D.rt (.int r) H) : mixP m1 s1 s2 s3 m2 n s4 m3 D [some (.ref p), some (.int u), none, some (.int a), some (.int cell), x5, y6, y7] H := by
  have e1 := Int.emod_nonneg cell (show m1 ≠ 0 by omega)
  have e2 := Int.emod_lt_of_pos cell b1.1
  obtain ⟨e3, e4⟩ := sq_le c1.1 a0 a1
  have e5 : 0 ≤ s2 * a := Int.mul_nonneg c2.1 a0
  have e6 : s2 * a ≤ s2 * 100000 := Int.mul_le_mul_of_nonneg_left a1 c2.1
  have e7 : s1 * a ≤ s1 * 100000 := Int.mul_le_mul_of_nonneg_left a1 c1.1
  have e8 : 0 ≤ s1 * a := Int.mul_nonneg c1.1 a0
  refine ⟨.int cell, rfl, _, _, rfl, rfl, b1.1, .int a, rfl, s1, a, rfl, rfl, .inl (by omega), .int a, rfl, _, _, rfl, rfl, .inl (by omega), _, _, rfl, rfl, .int a, rfl, s2, a, rfl, rfl, .inl (by omega), _, _, rfl, rfl, _, _, rfl, rfl,
    _, _, rfl, rfl, ⟨by decide, by decide, by omega⟩, _, _, rfl, rfl, b2.1, ?_⟩
  generalize hx : (cell % m1 + s1 * a * a + s2 * a + s3) ^ (3 : Int).toNat = x
  have f1 := Int.emod_nonneg x (show m2 ≠ 0 by omega)
  have f2 := Int.emod_lt_of_pos x b2.1
  obtain ⟨g1, g2⟩ := mul_lt (f := x % m2) (g := 2 * a + n) (m := 2147483648) (n := 300000) f1 (by omega) (by omega) (by omega)
  refine ⟨_, rfl, .int a, rfl, 2, a, rfl, rfl, .inl (by decide), _, _, rfl, rfl, _, _, rfl, rfl, .inl (by omega), _, _, rfl, rfl, _, _, rfl, rfl, ⟨by decide, by decide, by omega⟩, _, _, rfl, rfl, b3, ?_⟩
  refine ⟨_, rfl, _, 64, rfl, rfl, ⟨by decide, by decide⟩, .int u, rfl, _, u, rfl, rfl, u0, q _ (Int.emod_nonneg _ (by omega)) (Int.emod_lt_of_pos _ u0)⟩
theorem mixA_ok {m1 s1 s2 m2 s3 s4 m3 n s5 m4 : Int} (b1 : 0 < m1 ∧ m1 ≤ 2 ^ 31) (c1 : 0 ≤ s1 ∧ s1 ≤ 100000) (c2 : 0 ≤ s2 ∧ s2 ≤ 100000) (b2 : 0 < m2 ∧ m2 ≤ 2 ^ 31) (c3 : 0 ≤ s3 ∧ s3 ≤ 100000) (c4 : 0 ≤ s4 ∧ s4 ≤ 100000) (b3 : 0 < m3 ∧ m3 ≤ 2 ^ 31) (cn : 0 ≤ n ∧ n ≤ 100000) (b4 : 0 < m4)
    (u0 : 0 < u) (a0 : 0 ≤ a) (a1 : a ≤ 100000) (q : ∀ r, 0 ≤ r → r < u → D.rt (.int r) H) : mixA m1 s1 s2 m2 s3 s4 m3 n s5 m4 D [some (.ref p), some (.int u), none, some (.int a), some (.int cell), x5, y6] H := by
  have e1 := Int.emod_nonneg cell (show m1 ≠ 0 by omega)
  have e2 := Int.emod_lt_of_pos cell b1.1
  have e5 : 0 ≤ s1 * a := Int.mul_nonneg c1.1 a0
  have e6 : s1 * a ≤ s1 * 100000 := Int.mul_le_mul_of_nonneg_left a1 c1.1
  obtain ⟨e3, e4⟩ := sq_le c3.1 a0 a1
  have e7 : s3 * a ≤ s3 * 100000 := Int.mul_le_mul_of_nonneg_left a1 c3.1
  have e8 : 0 ≤ s3 * a := Int.mul_nonneg c3.1 a0
  refine ⟨.int cell, rfl, _, _, rfl, rfl, b1.1, .int a, rfl, s1, a, rfl, rfl, .inl (by omega), _, _, rfl, rfl, _, _, rfl, rfl, _, _, rfl, rfl, ⟨by decide, by decide, by omega⟩, _, _, rfl, rfl, b2.1, ?_⟩
  generalize hx : (cell % m1 + s1 * a + s2) ^ (3 : Int).toNat = x
  have f1 := Int.emod_nonneg x (show m2 ≠ 0 by omega)
  have f2 := Int.emod_lt_of_pos x b2.1
  refine ⟨_, rfl, .int a, rfl, s3, a, rfl, rfl, .inl (by omega), .int a, rfl, _, _, rfl, rfl, .inl (by omega), _, _, rfl, rfl, _, _, rfl, rfl, _, _, rfl, rfl, ⟨by decide, by decide, by omega⟩, _, _, rfl, rfl, b3.1, ?_⟩
  generalize hy : (x % m2 + s3 * a * a + s4) ^ (5 : Int).toNat = y
  have g1 := Int.emod_nonneg y (show m3 ≠ 0 by omega)
  have g2 := Int.emod_lt_of_pos y b3.1
  refine ⟨_, rfl, .int a, rfl, 2, a, rfl, rfl, .inl (by decide), _, _, rfl, rfl, _, _, rfl, rfl, .inl (by omega), _, _, rfl, rfl, _, _, rfl, rfl, b4, _, 32, rfl, rfl, ⟨by decide, by decide⟩, .int u, rfl, _, u, rfl, rfl, u0, q _ (Int.emod_nonneg _ (by omega)) (Int.emod_lt_of_pos _ u0)⟩
theorem mixB_ok {m1 s1 s2 m2 n s3 s4 m3 : Int} (b1 : 0 < m1 ∧ m1 ≤ 2 ^ 31) (c1 : 0 ≤ s1 ∧ s1 ≤ 100000) (c2 : 0 ≤ s2 ∧ s2 ≤ 100000) (b2 : 0 < m2 ∧ m2 ≤ 2 ^ 31) (cn : 0 ≤ n ∧ n ≤ 100000) (c3 : 0 ≤ s3 ∧ s3 ≤ 100000) (c4 : 0 ≤ s4 ∧ s4 ≤ 100000) (b3 : 0 < m3)
    (u0 : 0 < u) (a0 : 0 ≤ a) (a1 : a ≤ 100000) (q : ∀ r, 0 ≤ r → r < u → D.rt (.int r) H) : mixB m1 s1 s2 m2 n s3 s4 m3 D [some (.ref p), some (.int u), none, some (.int a), some (.int cell), x5, y6] H := by
  have e1 := Int.emod_nonneg cell (show m1 ≠ 0 by omega)
  have e2 := Int.emod_lt_of_pos cell b1.1
  have e5 : 0 ≤ s1 * a := Int.mul_nonneg c1.1 a0
  have e6 : s1 * a ≤ s1 * 100000 := Int.mul_le_mul_of_nonneg_left a1 c1.1
  obtain ⟨e3, e4⟩ := sq_le c3.1 a0 a1
  have e7 : s3 * a ≤ s3 * 100000 := Int.mul_le_mul_of_nonneg_left a1 c3.1
  have e8 : 0 ≤ s3 * a := Int.mul_nonneg c3.1 a0
  refine ⟨.int cell, rfl, _, _, rfl, rfl, b1.1, .int a, rfl, s1, a, rfl, rfl, .inl (by omega), _, _, rfl, rfl, _, _, rfl, rfl, _, _, rfl, rfl, ⟨by decide, by decide, by omega⟩, _, _, rfl, rfl, b2.1, ?_⟩
  generalize hx : (cell % m1 + s1 * a + s2) ^ (5 : Int).toNat = x
  have f1 := Int.emod_nonneg x (show m2 ≠ 0 by omega)
  have f2 := Int.emod_lt_of_pos x b2.1
  obtain ⟨g1, g2⟩ := mul_lt (f := x % m2) (g := 2 * a + n) (m := 2147483648) (n := 300000) f1 (by omega) (by omega) (by omega)
  refine ⟨_, rfl, .int a, rfl, 2, a, rfl, rfl, .inl (by decide), _, _, rfl, rfl, _, _, rfl, rfl, .inl (by omega), .int a, rfl, s3, a, rfl, rfl, .inl (by omega), .int a, rfl, _, _, rfl, rfl, .inl (by omega), _, _, rfl, rfl, _, _, rfl, rfl, _, _, rfl, rfl, ⟨by decide, by decide, by omega⟩, _, _, rfl, rfl, b3, ?_⟩
  refine ⟨_, rfl, _, 32, rfl, rfl, ⟨by decide, by decide⟩, .int u, rfl, _, u, rfl, rfl, u0, q _ (Int.emod_nonneg _ (by omega)) (Int.emod_lt_of_pos _ u0)⟩
end
end VK
namespace VK
open PySem PySem.Spec PyProof.Rows L2
open C8 (Cal pe_c pe_gc)
theorem at_in {α : Type} {xs : List α} {i : Int} (h0 : 0 ≤ i) (h1 : i < xs.length) : ∃ v, atI xs i = some v ∧ v ∈ xs := by
  have hj : i.toNat < xs.length := by omega
  refine ⟨xs[i.toNat], ?_, List.getElem_mem hj⟩
  have e : i = ((i.toNat : Nat) : Int) := by omega
  have h2 := atI_nat (xs := xs) (j := i.toNat) (List.getElem?_eq_getElem hj)
  rw [← e] at h2
  exact h2
/-- None, or a number from 0 on -/
def nnv (v : V) : Prop := v = .non ∨ ∃ k : Int, v = .int k ∧ 0 ≤ k
/-- a field's content, in a heap of this many objects -/
def okc (size : Int) (d : PyData) : Prop := d = .none ∨ ∃ k : Int, d = .int k ∧ 0 ≤ k ∧ k < size
/-- rows of fields -/
def okRows (wide size : Int) (rows : List PyData) : Prop := ∀ r ∈ rows, ∃ cs : List PyData, r = .tuple cs ∧ (cs.length : Int) = wide ∧ ∀ d ∈ cs, okc size d
/-- at a, in F, a heap of the laws' own making: its width, its objects -/
def PileAt (K : PySem.W.Frag) (F : Hp) (a : Addr) (wide : Int) (rows : List PyData) : Prop :=
  ∃ (o : Addr) (refs : List V), F a = some (.tup [.int wide, .ref o]) ∧ F o = some (.tup refs) ∧ DaAll K F refs rows ∧ 1 ≤ wide ∧ wide ≤ 4 ∧ okRows wide rows.length rows
theorem PileAt.mono {K : PySem.W.Frag} {F F' : Hp} {a : Addr} {wide : Int} {rows : List PyData} (s : Same F F') (h : PileAt K F a wide rows) : PileAt K F' a wide rows := by
  obtain ⟨o, refs, h1, h2, h3, h4⟩ := h
  exact ⟨o, refs, s _ _ h1, s _ _ h2, h3.mono s, h4⟩
theorem PileAt.da {K : PySem.W.Frag} {F : Hp} {a : Addr} {wide : Int} {rows : List PyData} (h : PileAt K F a wide rows) : Da K F (.ref a) (.tuple [.int wide, .tuple rows]) := by
  obtain ⟨o, refs, h1, h2, h3, h4⟩ := h
  exact .tup (.inl (.inl h1)) (.cons (.int _) (.cons (.tup (.inl (.inl h2)) h3) .nil))
/-- a pile is drawn -/
def sp_pile : PySem.W.Frag → Sp := fun K vs H Q _ => ∃ (p c wd : Addr) (n : Nat) (most : Int) (ws : List Int), vs = [.ref p, .int most, .ref wd] ∧ Pen H p c n ∧ n + 1000 ≤ 100000 ∧ 0 ≤ most ∧ most ≤ 40 ∧
  H wd = some (.lst (ws.map V.int)) ∧ wd ≠ p ∧ 0 < ws.length ∧ ws.length ≤ 100 ∧ (∀ x ∈ ws, 1 ≤ x ∧ x ≤ 4) ∧
  ∀ a H' wide rows, Off p H H' → Pen H' p c (n + 1000) → PileAt K (cut p H') a wide rows → wide ∈ ws → (rows.length : Int) ≤ most → Q (.ref a) H'
theorem same_cut {p : Addr} {F H : Hp} (s : Same F H) (h : F p = none) : Same F (cut p H) := fun b o e => by
  rw [cut_ne (ne_of_none e h)]
  exact s b o e
end VK
namespace VK
open PySem PySem.Spec PyProof.Rows L2
open C8 (Cal pe_c pe_gc)
/-! ### how long what is shown may be -/
theorem ofS_len (s : String) : (Str.ofString s).length = s.length := by
  rw [Str.ofString_eq_toList]
  show ((s.toList.map Char.toNat).toArray).size = s.length
  rw [List.size_toArray, List.length_map, String.length_toList]
/-- every sign is one that a repr can write shortly -/
def Cd (x : Str) : Prop := ∀ c ∈ x.cps.toList, c < 16 ^ 8
theorem cd_ofS (s : String) : Cd (Str.ofString s) := by
  intro c hc
  rw [Str.ofString_eq_toList] at hc
  have hc' : c ∈ s.toList.map Char.toNat := by simpa using hc
  obtain ⟨ch, _, rfl⟩ := List.mem_map.mp hc'
  have h := ch.valid
  have h2 : ch.toNat < 1114112 := by
    rcases h with h | ⟨_, h⟩
    · exact Nat.lt_trans h (by decide)
    · exact h
  exact Nat.lt_trans h2 (by decide)
theorem cd_app {x y : Str} (hx : Cd x) (hy : Cd y) : Cd (x ++ y) := by
  intro c hc
  have hc' : c ∈ x.cps.toList ++ y.cps.toList := by
    have e : (x ++ y).cps.toList = x.cps.toList ++ y.cps.toList := by
      show (x.cps ++ y.cps).toList = _
      rw [Array.toList_append]
    rw [e] at hc
    exact hc
  rcases List.mem_append.mp hc' with h | h
  · exact hx c h
  · exact hy c h
theorem cd_join {sep : Str} (hs : Cd sep) : ∀ ts : List Str, (∀ t ∈ ts, Cd t) → Cd (Str.join sep ts)
  | [], _ => fun c hc => by cases hc
  | [x], h => h x (List.mem_singleton.mpr rfl)
  | x :: y :: r, h => cd_app (cd_app (h x List.mem_cons_self) hs) (cd_join hs (y :: r) fun t ht => h t (List.mem_cons_of_mem _ ht))
theorem cd_tuple (ts : List Str) (h : ∀ t ∈ ts, Cd t) : Cd (tupleText ts) := by
  unfold tupleText
  refine cd_app (cd_app (cd_ofS _) (cd_join (cd_ofS _) ts h)) ?_
  split <;> exact cd_ofS _
theorem piled_le {m : Nat} : ∀ ts : List Str, (∀ t ∈ ts, t.length ≤ m) → piled ts ≤ ts.length * (m + 2)
  | [], _ => by simp [piled]
  | t :: r, h => by
    have h1 := h t List.mem_cons_self
    have ih := piled_le r fun x hx => h x (List.mem_cons_of_mem _ hx)
    rw [piled_cons, List.length_cons, Nat.succ_mul]
    omega
theorem tuple_len (ts : List Str) : (tupleText ts).length ≤ piled ts + 3 := by
  have e : (tupleText ts).length = 1 + (Str.join ", " ts).length + (if ts.length == 1 then ",)" else ")" : String).length := by
    unfold tupleText
    rw [strLen_append, strLen_append]
    congr 1
    split <;> rfl
  rw [e]
  have e2 : (if ts.length == 1 then ",)" else ")" : String).length ≤ 2 := by split <;> decide
  by_cases h : ts = []
  · subst h
    have : (Str.join ", " []).length = 0 := rfl
    omega
  · have := join_length_add ts h
    omega
theorem from_len : ∀ (ts : List Str) (k : Nat) (acc : Str), (textFrom k acc ts).length ≤ acc.length + piled ts
  | [], k, acc => by show acc.length ≤ _; omega
  | t :: r, k, acc => by
    have ih := from_len r (k + 1) (acc ++ (if k > 0 then ", " else "" : String) ++ t)
    have e : (acc ++ (if k > 0 then ", " else "" : String) ++ t).length ≤ acc.length + 2 + t.length := by
      rw [strLen_append, strLen_append]
      split
      · show acc.length + 2 + t.length ≤ _
        omega
      · show acc.length + 0 + t.length ≤ _
        omega
    rw [piled_cons]
    show (textFrom (k + 1) (acc ++ (if k > 0 then ", " else "" : String) ++ t) r).length ≤ _
    omega
theorem list_len (ts : List Str) : (listText ts).length ≤ piled ts + 2 := by
  have h := from_len ts 0 "["
  unfold listText
  rw [strLen_append]
  have e1 : ((("[" : String) : Str)).length = 1 := rfl
  have e2 : ((("]" : String) : Str)).length = 1 := rfl
  omega
theorem shownAll_map : ∀ ds : List PyData, PyData.shownAll ds = ds.map PyData.shown
  | [] => by simp [PyData.shownAll]
  | d :: r => by simp [PyData.shownAll, shownAll_map r]
theorem showableAll_all : ∀ {ds : List PyData}, (∀ d ∈ ds, d.showable = true) → PyData.showableAll ds = true
  | [], _ => by simp [PyData.showableAll]
  | d :: r, h => by
    simp only [PyData.showableAll, Bool.and_eq_true]
    exact ⟨h d List.mem_cons_self, showableAll_all fun e he => h e (List.mem_cons_of_mem _ he)⟩
theorem depthAll_le {m : Nat} : ∀ {ds : List PyData}, (∀ d ∈ ds, d.depth ≤ m) → PyData.depthAll ds ≤ m
  | [], _ => by simp [PyData.depthAll]
  | d :: r, h => by
    simp only [PyData.depthAll]
    exact Nat.max_le.mpr ⟨h d List.mem_cons_self, depthAll_le fun e he => h e (List.mem_cons_of_mem _ he)⟩
theorem hasDictAll_false : ∀ {ds : List PyData}, (∀ d ∈ ds, d.hasDict = false) → PyData.hasDictAll ds = false
  | [], _ => by simp [PyData.hasDictAll]
  | d :: r, h => by
    simp only [PyData.hasDictAll, Bool.or_eq_false_iff]
    exact ⟨h d List.mem_cons_self, hasDictAll_false fun e he => h e (List.mem_cons_of_mem _ he)⟩
theorem noLs_all : ∀ {ds : List PyData}, (∀ d ∈ ds, noL d = true) → noLs ds = true
  | [], _ => by simp [noLs]
  | d :: r, h => by
    simp only [noLs, Bool.and_eq_true]
    exact ⟨h d List.mem_cons_self, noLs_all fun e he => h e (List.mem_cons_of_mem _ he)⟩
/-- bounds: depth k, length m -/
structure Bd (k m : Nat) (d : PyData) : Prop where
  sh : d.showable = true
  dp : d.depth ≤ k
  sz : d.shown.length ≤ m
theorem Bd.le {k m k' m' : Nat} {d : PyData} (h : Bd k m d) (hk : k ≤ k') (hm : m ≤ m') : Bd k' m' d := ⟨h.sh, Nat.le_trans h.dp hk, Nat.le_trans h.sz hm⟩
theorem bd_none : Bd 0 4 .none := ⟨rfl, Nat.le_refl _, by decide⟩
theorem bd_bool (b : Bool) : Bd 0 5 (.bool b) := ⟨rfl, Nat.le_refl _, by cases b <;> decide⟩
theorem bd_int {i : Int} (h : i.natAbs < 10 ^ 60) : Bd 0 61 (.int i) := by
  refine ⟨decide_eq_true ?_, Nat.le_refl _, ?_⟩
  · by_cases h0 : i.natAbs = 0
    · rw [h0]
      decide
    · rw [Nat.log2_lt h0]
      exact Nat.lt_trans h (by decide)
  · show (Str.ofString (toString i)).length ≤ 61
    rw [ofS_len]
    exact int_text_length_le10 (by decide) h
theorem bd_tup {k m : Nat} {ds : List PyData} (h : ∀ d ∈ ds, Bd k m d) : Bd (k + 1) (ds.length * (m + 2) + 3) (.tuple ds) := by
  refine ⟨?_, ?_, ?_⟩
  · simp only [PyData.showable]
    exact showableAll_all fun d hd => (h d hd).sh
  · simp only [PyData.depth]
    exact Nat.succ_le_succ (depthAll_le fun d hd => (h d hd).dp)
  · simp only [PyData.shown, shownAll_map]
    refine Nat.le_trans (tuple_len _) (Nat.add_le_add_right ?_ 3)
    have := piled_le (m := m) (ds.map PyData.shown) fun t ht => by
      obtain ⟨d, hd, rfl⟩ := List.mem_map.mp ht
      exact (h d hd).sz
    rw [List.length_map] at this
    exact this
theorem bd_lst {k m : Nat} {ds : List PyData} (h : ∀ d ∈ ds, Bd k m d) : Bd (k + 1) (ds.length * (m + 2) + 2) (.list ds) := by
  refine ⟨?_, ?_, ?_⟩
  · simp only [PyData.showable]
    exact showableAll_all fun d hd => (h d hd).sh
  · simp only [PyData.depth]
    exact Nat.succ_le_succ (depthAll_le fun d hd => (h d hd).dp)
  · simp only [PyData.shown, shownAll_map]
    refine Nat.le_trans (list_len _) (Nat.add_le_add_right ?_ 2)
    have := piled_le (m := m) (ds.map PyData.shown) fun t ht => by
      obtain ⟨d, hd, rfl⟩ := List.mem_map.mp ht
      exact (h d hd).sz
    rw [List.length_map] at this
    exact this
theorem bd_str {x : Str} {m : Nat} (h : Cd x) (hl : x.length ≤ m) : Bd 0 (10 * m + 2) (.str x) := by
  refine ⟨rfl, Nat.le_refl _, ?_⟩
  simp only [PyData.shown]
  have := StrLaws.reprText_len x h
  omega
theorem bd_emp : Bd 1 2 (.dict []) := ⟨rfl, by decide, by decide⟩
/-- no dict, no list -/
structure Pl (d : PyData) : Prop where
  nd : d.hasDict = false
  nl : noL d = true
theorem pl_none : Pl .none := ⟨rfl, rfl⟩
theorem pl_bool (b : Bool) : Pl (.bool b) := ⟨rfl, rfl⟩
theorem pl_int (i : Int) : Pl (.int i) := ⟨rfl, rfl⟩
theorem pl_str (x : Str) : Pl (.str x) := ⟨rfl, rfl⟩
theorem pl_tup {ds : List PyData} (h : ∀ d ∈ ds, Pl d) : Pl (.tuple ds) := ⟨by simp only [PyData.hasDict]; exact hasDictAll_false fun d hd => (h d hd).nd, by simp only [noL]; exact noLs_all fun d hd => (h d hd).nl⟩
/-- a dict only where no list stands -/
def Dl (d : PyData) : Prop := d.hasDict = true → noL d = true
theorem Pl.dl {d : PyData} (h : Pl d) : Dl d := fun _ => h.nl
theorem dl_pair {a b : PyData} (ha : Pl a) (hb : Dl b) : Dl (.tuple [a, b]) := by
  intro h
  simp only [PyData.hasDict, PyData.hasDictAll, ha.nd, Bool.false_or, Bool.or_false] at h
  simp only [noL, noLs, ha.nl, hb h, Bool.and_self]
theorem Bd.sho {k m : Nat} {d : PyData} (h : Bd k m d) (hk : k ≤ 60) (hm : m ≤ 16777216) (hd : Dl d) : Sho d := ⟨h.sh, Nat.le_trans h.dp hk, Nat.le_trans h.sz (by rw [sizeLine_eq]; exact hm), hd⟩
theorem sho_bool (b : Bool) : Sho (.bool b) := (bd_bool b).sho (by decide) (by decide) (pl_bool b).dl
/-- the numbers of a pile -/
theorem bd_okc {z : Int} (hz : z ≤ 1000) {d : PyData} (h : okc z d) : Bd 0 61 d ∧ Pl d := by
  rcases h with rfl | ⟨k, rfl, k0, k1⟩
  · exact ⟨bd_none.le (Nat.le_refl _) (by decide), pl_none⟩
  · refine ⟨bd_int ?_, pl_int k⟩
    exact Nat.lt_of_lt_of_le (m := 1000) (by omega) (by decide)
theorem bd_pile {wide : Int} {rows : List PyData} (hw : 0 ≤ wide ∧ wide ≤ 10) (hz : rows.length ≤ 50) (h : okRows wide rows.length rows) : Bd 3 80000 (.tuple [.int wide, .tuple rows]) ∧ Pl (.tuple [.int wide, .tuple rows]) := by
  have hr : ∀ d ∈ rows, Bd 1 700 d ∧ Pl d := by
    intro d hd
    obtain ⟨cs, rfl, hl, hc⟩ := h d hd
    refine ⟨(bd_tup (k := 0) (m := 61) fun e he => (bd_okc (by omega) (hc e he)).1).le (Nat.le_refl _) ?_, pl_tup fun e he => (bd_okc (z := rows.length) (by omega) (hc e he)).2⟩
    have : cs.length ≤ 10 := by omega
    have := Nat.mul_le_mul_right 63 this
    omega
  have hb : Bd 2 36000 (.tuple rows) := (bd_tup fun d hd => (hr d hd).1).le (Nat.le_refl _) (by
    have := Nat.mul_le_mul_right 702 hz
    omega)
  have hi : Bd 0 61 (.int wide) := bd_int (Nat.lt_of_lt_of_le (m := 100) (by omega) (by decide))
  constructor
  · refine (bd_tup (k := 2) (m := 36000) (ds := [.int wide, .tuple rows]) ?_).le (Nat.le_refl _) ?_
    · intro d hd
      simp only [List.mem_cons, List.not_mem_nil, or_false] at hd
      rcases hd with e | e <;> rw [e]
      · exact hi.le (by decide) (by decide)
      · exact hb
    · show 2 * (36000 + 2) + 3 ≤ 80000
      decide
  · refine pl_tup ?_
    intro d hd
    simp only [List.mem_cons, List.not_mem_nil, or_false] at hd
    rcases hd with e | e <;> rw [e]
    · exact pl_int _
    · exact pl_tup fun d hd => (hr d hd).2
end VK
namespace VK
open PySem PySem.Spec PyProof.Rows L2
open C8 (Cal pe_c pe_gc)
/-! ### tuples cut and joined, wherever the result stands: it is an operand itself, or new -/
def rSlW (K : PySem.W.Frag) : V → Option Int → Option Int → Hp → VK → Prop := fun x lo hi H Q => ∃ a xs, x = .ref a ∧ SqT K H a xs ∧
  ∀ a' H', Same H H' → ((a' = a ∧ cutV xs lo hi = xs) ∨ (H a' = none ∧ H' a' = some (.tup (cutV xs lo hi)))) → Q (.ref a') H'
theorem cut_whole {xs : List V} {lo hi : Option Int} (h : HT.sIx xs.length 0 lo = 0 ∧ HT.sIx xs.length xs.length hi = xs.length) : cutV xs lo hi = xs := by
  unfold cutV
  rw [h.1, h.2, List.drop_zero, Nat.sub_zero, List.take_of_length_le (Nat.le_refl _)]
theorem sl_tupT {X : Cx} : SlR X (rSlW X.K) := fun pins s σ H x v vl vu lo hi sl Q I rx hs pl pu h => by
  obtain ⟨a, xs, e, ha, q⟩ := h
  exact sl_tupA pins s σ H x v vl vu lo hi sl Q I rx hs pl pu ⟨a, xs, e, ha, fun hw => q a H (Same.refl H) (.inl ⟨rfl, cut_whole hw⟩), fun _ p np => q p _ (same_new np) (.inr ⟨np, upd_same⟩)⟩
def rCatW (K : PySem.W.Frag) : R2 := fun x y H Q => ∃ a b xs ys, x = .ref a ∧ y = .ref b ∧ SqT K H a xs ∧ SqT K H b ys ∧ xs.length + ys.length ≤ sizeLine ∧
  ∀ a' H', Same H H' → ((a' = a ∧ xs ++ ys = xs) ∨ (a' = b ∧ xs ++ ys = ys) ∨ (H a' = none ∧ H' a' = some (.tup (xs ++ ys)))) → Q (.ref a') H'
theorem op_catT2 {X : Cx} : OpR X (binaryOp .Add) (rCatW X.K) := fun pins s σ H x y v u Q I rx ry h => by
  obtain ⟨a, b, xs, ys, e1, e2, ha, hb, hz, q⟩ := h
  refine op_catA pins s σ H x y v u Q I rx ry ⟨a, b, xs, ys, e1, e2, ha, hb, hz, fun z => q b H (Same.refl H) (.inr (.inl ⟨rfl, ?_⟩)), fun _ z => q a H (Same.refl H) (.inl ⟨rfl, ?_⟩), fun _ _ p np => q p _ (same_new np) (.inr (.inr ⟨np, upd_same⟩))⟩
  · rw [z, List.nil_append]
  · rw [z, List.append_nil]
theorem cut_take (xs : List V) (k : Nat) : cutV xs none (some (k : Int)) = xs.take k := by
  unfold cutV
  rw [HT.sIx_none, HT.sIx_nat, List.drop_zero, Nat.sub_zero]
  by_cases h : k ≤ xs.length
  · rw [Nat.min_eq_left h]
  · rw [Nat.min_eq_right (by omega), List.take_of_length_le (Nat.le_refl _), List.take_of_length_le (by omega)]
theorem cut_drop (xs : List V) (k : Nat) : cutV xs (some (k : Int)) none = xs.drop k := by
  unfold cutV
  rw [HT.sIx_none, HT.sIx_nat]
  by_cases h : k ≤ xs.length
  · rw [Nat.min_eq_left h, List.take_of_length_le (by rw [List.length_drop]; exact Nat.le_refl _)]
  · rw [Nat.min_eq_right (by omega), List.drop_of_length_le (Nat.le_refl _), List.drop_of_length_le (by omega)]
    exact List.take_nil
theorem sqT_cut {K : PySem.W.Frag} {H : Hp} {p a : Addr} {xs ys : List V} (hp : H p = some (.lst ys)) (h : SqT K H a xs) : SqT K (cut p H) a xs := by
  have ne : ∀ u, H a = some u → (∀ zs, u ≠ .lst zs) → a ≠ p := fun u hu hn e => by
    rw [e, hp] at hu
    cases hu
    exact hn _ rfl
  rcases h with (h | ⟨o, h⟩) | h
  · exact .inl (.inl (by rw [cut_ne (ne _ h fun zs z => by cases z)]; exact h))
  · exact .inl (.inr ⟨o, by rw [cut_ne (ne _ h fun zs z => by cases z)]; exact h⟩)
  · exact .inr h
theorem Off.cut {p : Addr} {H H' : Hp} (h : Off p H H') : Same (cut p H) (cut p H') := fun b o e => by
  by_cases z : b = p
  · rw [z, cut_at] at e
    cases e
  · rw [cut_ne z] at e ⊢
    exact h b o z e
theorem Pen.lst {H : Hp} {p c : Addr} {n : Nat} (h : Pen H p c n) : ∃ xs, H p = Option.some (.lst xs) := by
  obtain ⟨cells, a, r, h1, _⟩ := h
  exact ⟨_, h1⟩
theorem dl_tup {cs : List PyData} {od : PyData} (h : ∀ x ∈ cs, Pl x ∨ x = od) (ho : Dl od) : Dl (.tuple cs) := by
  intro hd
  simp only [PyData.hasDict] at hd
  cases e : od.hasDict with
  | false =>
    have := hasDictAll_false (ds := cs) fun d hd => (h d hd).elim (fun z => z.nd) fun z => by rw [z]; exact e
    rw [this] at hd
    cases hd
  | true =>
    simp only [noL]
    exact noLs_all fun d hd => (h d hd).elim (fun z => z.nl) fun z => by rw [z]; exact ho e
/-- an item that a law asks a def about: a repr can be made of it -/
def Ite (d : PyData) : Prop := Bd 4 30000 d ∧ Dl d
theorem Pl.ite {d : PyData} {k m : Nat} (h : Pl d) (b : Bd k m d) (hk : k ≤ 4) (hm : m ≤ 30000) : Ite d := ⟨b.le hk hm, h.dl⟩
/-! ### a frame that grows by what is new since H -/
def fr (F H H' : Hp) : Hp := fun b => match F b with
  | some o => some o
  | none => if H b = none then H' b else none
section
variable {F H H' : Hp} {p b : Addr} {o : HO}
theorem fr_old (h : F b = some o) : fr F H H' b = some o := by
  unfold fr
  rw [h]
theorem fr_new (hf : F b = none) (h : H b = none) : fr F H H' b = H' b := by
  unfold fr
  rw [hf]
  exact if_pos h
theorem fr_off (hf : F b = none) (h : H b = some o) : fr F H H' b = none := by
  unfold fr
  rw [hf]
  exact if_neg (by rw [h]; intro z; cases z)
theorem fr_ext : Same F (fr F H H') := fun _ _ h => fr_old h
theorem fr_same (s : Same F H) (hp : F p = none) (o : Off p H H') (hpH : ∃ u, H p = some u) : Same (fr F H H') H' := fun b u e => by
  cases hf : F b with
  | some v =>
    rw [fr_old hf] at e
    cases e
    exact o b _ (ne_of_none hf hp) (s b _ hf)
  | none =>
    cases hh : H b with
    | some v =>
      rw [fr_off hf hh] at e
      cases e
    | none =>
      rw [fr_new hf hh] at e
      exact e
/-- what was laid since H and still stands -/
theorem fr_at (s : Same F H) (h : H b = none) (h' : H' b = some o) : fr F H H' b = some o := by
  rw [fr_new (s.free h) h]
  exact h'
end
/-- a tuple: the given one at a, or a new one since H -/
def NT (p a : Addr) (ts : List V) (H Hj : Hp) (a' : Addr) (ys : List V) : Prop := (a' = a ∧ ys = ts) ∨ (H a' = none ∧ a' ≠ p ∧ Hj a' = some (.tup ys))
section
variable {K : PySem.W.Frag} {F H Hj Hk : Hp} {p a a0 a1 a' : Addr} {ts xs ys zs : List V}
theorem NT.mono (h : NT p a ts H Hj a' ys) (o : Off p Hj Hk) : NT p a ts H Hk a' ys := by
  rcases h with h | ⟨h1, h2, h3⟩
  · exact .inl h
  · exact .inr ⟨h1, h2, o _ _ h2 h3⟩
theorem NT.sq (h : NT p a ts H Hj a' ys) (hA : SqT K Hj a ts) : SqT K Hj a' ys := by
  rcases h with ⟨e1, e2⟩ | ⟨h1, h2, h3⟩
  · rw [e1, e2]
    exact hA
  · exact .inl (.inl h3)
theorem NT.new (oj : Off p H Hj) (hp : ∃ u, Hj p = some u) (h1 : Hj a' = none) (h2 : Hk a' = some (.tup ys)) : NT p a ts H Hk a' ys := by
  obtain ⟨u, hu⟩ := hp
  have ne : a' ≠ p := (ne_of_none hu h1).symm
  exact .inr ⟨oj.free h1 ne, ne, h2⟩
theorem NT.sl (h : NT p a ts H Hj a0 xs) (oj : Off p H Hj) (hp : ∃ u, Hj p = some u) (s : Same Hj Hk) (r : (a' = a0 ∧ ys = xs) ∨ (Hj a' = none ∧ Hk a' = some (.tup ys))) : NT p a ts H Hk a' ys := by
  rcases r with ⟨e1, e2⟩ | ⟨h1, h2⟩
  · rw [e1, e2]
    exact h.mono (Off.of s)
  · exact .new oj hp h1 h2
theorem NT.cat (h0 : NT p a ts H Hj a0 xs) (h1 : NT p a ts H Hj a1 ys) (oj : Off p H Hj) (hp : ∃ u, Hj p = some u) (s : Same Hj Hk) (r : (a' = a0 ∧ zs = xs) ∨ (a' = a1 ∧ zs = ys) ∨ (Hj a' = none ∧ Hk a' = some (.tup zs))) : NT p a ts H Hk a' zs := by
  rcases r with ⟨e1, e2⟩ | ⟨e1, e2⟩ | ⟨h2, h3⟩
  · rw [e1, e2]
    exact h0.mono (Off.of s)
  · rw [e1, e2]
    exact h1.mono (Off.of s)
  · exact .new oj hp h2 h3
theorem NT.da {es : List PyData} (h : NT p a ts H Hk a' ys) (s : Same F H) (ha : F a = some (.tup ts)) (hd : DaAll K (fr F H Hk) ys es) : Da K (fr F H Hk) (.ref a') (.tuple es) := by
  rcases h with ⟨e1, e2⟩ | ⟨h1, h2, h3⟩
  · rw [e1]
    rw [e2] at hd
    exact .tup (.inl (.inl (fr_old ha))) hd
  · exact .tup (.inl (.inl (fr_at s h1 h3))) hd
end
end VK
namespace VK
open PySem PySem.Spec PyProof.Rows L2
open C8 (Cal pe_c pe_gc)
/-! ### a def that is called by position and by keywords alone -/
structure Fok (P : Program) (w : World) (K : PySem.W.Frag) (mg : Str → Option Value) (base : Heap) (k : Nat) (x : Str) (st : Stmt) (ps : List Str) (sp : Sp) : Prop where
  ex : ∃ (f : Addr) (fd : FuncData), Fun K x x st f fd ∧ mg x = some (.ref f) ∧ FnOk P w K mg base CX0 k f fd ps sp
structure CalK (P : Program) (w : World) (K : PySem.W.Frag) (mg : Str → Option Value) (base : Heap) (k : Nat) (x : Str) (sp : Sp) (ks : List Str) (gV : List V → List V → List V) : Prop where
  ex : ∃ (f : Addr) (fd : FuncData) (ps : List Str) (g : List Value → List Value → List Value), FnOk P w K mg base CX0 k f fd ps sp ∧ mg x = some (.ref f) ∧ PySem.W.keepIn K (.ref f) = true ∧ KBn K fd ps 0 ks g gV
section
variable {P : Program} {w : World} {K : PySem.W.Frag} {mg : Str → Option Value} {base : Heap} {x : Str} {st : Stmt} {N ps ks : List Str} {k : Nat} {sp : Sp}
theorem Df.fok (D : Df K mg x st) (S : FnScope N ps (defScope st)) (len : ∀ vs H Q E, sp vs H Q E → vs.length = ps.length)
    (hbody : ∀ (f : Addr) (cdv : Value) (A : Around) (outer : List Env) (s : Shared) (H : Hp) (vs : List V) (Q : VK) (E : XK), Room k (A.deeper (envOfC x (defScope st) s.heap.objs.size f cdv)) → sp vs H Q E →
      ∃ t, PSs (cxOf CX0 P w K mg base N x (defScope st) f cdv A outer s H E).nox (defBody st) t ∧ t { nx := fun _ H' => Q .non H', rt := Q } (start N vs) H) : Fok P w K mg base (k + 1) x st ps sp := by
  obtain ⟨f, fd, F, hm⟩ := D.ex
  exact ⟨f, fd, F, hm, F.ok S len (hbody f)⟩
theorem Fok.cal (D : Fok P w K mg base k x st ps sp)
    (hb : ∀ (kV doc pm : Value) (an : Option Addr) (cdv ct : Value) (us : List Value), us.length = ps.length → bindArgs (PySem.W.fnOf x x (defArgs st) (defBody st) (defScope st) .none kV doc pm an cdv ct) ⟨us, []⟩ = pure (ps.zip us)) : Cal P w K mg base k x sp [] := by
  obtain ⟨f, fd, F, hm, G⟩ := D.ex
  exact ⟨f, fd, ps, [], G, hm, F.kp, F.binds hb, .nil⟩
theorem Fok.calK {g : List Value → List Value → List Value} {gV : List V → List V → List V} (D : Fok P w K mg base k x st ps sp)
    (hb : ∀ (kV doc pm : Value) (an : Option Addr) (cdv ct : Value) (ws : List Value), ws.length = ks.length → bindArgs (PySem.W.fnOf x x (defArgs st) (defBody st) (defScope st) .none kV doc pm an cdv ct) ⟨[], ks.zip ws⟩ = pure (ps.zip (g [] ws)))
    (hr : ∀ {vs : List V} {us : List Value} {zs : List V} {ws : List Value}, Vals vs us → Vals zs ws → Vals (gV vs zs) (g us ws)) : CalK P w K mg base k x sp ks gV := by
  obtain ⟨f, fd, F, hm, G⟩ := D.ex
  obtain ⟨oc, od, kV, doc, pm, an, cdv, ct, osl, e, lk, hcd⟩ := F.ex
  subst e
  refine ⟨f, _, ps, g, G, hm, F.kp, ⟨fun s us ws X l1 l2 => ?_, hr⟩⟩
  cases us with
  | nil => exact .of_eq (hb kV doc pm an cdv ct ws l2)
  | cons u us => cases l1
variable {X : Cx} {j : Nat} {p pos : Pos} {kws : List Keyword} {tk : TA} {gV : List V → List V → List V}
def tCallKw (m : Nat) (sp : Sp) (gV : List V → List V → List V) (tk : TA) : TE := fun σ H Q => tk σ H fun zs H2 => zs.length = m ∧ sp (gV [] zs) H2 Q E0
/-- f(k = v, ..) -/
theorem pe_cKw (c : CalK X.prog X.w X.K X.mg X.base k x sp ks gV) (hr : Room j X.A) (hk : k ≤ j) (hg : Gl X x) (hkw : PK X kws tk)
    (hall : (backToKw pos (keywordEach kws X.env)).all (·.1.isSome) = true := by rfl) (hks : (backToKw pos (keywordEach kws X.env)).filterMap (·.1) = ks := by rfl) (hdb : (x == ("__debug__" : Str)) = false := by decide)
    (hpl : ((backTo pos (starEach [] X.env)).any (·.1) || (backToKw pos (keywordEach kws X.env)).any (·.1.isNone)) = false := by rfl) : PE X (.Call (.Name x p) [] kws pos) (tCallKw ks.length sp gV tk) := by
  obtain ⟨f, fd, ps, g, F, hm, kp, hb⟩ := c.ex
  constructor
  intro pins s σ H Q I h
  refine wpAny_Call_Name_kw (ld_glob I hg hm ?_ hdb)
  refine PySem.W.callWith_KW0 (h₀ := X.base) I.ok.mod.kin kp hall (thn (hkw.run pos pins s σ H _ I h) ?_) hpl
  rintro ws s2 ⟨zs, H2, I2, rz, l2, q2⟩
  refine ⟨I2.kIn, ?_⟩
  rw [hks]
  exact run_fnN (us := []) (vs := []) F (hr.mono hk) hb pass0 I2 .nil rz rfl l2 q2
end
/-! ### the end -/
theorem df_mk {K : PySem.W.Frag} {h : Heap} {mg : Str → Option Value} (X : K.In h) (G : h.Ns mainGlobals mg) {x : Str} {st : Stmt} {f : Addr} {oc : Value} {od an : Option Addr} {osl : Array (Option Value)} {kV doc pm cdv ct : Value}
    (a : PySem.W.nsIn K mainGlobals x = some (some (.ref f))) (l : K.lookup f = some ⟨oc, od, .func (PySem.W.fnOf x x (defArgs st) (defBody st) (defScope st) .none kV doc pm an cdv ct), osl⟩) (c : PySem.W.codeIn K cdv x = true) (k : PySem.W.keepIn K (.ref f) = true) : Df K mg x st :=
  ⟨f, _, fun_mk l c k, PySem.W.mg_of X G a⟩
/-- what the law's end wants of its def -/
theorem law_end {P : Program} {w : World} {K : PySem.W.Frag} {mg : Str → Option Value} {st : Stmt} {k : Nat} {sp : Sp} {fa : Addr} {x : Str} (D : Df K mg "law" st) (hfa : mg "law" = some (.ref fa))
    (hb : ∀ (kV doc pm : Value) (an : Option Addr) (cdv ct u : Value), bindArgs (PySem.W.fnOf "law" "law" (defArgs st) (defBody st) (defScope st) .none kV doc pm an cdv ct) ⟨[u], []⟩ = pure [(x, u)])
    (F : ∀ (f : Addr) (fd : FuncData), Fun K "law" "law" st f fd → ∀ base : Heap, K.In base → base.Ns mainGlobals mg → FnG P w K mg base k f fd [x] sp) :
    ∃ fd : FuncData, (∀ (s : Shared) (u : Value), BindsTo s fd ⟨[u], []⟩ [(x, u)]) ∧ ∀ base : Heap, K.In base → base.Ns mainGlobals mg → FnG P w K mg base k fa fd [x] sp := by
  obtain ⟨f, fd, hF, hm⟩ := D.ex
  rw [hfa] at hm
  cases hm
  refine ⟨fd, ?_, F fa fd hF⟩
  obtain ⟨oc, od, kV, doc, pm, an, cdv, ct, osl, rfl, lk, hcd⟩ := hF.ex
  exact fun s u => .of_eq (hb kV doc pm an cdv ct u)
end VK
namespace VK
open PySem PySem.Spec PyProof.Rows L2
/-! ### a tuple, any number of times -/
theorem mul_once (l : Addr) (o : Obj) (its : Array Value) (n : Nat) (u : Tok) (hc : o.cls = .type "tuple") (hd : o.data = .seq its n) :
    Meets (Builtin.«tuple.__mul__» ⟨[.ref l, .int 1 u], []⟩) (fun _ R s => s.heap.get? l = some o ∧ R (.ok (.ret (.ref l))) s) := by
  obtain ⟨c, dd, dt, sl⟩ := o
  simp only at hc hd
  subst hc hd
  refine .of_wp fun prog w A R s h => ?_
  obtain ⟨hp, g, d, tk, os⟩ := s
  obtain ⟨hl, h⟩ := h
  have f1 := AutoSeq1.idx_int
  wp_walk using wpAny_loadPart' hl
  exact ⟨_, rfl, h⟩
theorem mul_none (l : Addr) (o : Obj) (its : Array Value) (n : Nat) (k : Int) (u : Tok) (hc : o.cls = .type "tuple") (hd : o.data = .seq its n) (h0 : its.isEmpty = false) (hk : k ≤ 0) (hk2 : -(2 ^ 63) ≤ k) :
    Meets (Builtin.«tuple.__mul__» ⟨[.ref l, .int k u], []⟩) (fun _ R s => s.heap.get? l = some o ∧ R (.ok (.ret (.ref s.heap.objs.size))) { s with heap := s.heap.push { cls := .type "tuple", data := .seq #[] } }) := by
  obtain ⟨c, dd, dt, sl⟩ := o
  simp only at hc hd
  subst hc hd
  have c0 : (decide (k < -(2 ^ 63)) || decide (k ≥ 2 ^ 63)) = false := by
    rw [decide_eq_false (show ¬ k < -(2 ^ 63) by omega), decide_eq_false (show ¬ k ≥ 2 ^ 63 by omega)]
    rfl
  have c1 : (its.isEmpty || k == 1) = false := by
    rw [h0, Bool.false_or]
    exact beq_eq_false_iff_ne.mpr (by omega)
  have c2 : (decide (k ≤ 0) || its.isEmpty) = true := by
    rw [decide_eq_true hk]
    rfl
  refine .of_wp fun prog w A R s h => ?_
  obtain ⟨hp, g, d, tk, os⟩ := s
  obtain ⟨hl, h⟩ := h
  have f1 := AutoSeq1.idx_int
  wp_walk using wpAny_loadPart' hl
  refine wpAny_ite_false (decide_eq_false (by rw [c0]; decide)) ?_
  wp_walk using wpAny_loadPart' hl
  refine wpAny_ite_false (decide_eq_false (by rw [c1]; decide)) ?_
  wp_walk using wpAny_loadPart' hl
  exact ⟨_, rfl, h⟩
/-- t * k: the tuple itself, or a new one -/
def rRepW (K : PySem.W.Frag) : R2 := fun x y H Q => ∃ l k xs, x = .ref l ∧ y = .int k ∧ SqT K H l xs ∧ xs ≠ [] ∧ -(2 ^ 63) ≤ k ∧ k ≤ 1000 ∧ xs.length ≤ 1000 ∧
  ∀ a' H', Same H H' → ((a' = l ∧ (List.replicate k.toNat xs).flatten = xs) ∨ (H a' = none ∧ H' a' = some (.tup (List.replicate k.toNat xs).flatten))) → Q (.ref a') H'
theorem op_repW {X : Cx} : OpR X (binaryOp .Mult) (rRepW X.K) := by
  intro pins s σ H x y v u Q I rx ry h
  obtain ⟨l, k, xs, ex, ey, hT, hne, h1, h2, hz, q⟩ := h
  by_cases hk : 2 ≤ k
  · exact op_repT pins s σ H x y v u Q I rx ry ⟨l, k, xs, ex, ey, hT, hne, hk, h2, hz, fun p np => q p _ (same_new np) (.inr ⟨np, upd_same⟩)⟩
  subst ex ey
  cases rx
  obtain ⟨t, rfl⟩ := ry
  obtain ⟨its, r, ⟨⟨cl, dd, dt, sl⟩, ho, hc, n, hd⟩, hs⟩ := I.tuple hT
  simp only at hc hd
  subst hc hd
  have hle := r.length
  have he : its.toArray.isEmpty = false := by
    cases its with
    | nil => exact absurd (List.eq_nil_of_length_eq_zero hle) hne
    | cons a b => rfl
  -- what the int's own slot says is no answer; then the tuple's
  refine wpAny_binaryOp_repeat_ref (T := "tuple") (U := "int")
    (by decide) ⟨_, ho, rfl⟩ (fun s' => typeIs_int s' k t)
    noFill_tuple_mul F.fills_int_mul
    F.slot_int_rmul repeat_tuple F.slot_int_index.lookup ?_
  refine call_meets F.slot_int_rmul (typeIs_int s k t) F.entry_int_rmul (F.args_int_rmul_2 _ _)
    (int_rmul_tuple k t l its.toArray n dd sl) ?_
  refine ⟨ho, rfl, ⟨_, ho, rfl⟩, ?_⟩
  by_cases h11 : k = 1
  · subst h11
    refine call_meets F.slot_tuple_mul ⟨_, ho, rfl⟩ F.entry_tuple_mul (F.args_tuple_mul_2 _ _) (mul_once l _ its.toArray n t rfl rfl) ⟨ho, ?_⟩
    exact ⟨.ref l, H, I, rfl, q l H (Same.refl H) (.inl ⟨rfl, by show [xs].flatten = xs; rw [List.flatten_cons, List.flatten_nil, List.append_nil]⟩)⟩
  · refine call_meets F.slot_tuple_mul ⟨_, ho, rfl⟩ F.entry_tuple_mul (F.args_tuple_mul_2 _ _) (mul_none l _ its.toArray n k t rfl rfl he (by omega) h1) ⟨ho, ?_⟩
    have hf : H s.heap.objs.size = none := I.hok.fresh (Nat.le_refl _)
    have e0 : k.toNat = 0 := by omega
    have q' := q s.heap.objs.size (upd H s.heap.objs.size (.tup [])) (same_new hf) (.inr ⟨hf, by rw [e0]; exact upd_same⟩)
    refine ⟨.ref s.heap.objs.size, _, I.laid (t' := s.toks) (fun b u e => Heap.get?_push_of_some _ e) (Nat.le_refl _) ?_, rfl, q'⟩
    exact ⟨Nat.zero_le _, [], .nil, ⟨_, Heap.get?_push_size _ rfl, rfl, _, rfl⟩⟩
end VK
namespace VK
open PySem PySem.Spec PyProof.Rows L2
/-! ### data in a growing frame -/
/-- F stands in H, the pen p is not in it -/
structure Fx (F H : Hp) (p : Addr) : Prop where
  s : Same F H
  n : F p = none
  u : ∃ u, H p = some u
section
variable {K : PySem.W.Frag} {F H Hj Hk : Hp} {p q a a0 a1 a' : Addr} {xs ys zs : List V} {v : V} {d : PyData} {ds es : List PyData}
theorem Fx.grow (f : Fx F H p) (o : Off p Hj Hk) : Same (fr F H Hj) (fr F H Hk) := fun b x e => by
  cases hf : F b with
  | some y =>
    rw [fr_old hf] at e ⊢
    exact e
  | none =>
    cases hh : H b with
    | some y =>
      rw [fr_off hf hh] at e
      cases e
    | none =>
      rw [fr_new hf hh] at e ⊢
      refine o b x ?_ e
      obtain ⟨u, hu⟩ := f.u
      exact (ne_of_none hu hh).symm
theorem Fx.mono (f : Fx F H p) (o : Off p Hj Hk) (h : DaAll K (fr F H Hj) xs ds) : DaAll K (fr F H Hk) xs ds := h.mono (f.grow o)
theorem Fx.mono1 (f : Fx F H p) (o : Off p Hj Hk) (h : Da K (fr F H Hj) v d) : Da K (fr F H Hk) v d := h.mono (f.grow o)
theorem Fx.le (f : Fx F H p) (o : Off p H Hj) : Same (fr F H Hj) Hj := fr_same f.s f.n o f.u
theorem Fx.at_ (f : Fx F H p) (oj : Off p H Hj) (hj : ∃ u, Hj p = some u) (nq : Hj q = none) {o : HO} (h : Hk q = some o) : fr F H Hk q = some o := by
  obtain ⟨u, hu⟩ := hj
  exact fr_at f.s (oj.free nq (ne_of_none hu nq).symm) h
/-- a new tuple, a new list -/
theorem Fx.tup (f : Fx F H p) (oj : Off p H Hj) (hj : ∃ u, Hj p = some u) (nq : Hj q = none) (h : DaAll K (fr F H Hj) xs ds) : Da K (fr F H (upd Hj q (.tup xs))) (.ref q) (.tuple ds) :=
  .tup (.inl (.inl (f.at_ oj hj nq upd_same))) (f.mono (Off.of (same_new nq)) h)
theorem Fx.lst (f : Fx F H p) (oj : Off p H Hj) (hj : ∃ u, Hj p = some u) (nq : Hj q = none) (h : DaAll K (fr F H Hj) xs ds) : Da K (fr F H (upd Hj q (.lst xs))) (.ref q) (.list ds) :=
  .lst (.inl (.inl (f.at_ oj hj nq upd_same))) (f.mono (Off.of (same_new nq)) h)
theorem Da.tupI {G : Hp} (h : Da K G (.ref a) (.tuple ds)) : ∃ xs, SqT K G a xs ∧ DaAll K G xs ds := by
  cases h with
  | tup h1 h2 => exact ⟨_, h1, h2⟩
theorem Fx.sq (f : Fx F H p) (o : Off p H Hj) (h : SqT K (fr F H Hj) a xs) : SqT K Hj a xs := same_seqT (f.le o) h
/-- what a slice gives -/
theorem Fx.sl (f : Fx F H p) (oj : Off p H Hj) (hj : ∃ u, Hj p = some u) (s : Same Hj Hk) (h0 : SqT K (fr F H Hj) a0 xs) (r : (a' = a0 ∧ ys = xs) ∨ (Hj a' = none ∧ Hk a' = some (.tup ys))) (h : DaAll K (fr F H Hj) ys es) : Da K (fr F H Hk) (.ref a') (.tuple es) := by
  rcases r with ⟨e1, e2⟩ | ⟨n1, n2⟩
  · rw [e1]
    rw [e2] at h
    exact f.mono1 (Off.of s) (.tup h0 h)
  · exact .tup (.inl (.inl (f.at_ oj hj n1 n2))) (f.mono (Off.of s) h)
theorem Fx.cat (f : Fx F H p) (oj : Off p H Hj) (hj : ∃ u, Hj p = some u) (s : Same Hj Hk) (h0 : SqT K (fr F H Hj) a0 xs) (h1 : SqT K (fr F H Hj) a1 ys) (r : (a' = a0 ∧ xs ++ ys = xs) ∨ (a' = a1 ∧ xs ++ ys = ys) ∨ (Hj a' = none ∧ Hk a' = some (.tup (xs ++ ys))))
    (hx : DaAll K (fr F H Hj) xs ds) (hy : DaAll K (fr F H Hj) ys es) : Da K (fr F H Hk) (.ref a') (.tuple (ds ++ es)) := by
  have h := hx.append hy
  rcases r with ⟨e1, e2⟩ | ⟨e1, e2⟩ | ⟨n1, n2⟩
  · rw [e1]
    rw [e2] at h
    exact f.mono1 (Off.of s) (.tup h0 h)
  · rw [e1]
    rw [e2] at h
    exact f.mono1 (Off.of s) (.tup h1 h)
  · exact .tup (.inl (.inl (f.at_ oj hj n1 n2))) (f.mono (Off.of s) h)
theorem Fx.rep (f : Fx F H p) (oj : Off p H Hj) (hj : ∃ u, Hj p = some u) (s : Same Hj Hk) {k : Nat} (h0 : SqT K (fr F H Hj) a0 xs) (r : (a' = a0 ∧ (List.replicate k xs).flatten = xs) ∨ (Hj a' = none ∧ Hk a' = some (.tup (List.replicate k xs).flatten))) (hx : DaAll K (fr F H Hj) xs ds) : Da K (fr F H Hk) (.ref a') (.tuple (List.replicate k ds).flatten) :=
  f.sl oj hj s h0 r (DaAll.flat hx)
end
theorem cut_init (xs : List V) : cutV xs none (some (-1)) = xs.take (xs.length - 1) := by
  unfold cutV
  have e : HT.sIx xs.length xs.length (some (-1)) = xs.length - 1 := by
    show (if (-1 : Int) < 0 then ((-1 : Int) + (xs.length : Int)).toNat else min (-1 : Int).toNat xs.length) = _
    rw [if_pos (by decide)]
    omega
  rw [HT.sIx_none, e, List.drop_zero, Nat.sub_zero]
/-! ### bounded data without a dict -/
theorem lay_all : ∀ {ds : List PyData}, (∀ d ∈ ds, d.canLay0 = true) → PyData.canLayAll0 ds = true
  | [], _ => by simp only [PyData.canLayAll0]
  | d :: r, h => by
    simp only [PyData.canLayAll0, Bool.and_eq_true]
    exact ⟨h d List.mem_cons_self, lay_all fun e he => h e (List.mem_cons_of_mem _ he)⟩
structure It (k m : Nat) (d : PyData) : Prop where
  b : Bd k m d
  nd : d.hasDict = false
  cl : d.canLay0 = true
theorem It.le {k m k' m' : Nat} {d : PyData} (h : It k m d) (hk : k ≤ k') (hm : m ≤ m') : It k' m' d := ⟨h.b.le hk hm, h.nd, h.cl⟩
theorem It.sho {k m : Nat} {d : PyData} (h : It k m d) (hk : k ≤ 60) (hm : m ≤ 16777216) : Sho d := h.b.sho hk hm fun z => by
  rw [h.nd] at z
  cases z
theorem it_tup {k m : Nat} {ds : List PyData} (n : Nat) (h : ∀ d ∈ ds, It k m d) (hl : ds.length ≤ n) : It (k + 1) (n * (m + 2) + 3) (.tuple ds) :=
  ⟨(bd_tup fun d hd => (h d hd).b).le (Nat.le_refl _) (Nat.add_le_add_right (Nat.mul_le_mul_right _ hl) 3), by simp only [PyData.hasDict]; exact hasDictAll_false fun d hd => (h d hd).nd, by simp only [PyData.canLay0]; exact lay_all fun d hd => (h d hd).cl⟩
theorem it_lst {k m : Nat} {ds : List PyData} (n : Nat) (h : ∀ d ∈ ds, It k m d) (hl : ds.length ≤ n) : It (k + 1) (n * (m + 2) + 3) (.list ds) :=
  ⟨(bd_lst fun d hd => (h d hd).b).le (Nat.le_refl _) (Nat.le_trans (Nat.add_le_add_right (Nat.mul_le_mul_right _ hl) 2) (by omega)), by simp only [PyData.hasDict]; exact hasDictAll_false fun d hd => (h d hd).nd, by simp only [PyData.canLay0]; exact lay_all fun d hd => (h d hd).cl⟩
theorem it_none : It 0 61 .none := ⟨bd_none.le (by decide) (by decide), rfl, rfl⟩
theorem it_bool (b : Bool) : It 0 61 (.bool b) := ⟨(bd_bool b).le (by decide) (by decide), rfl, rfl⟩
theorem it_int {i : Int} (h : i.natAbs < 10 ^ 60) : It 0 61 (.int i) := ⟨bd_int h, rfl, rfl⟩
theorem it_small {i : Int} (h0 : -1000 ≤ i) (h1 : i ≤ 1000000) : It 0 61 (.int i) := it_int (Nat.lt_of_lt_of_le (m := 10000000) (by omega) (by decide))
theorem it_okc {z : Int} (hz : z ≤ 1000) {d : PyData} (h : okc z d) : It 0 61 d := by
  rcases h with rfl | ⟨k, rfl, k0, k1⟩
  · exact it_none
  · exact it_small (by omega) (by omega)
theorem it_str {x : Str} {m : Nat} (h : ∀ c ∈ x.cps.toList, c < 1114112) (hl : x.length ≤ m) : It 0 (10 * m + 2) (.str x) := by
  refine ⟨bd_str (fun c hc => Nat.lt_trans (h c hc) (by decide)) hl, rfl, ?_⟩
  show PyData.strOk x = true
  unfold PyData.strOk
  rw [Array.all_eq_true_iff_forall_mem]
  intro c hc
  exact decide_eq_true (h c (by simpa using hc))
theorem it_ofS {s : String} {m : Nat} (hl : s.length ≤ m) : It 0 (10 * m + 2) (.str (Str.ofString s)) := by
  refine it_str (fun c hc => ?_) (by rw [ofS_len]; exact hl)
  rw [Str.ofString_eq_toList] at hc
  have hc' : c ∈ s.toList.map Char.toNat := by simpa using hc
  obtain ⟨ch, _, rfl⟩ := List.mem_map.mp hc'
  rcases ch.valid with h | ⟨_, h⟩
  · exact Nat.lt_trans h (by decide)
  · exact h
theorem it_row {wide : Int} {z : Int} (hw : wide ≤ 10) (hz : z ≤ 1000) {cs : List PyData} (hl : (cs.length : Int) = wide) (h : ∀ d ∈ cs, okc z d) : It 1 700 (.tuple cs) :=
  (it_tup 10 (fun d hd => it_okc hz (h d hd)) (by omega)).le (Nat.le_refl _) (by decide)
theorem it_rows {wide z : Int} (hw : wide ≤ 10) (hz : z ≤ 1000) {rows : List PyData} (h : okRows wide z rows) : ∀ d ∈ rows, It 1 700 d := fun d hd => by
  obtain ⟨cs, rfl, hl, hc⟩ := h d hd
  exact it_row hw hz hl hc
theorem it_one {k m : Nat} {d : PyData} (h : It k m d) : ∀ x ∈ [d], It k m x := fun x hx => by
  rw [List.mem_singleton] at hx
  rw [hx]
  exact h
theorem it_cons {k m : Nat} {d : PyData} {ds : List PyData} (h : It k m d) (t : ∀ x ∈ ds, It k m x) : ∀ x ∈ d :: ds, It k m x := fun x hx => by
  rcases List.mem_cons.mp hx with e | hx
  · rw [e]
    exact h
  · exact t x hx
theorem it_app {k m : Nat} {ds es : List PyData} (h : ∀ x ∈ ds, It k m x) (t : ∀ x ∈ es, It k m x) : ∀ x ∈ ds ++ es, It k m x := fun x hx => (List.mem_append.mp hx).elim (h x) (t x)
theorem it_nil {k m : Nat} : ∀ x ∈ ([] : List PyData), It k m x := fun _ hx => nomatch hx
end VK
namespace VK
open PySem PySem.Spec PyProof.Rows L2
/-! ### [e for x in t], e a function of x's data -/
section
variable {K : PySem.W.Frag} {a D : Addr} {xs : List V} {ds : List PyData} {σ : L2.St} {H : Hp} {te : TE} {vs : List Nat} {j : Nat} {Qd : Hp → Prop}
theorem lc_mapT (f : PyData → V) (ht : SqT K H a xs) (hds : DaAll K H xs ds) (hz : ds.length ≤ 1000) (nD : H D = none) (hw : ∀ x, wipe ((wipe σ vs).set j (some x)) vs = wipe σ vs)
    (hs : ∀ x d H', d ∈ ds → Same H H' → Da K H' x d → ∀ Q : VK, (∀ H2, Same H' H2 → Q (f d) H2) → te ((wipe σ vs).set j (some x)) H' Q) (hd : ∀ H', Same H H' → H' D = some (.lst (ds.map f)) → Qd H') :
    ∃ W : Nat → Nat → Hp → Prop, (∃ m, W 0 m (upd H D (.lst []))) ∧ ∀ i m H', W i m H' →
      ((Itt K a).stop i H' ∧ Qd H') ∨ ((Itt K a).go i H' ∧ ∃ Nx : Hp → Prop, (∀ H2, Nx H2 → ∃ m', m' < m ∧ W (i + 1) m' H2) ∧ ∀ x H2, (Itt K a).yld i H' x H2 → gName j x (wipe σ vs) H2 fun σ2 H3 => wipe σ2 vs = wipe σ vs ∧ tYes σ2 H3 fun b H4 =>
        if b = true then te σ2 H4 fun y H5 => ∃ acc, H5 D = some (.lst acc) ∧ acc.length < sizeLine ∧ Nx (upd H5 D (.lst (acc ++ [y]))) else Nx H4) := by
  have hl := hds.length
  refine lc_tup (K := K) (a := a) (xs := xs) (fun i H' => Same H H' ∧ H' D = some (.lst ((ds.take i).map f))) ⟨same_new nD, by rw [upd_same]; rfl⟩ (fun i H' _ h => same_seqT h.1 ht) (fun i x H' hx h => ?_) (fun H' h => ?_)
  · obtain ⟨sm, hD⟩ := h
    obtain ⟨d, hd', hxd⟩ := hds.get hx
    refine ⟨hw x, hs x d H' (List.mem_of_getElem? hd') sm (hxd.mono sm) _ fun H2 s2 => ?_⟩
    refine ⟨_, s2 _ _ hD, ?_, same_off (sm.trans s2) nD, ?_⟩
    · rw [List.length_map, List.length_take]
      exact Nat.lt_of_le_of_lt (Nat.min_le_right _ _) (small1000 hz)
    · rw [upd_same, List.take_add_one, hd', List.map_append]
      rfl
  · obtain ⟨sm, hD⟩ := h
    rw [List.take_of_length_le (by omega)] at hD
    exact hd H' sm hD
theorem lc_mapL (f : PyData → V) (ht : SqL K H a xs) (hds : DaAll K H xs ds) (hz : ds.length ≤ 1000) (nD : H D = none) (hw : ∀ x, wipe ((wipe σ vs).set j (some x)) vs = wipe σ vs)
    (hs : ∀ x d H', d ∈ ds → Same H H' → Da K H' x d → ∀ Q : VK, (∀ H2, Same H' H2 → Q (f d) H2) → te ((wipe σ vs).set j (some x)) H' Q) (hd : ∀ H', Same H H' → H' D = some (.lst (ds.map f)) → Qd H') :
    ∃ W : Nat → Nat → Hp → Prop, (∃ m, W 0 m (upd H D (.lst []))) ∧ ∀ i m H', W i m H' →
      ((Itl K a).stop i H' ∧ Qd H') ∨ ((Itl K a).go i H' ∧ ∃ Nx : Hp → Prop, (∀ H2, Nx H2 → ∃ m', m' < m ∧ W (i + 1) m' H2) ∧ ∀ x H2, (Itl K a).yld i H' x H2 → gName j x (wipe σ vs) H2 fun σ2 H3 => wipe σ2 vs = wipe σ vs ∧ tYes σ2 H3 fun b H4 =>
        if b = true then te σ2 H4 fun y H5 => ∃ acc, H5 D = some (.lst acc) ∧ acc.length < sizeLine ∧ Nx (upd H5 D (.lst (acc ++ [y]))) else Nx H4) := by
  have hl := hds.length
  refine lc_list (K := K) (a := a) (xs := xs) (fun i H' => Same H H' ∧ H' D = some (.lst ((ds.take i).map f))) ⟨same_new nD, by rw [upd_same]; rfl⟩ (fun i H' _ h => h.1.seq ht) (fun i x H' hx h => ?_) (fun H' h => ?_)
  · obtain ⟨sm, hD⟩ := h
    obtain ⟨d, hd', hxd⟩ := hds.get hx
    refine ⟨hw x, hs x d H' (List.mem_of_getElem? hd') sm (hxd.mono sm) _ fun H2 s2 => ?_⟩
    refine ⟨_, s2 _ _ hD, ?_, same_off (sm.trans s2) nD, ?_⟩
    · rw [List.length_map, List.length_take]
      exact Nat.lt_of_le_of_lt (Nat.min_le_right _ _) (small1000 hz)
    · rw [upd_same, List.take_add_one, hd', List.map_append]
      rfl
  · obtain ⟨sm, hD⟩ := h
    rw [List.take_of_length_le (by omega)] at hD
    exact hd H' sm hD
end
section
variable {K : PySem.W.Frag} {H : Hp}
mutual
/-- data without dicts, for == and != -/
theorem Da.dp : ∀ {v : V} {d : PyData}, Da K H v d → d.canLay0 = true → Dp K H v d
  | _, _, .non, _ => .non
  | _, _, .bl b, _ => .bl b
  | _, _, .int i, _ => .int i
  | _, _, .str x, _ => .str x
  | _, _, .lst h t, c => .lst h (DaAll.dp t (by simpa only [PyData.canLay0] using c))
  | _, _, .tup h t, c => .tup h (DaAll.dp t (by simpa only [PyData.canLay0] using c))
  | _, _, .dic _ _, c => by simp only [PyData.canLay0] at c; cases c
theorem DaAll.dp : ∀ {vs : List V} {ds : List PyData}, DaAll K H vs ds → PyData.canLayAll0 ds = true → DpAll K H vs ds
  | _, _, .nil, _ => .nil
  | _, _, .cons h t, c => by
    simp only [PyData.canLayAll0, Bool.and_eq_true] at c
    exact .cons (Da.dp h c.1) (DaAll.dp t c.2)
end
end
theorem lay_mem : ∀ {ds : List PyData}, PyData.canLayAll0 ds = true → ∀ d ∈ ds, d.canLay0 = true
  | [], _, _, hd => nomatch hd
  | e :: r, h, d, hd => by
    simp only [PyData.canLayAll0, Bool.and_eq_true] at h
    rcases List.mem_cons.mp hd with z | z
    · rw [z]
      exact h.1
    · exact lay_mem h.2 d z
theorem depth_mem : ∀ {ds : List PyData}, ∀ d ∈ ds, d.depth ≤ PyData.depthAll ds
  | [], _, hd => nomatch hd
  | e :: r, d, hd => by
    simp only [PyData.depthAll]
    rcases List.mem_cons.mp hd with z | z
    · rw [z]
      exact Nat.le_max_left _ _
    · exact Nat.le_trans (depth_mem d z) (Nat.le_max_right _ _)
theorem shaped_list {ds : List PyData} (h : ∀ d ∈ ds, d.canLay0 = true) (hd : ∀ d ∈ ds, d.depth ≤ 60) : SeqAt.shaped (.list ds) = true := by
  unfold SeqAt.shaped
  have h1 : (PyData.list ds).canLay0 = true := by
    simp only [PyData.canLay0]
    exact lay_all h
  have h2 : (PyData.list ds).depth ≤ 64 := by
    simp only [PyData.depth]
    have := depthAll_le hd
    omega
  rw [h1, decide_eq_true h2]
  rfl
theorem eqv_nil : ∀ ds : List PyData, PyData.eqv (.list ds) (.list []) = ds.isEmpty
  | [] => rfl
  | _ :: _ => rfl
end VK
namespace VK
open PySem PySem.Spec PyProof.Rows L2
/-- at a, in G, a tuple of the values xs, which are the data ds -/
structure TD (K : PySem.W.Frag) (G : Hp) (a : Addr) (xs : List V) (ds : List PyData) : Prop where
  sq : SqT K G a xs
  all : DaAll K G xs ds
section
variable {K : PySem.W.Frag} {F G H Hj Hk : Hp} {p q a a0 a1 a' : Addr} {xs ys zs : List V} {v : V} {d : PyData} {ds es : List PyData}
theorem TD.da (h : TD K G a xs ds) : Da K G (.ref a) (.tuple ds) := .tup h.sq h.all
theorem TD.up {G' : Hp} (h : TD K G a xs ds) (s : Same G G') : TD K G' a xs ds := ⟨same_seqT s h.sq, h.all.mono s⟩
theorem TD.mono (h : TD K (fr F H Hj) a xs ds) (f : Fx F H p) (o : Off p Hj Hk) : TD K (fr F H Hk) a xs ds := h.up (f.grow o)
theorem TD.real (h : TD K (fr F H Hj) a xs ds) (f : Fx F H p) (o : Off p H Hj) : SqT K Hj a xs := f.sq o h.sq
theorem TD.realA (h : TD K (fr F H Hj) a xs ds) (f : Fx F H p) (o : Off p H Hj) : DaAll K Hj xs ds := h.all.mono (f.le o)
theorem Da.td {G : Hp} (h : Da K G v (.tuple ds)) : ∃ a xs, v = .ref a ∧ TD K G a xs ds := by
  cases h with
  | tup h1 h2 => exact ⟨_, _, rfl, h1, h2⟩
theorem Fx.td (f : Fx F H p) (oj : Off p H Hj) (hj : ∃ u, Hj p = some u) (nq : Hj q = none) (h : DaAll K (fr F H Hj) xs ds) : TD K (fr F H (upd Hj q (.tup xs))) q xs ds :=
  ⟨.inl (.inl (f.at_ oj hj nq upd_same)), f.mono (Off.of (same_new nq)) h⟩
theorem Fx.tdS (f : Fx F H p) (oj : Off p H Hj) (hj : ∃ u, Hj p = some u) (s : Same Hj Hk) (t : TD K (fr F H Hj) a0 xs ds) (r : (a' = a0 ∧ ys = xs) ∨ (Hj a' = none ∧ Hk a' = some (.tup ys))) (h : DaAll K (fr F H Hj) ys es) : TD K (fr F H Hk) a' ys es := by
  rcases r with ⟨e1, e2⟩ | ⟨n1, n2⟩
  · rw [e1]
    refine ⟨?_, f.mono (Off.of s) h⟩
    rw [e2]
    exact (t.mono f (Off.of s)).sq
  · exact ⟨.inl (.inl (f.at_ oj hj n1 n2)), f.mono (Off.of s) h⟩
theorem Fx.tdC (f : Fx F H p) (oj : Off p H Hj) (hj : ∃ u, Hj p = some u) (s : Same Hj Hk) (t : TD K (fr F H Hj) a0 xs ds) (u : TD K (fr F H Hj) a1 ys es)
    (r : (a' = a0 ∧ xs ++ ys = xs) ∨ (a' = a1 ∧ xs ++ ys = ys) ∨ (Hj a' = none ∧ Hk a' = some (.tup (xs ++ ys)))) : TD K (fr F H Hk) a' (xs ++ ys) (ds ++ es) := by
  have h := f.mono (Off.of s) (t.all.append u.all)
  rcases r with ⟨e1, e2⟩ | ⟨e1, e2⟩ | ⟨n1, n2⟩
  · refine ⟨?_, h⟩
    rw [e1, e2]
    exact (t.mono f (Off.of s)).sq
  · refine ⟨?_, h⟩
    rw [e1, e2]
    exact (u.mono f (Off.of s)).sq
  · exact ⟨.inl (.inl (f.at_ oj hj n1 n2)), h⟩
theorem Fx.tdR (f : Fx F H p) (oj : Off p H Hj) (hj : ∃ u, Hj p = some u) (s : Same Hj Hk) {k : Nat} (t : TD K (fr F H Hj) a0 xs ds) (r : (a' = a0 ∧ (List.replicate k xs).flatten = xs) ∨ (Hj a' = none ∧ Hk a' = some (.tup (List.replicate k xs).flatten))) : TD K (fr F H Hk) a' (List.replicate k xs).flatten (List.replicate k ds).flatten :=
  f.tdS oj hj s t r (DaAll.flat t.all)
theorem at_da {xs : List V} {ds : List PyData} {i : Int} (h : DaAll K G xs ds) (h0 : 0 ≤ i) (h1 : i < xs.length) : ∃ v d, atI xs i = some v ∧ Da K G v d ∧ d ∈ ds ∧ v ∈ xs := by
  have hj : i.toNat < xs.length := by omega
  have e := List.getElem?_eq_getElem hj
  obtain ⟨d, hd, hv⟩ := h.get e
  refine ⟨xs[i.toNat], d, ?_, hv, List.mem_of_getElem? hd, List.mem_of_getElem? e⟩
  have e3 := atI_nat e
  rw [show ((i.toNat : Nat) : Int) = i by omega] at e3
  exact e3
theorem DaAll.hd (h : DaAll K G (v :: xs) (d :: ds)) : Da K G v d := by
  cases h with
  | cons h1 h2 => exact h1
theorem DaAll.tl (h : DaAll K G (v :: xs) (d :: ds)) : DaAll K G xs ds := by
  cases h with
  | cons h1 h2 => exact h2
end
theorem it_rep {k m : Nat} {n : Nat} {ds : List PyData} (h : ∀ x ∈ ds, It k m x) : ∀ x ∈ (List.replicate n ds).flatten, It k m x := fun x hx => by
  obtain ⟨l, hl, hx⟩ := List.mem_flatten.mp hx
  rw [(List.mem_replicate.mp hl).2] at hx
  exact h x hx
theorem it_take {k m : Nat} {n : Nat} {ds : List PyData} (h : ∀ x ∈ ds, It k m x) : ∀ x ∈ ds.take n, It k m x := fun x hx => h x (List.mem_of_mem_take hx)
theorem it_drop {k m : Nat} {n : Nat} {ds : List PyData} (h : ∀ x ∈ ds, It k m x) : ∀ x ∈ ds.drop n, It k m x := fun x hx => h x (List.mem_of_mem_drop hx)
theorem it_up {k m k' m' : Nat} {ds : List PyData} (h : ∀ x ∈ ds, It k m x) (hk : k ≤ k') (hm : m ≤ m') : ∀ x ∈ ds, It k' m' x := fun x hx => (h x hx).le hk hm
theorem len_rep1 {α : Type} (n : Nat) (x : α) : ((List.replicate n [x]).flatten).length = n := by
  induction n with
  | zero => rfl
  | succ n ih =>
    rw [List.replicate_succ, List.flatten_cons, List.length_append, ih, List.length_singleton]
    omega
end VK
namespace VK
open PySem PySem.Spec PyProof.Rows L2
open C8 (Cal pe_c pe_gc)
/-! ### x == [], x == () -/
section
variable {X : Cx}
/-- both lists or both tuples, the second empty -/
def rEqE (K : PySem.W.Frag) : R2 := fun x y H Q => ∃ a b xs, x = .ref a ∧ y = .ref b ∧ ((SqT K H a xs ∧ SqT K H b []) ∨ (SqL K H a xs ∧ SqL K H b [])) ∧ Q (.bl xs.isEmpty) H
theorem op_eqE (hu : X.A.units + 64 < cLine) : OpR X (compareOp .Eq) (rEqE X.K) := by
  intro pins s σ H x y v u Q I rx ry h
  obtain ⟨a, b, xs, rfl, rfl, hq, q⟩ := h
  cases rx
  cases ry
  rcases hq with ⟨ha, hb⟩ | ⟨ha, hb⟩
  · obtain ⟨its, r1, p1, _⟩ := I.tuple ha
    obtain ⟨its2, r2, p2, _⟩ := I.tuple hb
    cases r2
    have R := SeqAt.RcAt.tuples (A := X.A) (e := fun _ => true) p1 p2 (by omega) (fun j h1 h2 => absurd h2 (Nat.not_lt_zero j))
    refine R X.prog X.w _ _ ⟨.bl xs.isEmpty, H, I, ?_, q⟩
    cases r1 <;> rfl
  · obtain ⟨its, r1, p1, _⟩ := I.list ha
    obtain ⟨its2, r2, p2, _⟩ := I.list hb
    cases r2
    cases r1 with
    | nil =>
      have R := SeqAt.RcAt.lists (A := X.A) (e := fun _ => true) p1.isList p2.isList rfl (by omega) (fun j h1 h2 => nomatch h2)
      exact R X.prog X.w _ _ ⟨.bl true, H, I, rfl, q⟩
    | cons _ _ =>
      have R := SeqAt.RcAt.lists_lengths (A := X.A) p1.isList p2.isList (by simp) (by omega)
      exact R X.prog X.w _ _ ⟨.bl false, H, I, rfl, q⟩
end
/-! ### a def with keyword-only parameters that have defaults -/
structure DfD (K : PySem.W.Frag) (mg : Str → Option Value) (x : Str) (st : Stmt) (kws : List (Str × V)) : Prop where
  ex : ∃ (f : Addr) (fd : FuncData), FunD K x x (defArgs st) (defBody st) (defScope st) [] kws f fd ∧ mg x = some (.ref f)
structure FokD (P : Program) (w : World) (K : PySem.W.Frag) (mg : Str → Option Value) (base : Heap) (k : Nat) (x : Str) (st : Stmt) (kws : List (Str × V)) (ps : List Str) (sp : Sp) : Prop where
  ex : ∃ (f : Addr) (fd : FuncData), FunD K x x (defArgs st) (defBody st) (defScope st) [] kws f fd ∧ mg x = some (.ref f) ∧ FnOk P w K mg base CX0 k f fd ps sp
/-- called with n values and the keywords ks -/
structure CalN (P : Program) (w : World) (K : PySem.W.Frag) (mg : Str → Option Value) (base : Heap) (k n : Nat) (x : Str) (sp : Sp) (ks : List Str) (gV : List V → List V → List V) : Prop where
  ex : ∃ (f : Addr) (fd : FuncData) (ps : List Str) (g : List Value → List Value → List Value), FnOk P w K mg base CX0 k f fd ps sp ∧ mg x = some (.ref f) ∧ PySem.W.keepIn K (.ref f) = true ∧ KBn K fd ps n ks g gV
section
variable {P : Program} {w : World} {K : PySem.W.Frag} {mg : Str → Option Value} {base : Heap} {x : Str} {st : Stmt} {N ps ks : List Str} {k n : Nat} {sp : Sp} {kws : List (Str × V)}
theorem DfD.fok (D : DfD K mg x st kws) (S : FnScope N ps (defScope st)) (len : ∀ vs H Q E, sp vs H Q E → vs.length = ps.length)
    (hbody : ∀ (f : Addr) (cdv : Value) (A : Around) (outer : List Env) (s : Shared) (H : Hp) (vs : List V) (Q : VK) (E : XK), Room k (A.deeper (envOfC x (defScope st) s.heap.objs.size f cdv)) → sp vs H Q E →
      ∃ t, PSs (cxOf CX0 P w K mg base N x (defScope st) f cdv A outer s H E).nox (defBody st) t ∧ t { nx := fun _ H' => Q .non H', rt := Q } (start N vs) H) : FokD P w K mg base (k + 1) x st kws ps sp := by
  obtain ⟨f, fd, F, hm⟩ := D.ex
  refine ⟨f, fd, F, hm, F.ok S len fun cdv A outer s H vs Q E hr h => ?_⟩
  obtain ⟨t, h1, h2⟩ := hbody f cdv A outer s H vs Q E hr h
  exact ⟨t, h1.nox, h2⟩
/-- the defaults fill up -/
theorem FokD.cal (D : FokD P w K mg base k x st kws ps sp) (n : Nat) (hk : kws ≠ []) (hn : n + kws.length = ps.length)
    (h : ∀ (D : Addr) (doc pm : Value) (an : Option Addr) (cdv ct : Value) (us ks : List Value), us.length = n → ks.length = kws.length →
      KwChain D ((kws.map (·.1)).zip ks) (bindArgs (PySem.W.fnOf x x (defArgs st) (defBody st) (defScope st) .none (.ref D) doc pm an cdv ct) ⟨us, []⟩) (ps.zip (us ++ ks))) : Cal P w K mg base k x sp (kws.map (·.2)) := by
  obtain ⟨f, fd, F, hm, G⟩ := D.ex
  obtain ⟨ds, d, b⟩ := F.binds0 n hk hn h
  exact ⟨f, fd, ps, ds, G, hm, F.kp, b, d⟩
/-- all are written -/
theorem FokD.calN {g : List Value → List Value → List Value} {gV : List V → List V → List V} (D : FokD P w K mg base k x st kws ps sp) (n : Nat)
    (hb : ∀ (kV doc pm : Value) (an : Option Addr) (cdv ct : Value) (us ws : List Value), us.length = n → ws.length = ks.length → bindArgs (PySem.W.fnOf x x (defArgs st) (defBody st) (defScope st) .none kV doc pm an cdv ct) ⟨us, ks.zip ws⟩ = pure (ps.zip (g us ws)))
    (hr : ∀ {vs : List V} {us : List Value} {zs : List V} {ws : List Value}, Vals vs us → Vals zs ws → Vals (gV vs zs) (g us ws)) : CalN P w K mg base k n x sp ks gV := by
  obtain ⟨f, fd, F, hm, G⟩ := D.ex
  obtain ⟨oc, od, dV, kV, doc, pm, an, cdv, ct, osl, e, lk, hcd, hD, hK⟩ := F.ex
  rcases hD with ⟨_, rfl⟩ | ⟨z, _⟩
  · subst e
    exact ⟨f, _, ps, g, G, hm, F.kp, ⟨fun s us ws X l1 l2 => .of_eq (hb kV doc pm an cdv ct us ws l1 l2), hr⟩⟩
  · exact absurd rfl z
theorem CalN.toK {gV : List V → List V → List V} (c : CalN P w K mg base k 0 x sp ks gV) : CalK P w K mg base k x sp ks gV := ⟨c.ex⟩
theorem dfd_mk {h : Heap} (X : K.In h) (G : h.Ns mainGlobals mg) {f D : Addr} {oc : Value} {od an : Option Addr} {osl : Array (Option Value)} {doc pm cdv ct : Value}
    (a : PySem.W.nsIn K mainGlobals x = some (some (.ref f))) (l : K.lookup f = some ⟨oc, od, .func (PySem.W.fnOf x x (defArgs st) (defBody st) (defScope st) .none (.ref D) doc pm an cdv ct), osl⟩) (c : PySem.W.codeIn K cdv x = true) (kp : PySem.W.keepIn K (.ref f) = true)
    (hk : ∀ q ∈ kws, ∃ u, PySem.W.nsIn K D q.1 = some (some u) ∧ RelV q.2 u) : DfD K mg x st kws :=
  ⟨f, _, ⟨⟨oc, od, .none, .ref D, doc, pm, an, cdv, ct, osl, rfl, l, c, .inl ⟨rfl, rfl⟩, .inr ⟨D, rfl, hk⟩⟩, kp⟩, PySem.W.mg_of X G a⟩
variable {X : Cx} {j : Nat} {p pos : Pos} {e : Expr} {es : List Expr} {kw : List Keyword} {t tk : TA} {gV : List V → List V → List V} {dvs : List V}
/-- f(e, .., k = v, ..) -/
theorem pe_cN (c : CalN X.prog X.w X.K X.mg X.base k n x sp ks gV) (hr : Room j X.A) (hk : k ≤ j) (hg : Gl X x) (ha : PA X (e :: es) t) (hkw : PK X kw tk)
    (hall : (backToKw pos (keywordEach kw X.env)).all (·.1.isSome) = true := by rfl) (hks : (backToKw pos (keywordEach kw X.env)).filterMap (·.1) = ks := by rfl)
    (hdb : (x == ("__debug__" : Str)) = false := by decide) (he : starEach (e :: es) X.env = (false, eval e X.env) :: starEach es X.env := by rfl)
    (hpl : ((backTo pos (starEach (e :: es) X.env)).any (·.1) || (backToKw pos (keywordEach kw X.env)).any (·.1.isNone)) = false := by rfl) :
    PE X (.Call (.Name x p) (e :: es) kw pos) (tCallN n ks.length sp gV E0 t tk) := by
  obtain ⟨f, fd, ps, g, F, hm, kp, hb⟩ := c.ex
  exact pe_callN F (hr.mono hk) hg hm kp hb pass0 ha hkw hall hks hdb he hpl
/-- f() -/
theorem pe_c0 (c : Cal X.prog X.w X.K X.mg X.base k x sp dvs) (hr : Room j X.A) (hk : k ≤ j) (hg : Gl X x) (hdb : (x == ("__debug__" : Str)) = false := by decide) : PE X (.Call (.Name x p) [] [] pos) (tCall sp dvs E0 tNil) := by
  obtain ⟨f, fd, ps, ds, F, hm, kp, b, d⟩ := c.ex
  exact pe_call0 F (hr.mono hk) hg hm kp b d pass0 hdb
end
end VK
namespace K15
open PySem PySem.Spec PyProof.Rows L2 VK
open C8 (Cal pe_c pe_gc)
def topS (i : Nat) : Stmt := PySem.Challenge.pw_shadeguards_k15_forms_of_steps.main.body.getD i (.Pass ⟨0, 0, 0, 0⟩)
def zs : List Str := ["isinstance", "int", "bool", "tuple", "list", "len", "all", "abs", "range", "repr", "str", "dict", "zip"]
/-! ### mirrors -/
def isNum : PyData → Bool
  | .int _ => true
  | _ => false
def isNat : PyData → Bool
  | .int i => decide (0 ≤ i)
  | _ => false
def isNn : PyData → Bool
  | .none => true
  | _ => false
def kindsL : List (Str × Int) := [("start", 0), ("load", 3), ("store", 3), ("move", 2), ("clear", 1), ("new", 1), ("scan", 1), ("look", 0), ("end", 0)]
def wordsV : List V := [.str "start", .str "load", .str "store", .str "move", .str "clear", .str "new", .str "scan", .str "look", .str "end"]
/-- how many numbers behind the word -/
def baseN (k : Str) : Option Int := (kindsL.find? fun q => decide (q.1 = k)).map (·.2)
def many (mode k : Str) : Option Int := if (k = "scan" ∧ mode = "fields") then some 2 else baseN k
def rest (k : Str) (ns : List PyData) : List PyData := if k = "store" ∧ isNn (ns.getD 2 (.int 0)) = true then ns.take 2 else ns
def isStep (mode : Str) : PyData → Bool
  | .tuple (.str k :: ns) => match many mode k with
    | none => false
    | some m => decide ((ns.length : Int) = m) && (rest k ns).all isNat
  | _ => false
theorem base_word {k : Str} {n : Int} (h : baseN k = some n) : (k, n) ∈ kindsL := by
  unfold baseN at h
  cases hf : kindsL.find? fun q => decide (q.1 = k) with
  | none =>
    rw [hf] at h
    cases h
  | some q =>
    rw [hf] at h
    have h1 := List.find?_some hf
    have h2 := List.mem_of_find?_eq_some hf
    obtain ⟨a, b⟩ := q
    cases h
    have h3 : a = k := of_decide_eq_true h1
    rw [← h3]
    exact h2
theorem word_base {k : Str} {n : Int} (h : (k, n) ∈ kindsL) : baseN k = some n := by
  simp only [kindsL, List.mem_cons, List.not_mem_nil, or_false, Prod.mk.injEq] at h
  rcases h with ⟨rfl, rfl⟩ | ⟨rfl, rfl⟩ | ⟨rfl, rfl⟩ | ⟨rfl, rfl⟩ | ⟨rfl, rfl⟩ | ⟨rfl, rfl⟩ | ⟨rfl, rfl⟩ | ⟨rfl, rfl⟩ | ⟨rfl, rfl⟩ <;> decide +kernel
/-- the word is none of them -/
theorem base_none {k : Str} (h : baseN k = none) : ∀ q ∈ kindsL, q.1 ≠ k := fun q hq e => by
  obtain ⟨a, b⟩ := q
  cases e
  rw [word_base hq] at h
  cases h
theorem inV_words (k : Str) : inV (.str k) wordsV = (baseN k).isSome := by
  cases hb : baseN k with
  | some n =>
    have h := base_word hb
    simp only [kindsL, List.mem_cons, List.not_mem_nil, or_false, Prod.mk.injEq] at h
    rcases h with ⟨rfl, rfl⟩ | ⟨rfl, rfl⟩ | ⟨rfl, rfl⟩ | ⟨rfl, rfl⟩ | ⟨rfl, rfl⟩ | ⟨rfl, rfl⟩ | ⟨rfl, rfl⟩ | ⟨rfl, rfl⟩ | ⟨rfl, rfl⟩ <;> decide +kernel
  | none =>
    have h := base_none hb
    show (wordsV.any fun y => eqV y (.str k)) = false
    rw [List.any_eq_false]
    intro y hy
    simp only [wordsV, List.mem_cons, List.not_mem_nil, or_false] at hy
    have ne : ∀ (a : Str) (n : Int), (a, n) ∈ kindsL → ¬ eqV (.str a) (.str k) = true := fun a n hm e => h _ hm (by simpa [eqV] using e)
    rcases hy with e | e | e | e | e | e | e | e | e <;> rw [e]
    · exact ne _ 0 (by decide +kernel)
    · exact ne _ 3 (by decide +kernel)
    · exact ne _ 3 (by decide +kernel)
    · exact ne _ 2 (by decide +kernel)
    · exact ne _ 1 (by decide +kernel)
    · exact ne _ 1 (by decide +kernel)
    · exact ne _ 1 (by decide +kernel)
    · exact ne _ 0 (by decide +kernel)
    · exact ne _ 0 (by decide +kernel)
section
variable {P : Program} {w : World} {K : PySem.W.Frag} {mg : Str → Option Value} {base : Heap}
abbrev s_is_number : Stmt := topS 1
theorem sc_is_number : FnScope ["thing"] ["thing"] (defScope s_is_number) := ⟨rfl, rfl, rfl, by decide +kernel, rfl, by decide +kernel, by decide +kernel⟩
/- slots: 0 thing -/
def sp_is_number (K : PySem.W.Frag) : Sp := fun vs H Q _ => ∃ v d, vs = [v] ∧ Da K H v d ∧ Q (.bl (isNum d)) H
theorem ok_is_number (z : ∀ x, x ∈ zs → mg x = none) (D : Df K mg "is_number" s_is_number) : Cal P w K mg base 1 "is_number" (sp_is_number K) [] := by
  refine D.cal sc_is_number (fun _ _ _ _ _ _ us hl => match us, hl with | [_], _ => rfl) (fun vs H Q E ⟨v, d, e, _⟩ => by rw [e]; rfl) (fun f cdv A outer s H vs Q E hr h => ?_)
  obtain ⟨v, d, rfl, hd, q⟩ := h
  refine ⟨_, (pss_one (ps_ret (pe_and (pe_callB (r := rIsi K) call_isi (by rfl) (z "isinstance" (by decide)) PyProof.Rows.boot_isinstance (pa_cons (pv 0) (pa_cons (pe_bltn (v := .ty "int") (by rfl) (z "int" (by decide)) PyProof.Rows.boot_int rfl) pa_nil))) (pe_one (pe_not (pe_callB (r := rIsi K) call_isi (by rfl) (z "isinstance" (by decide)) PyProof.Rows.boot_isinstance (pa_cons (pv 0) (pa_cons (pe_bltn (v := .ty "bool") (by rfl) (z "bool" (by decide)) PyProof.Rows.boot_bool rfl) pa_nil)))))))), ?_⟩
  refine ⟨v, rfl, v, .ty "int", _, _, _, rfl, .ty _, da_ty hd, kI d, _, rfl, ?_⟩
  cases hi : isInt d with
  | false =>
    refine iteF ?_
    cases d <;> first | exact q | cases hi
  | true =>
    refine iteT ⟨v, rfl, v, .ty "bool", _, _, _, rfl, .ty _, da_ty hd, kB d, _, rfl, ?_⟩
    cases d <;> first | exact q | cases hi

abbrev s_law_is_number : Stmt := topS 17
theorem sc_law_is_number : FnScope ["_law_item"] ["_law_item"] (defScope s_law_is_number) := ⟨rfl, rfl, rfl, by decide +kernel, rfl, by decide +kernel, by decide +kernel⟩
/- slots: 0 _law_item -/
def sp_lnat (K : PySem.W.Frag) : Sp := fun vs H Q _ => ∃ v d, vs = [v] ∧ Da K H v d ∧ Q (.bl (isNat d)) H
theorem ok_law_is_number (z : ∀ x, x ∈ zs → mg x = none) (D : Df K mg "_law_is_number" s_law_is_number) : Cal P w K mg base 1 "_law_is_number" (sp_lnat K) [] := by
  refine D.cal sc_law_is_number (fun _ _ _ _ _ _ us hl => match us, hl with | [_], _ => rfl) (fun vs H Q E ⟨v, d, e, _⟩ => by rw [e]; rfl) (fun f cdv A outer s H vs Q E hr h => ?_)
  obtain ⟨v, d, rfl, hd, q⟩ := h
  refine ⟨_, (pss_one (ps_ret (pe_and (pe_callB (r := rIsi K) call_isi (by rfl) (z "isinstance" (by decide)) PyProof.Rows.boot_isinstance (pa_cons (pv 0) (pa_cons (pe_bltn (v := .ty "int") (by rfl) (z "int" (by decide)) PyProof.Rows.boot_int rfl) pa_nil))) (pe_and (pe_not (pe_callB (r := rIsi K) call_isi (by rfl) (z "isinstance" (by decide)) PyProof.Rows.boot_isinstance (pa_cons (pv 0) (pa_cons (pe_bltn (v := .ty "bool") (by rfl) (z "bool" (by decide)) PyProof.Rows.boot_bool rfl) pa_nil)))) (pe_one (pe_cmpR op_ge (pv 0) pe_int (nomark _))))))), ?_⟩
  refine ⟨v, rfl, v, .ty "int", _, _, _, rfl, .ty _, da_ty hd, kI d, _, rfl, ?_⟩
  cases hi : isInt d with
  | false =>
    refine iteF ?_
    cases d <;> first | exact q | (cases hi; done)
  | true =>
    refine iteT ⟨v, rfl, v, .ty "bool", _, _, _, rfl, .ty _, da_ty hd, kB d, _, rfl, _, rfl, ?_⟩
    cases hd with
    | bl b => exact iteF q
    | int i => exact iteT ⟨_, rfl, i, 0, rfl, rfl, q⟩
    | _ => cases hi
abbrev s_many_numbers : Stmt := topS 5
theorem sc_many_numbers : FnScope ["kind", "scanning"] ["kind", "scanning"] (defScope s_many_numbers) := ⟨rfl, rfl, rfl, by decide +kernel, rfl, by decide +kernel, by decide +kernel⟩
/- slots: 0 kind, 1 scanning -/
def sp_many : Sp := fun vs H Q _ => ∃ (k mode : Str) (n : Int), vs = [.str k, .str mode] ∧ baseN k = some n ∧ Q (.int (if (k = "scan" ∧ mode = "fields") then 2 else n)) H
theorem ok_many_numbers (D : Df K mg "many_numbers" s_many_numbers) {dN : Addr} (g : mg "NUMBERS" = some (.ref dN)) (hN : ∀ q ∈ kindsL, KDct K w dN q.1 (.int q.2)) : Cal P w K mg base 1 "many_numbers" sp_many [] := by
  have g_NUMBERS : ∃ u, mg "NUMBERS" = some u ∧ RelV (.ref dN) u := ⟨_, g, rfl⟩
  refine D.cal sc_many_numbers (fun _ _ _ _ _ _ us hl => match us, hl with | [_, _], _ => rfl) (fun vs H Q E ⟨k, m, n, e, _⟩ => by rw [e]; rfl) (fun f cdv A outer s H vs Q E hr h => ?_)
  obtain ⟨k, mode, n, rfl, hk, q⟩ := h
  refine ⟨_, (pss_cons (ps_if (PW.pt (pw_and (pt_cmpR op_eq (pv 0) pe_str (nomark _)) (pw_and1 (pt_cmpR op_eq (pv 1) pe_str (nomark _))))) (pss_one (ps_ret pe_int)) pss_nil)
      (pss_one (ps_ret (pe_ix (r := rIxD K w) ix_kdict (pe_gc (by rfl) g_NUMBERS) (pv 0) (fun _ _ => rfl))))), ?_⟩
  refine ⟨.str k, rfl, rfl, _, rfl, ?_⟩
  have last : ¬ (k = "scan" ∧ mode = "fields") → ∃ (p : Addr) (z : Str) (v : V), V.ref dN = .ref p ∧ V.str k = .str z ∧ KDct K w p z v ∧ Q v H := fun h => ⟨dN, k, .int n, rfl, rfl, hN _ (base_word hk), by rw [if_neg h] at q; exact q⟩
  by_cases h1 : k = "scan"
  · have e1 : V.str k = .str "scan" := congrArg V.str h1
    rw [decide_eq_true e1]
    refine iteT ⟨.str mode, rfl, rfl, _, rfl, ?_⟩
    by_cases h2 : mode = "fields"
    · have e2 : V.str mode = .str "fields" := congrArg V.str h2
      rw [decide_eq_true e2]
      rw [if_pos ⟨h1, h2⟩] at q
      exact iteT q
    · have e2 : ¬ V.str mode = .str "fields" := fun z => h2 (V.str.inj z)
      rw [decide_eq_false e2]
      exact iteF ⟨_, rfl, last fun h => h2 h.2⟩
  · have e1 : ¬ V.str k = .str "scan" := fun z => h1 (V.str.inj z)
    rw [decide_eq_false e1]
    exact iteF ⟨_, rfl, last fun h => h1 h.1⟩
end
end K15
namespace K15
open PySem PySem.Spec PyProof.Rows L2 VK
open C8 (Cal pe_c pe_gc)
section
variable {P : Program} {w : World} {K : PySem.W.Frag} {mg : Str → Option Value} {base : Heap}
abbrev s_law_pen : Stmt := topS 11
theorem sc_law_pen : FnScope ["_law_script"] ["_law_script"] (defScope s_law_pen) := ⟨rfl, rfl, rfl, by decide +kernel, rfl, by decide +kernel, by decide +kernel⟩
/- slots: 0 _law_script -/
theorem ok_law_pen (z : ∀ x, x ∈ zs → mg x = none) (D : Df K mg "_law_pen" s_law_pen) : Cal P w K mg base 1 "_law_pen" (sp_pen K) [] := by
  refine D.cal sc_law_pen (fun _ _ _ _ _ _ us hl => match us, hl with | [_], _ => rfl) (fun vs H Q E ⟨a, ns, e, _⟩ => by rw [e]; rfl) (fun f cdv A outer s H vs Q E hr h => ?_)
  obtain ⟨a, ns, rfl, ha, q⟩ := h
  refine ⟨_, (pss_one (ps_ret (pe_lst (pa_cons (pe_callTy (r := rListOf K) call_listOf (by rfl) (z "list" (by decide)) PyProof.Rows.boot_list (pa_cons (pe_slice (r := rSlL K) sl_list (pv 0) po_none (po_some pe_int)) pa_nil)) (pa_cons pe_int (pa_cons pe_int pa_nil)))))), ?_⟩
  refine ⟨.ref a, rfl, 63, rfl, a, _, rfl, ha, fun c1 n1 => ⟨c1, _, rfl, .inl (.inl (.inl upd_same)), fun c n2 => ⟨by show 3 ≤ sizeLine; decide, fun p np => ?_⟩⟩⟩
  have cut63 : cutV (ns.map V.int) none (some 63) = (ns.take 63).map V.int := by
    unfold cutV
    rw [HT.sIx_none, show HT.sIx (ns.map V.int).length (ns.map V.int).length (some 63) = min 63 (ns.map V.int).length from HT.sIx_nat _ _ 63, List.drop_zero, Nat.sub_zero, List.map_take]
    by_cases hz : 63 ≤ (ns.map V.int).length
    · rw [Nat.min_eq_left hz]
    · rw [Nat.min_eq_right (by omega), List.take_of_length_le (Nat.le_refl _), List.take_of_length_le (by omega)]
  rw [cut63] at n2 np ⊢
  have sm := (same_new (o := .lst ((ns.take 63).map V.int)) n1).trans ((same_new (o := .lst ((ns.take 63).map V.int)) n2).trans (same_new (o := .lst [.ref c, .int 0, .int 0]) np))
  have npc : c ≠ p := fun e => by
    rw [← e, upd_same] at np
    cases np
  refine q p c _ sm (((same_new n1).trans (same_new n2)).free np) ((same_new n1).free n2) ⟨ns.take 63, 0, 0, upd_same, by rw [upd_ne npc, upd_same], npc, ?_, by decide, by decide, by decide⟩
  rw [List.length_take]
  exact Nat.min_le_left _ _

abbrev s_law_draw : Stmt := topS 12
theorem sc_law_draw : FnScope ["_law_pen_here", "_law_many", "_law_digit", "_law_at", "_law_cell", "_law_great", "_law_mixed"] ["_law_pen_here", "_law_many"] (defScope s_law_draw) := ⟨rfl, rfl, rfl, by decide +kernel, rfl, by decide +kernel, by decide +kernel⟩
/- slots: 0 _law_pen_here, 1 _law_many, 2 _law_digit, 3 _law_at, 4 _law_cell, 5 _law_great, 6 _law_mixed -/
theorem ok_law_draw (z : ∀ x, x ∈ zs → mg x = none) (D : Df K mg "_law_draw" s_law_draw) : Cal P w K mg base 1 "_law_draw" sp_draw [] := by
  refine D.cal sc_law_draw (fun _ _ _ _ _ _ us hl => match us, hl with | [_, _], _ => rfl) (fun vs H Q E ⟨p, c, n, u, e, _⟩ => by rw [e]; rfl) (fun f cdv A outer s H vs Q E hr h => ?_)
  obtain ⟨p, c, n, u, rfl, u0, u1, pen, hn, q⟩ := h
  refine ⟨t_ahead K 7237 83 gPlain (mixB 2147483549 7237 83 2147483647 31 60029 17 2147483587), (pss_cons (ps_if (pt_cmpR op_gt (pe_ix (r := rIxL K) ix_list (pv 0) pe_int (fun _ _ => rfl)) pe_int (nomark _)) (pss_cons (ps_set (i := 2) sc_law_draw.nd rfl (Or.inl rfl) (pe_op op_mod (pe_ix (r := rIxL K) ix_list (pv 0) pe_int (fun _ _ => rfl)) (pv 1)))
        (pss_cons (ps_asg (pe_op op_fdiv (pe_ix (r := rIxL K) ix_list (pv 0) pe_int (fun _ _ => rfl)) (pv 1)) (pg_sub (pv 0) pe_int set_list))
        (pss_one (ps_ret (pv 2))))) pss_nil)
      (pss_cons (ps_set (i := 3) sc_law_draw.nd rfl (Or.inl rfl) (pe_ix (r := rIxL K) ix_list (pv 0) pe_int (fun _ _ => rfl)))
      (pss_cons (ps_asg (pe_op op_add (pv 3) pe_int) (pg_sub (pv 0) pe_int set_list))
      (pss_cons (ps_set (i := 4) sc_law_draw.nd rfl (Or.inl rfl) (pe_op op_add (pe_op op_mul pe_int (pv 3)) pe_int))
      (pss_cons (ps_if (pt_cmpR (r := rNeD K) (op_neD hr.units) (pe_ix (r := rIxL K) ix_list (pv 0) pe_int (fun _ _ => rfl)) (pe_lst pa_nil) (nomark _)) (pss_one (ps_set (i := 4) sc_law_draw.nd rfl (Or.inl rfl) (pe_ix (r := rIxL K) ix_list (pe_ix (r := rIxL K) ix_list (pv 0) pe_int (fun _ _ => rfl)) (pe_op op_mod (pv 3) (pe_callB (r := rLenSq K) call_lenSq (by rfl) (z "len" (by decide)) PySem.boot_len (pa_cons (pe_ix (r := rIxL K) ix_list (pv 0) pe_int (fun _ _ => rfl)) pa_nil))) (fun _ _ => rfl)))) pss_nil)
      (pss_cons (ps_if (PW.pt (pw_and (pt_cmpR op_lt (pv 3) (pe_callB (r := rLenSq K) call_lenSq (by rfl) (z "len" (by decide)) PySem.boot_len (pa_cons (pe_ix (r := rIxL K) ix_list (pv 0) pe_int (fun _ _ => rfl)) pa_nil)) (nomark _)) (pw_and1 (pt_cmpR op_ge (pe_callB call_abs (by rfl) (z "abs" (by decide)) PyProof.Rows.boot_abs (pa_cons (pv 4) pa_nil)) (pe_op op_pow pe_int pe_int) (nomark _))))) (pss_cons (ps_set (i := 5) sc_law_draw.nd rfl (Or.inl rfl) (pe_op op_add (pe_op op_mul pe_int (pe_callB call_abs (by rfl) (z "abs" (by decide)) PyProof.Rows.boot_abs (pa_cons (pv 4) pa_nil))) (pe_callTy call_int1 (by rfl) (z "int" (by decide)) PyProof.Rows.boot_int (pa_cons (pe_cmpR op_lt (pv 4) pe_int (nomark _)) pa_nil))))
        (pss_cons (ps_asg (pe_op op_fdiv (pv 5) (pv 1)) (pg_sub (pv 0) pe_int set_list))
        (pss_one (ps_ret (pe_op op_mod (pv 5) (pv 1)))))) pss_nil)
      (pss_cons (ps_set (i := 6) sc_law_draw.nd rfl (Or.inl rfl) (pe_op op_mod (pe_op op_pow (pe_op op_add (pe_op op_add (pe_op op_mod (pv 4) pe_int) (pe_op op_mul pe_int (pv 3))) pe_int) pe_int) pe_int))
      (pss_cons (ps_set (i := 6) sc_law_draw.nd rfl (Or.inl rfl) (pe_op op_mod (pe_op op_pow (pe_op op_add (pe_op op_add (pe_op op_mul (pv 6) (pe_op op_add (pe_op op_mul pe_int (pv 3)) pe_int)) (pe_op op_mul (pe_op op_mul pe_int (pv 3)) (pv 3))) pe_int) pe_int) pe_int))
      (pss_one (ps_ret (pe_op op_mod (pe_op op_fdiv (pv 6) pe_int) (pv 1)))))))))))), ?_⟩
  refine ahead K (x4 := none) (x5 := none) (rest2 := [none]) (by decide) u0 u1 pen hn gPlain_ok (fun cell a H1 a0 a1 o1 p1 => ?_) q
  exact mixB_ok (by decide) (by decide) (by decide) (by decide) (by decide) (by decide) (by decide) (by decide) u0 a0 (by omega) (fun r r0 r1 => q r H1 r0 r1 o1 p1)
abbrev s_law_kinds : Stmt := topS 13
theorem sc_law_kinds : FnScope ["_law_found"] [] (defScope s_law_kinds) := ⟨rfl, rfl, rfl, by decide +kernel, rfl, by decide +kernel, by decide +kernel⟩
/- slots: 0 _law_found -/
def kindsD : List PyData := kindsL.map fun q => .tuple [.str q.1, .int q.2]
def E0 : Hp := fun _ => none
def sp_kinds (K : PySem.W.Frag) : Sp := fun vs H Q _ => vs = [] ∧ ∀ (L : Addr) (vals : List V) (H' : Hp), Same H H' → H L = none → H' L = some (.lst vals) → DaAll K (fr E0 H H') vals kindsD → Q (.ref L) H'
theorem ok_law_kinds (D : Df K mg "_law_kinds" s_law_kinds) : Cal P w K mg base 1 "_law_kinds" (sp_kinds K) [] := by
  refine D.cal sc_law_kinds (fun _ _ _ _ _ _ us hl => match us, hl with | [], _ => rfl) (fun vs H Q E ⟨e, _⟩ => by rw [e]; rfl) (fun f cdv A outer s H vs Q E hr h => ?_)
  obtain ⟨rfl, q⟩ := h
  refine ⟨_, (pss_cons (ps_set (i := 0) sc_law_kinds.nd rfl (Or.inl rfl) (pe_lst (pa_cons (pe_tup (pa_cons pe_str (pa_cons pe_int pa_nil))) (pa_cons (pe_tup (pa_cons pe_str (pa_cons pe_int pa_nil))) (pa_cons (pe_tup (pa_cons pe_str (pa_cons pe_int pa_nil))) (pa_cons (pe_tup (pa_cons pe_str (pa_cons pe_int pa_nil))) (pa_cons (pe_tup (pa_cons pe_str (pa_cons pe_int pa_nil))) (pa_cons (pe_tup (pa_cons pe_str (pa_cons pe_int pa_nil))) pa_nil))))))))
      (pss_one (ps_ret (pe_op op_cat (pv 0) (pe_lst (pa_cons (pe_tup (pa_cons pe_str (pa_cons pe_int pa_nil))) (pa_cons (pe_tup (pa_cons pe_str (pa_cons pe_int pa_nil))) (pa_cons (pe_tup (pa_cons pe_str (pa_cons pe_int pa_nil))) pa_nil)))))))), ?_⟩
  have n1 : ∀ m : Nat, m ≤ 1000 → m ≤ sizeLine := fun m h => Nat.le_of_lt (small1000 (by omega))
  refine ⟨n1 2 (by decide), fun a1 m1 => ⟨n1 2 (by decide), fun a2 m2 => ⟨n1 2 (by decide), fun a3 m3 => ⟨n1 2 (by decide), fun a4 m4 => ⟨n1 2 (by decide), fun a5 m5 => ⟨n1 2 (by decide), fun a6 m6 => ⟨n1 6 (by decide), fun l1 ml1 => ?_⟩⟩⟩⟩⟩⟩⟩
  refine ⟨.ref l1, rfl, n1 2 (by decide), fun a7 m7 => ⟨n1 2 (by decide), fun a8 m8 => ⟨n1 2 (by decide), fun a9 m9 => ⟨n1 3 (by decide), fun l2 ml2 => ?_⟩⟩⟩⟩
  have s_a1 := same_new (o := .tup [V.str (Str.ofString "start"), V.int 0]) m1
  have s_a2 := same_new (o := .tup [V.str (Str.ofString "load"), V.int 3]) m2
  have s_a3 := same_new (o := .tup [V.str (Str.ofString "store"), V.int 3]) m3
  have s_a4 := same_new (o := .tup [V.str (Str.ofString "move"), V.int 2]) m4
  have s_a5 := same_new (o := .tup [V.str (Str.ofString "clear"), V.int 1]) m5
  have s_a6 := same_new (o := .tup [V.str (Str.ofString "new"), V.int 1]) m6
  have s_l1 := same_new (o := .lst [V.ref a1, V.ref a2, V.ref a3, V.ref a4, V.ref a5, V.ref a6]) ml1
  have s_a7 := same_new (o := .tup [V.str (Str.ofString "scan"), V.int 1]) m7
  have s_a8 := same_new (o := .tup [V.str (Str.ofString "look"), V.int 0]) m8
  have s_a9 := same_new (o := .tup [V.str (Str.ofString "end"), V.int 0]) m9
  have s_l2 := same_new (o := .lst [V.ref a7, V.ref a8, V.ref a9]) ml2
  refine ⟨l1, l2, _, _, rfl, rfl, s_l2 _ _ (s_a9 _ _ (s_a8 _ _ (s_a7 _ _ upd_same))), upd_same, n1 9 (by decide), fun L nL => ?_⟩
  have s_L := same_new (o := .lst ([V.ref a1, V.ref a2, V.ref a3, V.ref a4, V.ref a5, V.ref a6] ++ [V.ref a7, V.ref a8, V.ref a9])) nL
  refine q L _ _ (s_a1.trans (s_a2.trans (s_a3.trans (s_a4.trans (s_a5.trans (s_a6.trans (s_l1.trans (s_a7.trans (s_a8.trans (s_a9.trans (s_l2.trans s_L))))))))))) (s_a1.free (s_a2.free (s_a3.free (s_a4.free (s_a5.free (s_a6.free (s_l1.free (s_a7.free (s_a8.free (s_a9.free (s_l2.free nL))))))))))) upd_same ?_
  have at_ : ∀ {a : Addr} {k : Str} {m : Int} {Hj : Hp}, H a = none → Hj a = some (.tup [V.str k, V.int m]) → Da K (fr E0 H Hj) (.ref a) (.tuple [.str k, .int m]) := fun h h' => .tup (.inl (.inl (fr_at (fun _ _ z => nomatch z) h h'))) (.cons (.str _) (.one (.int _)))
  exact (.cons (at_ m1 (s_L _ _ (s_l2 _ _ (s_a9 _ _ (s_a8 _ _ (s_a7 _ _ (s_l1 _ _ (s_a6 _ _ (s_a5 _ _ (s_a4 _ _ (s_a3 _ _ (s_a2 _ _ upd_same)))))))))))) (.cons (at_ (s_a1.free m2) (s_L _ _ (s_l2 _ _ (s_a9 _ _ (s_a8 _ _ (s_a7 _ _ (s_l1 _ _ (s_a6 _ _ (s_a5 _ _ (s_a4 _ _ (s_a3 _ _ upd_same))))))))))) (.cons (at_ (s_a1.free (s_a2.free m3)) (s_L _ _ (s_l2 _ _ (s_a9 _ _ (s_a8 _ _ (s_a7 _ _ (s_l1 _ _ (s_a6 _ _ (s_a5 _ _ (s_a4 _ _ upd_same)))))))))) (.cons (at_ (s_a1.free (s_a2.free (s_a3.free m4))) (s_L _ _ (s_l2 _ _ (s_a9 _ _ (s_a8 _ _ (s_a7 _ _ (s_l1 _ _ (s_a6 _ _ (s_a5 _ _ upd_same))))))))) (.cons (at_ (s_a1.free (s_a2.free (s_a3.free (s_a4.free m5)))) (s_L _ _ (s_l2 _ _ (s_a9 _ _ (s_a8 _ _ (s_a7 _ _ (s_l1 _ _ (s_a6 _ _ upd_same)))))))) (.cons (at_ (s_a1.free (s_a2.free (s_a3.free (s_a4.free (s_a5.free m6))))) (s_L _ _ (s_l2 _ _ (s_a9 _ _ (s_a8 _ _ (s_a7 _ _ (s_l1 _ _ upd_same))))))) (.cons (at_ (s_a1.free (s_a2.free (s_a3.free (s_a4.free (s_a5.free (s_a6.free (s_l1.free m7))))))) (s_L _ _ (s_l2 _ _ (s_a9 _ _ (s_a8 _ _ upd_same))))) (.cons (at_ (s_a1.free (s_a2.free (s_a3.free (s_a4.free (s_a5.free (s_a6.free (s_l1.free (s_a7.free m8)))))))) (s_L _ _ (s_l2 _ _ (s_a9 _ _ upd_same)))) (.cons (at_ (s_a1.free (s_a2.free (s_a3.free (s_a4.free (s_a5.free (s_a6.free (s_l1.free (s_a7.free (s_a8.free m9))))))))) (s_L _ _ (s_l2 _ _ upd_same))) .nil)))))))))
abbrev s_law_odd : Stmt := topS 15
theorem sc_law_odd : FnScope ["_law_pen_here", "_law_some"] ["_law_pen_here"] (defScope s_law_odd) := ⟨rfl, rfl, rfl, by decide +kernel, rfl, by decide +kernel, by decide +kernel⟩
/- slots: 0 _law_pen_here, 1 _law_some -/
def Odd (d : PyData) : Prop := Bd 1 100 d ∧ Dl d
def sp_odd (K : PySem.W.Frag) : Sp := fun vs H Q _ => ∃ (p c : Addr) (n : Nat) (F : Hp), vs = [.ref p] ∧ Pen H p c n ∧ n + 1 ≤ 100000 ∧ Fx F H p ∧ ∀ v d H', Off p H H' → Pen H' p c (n + 1) → Da K (fr F H H') v d → Odd d → Q v H'
theorem It.odd {k m : Nat} {d : PyData} (h : It k m d) (hk : k ≤ 1) (hm : m ≤ 100) : Odd d := ⟨h.b.le hk hm, fun z => by rw [h.nd] at z; cases z⟩
theorem ok_law_odd (z : ∀ x, x ∈ zs → mg x = none) (D : Df K mg "_law_odd" s_law_odd) (c_law_draw : Cal P w K mg base 1 "_law_draw" sp_draw []) : Cal P w K mg base 2 "_law_odd" (sp_odd K) [] := by
  refine D.cal sc_law_odd (fun _ _ _ _ _ _ us hl => match us, hl with | [_], _ => rfl) (fun vs H Q E ⟨p, c, n, F, e, _⟩ => by rw [e]; rfl) (fun f cdv A outer s H vs Q E hr h => ?_)
  obtain ⟨p, c, n, F, rfl, pen, hn, fx, q⟩ := h
  refine ⟨_, (pss_cons (ps_set (i := 1) sc_law_odd.nd rfl (Or.inl rfl) (pe_lst (pa_cons pe_non (pa_cons pe_bl (pa_cons pe_bl (pa_cons (pe_un un_neg pe_int) (pa_cons pe_int (pa_cons pe_int (pa_cons (pe_op op_pow pe_int pe_int) (pa_cons pe_str (pa_cons pe_str (pa_cons pe_str (pa_cons pe_str (pa_cons (pe_tup pa_nil) (pa_cons (pe_lst pa_nil) (pa_cons pe_dnewK (pa_cons (pe_tup (pa_cons pe_int pa_nil)) (pa_cons (pe_lst (pa_cons pe_int pa_nil)) (pa_cons pe_str (pa_cons pe_str pa_nil))))))))))))))))))))
      (pss_one (ps_ret (pe_ix (r := rIxL K) ix_list (pv 1) (pe_c c_law_draw hr (by decide) (by rfl) (pa_cons (pv 0) (pa_cons pe_int pa_nil))) (fun _ _ => rfl))))), ?_⟩
  have n1 : ∀ m : Nat, m ≤ 1000 → m ≤ sizeLine := fun m h => Nat.le_of_lt (small1000 (by omega))
  refine ⟨1, rfl, 10, 40, rfl, rfl, ⟨by decide, by decide, by decide⟩, Nat.zero_le _, fun e1 m1 => ⟨Nat.zero_le _, fun e2 m2 => fun e3 m3 => ⟨n1 1 (by decide), fun e4 m4 => ⟨n1 1 (by decide), fun e5 m5 => ⟨n1 18 (by decide), fun e6 m6 => ?_⟩⟩⟩⟩⟩
  have s1 := same_new (o := .tup []) m1
  have s2 := same_new (o := .lst []) m2
  have s3 := same_new (o := .dK []) m3
  have s4 := same_new (o := .tup [V.int 0]) m4
  have s5 := same_new (o := .lst [V.int 0]) m5
  have s6 := same_new (o := .lst [V.non, V.bl true, V.bl false, V.int (-1), V.int 0, V.int 1, V.int (10 ^ (40 : Int).toNat), V.str "", V.str "0", V.str "scan", V.str "stop", V.ref e1, V.ref e2, V.ref e3, V.ref e4, V.ref e5, V.str "Load", V.str "end"]) m6
  have sA := ((((s1.trans s2).trans s3).trans s4).trans s5).trans s6
  have f2 := s1.free m2
  have f3 := s1.free (s2.free m3)
  have f4 := s1.free (s2.free (s3.free m4))
  have f5 := s1.free (s2.free (s3.free (s4.free m5)))
  have f6 := s1.free (s2.free (s3.free (s4.free (s5.free m6))))
  have np : ∀ {a : Addr}, H a = none → a ≠ p := fun h => (pen.ne h).1
  refine ⟨.ref e6, rfl, .ref p, rfl, p, c, _, 18, rfl, by decide, by decide, pen.mono sA (Nat.le_refl _), by omega, fun r H' r0 r1 o' p' => ?_⟩
  have oH : Off p H H' := (Off.of sA).trans o'
  have g1 := o' e1 _ (np m1) (s6 _ _ (s5 _ _ (s4 _ _ (s3 _ _ (s2 _ _ upd_same)))))
  have g2 := o' e2 _ (np f2) (s6 _ _ (s5 _ _ (s4 _ _ (s3 _ _ upd_same))))
  have g3 := o' e3 _ (np f3) (s6 _ _ (s5 _ _ (s4 _ _ upd_same)))
  have g4 := o' e4 _ (np f4) (s6 _ _ (s5 _ _ upd_same))
  have g5 := o' e5 _ (np f5) (s6 _ _ upd_same)
  have g6 := o' e6 _ (np f6) upd_same
  obtain ⟨odd, hodd, hoddm⟩ := at_in (xs := [V.non, V.bl true, V.bl false, V.int (-1), V.int 0, V.int 1, V.int (10 ^ (40 : Int).toNat), V.str "", V.str "0", V.str "scan", V.str "stop", V.ref e1, V.ref e2, V.ref e3, V.ref e4, V.ref e5, V.str "Load", V.str "end"]) r0 r1
  have hod : ∃ od, Da K (fr F H H') odd od ∧ Odd od := by
    simp only [List.mem_cons, List.not_mem_nil, or_false] at hoddm
    have lt : ∀ {d}, It 0 61 d → Odd d := fun h => It.odd h (by decide) (by decide)
    have st : ∀ {s : String}, s.length ≤ 8 → Odd (.str (Str.ofString s)) := fun h => It.odd (it_ofS (m := 8) h) (by decide) (by decide)
    rcases hoddm with e | e | e | e | e | e | e | e | e | e | e | e | e | e | e | e | e | e <;> rw [e]
    · exact ⟨_, .non, lt it_none⟩
    · exact ⟨_, .bl _, lt (it_bool _)⟩
    · exact ⟨_, .bl _, lt (it_bool _)⟩
    · exact ⟨_, .int _, lt (it_small (by decide) (by decide))⟩
    · exact ⟨_, .int _, lt (it_small (by decide) (by decide))⟩
    · exact ⟨_, .int _, lt (it_small (by decide) (by decide))⟩
    · exact ⟨_, .int _, lt (it_int (by decide))⟩
    · exact ⟨_, .str _, st (s := "") (by decide)⟩
    · exact ⟨_, .str _, st (s := "0") (by decide)⟩
    · exact ⟨_, .str _, st (s := "scan") (by decide)⟩
    · exact ⟨_, .str _, st (s := "stop") (by decide)⟩
    · exact ⟨_, .tup (.inl (.inl (fr_at fx.s m1 g1))) .nil, It.odd (it_tup (k := 0) (m := 61) 0 it_nil (by decide)) (by decide) (by decide)⟩
    · exact ⟨_, .lst (.inl (.inl (fr_at fx.s f2 g2))) .nil, It.odd (it_lst (k := 0) (m := 61) 0 it_nil (by decide)) (by decide) (by decide)⟩
    · exact ⟨_, .dic (fr_at fx.s f3 g3) .nil, ⟨bd_emp.le (by decide) (by decide), fun _ => rfl⟩⟩
    · exact ⟨_, .tup (.inl (.inl (fr_at fx.s f4 g4))) (.one (.int 0)), It.odd (it_tup (k := 0) (m := 61) 1 (it_one (it_small (by decide) (by decide))) (by decide)) (by decide) (by decide)⟩
    · exact ⟨_, .lst (.inl (.inl (fr_at fx.s f5 g5))) (.one (.int 0)), It.odd (it_lst (k := 0) (m := 61) 1 (it_one (it_small (by decide) (by decide))) (by decide)) (by decide) (by decide)⟩
    · exact ⟨_, .str _, st (s := "Load") (by decide)⟩
    · exact ⟨_, .str _, st (s := "end") (by decide)⟩
  obtain ⟨od, hd, io⟩ := hod
  exact ⟨e6, _, r, odd, rfl, rfl, .inl (.inl g6), hodd, q odd od H' oH p' hd io⟩
end
end K15
namespace K15
open PySem PySem.Spec PyProof.Rows L2 VK
open C8 (Cal pe_c pe_gc pss_cut)
section
variable {P : Program} {w : World} {K : PySem.W.Frag} {mg : Str → Option Value} {base : Heap}
abbrev s_law_good : Stmt := topS 14
theorem sc_law_good : FnScope ["_law_pen_here", "_law_mode", "_law_word", "_law_many", "_law_some", "_law_numbers", "_law_k"] ["_law_pen_here", "_law_mode"] (defScope s_law_good) := ⟨rfl, rfl, rfl, by decide +kernel, rfl, by decide +kernel, by decide +kernel⟩
/- slots: 0 _law_pen_here, 1 _law_mode, 2 _law_word, 3 _law_many, 4 _law_some, 5 _law_numbers, 6 _law_k -/
/-- a number of a step, or None -/
def nn (x : PyData) : Prop := x = .none ∨ ∃ i : Int, x = .int i ∧ i.natAbs < 10 ^ 60
structure Good (mode k : Str) (ns : List PyData) : Prop where
  len : many mode k = some (ns.length : Int)
  nn : ∀ x ∈ ns, nn x
theorem many_of {mode k : Str} {n : Int} (h : baseN k = some n) : many mode k = some (if (k = "scan" ∧ mode = "fields") then 2 else n) := by
  unfold many
  by_cases hc : k = "scan" ∧ mode = "fields"
  · rw [if_pos hc, if_pos hc]
  · rw [if_neg hc, if_neg hc, h]
def somesV : List V := [V.int 0, V.int 1, V.int 2, V.int 9, V.int 10, V.int 11, V.int 99, V.int 100, V.int (10 ^ (30 : Int).toNat)]
theorem da_set {K : PySem.W.Frag} {G : Hp} {u : V} {e : PyData} (he : Da K G u e) : ∀ {xs : List V} {ds : List PyData} {j : Nat}, DaAll K G xs ds → DaAll K G (xs.set j u) (ds.set j e)
  | [], _, _, h => by cases h; exact .nil
  | _ :: _, _, 0, h => by cases h with | cons h t => exact .cons he t
  | _ :: _, _, _ + 1, h => by cases h with | cons h t => exact .cons h (da_set he t)
def sp_good (K : PySem.W.Frag) : Sp := fun vs H Q _ => ∃ (p c : Addr) (n : Nat) (mode : Str) (F : Hp), vs = [.ref p, .str mode] ∧ Pen H p c n ∧ n + 10 ≤ 100000 ∧ Fx F H p ∧
  ∀ v k ns H', Off p H H' → Pen H' p c (n + 10) → Da K (fr F H H') v (.tuple (.str k :: ns)) → Good mode k ns → Q v H'
theorem ok_law_good (z : ∀ x, x ∈ zs → mg x = none) (D : Df K mg "_law_good" s_law_good) (c_law_draw : Cal P w K mg base 1 "_law_draw" sp_draw []) (c_law_kinds : Cal P w K mg base 1 "_law_kinds" (sp_kinds K) []) : Cal P w K mg base 2 "_law_good" (sp_good K) [] := by
  refine D.cal sc_law_good (fun _ _ _ _ _ _ us hl => match us, hl with | [_, _], _ => rfl) (fun vs H Q E ⟨p, c, n, m, F, e, _⟩ => by rw [e]; rfl) (fun f cdv A outer s H vs Q E hr h => ?_)
  obtain ⟨p, c, n, mode, F, rfl, pen, hn, fx, q⟩ := h
  refine ⟨_, (pss_cons (ps_asg (pe_ix (r := rIxL K) ix_list (pe_c0 c_law_kinds hr (by decide) (by rfl)) (pe_c c_law_draw hr (by decide) (by rfl) (pa_cons (pv 0) (pa_cons pe_int pa_nil))) (fun _ _ => rfl)) (pg_tup rfl (pgs_cons (pg_name (i := 2) sc_law_good.nd rfl (Or.inl rfl)) (pgs_cons (pg_name (i := 3) sc_law_good.nd rfl (Or.inl rfl)) pgs_nil))))
      (pss_cut (ps_if (PW.pt (pw_and (pt_cmpR op_eq (pv 2) pe_str (nomark _)) (pw_and1 (pt_cmpR op_eq (pv 1) pe_str (nomark _))))) (pss_one (ps_set (i := 3) sc_law_good.nd rfl (Or.inl rfl) pe_int)) pss_nil)
      (pss_cons (ps_set (i := 4) sc_law_good.nd rfl (Or.inr rfl) (pe_lst (pa_cons pe_int (pa_cons pe_int (pa_cons pe_int (pa_cons pe_int (pa_cons pe_int (pa_cons pe_int (pa_cons pe_int (pa_cons pe_int (pa_cons (pe_op op_pow pe_int pe_int) pa_nil)))))))))))
      (pss_cons (ps_setLc (i := 5) (own := [("_law_k", 6)]) (g := gName 6) (tt := tYes) (by rfl) sc_law_good.nd rfl rfl (sw_true rfl rfl rfl (by decide +kernel)) (pi_range1 (by rfl) (z "range" (by decide)) (pa_cons (pv 3) pa_nil)) (blkOk_by (own := [("_law_k", 6)]) (N := ["_law_pen_here", "_law_mode", "_law_word", "_law_many", "_law_some", "_law_numbers", "_law_k"]) (sc := defScope s_law_good) (by decide +kernel)) (fun _ _ _ _ _ => (pg_name (i := 6) sc_law_good.nd rfl (Or.inl rfl))) (fun _ _ _ _ _ => pts_nil) (fun _ _ _ _ _ => (pe_ix (r := rIxL K) ix_list (pv 4) (pe_c c_law_draw hr (by decide) (by rfl) (pa_cons (pv 0) (pa_cons pe_int pa_nil))) (fun _ _ => rfl))))
      (pss_cut (ps_if (PW.pt (pw_and (pt_cmpR op_eq (pv 2) pe_str (nomark _)) (pw_and1 (pt_cmpR op_eq (pe_c c_law_draw hr (by decide) (by rfl) (pa_cons (pv 0) (pa_cons pe_int pa_nil))) pe_int (nomark _))))) (pss_one (ps_asg pe_non (pg_sub (pv 5) pe_int set_list))) pss_nil)
      (pss_one (ps_ret (pe_op (r := rCatW K) op_catT2 (pe_tup (pa_cons (pv 2) pa_nil)) (pe_callTy (r := rTupleL K) call_tupleL (by rfl) (z "tuple" (by decide)) PyProof.Rows.boot_tuple (pa_cons (pv 5) pa_nil)))))))))), ?_⟩
  have n1 : ∀ m : Nat, m ≤ 1000 → m ≤ sizeLine := fun m h => Nat.le_of_lt (small1000 (by omega))
  refine ⟨rfl, fun L vals H1 s1 nL hL hV => ?_⟩
  have p1 := pen.mono s1 (Nat.le_refl _)
  have nLp := (pen.ne nL).1
  refine ⟨.ref p, rfl, p, c, n, 9, rfl, by decide, by decide, p1, by omega, fun r H2 r0 r1 o2 p2 => ?_⟩
  have o12 : Off p H H2 := (Off.of s1).trans o2
  have fe : Fx E0 H p := ⟨fun _ _ z => (nomatch z), rfl, fx.u⟩
  have hl9 : vals.length = 9 := hV.length
  obtain ⟨v, d, hv, hd, hdm, _⟩ := at_da (fe.mono o2 hV) r0 (by omega)
  obtain ⟨⟨k, m0⟩, hkm, rfl⟩ := List.mem_map.mp hdm
  obtain ⟨a, xs, rfl, T⟩ := hd.td
  have hb := word_base hkm
  cases T with
  | mk sq al =>
  cases al with
  | cons h1 al =>
  cases al with
  | cons h2 al =>
  cases al
  cases h1
  cases h2
  have sqR : SqT K H2 a [V.str k, V.int m0] := same_seqT (fe.le o12) sq
  refine ⟨L, vals, r, _, rfl, rfl, .inl (.inl (o2 _ _ nLp hL)), hv, a, _, rfl, sqR, rfl, .str k, [.int m0], rfl, .int m0, [], rfl, rfl, ?_⟩
  -- the number of fields
  refine ⟨fun σ H' => H' = H2 ∧ σ = [some (.ref p), some (.str mode), some (.str k), some (.int (if (k = "scan" ∧ mode = "fields") then 2 else m0)), none, none, none], ?_, ?_⟩
  · refine ⟨.str k, rfl, rfl, _, rfl, ?_⟩
    by_cases h1 : k = "scan"
    · have e1 : V.str k = .str "scan" := congrArg V.str h1
      rw [decide_eq_true e1]
      refine iteT ⟨.str mode, rfl, rfl, _, rfl, ?_⟩
      by_cases h2 : mode = "fields"
      · have e2 : V.str mode = .str "fields" := congrArg V.str h2
        rw [decide_eq_true e2, if_pos (⟨h1, h2⟩ : k = "scan" ∧ mode = "fields")]
        exact iteT ⟨rfl, rfl⟩
      · have e2 : ¬ V.str mode = .str "fields" := fun z => h2 (V.str.inj z)
        rw [decide_eq_false e2, if_neg (fun h => h2 h.2 : ¬ (k = "scan" ∧ mode = "fields"))]
        exact iteF ⟨rfl, rfl⟩
    · have e1 : ¬ V.str k = .str "scan" := fun z => h1 (V.str.inj z)
      rw [decide_eq_false e1, if_neg (fun h => h1 h.1 : ¬ (k = "scan" ∧ mode = "fields"))]
      exact iteF ⟨rfl, rfl⟩
  rintro σ H' ⟨rfl, rfl⟩
  have hmany := many_of (mode := mode) hb
  generalize hm : (if (k = "scan" ∧ mode = "fields") then (2 : Int) else m0) = m at hmany ⊢
  have m3 : 0 ≤ m ∧ m ≤ 3 ∧ (k = "store" → m = 3) := by
    have hkm' := hkm
    simp only [kindsL, List.mem_cons, List.not_mem_nil, or_false, Prod.mk.injEq] at hkm'
    have hs : k = "store" → ¬ k = "scan" := fun e e2 => by rw [e] at e2; exact absurd e2 (by decide)
    rw [← hm]
    rcases hkm' with ⟨rfl, rfl⟩ | ⟨rfl, rfl⟩ | ⟨rfl, rfl⟩ | ⟨rfl, rfl⟩ | ⟨rfl, rfl⟩ | ⟨rfl, rfl⟩ | ⟨rfl, rfl⟩ | ⟨rfl, rfl⟩ | ⟨rfl, rfl⟩ <;> (refine ⟨?_, ?_, fun e => ?_⟩ <;> first | (split <;> omega) | (exact absurd e (by decide)) | skip)
    rw [if_neg (fun h => absurd h.1 (by decide) : ¬ (("store" : Str) = "scan" ∧ mode = "fields"))]
  -- its numbers
  refine ⟨10, 30, rfl, rfl, ⟨by decide, by decide, by decide⟩, n1 9 (by decide), fun l4 m4 => ?_⟩
  have s4 := same_new (o := .lst somesV) m4
  have l4p := p2.ne m4
  have p4 := p2.mono s4 (Nat.le_refl _)
  have o4 := o12.trans (Off.of s4)
  refine ⟨.int m, rfl, m, rfl, by omega, by omega, fun Dn nD => ?_⟩
  have sD := same_new (o := .lst []) nD
  have nDp := p4.ne nD
  have l4D : l4 ≠ Dn := ne_of_none (o := .lst somesV) upd_same nD
  have fD : H Dn = none := o4.free nD nDp.1
  refine lc_range (lo := 0) (n := m.toNat) (fun j Hj => Pen Hj p c (n + 1 + j) ∧ Off p H Hj ∧ Hj l4 = some (.lst somesV) ∧ ∃ vals ds, Hj Dn = some (.lst vals) ∧ (∀ G, DaAll K G vals ds) ∧ ds.length = j ∧ ∀ x ∈ ds, nn x)
    ⟨p4.mono sD (Nat.le_refl _), o4.trans (Off.of sD), sD _ _ upd_same, [], [], upd_same, fun _ => .nil, rfl, fun x hx => nomatch hx⟩ ?ls ?ld
  case ls =>
    rintro j Hj hj ⟨pj, oj, h4, vals, ds, hD, hda, hdl, hnn⟩
    refine ⟨rfl, .ref l4, rfl, .ref p, rfl, p, c, _, 9, rfl, by decide, by decide, pj, by omega, fun r' Hk r0' r1' ok pk => ?_⟩
    obtain ⟨u, hu, hum⟩ := at_in (xs := somesV) r0' r1'
    have hi : ∃ i : Int, u = .int i ∧ i.natAbs < 10 ^ 60 := by
      simp only [somesV, List.mem_cons, List.not_mem_nil, or_false] at hum
      rcases hum with e | e | e | e | e | e | e | e | e <;> exact ⟨_, e, by decide⟩
    obtain ⟨i, rfl, hib⟩ := hi
    refine ⟨l4, _, r', _, rfl, rfl, .inl (.inl (ok _ _ l4p.1 h4)), hu, vals, ok _ _ nDp.1 hD, small1000 (by have := (hda H).length; omega), (pk.off nDp.1 nDp.2).le (by omega), (oj.trans ok).mut fD, ?_, vals ++ [.int i], ds ++ [.int i], upd_same, fun G => (hda G).append (.one (.int i)), by rw [List.length_append, hdl]; rfl, fun x hx => ?_⟩
    · rw [upd_ne l4D]
      exact ok _ _ l4p.1 h4
    · rcases List.mem_append.mp hx with hx | hx
      · exact hnn x hx
      · rw [List.mem_singleton] at hx
        exact .inr ⟨i, hx, hib⟩
  case ld =>
    rintro Hj ⟨pj, oj, h4, vals, ds, hD, hda, hdl, hnn⟩
    refine ⟨fun σ' Hk => ∃ x6 vals' ds', σ' = [some (.ref p), some (.str mode), some (.str k), some (.int m), some (.ref l4), some (.ref Dn), x6] ∧ Pen Hk p c (n + 9) ∧ Off p H Hk ∧ Hk Dn = some (.lst vals') ∧ (∀ G, DaAll K G vals' ds') ∧ (ds'.length : Int) = m ∧ ∀ x ∈ ds', nn x, ?_, ?_⟩
    · refine ⟨.str k, rfl, rfl, _, rfl, ?_⟩
      by_cases h1 : k = "store"
      · have e1 : V.str k = .str "store" := congrArg V.str h1
        rw [decide_eq_true e1]
        have m33 := m3.2.2 h1
        refine iteT ⟨.ref p, rfl, p, c, _, 3, rfl, by decide, by decide, pj, by omega, fun r' Hk r0' r1' ok pk => ?_⟩
        have hDk := ok _ _ nDp.1 hD
        refine ⟨rfl, _, rfl, ?_⟩
        by_cases h3 : r' = 0
        · rw [decide_eq_true (congrArg V.int h3)]
          have hvl : vals.length = 3 := by have := (hda H).length; omega
          refine iteT ⟨.ref Dn, rfl, Dn, vals, 2, 2, rfl, rfl, hDk, by rw [hvl]; rfl, _, vals.set 2 .non, ds.set 2 .none, rfl, (pk.off nDp.1 nDp.2).le (by omega), (oj.trans ok).mut fD, upd_same, fun G => da_set .non (hda G), by rw [List.length_set]; omega, fun x hx => ?_⟩
          rcases List.mem_or_eq_of_mem_set hx with hx | hx
          · exact hnn x hx
          · exact .inl hx
        · rw [decide_eq_false (fun e => h3 (V.int.inj e))]
          exact iteF ⟨_, vals, ds, rfl, pk.le (by omega), oj.trans ok, hDk, hda, by omega, hnn⟩
      · have e1 : ¬ V.str k = .str "store" := fun z => h1 (V.str.inj z)
        rw [decide_eq_false e1]
        exact iteF ⟨_, vals, ds, rfl, pj.le (by omega), oj, hD, hda, by omega, hnn⟩
    · rintro σ' Hk ⟨x6, vals', ds', rfl, pk, ok, hDk, hda', hdl', hnn'⟩
      have nDk := pk
      refine ⟨.str k, rfl, n1 1 (by decide), fun t1 mt1 => ⟨.ref Dn, rfl, Dn, vals', rfl, .inl (.inl (same_new mt1 _ _ hDk)), fun t2 mt2 => ?_⟩⟩
      have st1 := same_new (o := .tup [V.str k]) mt1
      have st2 := same_new (o := .tup vals') mt2
      have T1 := fx.td ok pk.some mt1 (.one (.str (K := K) k))
      have o5 := ok.trans (Off.of st1)
      have p5 := pk.mono st1 (Nat.le_refl _)
      have T2 := fx.td o5 p5.some mt2 (hda' _)
      have o6 := o5.trans (Off.of st2)
      have p6 := p5.mono st2 (Nat.le_refl _)
      refine ⟨t1, t2, _, _, rfl, rfl, (T1.mono fx (Off.of st2)).real fx o6, T2.real fx o6, ?_, fun t3 H7 s7 r7 => ?_⟩
      · have := (hda' H).length
        exact n1 _ (by simp only [List.length_singleton]; omega)
      · have T3 := fx.tdC o6 p6.some s7 (T1.mono fx (Off.of st2)) T2 r7
        exact q _ k ds' _ (o6.trans (Off.of s7)) (p6.mono s7 (by omega)) T3.da ⟨by rw [hmany, hdl'], hnn'⟩
end
end K15
namespace K15
open PySem PySem.Spec PyProof.Rows L2 VK
open C8 (Cal pe_c pe_gc pss_cut)
theorem _root_.VK.Fx.next {F H Hj : Hp} {p : Addr} (f : Fx F H p) (o : Off p H Hj) (hj : ∃ u, Hj p = some u) : Fx (fr F H Hj) Hj p := ⟨f.le o, f.u.elim fun _ h => fr_off f.n h, hj⟩
theorem _root_.VK.Fx.flat {F H Hj Hk : Hp} {p : Addr} (f : Fx F H p) (o : Off p H Hj) (hj : ∃ u, Hj p = some u) (o' : Off p Hj Hk) : Same (fr (fr F H Hj) Hj Hk) (fr F H Hk) := fun b x e => by
  cases h : fr F H Hj b with
  | some y =>
    rw [fr_old h] at e
    cases e
    exact f.grow o' b _ h
  | none =>
    cases hb : Hj b with
    | some y =>
      rw [fr_off h hb] at e
      cases e
    | none =>
      rw [fr_new h hb] at e
      obtain ⟨u, hu⟩ := hj
      have ne : b ≠ p := (ne_of_none hu hb).symm
      have hF : F b = none := by
        cases hf : F b with
        | none => rfl
        | some y =>
          rw [fr_old hf] at h
          cases h
      rw [fr_new hF (o.free hb ne)]
      exact e
section
variable {P : Program} {w : World} {K : PySem.W.Frag} {mg : Str → Option Value} {base : Heap}
abbrev s_law_bent : Stmt := topS 16
theorem sc_law_bent : FnScope ["_law_pen_here", "_law_act", "_law_way", "_law_at"] ["_law_pen_here", "_law_act"] (defScope s_law_bent) := ⟨rfl, rfl, rfl, by decide +kernel, rfl, by decide +kernel, by decide +kernel⟩
/- slots: 0 _law_pen_here, 1 _law_act, 2 _law_way, 3 _law_at -/
/-- a step, bent or not: its text, and no list beside a dict -/
def Bnt (d : PyData) : Prop := Bd 2 5000 d ∧ Dl d
/-- a word or a number -/
def Atom (x : PyData) : Prop := It 0 82 x ∧ Pl x
theorem bnt_tup {cs : List PyData} (h : ∀ x ∈ cs, Atom x) (hl : cs.length ≤ 20) : Bnt (.tuple cs) :=
  ⟨(bd_tup (k := 1) (m := 100) fun x hx => (h x hx).1.b.le (by decide) (by decide)).le (Nat.le_refl _) (by omega), (pl_tup fun x hx => (h x hx).2).dl⟩
theorem bnt_one {cs : List PyData} {od : PyData} (h : ∀ x ∈ cs, Atom x ∨ x = od) (ho : Odd od) (hl : cs.length ≤ 20) : Bnt (.tuple cs) :=
  ⟨(bd_tup (k := 1) (m := 100) fun x hx => (h x hx).elim (fun z => z.1.b.le (by decide) (by decide)) (fun z => z ▸ ho.1)).le (Nat.le_refl _) (by omega), dl_tup (fun x hx => (h x hx).imp And.right id) ho.2⟩
theorem bnt_lst {cs : List PyData} (h : ∀ x ∈ cs, Atom x) (hl : cs.length ≤ 20) : Bnt (.list cs) :=
  ⟨(bd_lst (k := 1) (m := 100) fun x hx => (h x hx).1.b.le (by decide) (by decide)).le (Nat.le_refl _) (by omega), fun z => by
    simp only [PyData.hasDict] at z
    rw [hasDictAll_false fun x hx => (h x hx).2.nd] at z
    cases z⟩
def sp_bent (K : PySem.W.Frag) : Sp := fun vs H Q _ => ∃ (p c : Addr) (n : Nat) (v : V) (ds : List PyData) (F : Hp), vs = [.ref p, v] ∧ Pen H p c n ∧ n + 5 ≤ 100000 ∧ Fx F H p ∧ Da K F v (.tuple ds) ∧ ds ≠ [] ∧ ds.length ≤ 4 ∧ (∀ x ∈ ds, Atom x) ∧
  ∀ v d H', Off p H H' → Pen H' p c (n + 5) → Da K (fr F H H') v d → Bnt d → Q v H'
theorem ok_law_bent (z : ∀ x, x ∈ zs → mg x = none) (D : Df K mg "_law_bent" s_law_bent) (c_law_draw : Cal P w K mg base 1 "_law_draw" sp_draw []) (c_law_odd : Cal P w K mg base 2 "_law_odd" (sp_odd K) []) : Cal P w K mg base 3 "_law_bent" (sp_bent K) [] := by
  refine D.cal sc_law_bent (fun _ _ _ _ _ _ us hl => match us, hl with | [_, _], _ => rfl) (fun vs H Q E ⟨p, c, n, v, ds, F, e, _⟩ => by rw [e]; rfl) (fun f cdv A outer s H vs Q E hr h => ?_)
  obtain ⟨p, c, n, v, ds, F, rfl, pen, hn, fx, hv, hne, hlen, hat, q⟩ := h
  obtain ⟨a, xs, rfl, OB⟩ := hv.td
  refine ⟨_, (pss_cons (ps_set (i := 2) sc_law_bent.nd rfl (Or.inl rfl) (pe_c c_law_draw hr (by decide) (by rfl) (pa_cons (pv 0) (pa_cons pe_int pa_nil))))
      (pss_cons (ps_set (i := 3) sc_law_bent.nd rfl (Or.inl rfl) (pe_c c_law_draw hr (by decide) (by rfl) (pa_cons (pv 0) (pa_cons (pe_callB (r := rLenSq K) call_lenSq (by rfl) (z "len" (by decide)) PySem.boot_len (pa_cons (pv 1) pa_nil)) pa_nil))))
      (pss_cons (ps_if (pt_cmpR op_lt (pv 2) pe_int (nomark _)) (pss_one (ps_ret (pe_op (r := rCatW K) op_catT2 (pe_op (r := rCatW K) op_catT2 (pe_slice (r := rSlW K) sl_tupT (pv 1) po_none (po_some (pv 3))) (pe_tup (pa_cons (pe_c c_law_odd hr (by decide) (by rfl) (pa_cons (pv 0) pa_nil)) pa_nil))) (pe_slice (r := rSlW K) sl_tupT (pv 1) (po_some (pe_op op_add (pv 3) pe_int)) po_none)))) pss_nil)
      (pss_one (ps_ret (pe_ix (r := rIxL K) ix_list (pe_lst (pa_cons (pe_op (r := rCatW K) op_catT2 (pe_slice (r := rSlW K) sl_tupT (pv 1) po_none (po_some (pv 3))) (pe_slice (r := rSlW K) sl_tupT (pv 1) (po_some (pe_op op_add (pv 3) pe_int)) po_none)) (pa_cons (pe_op (r := rCatW K) op_catT2 (pe_slice (r := rSlW K) sl_tupT (pv 1) po_none (po_some (pe_op op_add (pv 3) pe_int))) (pe_slice (r := rSlW K) sl_tupT (pv 1) (po_some (pv 3)) po_none)) (pa_cons (pe_callTy (r := rListOf K) call_listOf (by rfl) (z "list" (by decide)) PyProof.Rows.boot_list (pa_cons (pv 1) pa_nil)) (pa_cons (pe_op (r := rCatW K) op_catT2 (pv 1) (pe_tup (pa_cons pe_non pa_nil))) pa_nil))))) (pe_op op_sub (pv 2) pe_int) (fun _ _ => rfl))))))), ?_⟩
  have rl := OB.all.length
  have pos : 0 < ds.length := List.length_pos_iff.mpr hne
  have obq : ∀ {Hj : Hp}, Off p H Hj → SqT K Hj a xs := fun oj => same_seqT (oj.same fx.n fx.s) OB.sq
  have OBf : ∀ {Hj : Hp}, TD K (fr F H Hj) a xs ds := OB.up fr_ext
  have one : ∀ {m : Nat}, m ≤ 1000 → m ≤ sizeLine := fun h => Nat.le_of_lt (small1000 h)
  have mem_t : ∀ {k : Nat} {x : PyData}, x ∈ ds.take k → Atom x := fun h => hat _ (List.mem_of_mem_take h)
  have mem_d : ∀ {k : Nat} {x : PyData}, x ∈ ds.drop k → Atom x := fun h => hat _ (List.mem_of_mem_drop h)
  refine ⟨.ref p, rfl, p, c, n, 6, rfl, by decide, by decide, pen, by omega, fun way H1 y0 y1 o1 p1 => ?_⟩
  refine ⟨.ref p, rfl, .ref a, rfl, a, xs, rfl, .inr (obq o1), p, c, _, xs.length, rfl, by omega, by omega, p1, by omega, fun at_ H2 t0 t1 o2 p2 => ?_⟩
  obtain ⟨ka, rfl⟩ : ∃ k : Nat, at_ = k := ⟨at_.toNat, by omega⟩
  have oH2 := o1.trans o2
  refine ⟨.int way, rfl, way, 2, rfl, rfl, _, rfl, ?_⟩
  by_cases hw : way < 2
  · rw [decide_eq_true hw]
    refine iteT ⟨.ref a, rfl, .int ka, rfl, ka, rfl, a, xs, rfl, obq oH2, fun b1 H3 s3 r3 => ?_⟩
    rw [cut_take] at r3
    have t3 := fx.tdS oH2 p2.some s3 OBf r3 (OBf.all.take ka)
    have o3 := oH2.trans (Off.of s3)
    have p3 := p2.mono s3 (Nat.le_refl _)
    refine ⟨.ref p, rfl, p, c, _, fr F H H3, rfl, p3, by omega, fx.next o3 p3.some, fun ov od H4 o4 p4 hod hodd => ⟨(by show 1 ≤ sizeLine; decide), fun b2 m2 => ?_⟩⟩
    have hod' := hod.mono (fx.flat o3 p3.some o4)
    have oH4 := o3.trans o4
    have s5 := same_new (o := .tup [ov]) m2
    have t5 := fx.td oH4 p4.some m2 (.one hod')
    have o5 := oH4.trans (Off.of s5)
    have p5 := p4.mono s5 (Nat.le_refl _)
    have t35 := t3.mono fx (o4.trans (Off.of s5))
    refine ⟨b1, b2, _, _, rfl, rfl, t35.real fx o5, t5.real fx o5, one (by simp only [List.length_take, List.length_singleton]; omega), fun b3 H6 s6 r6 => ?_⟩
    have t6 := fx.tdC o5 p5.some s6 t35 t5 r6
    have o6 := o5.trans (Off.of s6)
    have p6 := p5.mono s6 (Nat.le_refl _)
    refine ⟨.ref a, rfl, .int ka, rfl, ka, 1, rfl, rfl, (ka : Int) + 1, rfl, a, xs, rfl, obq o6, fun b4 H7 s7 r7 => ?_⟩
    rw [show ((ka : Int) + 1) = ((ka + 1 : Nat) : Int) by omega, cut_drop] at r7
    have t7 := fx.tdS o6 p6.some s7 OBf r7 (OBf.all.drop (ka + 1))
    have o7 := o6.trans (Off.of s7)
    have p7 := p6.mono s7 (Nat.le_refl _)
    refine ⟨b3, b4, _, _, rfl, rfl, (t6.mono fx (Off.of s7)).real fx o7, t7.real fx o7, one (by simp only [List.length_append, List.length_take, List.length_drop, List.length_singleton]; omega), fun b5 H8 s8 r8 => ?_⟩
    have t8 := fx.tdC o7 p7.some s8 (t6.mono fx (Off.of s7)) t7 r8
    refine q _ _ _ (o7.trans (Off.of s8)) (p7.mono s8 (by omega)) t8.da (bnt_one (od := od) (fun x hx => ?_) hodd (by simp only [List.length_append, List.length_take, List.length_drop, List.length_singleton]; omega))
    rcases List.mem_append.mp hx with hx | hx
    · rcases List.mem_append.mp hx with hx | hx
      · exact .inl (mem_t hx)
      · exact .inr (List.mem_singleton.mp hx)
    · exact .inl (mem_d hx)
  · rw [decide_eq_false hw]
    refine iteF ⟨.ref a, rfl, .int ka, rfl, ka, rfl, a, xs, rfl, obq oH2, fun b1 H3 s3 r3 => ?_⟩
    rw [cut_take] at r3
    have t3 := fx.tdS oH2 p2.some s3 OBf r3 (OBf.all.take ka)
    have o3 := oH2.trans (Off.of s3)
    have p3 := p2.mono s3 (Nat.le_refl _)
    refine ⟨.ref a, rfl, .int ka, rfl, ka, 1, rfl, rfl, (ka : Int) + 1, rfl, a, xs, rfl, obq o3, fun b2 H4 s4 r4 => ?_⟩
    rw [show ((ka : Int) + 1) = ((ka + 1 : Nat) : Int) by omega, cut_drop] at r4
    have t4 := fx.tdS o3 p3.some s4 OBf r4 (OBf.all.drop (ka + 1))
    have o4 := o3.trans (Off.of s4)
    have p4 := p3.mono s4 (Nat.le_refl _)
    refine ⟨b1, b2, _, _, rfl, rfl, (t3.mono fx (Off.of s4)).real fx o4, t4.real fx o4, one (by simp only [List.length_take, List.length_drop]; omega), fun b3 H5 s5 r5 => ?_⟩
    have t5 := fx.tdC o4 p4.some s5 (t3.mono fx (Off.of s4)) t4 r5
    have o5 := o4.trans (Off.of s5)
    have p5 := p4.mono s5 (Nat.le_refl _)
    refine ⟨.ref a, rfl, .int ka, rfl, ka, 1, rfl, rfl, (ka : Int) + 1, rfl, a, xs, rfl, obq o5, fun c1 H6 s6 r6 => ?_⟩
    rw [show ((ka : Int) + 1) = ((ka + 1 : Nat) : Int) by omega, cut_take] at r6
    have t6 := fx.tdS o5 p5.some s6 OBf r6 (OBf.all.take (ka + 1))
    have o6 := o5.trans (Off.of s6)
    have p6 := p5.mono s6 (Nat.le_refl _)
    refine ⟨.ref a, rfl, .int ka, rfl, ka, rfl, a, xs, rfl, obq o6, fun c2 H7 s7 r7 => ?_⟩
    rw [cut_drop] at r7
    have t7 := fx.tdS o6 p6.some s7 OBf r7 (OBf.all.drop ka)
    have o7 := o6.trans (Off.of s7)
    have p7 := p6.mono s7 (Nat.le_refl _)
    refine ⟨c1, c2, _, _, rfl, rfl, (t6.mono fx (Off.of s7)).real fx o7, t7.real fx o7, one (by simp only [List.length_take, List.length_drop]; omega), fun c3 H8 s8 r8 => ?_⟩
    have t8 := fx.tdC o7 p7.some s8 (t6.mono fx (Off.of s7)) t7 r8
    have o8 := o7.trans (Off.of s8)
    have p8 := p7.mono s8 (Nat.le_refl _)
    refine ⟨.ref a, rfl, a, xs, rfl, .inr (obq o8), fun c4 m4 => ?_⟩
    have s9 := same_new (o := .lst xs) m4
    have t9 : Da K _ (.ref c4) (.list ds) := fx.lst o8 p8.some m4 OBf.all
    have o9 := o8.trans (Off.of s9)
    have p9 := p8.mono s9 (Nat.le_refl _)
    refine ⟨.ref a, rfl, one (by decide), fun c5 m5 => ?_⟩
    have s10 := same_new (o := .tup [V.non]) m5
    have t10 := fx.td (K := K) o9 p9.some m5 (xs := [V.non]) (ds := [.none]) (.one .non)
    have o10 := o9.trans (Off.of s10)
    have p10 := p9.mono s10 (Nat.le_refl _)
    refine ⟨a, c5, _, _, rfl, rfl, obq o10, t10.real fx o10, one (by simp only [List.length_singleton]; omega), fun c6 H11 s11 r11 => ⟨(by show 4 ≤ sizeLine; decide), fun c7 m7 => ?_⟩⟩
    have t11 := fx.tdC o10 p10.some s11 OBf t10 r11
    have o11 := o10.trans (Off.of s11)
    have p11 := p10.mono s11 (Nat.le_refl _)
    have s12 := same_new (o := .lst [V.ref b3, V.ref c3, V.ref c4, V.ref c6]) m7
    have o12 := o11.trans (Off.of s12)
    have p12 := p11.mono s12 (Nat.le_refl _)
    have L4 : DaAll K (fr F H (upd H11 c7 (.lst [V.ref b3, V.ref c3, V.ref c4, V.ref c6]))) [V.ref b3, V.ref c3, V.ref c4, V.ref c6] [.tuple (ds.take ka ++ ds.drop (ka + 1)), .tuple (ds.take (ka + 1) ++ ds.drop ka), .list ds, .tuple (ds ++ [.none])] := by
      have z10 := (Off.of (p := p) s11).trans (Off.of s12)
      have z9 := (Off.of (p := p) s10).trans z10
      have z8 := (Off.of (p := p) s9).trans z9
      have z5 := (Off.of (p := p) s6).trans ((Off.of s7).trans ((Off.of s8).trans z8))
      exact .cons (t5.mono fx z5).da (.cons (t8.mono fx z8).da (.cons (fx.mono1 z9 t9) (.one (t11.mono fx (Off.of s12)).da)))
    have B4 : ∀ x ∈ ([.tuple (ds.take ka ++ ds.drop (ka + 1)), .tuple (ds.take (ka + 1) ++ ds.drop ka), .list ds, .tuple (ds ++ [.none])] : List PyData), Bnt x := by
      intro x hx
      simp only [List.mem_cons, List.not_mem_nil, or_false] at hx
      rcases hx with e | e | e | e <;> rw [e]
      · exact bnt_tup (fun x hx => (List.mem_append.mp hx).elim mem_t mem_d) (by simp only [List.length_append, List.length_take, List.length_drop]; omega)
      · exact bnt_tup (fun x hx => (List.mem_append.mp hx).elim mem_t mem_d) (by simp only [List.length_append, List.length_take, List.length_drop]; omega)
      · exact bnt_lst hat (by omega)
      · exact bnt_tup (fun x hx => (List.mem_append.mp hx).elim (hat x) (fun h => by rw [List.mem_singleton] at h; rw [h]; exact ⟨it_none.le (by decide) (by decide), pl_none⟩)) (by simp only [List.length_append, List.length_singleton]; omega)
    obtain ⟨v, d, hv, hd, hdm, _⟩ := at_da L4 (i := way - 2) (by omega) (by show way - 2 < 4; omega)
    exact ⟨.int way, rfl, way, 2, rfl, rfl, c7, _, way - 2, v, rfl, rfl, .inl (.inl upd_same), hv, q v d _ o12 (p12.le (by omega)) hd (B4 d hdm)⟩
end
end K15
namespace K15
open PySem PySem.Spec PyProof.Rows L2 VK
open C8 (Cal pe_c pe_gc pss_cut)
theorem td_sl {K : PySem.W.Frag} {H H' : Hp} {a a' : Addr} {xs ys : List V} {es : List PyData} (s : Same H H') (sq : SqT K H a xs) (r : (a' = a ∧ ys = xs) ∨ (H a' = none ∧ H' a' = some (.tup ys))) (h : DaAll K H ys es) : TD K H' a' ys es := by
  rcases r with ⟨e1, e2⟩ | ⟨_, h2⟩
  · rw [e1, e2]
    rw [e2] at h
    exact ⟨same_seqT s sq, h.mono s⟩
  · exact ⟨.inl (.inl h2), h.mono s⟩
theorem many_none {mode k : Str} (h : baseN k = none) : many mode k = none := by
  unfold many
  have e : ¬ (k = "scan" ∧ mode = "fields") := fun z => by
    rw [z.1] at h
    exact absurd h (by decide +kernel)
  rw [if_neg e, h]
def wordsS : List Str := kindsL.map (·.1)
def idx (k : Str) : Nat := wordsS.findIdx fun x => decide (x = k)
theorem idx_ok {k : Str} {n : Int} (h : baseN k = some n) : wordsS[idx k]? = some k ∧ ∀ m, m < idx k → wordsS[m]? ≠ some k := by
  have hkm' := base_word h
  simp only [kindsL, List.mem_cons, List.not_mem_nil, or_false, Prod.mk.injEq] at hkm'
  rcases hkm' with ⟨rfl, rfl⟩ | ⟨rfl, rfl⟩ | ⟨rfl, rfl⟩ | ⟨rfl, rfl⟩ | ⟨rfl, rfl⟩ | ⟨rfl, rfl⟩ | ⟨rfl, rfl⟩ | ⟨rfl, rfl⟩ | ⟨rfl, rfl⟩ <;> decide +kernel
def val : PyData → Int
  | .int i => i
  | _ => -1
def rank (k : Str) (ns : List PyData) : List Int := (idx k : Int) :: ns.map val
theorem da_ints {K : PySem.W.Frag} {G : Hp} : ∀ ns : List Int, DaAll K G (ns.map V.int) (ns.map PyData.int)
  | [] => .nil
  | n :: ns => .cons (.int n) (da_ints ns)
section
variable {P : Program} {w : World} {K : PySem.W.Frag} {mg : Str → Option Value} {base : Heap}
abbrev s_kind_of : Stmt := topS 6
theorem sc_kind_of : FnScope ["thing", "kind"] ["thing"] (defScope s_kind_of) := ⟨rfl, rfl, rfl, by decide +kernel, rfl, by decide +kernel, by decide +kernel⟩
/- slots: 0 thing, 1 kind -/
def kindP : PyData → Option Str
  | .tuple (.str k :: _) => if (baseN k).isSome then some k else none
  | _ => none
def kndV : Option Str → V
  | some k => .str k
  | none => .non
def sp_kind_of (K : PySem.W.Frag) : Sp := fun vs H Q _ => ∃ v d, vs = [v] ∧ Da K H v d ∧ Q (kndV (kindP d)) H
theorem ok_kind_of (z : ∀ x, x ∈ zs → mg x = none) (D : Df K mg "kind_of" s_kind_of) {sk : Addr} (g : mg "STEP_KINDS" = some (.ref sk)) (hK : ∀ H, SqT K H sk wordsV) : Cal P w K mg base 1 "kind_of" (sp_kind_of K) [] := by
  have g_STEP_KINDS : ∃ u, mg "STEP_KINDS" = some u ∧ RelV (.ref sk) u := ⟨_, g, rfl⟩
  refine D.cal sc_kind_of (fun _ _ _ _ _ _ us hl => match us, hl with | [_], _ => rfl) (fun vs H Q E ⟨v, d, e, _⟩ => by rw [e]; rfl) (fun f cdv A outer s H vs Q E hr h => ?_)
  obtain ⟨v, d, rfl, hd, q⟩ := h
  refine ⟨_, (pss_cons (ps_if (PW.pt (pw_or (pt_not (pt_val (pe_callB (r := rIsi K) call_isi (by rfl) (z "isinstance" (by decide)) PyProof.Rows.boot_isinstance (pa_cons (pv 0) (pa_cons (pe_bltn (v := .ty "tuple") (by rfl) (z "tuple" (by decide)) PyProof.Rows.boot_tuple rfl) pa_nil))))) (pw_or1 (pt_cmpR op_eq (pe_callB (r := rLenSq K) call_lenSq (by rfl) (z "len" (by decide)) PySem.boot_len (pa_cons (pv 0) pa_nil)) pe_int (nomark _))))) (pss_one (ps_ret pe_non)) pss_nil)
      (pss_cons (ps_set (i := 1) sc_kind_of.nd rfl (Or.inl rfl) (pe_ix (r := rIxT K) ix_tup (pv 0) pe_int (fun _ _ => rfl)))
      (pss_one (ps_ret (pe_ifExp (PW.pt (pw_and (pt_val (pe_callB (r := rIsi K) call_isi (by rfl) (z "isinstance" (by decide)) PyProof.Rows.boot_isinstance (pa_cons (pv 1) (pa_cons (pe_bltn (v := .ty "str") (by rfl) (z "str" (by decide)) PyProof.Rows.boot_str rfl) pa_nil)))) (pw_and1 (pt_cmpR (r := rIn K false) op_in_seq (pv 1) (pe_gc (by rfl) g_STEP_KINDS) (by rfl))))) (pv 1) pe_non))))), ?_⟩
  have bad : kindP d = none → Q .non H := fun e => by
    rw [e] at q
    exact q
  refine ⟨v, rfl, v, .ty "tuple", _, _, _, rfl, .ty _, da_ty hd, kT d, _, rfl, ?_⟩
  cases hd with
  | @tup t xs ds ht hds =>
    have hl := hds.length
    refine iteF ⟨.ref t, rfl, t, xs, rfl, .inr ht, rfl, _, rfl, ?_⟩
    cases hds with
    | nil => exact iteT (bad rfl)
    | @cons x0 xr d0 ns hx0 hr0 =>
      rw [decide_eq_false (fun e => by have h' := V.int.inj e; rw [List.length_cons] at h'; omega : ¬ V.int ((x0 :: xr).length : Int) = .int 0)]
      refine iteF ⟨.ref t, rfl, t, _, 0, x0, rfl, rfl, ht, atI_nat (j := 0) rfl, ?_⟩
      refine ⟨x0, rfl, x0, .ty "str", _, _, _, rfl, .ty _, da_ty hx0, kS d0, _, rfl, ?_⟩
      cases hs : isStr d0 with
      | false =>
        refine iteF (bad ?_)
        cases d0 <;> first | rfl | (cases hs; done)
      | true =>
        cases hx0 with
        | str k =>
          refine iteT ⟨.str k, rfl, sk, wordsV, rfl, .inr (hK H), rfl, rfl, inV (.str k) wordsV, rfl, ?_⟩
          rw [inV_words]
          cases hb : (baseN k).isSome with
          | false =>
            refine iteF (bad ?_)
            show (if (baseN k).isSome then some k else none) = none
            rw [hb]
            rfl
          | true =>
            have e : kindP (.tuple (.str k :: ns)) = some k := by
              show (if (baseN k).isSome then some k else none) = some k
              rw [hb]
              rfl
            rw [e] at q
            exact iteT ⟨_, rfl, q⟩
        | _ => cases hs
  | _ => exact iteT (bad rfl)
abbrev s_has_numbers : Stmt := topS 7
theorem sc_has_numbers : FnScope ["thing", "many", "numbers", "number"] ["thing", "many"] (defScope s_has_numbers) := ⟨rfl, rfl, rfl, by decide +kernel, rfl, by decide +kernel, by decide +kernel⟩
/- slots: 0 thing, 1 many, 2 numbers, 3 number -/
def sp_has (K : PySem.W.Frag) : Sp := fun vs H Q _ => ∃ v k ns m, vs = [v, .int m] ∧ Da K H v (.tuple (.str k :: ns)) ∧ (k = "store" → m = 3) ∧ m ≤ 1000 ∧ ∀ H', Same H H' → Q (.bl (decide ((ns.length : Int) = m) && (rest k ns).all isNat)) H'
theorem ok_has_numbers (z : ∀ x, x ∈ zs → mg x = none) (D : Df K mg "has_numbers" s_has_numbers) (c_is_number : Cal P w K mg base 1 "is_number" (sp_is_number K) []) : Cal P w K mg base 2 "has_numbers" (sp_has K) [] := by
  refine D.cal sc_has_numbers (fun _ _ _ _ _ _ us hl => match us, hl with | [_, _], _ => rfl) (fun vs H Q E ⟨v, k, ns, m, e, _⟩ => by rw [e]; rfl) (fun f cdv A outer s H vs Q E hr h => ?_)
  obtain ⟨v, k, ns, m, rfl, hd, hm3, hm1, q⟩ := h
  refine ⟨_, (pss_cons (ps_set (i := 2) sc_has_numbers.nd rfl (Or.inl rfl) (pe_slice (r := rSlW K) sl_tupT (pv 0) (po_some pe_int) po_none))
      (pss_cons (ps_if (pt_cmpR op_ne (pe_callB (r := rLenSq K) call_lenSq (by rfl) (z "len" (by decide)) PySem.boot_len (pa_cons (pv 2) pa_nil)) (pv 1) (nomark _)) (pss_one (ps_ret pe_bl)) pss_nil)
      (pss_cut (ps_if (PW.pt (pw_and (pt_cmpR op_eq (pe_ix (r := rIxT K) ix_tup (pv 0) pe_int (fun _ _ => rfl)) pe_str (nomark _)) (pw_and1 (pt_cmpR op_isN (pe_ix (r := rIxT K) ix_tup (pv 2) (pe_un un_neg pe_int) (fun _ _ => rfl)) pe_non (nomark _))))) (pss_one (ps_set (i := 2) sc_has_numbers.nd rfl (Or.inl rfl) (pe_slice (r := rSlW K) sl_tupT (pv 2) po_none (po_some (pe_un un_neg pe_int))))) pss_nil)
      (pss_one (ps_ret (pe_callB (r := rAll K) (cr_all rfl) (by rfl) (z "all" (by decide)) PyProof.Rows.boot_all (pa_cons (pe_lc (own := [("number", 3)]) (g := gName 3) (tt := tYes) (by rfl) sc_has_numbers.nd (pi_tup (pv 2)) (blkOk_by (own := [("number", 3)]) (N := ["thing", "many", "numbers", "number"]) (sc := defScope s_has_numbers) (by decide +kernel)) (fun _ _ _ _ _ => (pg_name (i := 3) sc_has_numbers.nd rfl (Or.inl rfl))) (fun _ _ _ _ _ => pts_nil) (fun _ _ _ _ _ => (pe_and (pe_c c_is_number hr (by decide) (by rfl) (pa_cons (pv 3) pa_nil)) (pe_one (pe_cmpR op_ge (pv 3) pe_int (nomark _)))))) pa_nil))))))), ?_⟩
  obtain ⟨t, xs, rfl, T⟩ := hd.td
  cases T with
  | mk ht al =>
  cases al with
  | @cons x0 xr _ _ hx0 hr0 =>
  cases hx0
  refine ⟨.ref t, rfl, 1, rfl, t, _, rfl, ht, fun t2 H1 s1 r1 => ?_⟩
  rw [show cutV (V.str k :: xr) (some 1) none = xr from cut_drop (V.str k :: xr) 1] at r1
  have T1 := td_sl s1 ht r1 hr0
  have hl1 := hr0.length
  refine ⟨.ref t2, rfl, t2, xr, rfl, .inr T1.sq, .int m, rfl, rfl, _, rfl, ?_⟩
  by_cases hlm : (ns.length : Int) = m
  · rw [decide_eq_true (show V.int (xr.length : Int) = .int m by rw [hl1, hlm])]
    rw [decide_eq_true hlm, Bool.true_and] at q
    refine iteF ⟨fun σ' H' => ∃ t3 ys, σ' = [some (.ref t), some (.int m), some (.ref t3), none] ∧ Same H H' ∧ TD K H' t3 ys (rest k ns), ?_, ?_⟩
    · refine ⟨.ref t, rfl, t, _, 0, .str k, rfl, rfl, same_seqT s1 ht, atI_nat (j := 0) rfl, rfl, _, rfl, ?_⟩
      by_cases hk : k = "store"
      · rw [decide_eq_true (congrArg V.str hk)]
        have l3 : ns.length = 3 := by have := hm3 hk; omega
        obtain ⟨y1, y2, y3, rfl⟩ : ∃ a b c, ns = [a, b, c] := by
          match ns, l3 with
          | [a, b, c], _ => exact ⟨a, b, c, rfl⟩
        cases hr0 with
        | @cons x1 _ _ _ hx1 hr0 =>
        cases hr0 with
        | @cons x2 _ _ _ hx2 hr0 =>
        cases hr0 with
        | @cons x3 _ _ _ hx3 hr0 =>
        cases hr0
        refine iteT ⟨.ref t2, rfl, 1, rfl, t2, _, -1, x3, rfl, rfl, T1.sq, atI_last [x1, x2] x3, rfl, _, rfl, ?_⟩
        by_cases hu : x3 = .non
        · subst hu
          cases hx3
          refine iteT ⟨.ref t2, rfl, 1, rfl, -1, rfl, t2, _, rfl, T1.sq, fun t3 H2 s2 r2 => ?_⟩
          rw [show cutV [x1, x2, V.non] none (some (-1)) = [x1, x2] from cut_init [x1, x2, V.non]] at r2
          refine ⟨t3, [x1, x2], rfl, s1.trans s2, ?_⟩
          rw [show rest k [y1, y2, PyData.none] = [y1, y2] from if_pos ⟨hk, rfl⟩]
          exact td_sl s2 T1.sq r2 ((DaAll.cons hx1 (.one hx2)).mono s1)
        · rw [decide_eq_false hu]
          refine iteF ⟨t2, [x1, x2, x3], rfl, s1, ?_⟩
          have e : rest k [y1, y2, y3] = [y1, y2, y3] := if_neg fun h => by
            cases hx3 <;> first | exact hu rfl | exact nomatch h.2
          rw [e]
          exact T1
      · rw [decide_eq_false (fun e => hk (V.str.inj e))]
        refine iteF ⟨t2, xr, rfl, s1, ?_⟩
        rw [show rest k ns = ns from if_neg fun h => hk h.1]
        exact T1
    · rintro σ' H' ⟨t3, ys, rfl, s2, T⟩
      have hrl : (rest k ns).length ≤ ns.length := by
        unfold rest
        split
        · rw [List.length_take]
          exact Nat.min_le_right _ _
        · exact Nat.le_refl _
      refine ⟨.ref t3, rfl, t3, rfl, ⟨ys, T.sq⟩, fun Dn nD => ?_⟩
      refine lc_mapT (fun d => .bl (isNat d)) T.sq T.all (by omega) nD (fun _ => rfl) (fun x d H3 hm sm hx Q' q' => ?_) (fun H3 sm hD => ?_)
      · refine ⟨x, rfl, x, d, rfl, hx, isNum d, rfl, ?_⟩
        cases hx with
        | int i => exact iteT ⟨_, rfl, i, 0, rfl, rfl, q' _ (Same.refl _)⟩
        | _ => exact iteF (q' _ (Same.refl _))
      · refine ⟨Dn, (rest k ns).map isNat, rfl, .inl (.inl ?_), ?_⟩
        · rw [hD, List.map_map]
          rfl
        · have e : ((rest k ns).map isNat).all id = (rest k ns).all isNat := by
            rw [List.all_map]
            rfl
          rw [e]
          exact q H3 (s2.trans sm)
  · rw [decide_eq_false (fun e => hlm (by rw [← hl1]; exact V.int.inj e) : ¬ V.int (xr.length : Int) = .int m)]
    have q' := q H1 s1
    rw [decide_eq_false hlm, Bool.false_and] at q'
    exact iteT q'
abbrev s_is_step : Stmt := topS 8
theorem sc_is_step : FnScope ["thing", "scanning", "kind"] ["thing", "scanning"] (defScope s_is_step) := ⟨rfl, rfl, rfl, by decide +kernel, rfl, by decide +kernel, by decide +kernel⟩
/- slots: 0 thing, 1 scanning, 2 kind -/
def sp_is_step (K : PySem.W.Frag) : Sp := fun vs H Q _ => ∃ v d mode, vs = [v, .str mode] ∧ Da K H v d ∧ ∀ H', Same H H' → Q (.bl (isStep mode d)) H'
theorem ok_is_step (D : DfD K mg "is_step" s_is_step [("scanning", .str "whole")]) (c_kind_of : Cal P w K mg base 1 "kind_of" (sp_kind_of K) []) (c_has_numbers : Cal P w K mg base 2 "has_numbers" (sp_has K) []) (c_many_numbers : Cal P w K mg base 1 "many_numbers" sp_many []) :
    FokD P w K mg base 3 "is_step" s_is_step [("scanning", .str "whole")] ["thing", "scanning"] (sp_is_step K) := by
  refine D.fok sc_is_step (fun vs H Q E ⟨v, d, m, e, _⟩ => by rw [e]; rfl) (fun f cdv A outer s H vs Q E hr h => ?_)
  obtain ⟨v, d, mode, rfl, hd, q⟩ := h
  refine ⟨_, (pss_cons (ps_set (i := 2) sc_is_step.nd rfl (Or.inl rfl) (pe_c c_kind_of hr (by decide) (by rfl) (pa_cons (pv 0) pa_nil)))
      (pss_one (ps_ret (pe_and (pe_cmpR op_notN (pv 2) pe_non (nomark _)) (pe_one (pe_c c_has_numbers hr (by decide) (by rfl) (pa_cons (pv 0) (pa_cons (pe_c c_many_numbers hr (by decide) (by rfl) (pa_cons (pv 2) (pa_cons (pv 1) pa_nil))) pa_nil)))))))), ?_⟩
  refine ⟨v, rfl, v, d, rfl, hd, ?_⟩
  have no : kindP d = none → isStep mode d = false := by
    intro e
    unfold isStep
    split
    · rename_i k ns
      have e' : (if (baseN k).isSome then some k else none) = none := e
      cases hb : baseN k with
      | none => rw [many_none hb]
      | some n =>
        rw [hb] at e'
        cases e'
    · rfl
  cases hk : kindP d with
  | none =>
    rw [no hk] at q
    refine ⟨.non, rfl, rfl, _, rfl, ?_⟩
    exact iteF (q H (Same.refl H))
  | some k =>
    obtain ⟨ns, rfl, n, hb⟩ : ∃ ns, d = .tuple (.str k :: ns) ∧ ∃ n, baseN k = some n := by
      unfold kindP at hk
      split at hk
      · rename_i k' ns
        cases hb : baseN k' with
        | none =>
          rw [hb] at hk
          cases hk
        | some n =>
          rw [hb] at hk
          cases hk
          exact ⟨ns, rfl, n, hb⟩
      · cases hk
    have hmany := many_of (mode := mode) hb
    refine ⟨.str k, rfl, rfl, _, rfl, ?_⟩
    refine iteT ⟨v, rfl, .str k, rfl, .str mode, rfl, k, mode, n, rfl, hb, ?_⟩
    have hm3 : k = "store" → (if (k = "scan" ∧ mode = "fields") then (2 : Int) else n) = 3 := fun e => by
      subst e
      rw [if_neg (fun h => absurd h.1 (by decide) : ¬ (("store" : Str) = "scan" ∧ mode = "fields"))]
      exact (Option.some.inj ((by decide +kernel : baseN "store" = some 3).symm.trans hb)).symm
    have hm1 : (if (k = "scan" ∧ mode = "fields") then (2 : Int) else n) ≤ 1000 := by
      have h3 := base_word hb
      simp only [kindsL, List.mem_cons, List.not_mem_nil, or_false, Prod.mk.injEq] at h3
      split <;> omega
    generalize (if (k = "scan" ∧ mode = "fields") then (2 : Int) else n) = m at hmany hm3 hm1 ⊢
    refine ⟨v, k, ns, m, rfl, hd, hm3, hm1, fun H' s' => ?_⟩
    have un : isStep mode (.tuple (.str k :: ns)) = (decide ((ns.length : Int) = m) && (rest k ns).all isNat) := by
      show (match many mode k with | none => false | some m => _) = _
      rw [hmany]
    rw [← un]
    exact q H' s'
abbrev s_step_rank : Stmt := topS 9
theorem sc_step_rank : FnScope ["step", "numbers", "number"] ["step"] (defScope s_step_rank) := ⟨rfl, rfl, rfl, by decide +kernel, rfl, by decide +kernel, by decide +kernel⟩
/- slots: 0 step, 1 numbers, 2 number -/
def sp_rank (K : PySem.W.Frag) : Sp := fun vs H Q _ => ∃ v k ns n, vs = [v] ∧ Da K H v (.tuple (.str k :: ns)) ∧ baseN k = some n ∧ (∀ x ∈ ns, nn x) ∧ ns.length ≤ 10 ∧ ∀ a H', Same H H' → SqT K H' a ((rank k ns).map V.int) → Q (.ref a) H'
theorem ok_step_rank (z : ∀ x, x ∈ zs → mg x = none) (D : Df K mg "step_rank" s_step_rank) {sk : Addr} (g : mg "STEP_KINDS" = some (.ref sk)) (hK : ∀ H, SqT K H sk wordsV) (hKo : ∃ o, K.lookup sk = some o ∧ o.cls = .type "tuple" ∧ o.dict = none) : Fok P w K mg base 1 "step_rank" s_step_rank ["step"] (sp_rank K) := by
  have g_STEP_KINDS : ∃ u, mg "STEP_KINDS" = some u ∧ RelV (.ref sk) u := ⟨_, g, rfl⟩
  refine D.fok sc_step_rank (fun vs H Q E ⟨v, k, ns, n, e, _⟩ => by rw [e]; rfl) (fun f cdv A outer s H vs Q E hr h => ?_)
  obtain ⟨v, k, ns, n, rfl, hd, hb, hnn, hlen, q⟩ := h
  obtain ⟨a, xs, rfl, T⟩ := hd.td
  refine ⟨_, (pss_cons (ps_setLc (i := 1) (own := [("number", 2)]) (g := gName 2) (tt := tYes) (by rfl) sc_step_rank.nd rfl rfl (sw_true rfl rfl rfl (by decide +kernel)) (pi_tup (pe_slice (r := rSlW K) sl_tupT (pv 0) (po_some pe_int) po_none)) (blkOk_by (own := [("number", 2)]) (N := ["step", "numbers", "number"]) (sc := defScope s_step_rank) (by decide +kernel)) (fun _ _ _ _ _ => (pg_name (i := 2) sc_step_rank.nd rfl (Or.inl rfl))) (fun _ _ _ _ _ => pts_nil) (fun _ _ _ _ _ => (pe_ifExp (pt_cmpR op_isN (pv 2) pe_non (nomark _)) (pe_un un_neg pe_int) (pv 2))))
      (pss_one (ps_ret (pe_op (r := rCatW K) op_catT2 (pe_tup (pa_cons (pe_bm PySem.F.plainAttrs_tuple PySem.F.slot_tuple_index PySem.F.type_tuple_index mt_tup_index (pe_gc (by rfl) g_STEP_KINDS) (pa_cons (pe_ix (r := rIxT K) ix_tup (pv 0) pe_int (fun _ _ => rfl)) pa_nil)) pa_nil)) (pe_callTy (r := rTupleL K) call_tupleL (by rfl) (z "tuple" (by decide)) PyProof.Rows.boot_tuple (pa_cons (pv 1) pa_nil)))))), ?_⟩
  cases T with
  | mk sq al =>
  cases al with
  | @cons x0 xr _ _ hx0 hr0 =>
  cases hx0
  have n1 : ∀ m : Nat, m ≤ 1000 → m ≤ sizeLine := fun m h => Nat.le_of_lt (small1000 (by omega))
  have hl1 := hr0.length
  refine ⟨.ref a, rfl, 1, rfl, a, _, rfl, sq, fun t2 H1 s1 r1 => ?_⟩
  rw [show cutV (V.str k :: xr) (some 1) none = xr from cut_drop (V.str k :: xr) 1] at r1
  have T1 := td_sl s1 sq r1 hr0
  refine ⟨t2, rfl, ⟨xr, T1.sq⟩, fun Dn nD => ?_⟩
  refine lc_mapT (fun d => .int (val d)) T1.sq T1.all (by omega) nD (fun _ => rfl) (fun x d H3 hm sm hx Q' q' => ?_) (fun H3 sm hD => ?_)
  · refine ⟨x, rfl, rfl, _, rfl, ?_⟩
    rcases hnn d hm with e | ⟨i, e, _⟩
    · subst e
      cases hx
      exact iteT ⟨1, rfl, q' _ (Same.refl _)⟩
    · subst e
      cases hx
      exact iteF ⟨_, rfl, q' _ (Same.refl _)⟩
  · obtain ⟨i1, i2⟩ := idx_ok hb
    have s3 := s1.trans sm
    refine ⟨.inr (.inl ⟨rfl, hKo⟩), .ref a, rfl, a, _, 0, .str k, rfl, rfl, same_seqT s3 sq, atI_nat (j := 0) rfl, sk, wordsS, k, idx k, rfl, rfl, hK H3, i1, i2, n1 1 (by decide), fun t4 m4 => ?_⟩
    have s4 := same_new (o := .tup [V.int (idx k : Nat)]) m4
    refine ⟨.ref Dn, rfl, Dn, _, rfl, .inl (.inl (s4 _ _ hD)), fun t5 m5 => ?_⟩
    have s5 := same_new (o := .tup (ns.map fun d => V.int (val d))) m5
    refine ⟨t4, t5, _, _, rfl, rfl, .inl (.inl (s5 _ _ upd_same)), .inl (.inl upd_same), n1 _ (by simp only [List.length_singleton, List.length_map]; omega), fun a' H' s' r' => ?_⟩
    have e : [V.int (idx k : Nat)] ++ ns.map (fun d => V.int (val d)) = (rank k ns).map V.int := by
      show _ :: _ = _ :: _
      rw [List.map_map]
      rfl
    have sE := s3.trans (s4.trans (s5.trans s'))
    refine q a' H' sE ?_
    rw [← e]
    rcases r' with ⟨e1, e2⟩ | ⟨e1, e2⟩ | ⟨_, h2⟩
    · rw [e1, e2]
      exact .inl (.inl (s' _ _ (s5 _ _ upd_same)))
    · rw [e1, e2]
      exact .inl (.inl (s' _ _ upd_same))
    · exact .inl (.inl h2)
end
end K15
namespace K15
open PySem PySem.Spec PyProof.Rows L2 VK
open C8 (Cal pe_c pe_gc pss_cut)
def kvsK : List (Key × V) := kindsL.map fun q => (Sum.inr q.1, V.int q.2)
theorem merge_ok : mergeK [] kvsK = kvsK := by decide +kernel
theorem val_kvs (k : Str) : valV kvsK (Sum.inr k) = (baseN k).map V.int := by
  cases hb : baseN k with
  | some n =>
    have h3 := base_word hb
    simp only [kindsL, List.mem_cons, List.not_mem_nil, or_false, Prod.mk.injEq] at h3
    rcases h3 with ⟨rfl, rfl⟩ | ⟨rfl, rfl⟩ | ⟨rfl, rfl⟩ | ⟨rfl, rfl⟩ | ⟨rfl, rfl⟩ | ⟨rfl, rfl⟩ | ⟨rfl, rfl⟩ | ⟨rfl, rfl⟩ | ⟨rfl, rfl⟩ <;> decide +kernel
  | none =>
    have h := base_none hb
    have e : kvsK.find? (fun kv => decide (kv.1 = (Sum.inr k : Key))) = none := by
      rw [List.find?_eq_none]
      intro x hx
      obtain ⟨q, hq, rfl⟩ := List.mem_map.mp hx
      intro z
      exact h q hq (Sum.inr.inj (of_decide_eq_true z))
    show (kvsK.find? _).map _ = none
    rw [e]
    rfl
section
variable {P : Program} {w : World} {K : PySem.W.Frag} {mg : Str → Option Value} {base : Heap}
abbrev s_law_due : Stmt := topS 18
theorem sc_law_due : FnScope ["_law_item", "_law_mode", "_law_sizes", "_law_many", "_law_some", "_law_one"] ["_law_item", "_law_mode"] (defScope s_law_due) := ⟨rfl, rfl, rfl, by decide +kernel, rfl, by decide +kernel, by decide +kernel⟩
/- slots: 0 _law_item, 1 _law_mode, 2 _law_sizes, 3 _law_many, 4 _law_some, 5 _law_one -/
theorem fr_same0 {H H' : Hp} (s : Same H H') : Same (fr E0 H H') H' := fun b x e => by
  cases h : H b with
  | some y =>
    rw [fr_off rfl h] at e
    cases e
  | none =>
    rw [fr_new rfl h] at e
    exact e
theorem kinds_paired {G : Hp} {K : PySem.W.Frag} : ∀ {qs : List (Str × Int)} {vals : List V}, DaAll K G vals (qs.map fun q => .tuple [.str q.1, .int q.2]) →
    ∃ ps : List Addr, vals = ps.map V.ref ∧ Paired (fun p kv => SqT K G p [kV kv.1, kv.2]) ps (qs.map fun q => ((Sum.inr q.1 : Key), V.int q.2))
  | [], _, h => by
    cases h
    exact ⟨[], rfl, .nil⟩
  | q :: qs, _, h => by
    cases h with
    | @cons v vs _ _ h t =>
      obtain ⟨a, xs, rfl, T⟩ := h.td
      obtain ⟨ps, rfl, hp⟩ := kinds_paired t
      refine ⟨a :: ps, rfl, .cons ?_ hp⟩
      cases T with
      | mk sq al =>
      cases al with
      | cons h1 al =>
      cases al with
      | cons h2 al =>
      cases al
      cases h1
      cases h2
      exact sq
def sp_due (K : PySem.W.Frag) : Sp := fun vs H Q _ => ∃ v d mode, vs = [v, .str mode] ∧ Da K H v d ∧ ∀ H', Same H H' → Q (.bl (isStep mode d)) H'
theorem ok_law_due (z : ∀ x, x ∈ zs → mg x = none) (D : Df K mg "_law_due" s_law_due) (c_law_kinds : Cal P w K mg base 1 "_law_kinds" (sp_kinds K) []) (c_law_is_number : Cal P w K mg base 1 "_law_is_number" (sp_lnat K) []) : Cal P w K mg base 2 "_law_due" (sp_due K) [] := by
  refine D.cal sc_law_due (fun _ _ _ _ _ _ us hl => match us, hl with | [_, _], _ => rfl) (fun vs H Q E ⟨v, d, m, e, _⟩ => by rw [e]; rfl) (fun f cdv A outer s H vs Q E hr h => ?_)
  obtain ⟨v, d, mode, rfl, hd, q⟩ := h
  refine ⟨_, (pss_cons (ps_if (PW.pt (pw_or (pt_not (pt_val (pe_callB (r := rIsi K) call_isi (by rfl) (z "isinstance" (by decide)) PyProof.Rows.boot_isinstance (pa_cons (pv 0) (pa_cons (pe_bltn (v := .ty "tuple") (by rfl) (z "tuple" (by decide)) PyProof.Rows.boot_tuple rfl) pa_nil))))) (pw_or (pt_cmpR (r := rEqE K) (op_eqE hr.units) (pv 0) (pe_tup pa_nil) (nomark _)) (pw_or1 (pt_not (pt_val (pe_callB (r := rIsi K) call_isi (by rfl) (z "isinstance" (by decide)) PyProof.Rows.boot_isinstance (pa_cons (pe_ix (r := rIxT K) ix_tup (pv 0) pe_int (fun _ _ => rfl)) (pa_cons (pe_bltn (v := .ty "str") (by rfl) (z "str" (by decide)) PyProof.Rows.boot_str rfl) pa_nil))))))))) (pss_one (ps_ret pe_bl)) pss_nil)
      (pss_cons (ps_set (i := 2) sc_law_due.nd rfl (Or.inl rfl) (pe_callTy (call_dictP rfl) (by rfl) (z "dict" (by decide)) PyProof.Rows.boot_dict (pa_cons (pe_c0 c_law_kinds hr (by decide) (by rfl)) pa_nil)))
      (pss_cons (ps_if (pt_cmp (pc_dnotin (Nat.lt_of_le_of_lt (Nat.add_le_add_left (by decide : 1 ≤ 64) _) hr.units) (pe_ix (r := rIxT K) ix_tup (pv 0) pe_int (fun _ _ => rfl)) (pv 2))) (pss_one (ps_ret pe_bl)) pss_nil)
      (pss_cut (ps_set (i := 3) sc_law_due.nd rfl (Or.inl rfl) (pe_op op_add (pe_dget (Nat.lt_of_le_of_lt (Nat.add_le_add_left (by decide : 1 ≤ 64) _) hr.units) (pv 2) (pe_ix (r := rIxT K) ix_tup (pv 0) pe_int (fun _ _ => rfl)) (fun _ _ => rfl)) (pe_callTy call_int1 (by rfl) (z "int" (by decide)) PyProof.Rows.boot_int (pa_cons (pe_and (pe_cmpR op_eq (pe_ix (r := rIxT K) ix_tup (pv 0) pe_int (fun _ _ => rfl)) pe_str (nomark _)) (pe_one (pe_cmpR op_eq (pv 1) pe_str (nomark _)))) pa_nil))))
      (pss_cons (ps_if (pt_cmpR op_ne (pe_callB (r := rLenSq K) call_lenSq (by rfl) (z "len" (by decide)) PySem.boot_len (pa_cons (pv 0) pa_nil)) (pe_op op_add (pv 3) pe_int) (nomark _)) (pss_one (ps_ret pe_bl)) pss_nil)
      (pss_cons (ps_set (i := 4) sc_law_due.nd rfl (Or.inl rfl) (pe_callTy (r := rListOf K) call_listOf (by rfl) (z "list" (by decide)) PyProof.Rows.boot_list (pa_cons (pe_slice (r := rSlW K) sl_tupT (pv 0) (po_some pe_int) po_none) pa_nil)))
      (pss_cut (ps_if (PW.pt (pw_and (pt_cmpR op_eq (pe_ix (r := rIxT K) ix_tup (pv 0) pe_int (fun _ _ => rfl)) pe_str (nomark _)) (pw_and1 (pt_cmpR op_isN (pe_ix (r := rIxL K) ix_list (pv 4) pe_int (fun _ _ => rfl)) pe_non (nomark _))))) (pss_one (ps_set (i := 4) sc_law_due.nd rfl (Or.inl rfl) (pe_slice (r := rSlL K) sl_list (pv 4) po_none (po_some pe_int)))) pss_nil)
      (pss_one (ps_ret (pe_cmpR (r := rEqE K) (op_eqE hr.units) (pe_lc (own := [("_law_one", 5)]) (g := gName 5) (by rfl) sc_law_due.nd (pi_list (pv 4)) (blkOk_by (own := [("_law_one", 5)]) (N := ["_law_item", "_law_mode", "_law_sizes", "_law_many", "_law_some", "_law_one"]) (sc := defScope s_law_due) (by decide +kernel)) (fun _ _ _ _ _ => (pg_name (i := 5) sc_law_due.nd rfl (Or.inl rfl))) (fun _ _ _ _ _ => pts_one (pt_not (pt_val (pe_c c_law_is_number hr (by decide) (by rfl) (pa_cons (pv 5) pa_nil))))) (fun _ _ _ _ _ => (pv 5))) (pe_lst pa_nil) (nomark _))))))))))), ?_⟩
  have bad : isStep mode d = false → ∀ H', Same H H' → Q (.bl false) H' := fun e H' s' => by
    have q' := q H' s'
    rw [e] at q'
    exact q'
  refine ⟨v, rfl, v, .ty "tuple", _, _, _, rfl, .ty _, da_ty hd, kT d, _, rfl, ?_⟩
  cases hd with
  | @tup t xs ds ht hds =>
    have hl := hds.length
    refine iteF ⟨.ref t, rfl, Nat.zero_le _, fun e1 m1 => ?_⟩
    have s1 := same_new (o := .tup []) m1
    refine ⟨t, e1, xs, rfl, rfl, .inl ⟨same_seqT s1 ht, .inl (.inl upd_same)⟩, _, rfl, ?_⟩
    cases hds with
    | nil => exact iteT (bad rfl _ s1)
    | @cons x0 xr d0 ns hx0 hr0 =>
      refine iteF ⟨.ref t, rfl, t, _, 0, x0, rfl, rfl, same_seqT s1 ht, atI_nat (j := 0) rfl, ?_⟩
      have hx1 := hx0.mono s1
      refine ⟨x0, .ty "str", _, _, _, rfl, .ty _, da_ty hx1, kS d0, _, rfl, ?_⟩
      cases hs : isStr d0 with
      | false =>
        refine iteT (bad ?_ _ s1)
        cases d0 <;> first | rfl | (cases hs; done)
      | true =>
        cases hx0 with
        | str k =>
          refine iteF ⟨rfl, fun L vals H2 s2 nL hL hV => ?_⟩
          have hV2 : DaAll K H2 vals kindsD := hV.mono (fr_same0 s2)
          obtain ⟨ps, rfl, hps⟩ := kinds_paired (qs := kindsL) hV2
          refine ⟨L, ps, kvsK, rfl, .inl (.inl hL), hps, fun sz nsz => ?_⟩
          rw [merge_ok]
          have s3 := same_new (o := .dK kvsK) nsz
          have s13 := s1.trans (s2.trans s3)
          have sqt : ∀ {H' : Hp}, Same (upd H2 sz (.dK kvsK)) H' → SqT K H' t (V.str k :: xr) := fun s' => same_seqT (s13.trans s') ht
          refine ⟨.ref t, rfl, t, _, 0, .str k, rfl, rfl, sqt (Same.refl _), atI_nat (j := 0) rfl, .ref sz, rfl, sz, _, rfl, DGet.k (k := Sum.inr k) upd_same, _, rfl, ?_⟩
          rw [val_kvs]
          cases hb : baseN k with
          | none =>
            refine iteT (bad ?_ _ s13)
            show (match many mode k with | none => false | some m => _) = false
            rw [many_none hb]
          | some n =>
            have hmany := many_of (mode := mode) hb
            have dg : DGet (upd H2 sz (.dK kvsK)) sz (.str k) (some (.int n)) := by
              have h' := DGet.k (H := upd H2 sz (.dK kvsK)) (a := sz) (k := Sum.inr k) upd_same
              rw [val_kvs, hb] at h'
              exact h'
            have at0 : atI (V.str k :: xr) 0 = some (.str k) := atI_nat (j := 0) rfl
            refine iteF ⟨fun σ' H' => H' = upd H2 sz (.dK kvsK) ∧ σ' = [some (.ref t), some (.str mode), some (.ref sz), some (.int (if (k = "scan" ∧ mode = "fields") then 2 else n)), none, none], ?_, ?_⟩
            · refine ⟨.ref sz, rfl, .ref t, rfl, t, _, 0, .str k, rfl, rfl, sqt (Same.refl _), at0, sz, .int n, rfl, dg, .ref t, rfl, t, _, 0, .str k, rfl, rfl, sqt (Same.refl _), at0, rfl, _, rfl, ?_⟩
              by_cases h1 : k = "scan"
              · have n1' : n = 1 := by
                  rw [h1] at hb
                  exact (Option.some.inj ((by decide +kernel : baseN "scan" = some 1).symm.trans hb)).symm
                rw [decide_eq_true (congrArg V.str h1)]
                refine iteT ⟨.str mode, rfl, rfl, .inr ⟨_, rfl, n, _, rfl, rfl, rfl, ?_⟩⟩
                by_cases h2 : mode = "fields"
                · rw [decide_eq_true (congrArg V.str h2), if_pos (⟨h1, h2⟩ : k = "scan" ∧ mode = "fields"), n1']
                  rfl
                · rw [decide_eq_false (fun e => h2 (V.str.inj e)), if_neg (fun h => h2 h.2 : ¬ (k = "scan" ∧ mode = "fields")), n1']
                  rfl
              · rw [decide_eq_false (fun e => h1 (V.str.inj e)), if_neg (fun h => h1 h.1 : ¬ (k = "scan" ∧ mode = "fields"))]
                refine iteF (.inr ⟨_, rfl, n, _, rfl, rfl, rfl, ?_⟩)
                show [_, _, _, some (V.int (n + 0)), _, _] = _
                rw [Int.add_zero]
            rintro σ' H' ⟨rfl, rfl⟩
            generalize (if (k = "scan" ∧ mode = "fields") then (2 : Int) else n) = m at hmany ⊢
            have hm3 : k = "store" → m = 3 := fun e => by
              subst e
              have h2 := hmany
              unfold many at h2
              rw [if_neg (fun h => absurd h.1 (by decide) : ¬ (("store" : Str) = "scan" ∧ mode = "fields"))] at h2
              exact (Option.some.inj ((by decide +kernel : baseN "store" = some 3).symm.trans h2)).symm
            have un : isStep mode (.tuple (.str k :: ns)) = (decide ((ns.length : Int) = m) && (rest k ns).all isNat) := by
              show (match many mode k with | none => false | some m => _) = _
              rw [hmany]
            have hl1 := hr0.length
            refine ⟨.ref t, rfl, t, _, rfl, .inr (sqt (Same.refl _)), .int m, rfl, m, 1, rfl, rfl, rfl, _, rfl, ?_⟩
            by_cases hlm : (ns.length : Int) = m
            · rw [decide_eq_true (show V.int ((V.str k :: xr).length : Int) = .int (m + 1) by rw [List.length_cons, hl1, ← hlm]; rfl)]
              rw [decide_eq_true hlm, Bool.true_and] at un
              refine iteF ⟨.ref t, rfl, 1, rfl, t, _, rfl, sqt (Same.refl _), fun t2 H3 s4 r4 => ?_⟩
              rw [show cutV (V.str k :: xr) (some 1) none = xr from cut_drop (V.str k :: xr) 1] at r4
              have T1 := td_sl s4 (sqt (Same.refl _)) r4 (hr0.mono s13)
              refine ⟨t2, xr, rfl, .inr T1.sq, fun l4 m4 => ?_⟩
              have s5 := same_new (o := .lst xr) m4
              have s15 := s13.trans (s4.trans s5)
              refine ⟨fun σ' H' => ∃ l5 ys, σ' = [some (.ref t), some (.str mode), some (.ref sz), some (.int m), some (.ref l5), none] ∧ Same H H' ∧ H' l5 = some (.lst ys) ∧ DaAll K H' ys (rest k ns), ?_, ?_⟩
              · refine ⟨.ref t, rfl, t, _, 0, .str k, rfl, rfl, sqt (s4.trans s5), at0, rfl, _, rfl, ?_⟩
                by_cases hk : k = "store"
                · rw [decide_eq_true (congrArg V.str hk)]
                  have l3 : ns.length = 3 := by have := hm3 hk; omega
                  obtain ⟨y1, y2, y3, rfl⟩ : ∃ a b c, ns = [a, b, c] := by
                    match ns, l3 with
                    | [a, b, c], _ => exact ⟨a, b, c, rfl⟩
                  cases hr0 with
                  | @cons x1 _ _ _ hx1 hr0 =>
                  cases hr0 with
                  | @cons x2 _ _ _ hx2 hr0 =>
                  cases hr0 with
                  | @cons x3 _ _ _ hx3 hr0 =>
                  cases hr0
                  refine iteT ⟨.ref l4, rfl, l4, _, 2, x3, rfl, rfl, .inl (.inl upd_same), atI_nat (j := 2) rfl, rfl, _, rfl, ?_⟩
                  by_cases hu : x3 = .non
                  · subst hu
                    cases hx3
                    refine iteT ⟨.ref l4, rfl, 2, rfl, l4, _, rfl, .inl (.inl upd_same), fun l5 nl5 => ?_⟩
                    rw [show cutV [x1, x2, V.non] none (some 2) = [x1, x2] from cut_take [x1, x2, V.non] 2]
                    refine ⟨l5, [x1, x2], rfl, s15.trans (same_new nl5), upd_same, ?_⟩
                    rw [show rest k [y1, y2, PyData.none] = [y1, y2] from if_pos ⟨hk, rfl⟩]
                    exact (DaAll.cons hx1 (.one hx2)).mono (s15.trans (same_new nl5))
                  · rw [decide_eq_false hu]
                    refine iteF ⟨l4, [x1, x2, x3], rfl, s15, upd_same, ?_⟩
                    have e : rest k [y1, y2, y3] = [y1, y2, y3] := if_neg fun h => by
                      cases hx3 <;> first | exact hu rfl | exact nomatch h.2
                    rw [e]
                    exact T1.all.mono s5
                · rw [decide_eq_false (fun e => hk (V.str.inj e))]
                  refine iteF ⟨l4, xr, rfl, s15, upd_same, ?_⟩
                  rw [show rest k ns = ns from if_neg fun h => hk h.1]
                  exact T1.all.mono s5
              · rintro σ' H' ⟨l5, ys, rfl, s6, hl5, hys⟩
                have hrl : (rest k ns).length ≤ 1000 := by
                  have h1 : (rest k ns).length ≤ ns.length := by
                    unfold rest
                    split
                    · rw [List.length_take]
                      exact Nat.min_le_right _ _
                    · exact Nat.le_refl _
                  have h2 := hmany
                  unfold many at h2
                  have h3 := base_word hb
                  simp only [kindsL, List.mem_cons, List.not_mem_nil, or_false, Prod.mk.injEq] at h3
                  split at h2
                  · have := Option.some.inj h2
                    omega
                  · rw [hb] at h2
                    have := Option.some.inj h2
                    omega
                have hyl := hys.length
                refine ⟨.ref l5, rfl, l5, rfl, ⟨ys, .inl (.inl hl5)⟩, fun Dn nD => ?_⟩
                refine lc_list (K := K) (a := l5) (xs := ys) (fun j Hj => Same H' Hj ∧ ∃ ks, Hj Dn = some (.lst ks) ∧ DaAll K H' ks (((rest k ns).take j).filter fun c => !isNat c)) ⟨same_new nD, [], upd_same, .nil⟩ (fun j Hj _ h => .inl (.inl (h.1 _ _ hl5))) ?_ ?_
                · rintro j u Hj hu ⟨sj, ks, hk, hks⟩
                  obtain ⟨c, hc, huc⟩ := hys.get hu
                  have len : ks.length < sizeLine := by
                    have h6 := hks.length
                    have h7 := List.length_filter_le (fun c => !isNat c) ((rest k ns).take j)
                    rw [List.length_take] at h7
                    exact small1000 (by omega)
                  refine ⟨rfl, u, rfl, u, c, rfl, huc.mono sj, isNat c, rfl, ?_⟩
                  cases hm : isNat c with
                  | false =>
                    refine iteT ⟨u, rfl, ks, hk, len, same_off sj nD, _, upd_same, ?_⟩
                    rw [List.take_add_one, hc, List.filter_append, show ((some c).toList.filter fun c => !isNat c) = [c] by show List.filter _ [c] = [c]; rw [List.filter_cons_of_pos (by rw [hm]; rfl)]; rfl]
                    exact hks.append (.one huc)
                  | true =>
                    refine iteF ⟨sj, ks, hk, ?_⟩
                    rw [List.take_add_one, hc, List.filter_append, show ((some c).toList.filter fun c => !isNat c) = [] by show List.filter _ [c] = []; rw [List.filter_cons_of_neg (by rw [hm]; decide)]; rfl, List.append_nil]
                    exact hks
                · rintro Hj ⟨sj, ks, hk, hks⟩
                  rw [List.take_of_length_le (by omega)] at hks
                  refine ⟨Nat.zero_le _, fun e ne => ?_⟩
                  have se := same_new (o := .lst []) ne
                  refine ⟨Dn, e, ks, rfl, rfl, .inr ⟨.inl (.inl (se _ _ hk)), .inl (.inl upd_same)⟩, ?_⟩
                  have ee : ks.isEmpty = isStep mode (.tuple (.str k :: ns)) := by
                    rw [un]
                    have hkl := hks.length
                    cases ha : (rest k ns).all isNat with
                    | true =>
                      have h0 : (rest k ns).filter (fun c => !isNat c) = [] := by
                        rw [List.filter_eq_nil_iff]
                        intro c hc
                        rw [List.all_eq_true.mp ha c hc]
                        decide
                      rw [h0] at hkl
                      rw [List.isEmpty_iff]
                      exact List.length_eq_zero_iff.mp hkl
                    | false =>
                      obtain ⟨c, hc, hcn⟩ := List.all_eq_false.mp ha
                      have hm : c ∈ (rest k ns).filter (fun c => !isNat c) := List.mem_filter.mpr ⟨hc, by simpa using hcn⟩
                      have hp := List.length_pos_of_mem hm
                      cases ks with
                      | nil =>
                        rw [← hkl] at hp
                        exact absurd hp (Nat.lt_irrefl 0)
                      | cons _ _ => rfl
                  rw [ee]
                  exact q _ (s6.trans (sj.trans se))
            · rw [decide_eq_false (fun e => hlm (by have h' := V.int.inj e; rw [List.length_cons] at h'; omega) : ¬ V.int ((V.str k :: xr).length : Int) = .int (m + 1))]
              refine iteT (bad ?_ _ s13)
              rw [un, decide_eq_false hlm, Bool.false_and]
        | _ => cases hs
  | _ => exact iteT (bad rfl _ (Same.refl H))
end
end K15
namespace K15
open PySem PySem.Spec PyProof.Rows L2 VK
open C8 (Cal pe_c pe_gc pss_cut)
theorem lex_at : ∀ (i : Nat) (r1 r2 : List Int) (a b : Int), r1.take i = r2.take i → r1[i]? = some a → r2[i]? = some b → a ≠ b → HT.lexLt r1 r2 = decide (a < b)
  | 0, x :: xs, y :: ys, a, b, _, ha, hb, ne => by
    cases ha
    cases hb
    show (if x = y then HT.lexLt xs ys else decide (x < y)) = _
    rw [if_neg ne]
  | i + 1, x :: xs, y :: ys, a, b, ht, ha, hb, ne => by
    rw [List.take_succ_cons, List.take_succ_cons] at ht
    obtain ⟨e1, e2⟩ := List.cons.inj ht
    show (if x = y then HT.lexLt xs ys else decide (x < y)) = _
    rw [if_pos e1]
    exact lex_at i xs ys a b e2 ha hb ne
  | _, [], _, _, _, _, ha, _, _ => by simp at ha
  | _, _ :: _, [], _, _, _, _, hb, _ => by simp at hb
theorem lex_self : ∀ r : List Int, HT.lexLt r r = false
  | [] => rfl
  | x :: xs => by
    show (if x = x then HT.lexLt xs xs else decide (x < x)) = _
    rw [if_pos rfl]
    exact lex_self xs
theorem for_zipTm {K : PySem.W.Frag} {a b : Addr} {xs ys : List V} {g : TG} {tb : TS} {D : Ends} {σ : L2.St} {H : Hp} (Pv : Nat → L2.St → Hp → Prop) (h0 : Pv 0 σ H) (hq : ∀ i σ H, Pv i σ H → SqT K H a xs ∧ SqT K H b ys)
    (hs : ∀ (i : Nat) (x y : V) (T : Addr) (σ : L2.St) (H : Hp), xs[i]? = some x → ys[i]? = some y → Pv i σ H → H T = none → g (.ref T) σ (upd H T (.tup [x, y])) fun σ2 H2 => tb { D with nx := Pv (i + 1), ct := Pv (i + 1), bk := D.nx } σ2 H2) (hd : ∀ σ H, Pv (min xs.length ys.length) σ H → D.nx σ H) :
    ∃ W : Nat → Nat → L2.St → Hp → Prop, (∃ m, W 0 m σ H) ∧ ∀ i m σ H, W i m σ H →
      ((RZ.ItzT K a b).stop i H ∧ D.nx σ H) ∨ ((RZ.ItzT K a b).go i H ∧ ∃ N : L2.St → Hp → Prop, (∀ σ' H', N σ' H' → ∃ m', m' < m ∧ W (i + 1) m' σ' H') ∧ ∀ v H', (RZ.ItzT K a b).yld i H v H' → g v σ H' fun σ2 H2 => tb { D with nx := N, ct := N, bk := D.nx } σ2 H2) := by
  refine ⟨fun i m σ H => m = min xs.length ys.length - i ∧ i ≤ min xs.length ys.length ∧ Pv i σ H, ⟨_, rfl, Nat.zero_le _, h0⟩, ?_⟩
  rintro i m σ H ⟨rfl, hi, p⟩
  obtain ⟨qx, qy⟩ := hq i σ H p
  by_cases hlt : i < min xs.length ys.length
  · have hlt1 : i < xs.length := by omega
    have hlt2 : i < ys.length := by omega
    have hx : xs[i]? = some xs[i] := List.getElem?_eq_getElem hlt1
    have hy : ys[i]? = some ys[i] := List.getElem?_eq_getElem hlt2
    refine .inr ⟨⟨xs, ys, _, _, qx, qy, hx, hy⟩, Pv (i + 1), fun σ' H' p' => ⟨min xs.length ys.length - (i + 1), by omega, rfl, hlt, p'⟩, fun v H' y => ?_⟩
    obtain ⟨T, x', y', rfl, hT, rfl, f1, f2⟩ := y
    exact hs i x' y' T σ H (f1 xs qx) (f2 ys qy) p hT
  · have e : i = min xs.length ys.length := by omega
    subst e
    exact .inl ⟨⟨xs, ys, qx, qy, by omega⟩, hd σ H p⟩
theorem idx_inj {k1 k2 : Str} {n1 n2 : Int} (h1 : baseN k1 = some n1) (h2 : baseN k2 = some n2) (e : idx k1 = idx k2) : k1 = k2 := by
  have a := (idx_ok h1).1
  rw [e, (idx_ok h2).1] at a
  exact (Option.some.inj a).symm
section
variable {P : Program} {w : World} {K : PySem.W.Frag} {mg : Str → Option Value} {base : Heap}
abbrev s_law_rank : Stmt := topS 19
theorem sc_law_rank : FnScope ["_law_act", "_law_words", "_law_word", "_law_many", "_law_one"] ["_law_act"] (defScope s_law_rank) := ⟨rfl, rfl, rfl, by decide +kernel, rfl, by decide +kernel, by decide +kernel⟩
/- slots: 0 _law_act, 1 _law_words, 2 _law_word, 3 _law_many, 4 _law_one -/
theorem ok_law_rank (z : ∀ x, x ∈ zs → mg x = none) (D : Df K mg "_law_rank" s_law_rank) (c_law_kinds : Cal P w K mg base 1 "_law_kinds" (sp_kinds K) []) : Cal P w K mg base 2 "_law_rank" (sp_rank K) [] := by
  refine D.cal sc_law_rank (fun _ _ _ _ _ _ us hl => match us, hl with | [_], _ => rfl) (fun vs H Q E ⟨v, k, ns, n, e, _⟩ => by rw [e]; rfl) (fun f cdv A outer s H vs Q E hr h => ?_)
  obtain ⟨v, k, ns, n, rfl, hd, hb, hnn, hlen, q⟩ := h
  obtain ⟨a, xs, rfl, T⟩ := hd.td
  refine ⟨_, (pss_cons (ps_setLc (i := 1) (own := [("_law_word", 2), ("_law_many", 3)]) (g := gTup K 2 (gCons (gName 2) (gCons (gName 3) gNil))) (tt := tYes) (by rfl) sc_law_rank.nd rfl rfl (sw_true rfl rfl rfl (by decide +kernel)) (pi_list (pe_c0 c_law_kinds hr (by decide) (by rfl))) (blkOk_by (own := [("_law_word", 2), ("_law_many", 3)]) (N := ["_law_act", "_law_words", "_law_word", "_law_many", "_law_one"]) (sc := defScope s_law_rank) (by decide +kernel)) (fun _ _ _ _ _ => (pg_tup rfl (pgs_cons (pg_name (i := 2) sc_law_rank.nd rfl (Or.inl rfl)) (pgs_cons (pg_name (i := 3) sc_law_rank.nd rfl (Or.inl rfl)) pgs_nil)))) (fun _ _ _ _ _ => pts_nil) (fun _ _ _ _ _ => (pv 2)))
      (pss_one (ps_ret (pe_op (r := rCatW K) op_catT2 (pe_tup (pa_cons (pe_bm PySem.F.plainAttrs_list PySem.F.slot_list_index PySem.F.type_list_index mt_index (pv 1) (pa_cons (pe_ix (r := rIxT K) ix_tup (pv 0) pe_int (fun _ _ => rfl)) pa_nil)) pa_nil)) (pe_callTy (r := rTupleL K) call_tupleL (by rfl) (z "tuple" (by decide)) PyProof.Rows.boot_tuple (pa_cons (pe_lc (own := [("_law_one", 4)]) (g := gName 4) (tt := tYes) (by rfl) sc_law_rank.nd (pi_tup (pe_slice (r := rSlW K) sl_tupT (pv 0) (po_some pe_int) po_none)) (blkOk_by (own := [("_law_one", 4)]) (N := ["_law_act", "_law_words", "_law_word", "_law_many", "_law_one"]) (sc := defScope s_law_rank) (by decide +kernel)) (fun _ _ _ _ _ => (pg_name (i := 4) sc_law_rank.nd rfl (Or.inl rfl))) (fun _ _ _ _ _ => pts_nil) (fun _ _ _ _ _ => (pe_ifExp (pt_cmpR op_isN (pv 4) pe_non (nomark _)) (pe_un un_neg pe_int) (pv 4)))) pa_nil)))))), ?_⟩
  cases T with
  | mk sq al =>
  cases al with
  | @cons x0 xr _ _ hx0 hr0 =>
  cases hx0
  have n1 : ∀ m : Nat, m ≤ 1000 → m ≤ sizeLine := fun m h => Nat.le_of_lt (small1000 (by omega))
  have hl1 := hr0.length
  refine ⟨rfl, fun L vals H1 s1 nL hL hV => ?_⟩
  have hV1 : DaAll K H1 vals kindsD := hV.mono (fr_same0 s1)
  have hVl := hV1.length
  refine ⟨L, rfl, ⟨vals, .inl (.inl hL)⟩, fun Dn nD => ?_⟩
  refine lc_list (K := K) (a := L) (xs := vals) (fun j Hj => Same H1 Hj ∧ Hj Dn = some (.lst (wordsV.take j))) ⟨same_new nD, upd_same⟩ (fun j Hj _ h => .inl (.inl (h.1 _ _ hL))) ?_ ?_
  · rintro j u Hj hu ⟨sj, hD⟩
    obtain ⟨d, hdj, hud⟩ := hV1.get hu
    have hkj : ∃ q, kindsL[j]? = some q ∧ d = .tuple [.str q.1, .int q.2] := by
      have h' : (kindsL.map fun q => PyData.tuple [.str q.1, .int q.2])[j]? = some d := hdj
      rw [List.getElem?_map] at h'
      cases hq : kindsL[j]? with
      | none =>
        rw [hq] at h'
        cases h'
      | some q =>
        rw [hq] at h'
        exact ⟨q, rfl, (Option.some.inj h').symm⟩
    obtain ⟨qk, hq, rfl⟩ := hkj
    obtain ⟨b, us, rfl, T⟩ := (hud.mono sj).td
    cases T with
    | mk sqb alb =>
    cases alb with
    | cons h1 alb =>
    cases alb with
    | cons h2 alb =>
    cases alb
    cases h1
    cases h2
    have hw : wordsV[j]? = some (.str qk.1) := by
      show (kindsL.map fun q => V.str q.1)[j]? = _
      rw [List.getElem?_map, hq]
      rfl
    refine ⟨b, _, rfl, sqb, rfl, .str qk.1, [.int qk.2], rfl, .int qk.2, [], rfl, rfl, rfl, _, rfl, _, hD, ?_, same_off sj nD, ?_⟩
    · rw [List.length_take]
      exact Nat.lt_of_le_of_lt (Nat.min_le_right _ _) (small1000 (by decide))
    · rw [upd_same, List.take_add_one, hw]
      rfl
  · rintro Hj ⟨sj, hD⟩
    rw [hVl, show wordsV.take kindsD.length = wordsV from rfl] at hD
    have s2 := s1.trans sj
    obtain ⟨i1, i2⟩ := idx_ok hb
    have hix : wordsV[idx k]? = some (.str k) := by
      show (wordsS.map V.str)[idx k]? = _
      rw [List.getElem?_map, i1]
      rfl
    refine ⟨.ref Dn, rfl, .inl ⟨rfl, _, .inl (.inl hD)⟩, .ref a, rfl, a, _, 0, .str k, rfl, rfl, same_seqT s2 sq, atI_nat (j := 0) rfl, Dn, wordsV, .str k, idx k, .str k, rfl, rfl, .inl (.inl hD), rfl, rfl, hix, by simp [eqV], fun m z' hm hz' => ?_, n1 1 (by decide), fun t4 m4 => ?_⟩
    · have h' : (wordsS.map V.str)[m]? = some z' := hz'
      rw [List.getElem?_map] at h'
      cases hq : wordsS[m]? with
      | none =>
        rw [hq] at h'
        cases h'
      | some x =>
        rw [hq] at h'
        cases h'
        have ne : x ≠ k := fun e => i2 m hm (by rw [hq, e])
        simpa [eqV] using ne
    · have s4 := same_new (o := .tup [V.int (idx k : Nat)]) m4
      have sq4 := same_seqT (s2.trans s4) sq
      refine ⟨.ref a, rfl, 1, rfl, a, _, rfl, sq4, fun t2 H5 s5 r5 => ?_⟩
      rw [show cutV (V.str k :: xr) (some 1) none = xr from cut_drop (V.str k :: xr) 1] at r5
      have T1 := td_sl s5 sq4 r5 (hr0.mono (s2.trans s4))
      refine ⟨t2, rfl, ⟨xr, T1.sq⟩, fun Dm mD => ?_⟩
      refine lc_mapT (fun d => .int (val d)) T1.sq T1.all (by omega) mD (fun _ => rfl) (fun x d H3 hm sm hx Q' q' => ?_) (fun H3 sm hDm => ?_)
      · refine ⟨x, rfl, rfl, _, rfl, ?_⟩
        rcases hnn d hm with e | ⟨i, e, _⟩
        · subst e
          cases hx
          exact iteT ⟨1, rfl, q' _ (Same.refl _)⟩
        · subst e
          cases hx
          exact iteF ⟨_, rfl, q' _ (Same.refl _)⟩
      · refine ⟨Dm, _, rfl, .inl (.inl hDm), fun t5 m5 => ?_⟩
        have s6 := same_new (o := .tup (ns.map fun d => V.int (val d))) m5
        refine ⟨t4, t5, _, _, rfl, rfl, .inl (.inl (s6 _ _ (sm _ _ (s5 _ _ upd_same)))), .inl (.inl upd_same), n1 _ (by simp only [List.length_singleton, List.length_map]; omega), fun a' H' s' r' => ?_⟩
        have e : [V.int (idx k : Nat)] ++ ns.map (fun d => V.int (val d)) = (rank k ns).map V.int := by
          show _ :: _ = _ :: _
          rw [List.map_map]
          rfl
        refine q a' H' (s2.trans (s4.trans (s5.trans (sm.trans (s6.trans s'))))) ?_
        rw [← e]
        rcases r' with ⟨e1, e2⟩ | ⟨e1, e2⟩ | ⟨_, h2⟩
        · rw [e1, e2]
          exact .inl (.inl (s' _ _ (s6 _ _ (sm _ _ (s5 _ _ upd_same)))))
        · rw [e1, e2]
          exact .inl (.inl (s' _ _ upd_same))
        · exact .inl (.inl h2)
abbrev s_law_is_less : Stmt := topS 20
theorem sc_law_is_less : FnScope ["_law_one", "_law_other", "_law_left", "_law_right"] ["_law_one", "_law_other"] (defScope s_law_is_less) := ⟨rfl, rfl, rfl, by decide +kernel, rfl, by decide +kernel, by decide +kernel⟩
/- slots: 0 _law_one, 1 _law_other, 2 _law_left, 3 _law_right -/
def sp_less (K : PySem.W.Frag) : Sp := fun vs H Q _ => ∃ v1 k1 ns1 n1 v2 k2 ns2 n2, vs = [v1, v2] ∧ Da K H v1 (.tuple (.str k1 :: ns1)) ∧ baseN k1 = some n1 ∧ (∀ x ∈ ns1, nn x) ∧ ns1.length ≤ 10 ∧ Da K H v2 (.tuple (.str k2 :: ns2)) ∧ baseN k2 = some n2 ∧ (∀ x ∈ ns2, nn x) ∧ ns2.length ≤ 10 ∧
  (k1 = k2 → ns1.length = ns2.length) ∧ ∀ H', Same H H' → Q (.bl (HT.lexLt (rank k1 ns1) (rank k2 ns2))) H'
theorem ok_law_is_less (z : ∀ x, x ∈ zs → mg x = none) (D : Df K mg "_law_is_less" s_law_is_less) (c_law_rank : Cal P w K mg base 2 "_law_rank" (sp_rank K) []) : Cal P w K mg base 3 "_law_is_less" (sp_less K) [] := by
  refine D.cal sc_law_is_less (fun _ _ _ _ _ _ us hl => match us, hl with | [_, _], _ => rfl) (fun vs H Q E ⟨_, _, _, _, _, _, _, _, e, _⟩ => by rw [e]; rfl) (fun f cdv A outer s H vs Q E hr h => ?_)
  obtain ⟨v1, k1, ns1, n1, v2, k2, ns2, n2, rfl, hd1, hb1, hnn1, hl1, hd2, hb2, hnn2, hl2, hk, q⟩ := h
  refine ⟨_, (pss_cons (ps_for PassesOwn.never rfl (RZ.pi_zipA (by rfl) (z "zip" (by decide)) (pa_cons (pe_c c_law_rank hr (by decide) (by rfl) (pa_cons (pv 0) pa_nil)) (pa_cons (pe_c c_law_rank hr (by decide) (by rfl) (pa_cons (pv 1) pa_nil)) pa_nil))) (pg_tup rfl (pgs_cons (pg_name (i := 2) sc_law_is_less.nd rfl (Or.inl rfl)) (pgs_cons (pg_name (i := 3) sc_law_is_less.nd rfl (Or.inl rfl)) pgs_nil)))
        (pss_one (ps_if (pt_cmpR op_ne (pv 2) (pv 3) (nomark _)) (pss_one (ps_ret (pe_cmpR op_lt (pv 2) (pv 3) (nomark _)))) pss_nil)))
      (pss_one (ps_ret pe_bl))), ?_⟩
  refine ⟨v1, rfl, v1, k1, ns1, n1, rfl, hd1, hb1, hnn1, hl1, fun a1 H1 s1 hq1 => ?_⟩
  refine ⟨v2, rfl, v2, k2, ns2, n2, rfl, hd2.mono s1, hb2, hnn2, hl2, fun a2 H2 s2 hq2 => ?_⟩
  have hq1' := same_seqT s2 hq1
  refine ⟨a1, a2, _, _, rfl, .inr ⟨hq1', hq2, ?_⟩⟩
  refine for_zipTm (xs := (rank k1 ns1).map V.int) (ys := (rank k2 ns2).map V.int) (fun i σ H' => ∃ y2 y3, σ = [some v1, some v2, y2, y3] ∧ Same H2 H' ∧ (rank k1 ns1).take i = (rank k2 ns2).take i) ⟨_, _, rfl, Same.refl _, rfl⟩ (fun i σ H' ⟨_, _, _, s', _⟩ => ⟨same_seqT s' hq1', same_seqT s' hq2⟩) ?_ ?_
  · rintro i x y T σ H' hx hy ⟨y2, y3, rfl, s', ht⟩ nT
    rw [List.getElem?_map] at hx hy
    cases hxa : (rank k1 ns1)[i]? with
    | none =>
      rw [hxa] at hx
      cases hx
    | some a =>
    cases hyb : (rank k2 ns2)[i]? with
    | none =>
      rw [hyb] at hy
      cases hy
    | some b =>
    rw [hxa] at hx
    rw [hyb] at hy
    cases hx
    cases hy
    have sT := same_new (o := .tup [V.int a, V.int b]) nT
    refine ⟨T, _, rfl, .inl (.inl upd_same), rfl, .int a, [.int b], rfl, .int b, [], rfl, rfl, ?_⟩
    refine ⟨.int a, rfl, .int b, rfl, rfl, _, rfl, ?_⟩
    by_cases hab : a = b
    · rw [decide_eq_true (congrArg V.int hab)]
      refine iteF ⟨_, _, rfl, s'.trans sT, ?_⟩
      rw [List.take_add_one, List.take_add_one, ht, hxa, hyb, hab]
    · rw [decide_eq_false (fun e => hab (V.int.inj e))]
      refine iteT ⟨.int a, rfl, .int b, rfl, a, b, rfl, rfl, ?_⟩
      have q' := q _ (s1.trans (s2.trans (s'.trans sT)))
      rw [lex_at i _ _ a b ht hxa hyb hab] at q'
      exact q'
  · rintro σ H' ⟨y2, y3, rfl, s', ht⟩
    rw [List.length_map, List.length_map] at ht
    have l1 : (rank k1 ns1).length = ns1.length + 1 := by show (ns1.map val).length + 1 = _; rw [List.length_map]
    have l2 : (rank k2 ns2).length = ns2.length + 1 := by show (ns2.map val).length + 1 = _; rw [List.length_map]
    have hkk : k1 = k2 := by
      have h0 := congrArg (fun l : List Int => l[0]?) ht
      simp only [List.getElem?_take] at h0
      rw [if_pos (by omega), if_pos (by omega)] at h0
      have h1 : (idx k1 : Int) = (idx k2 : Int) := Option.some.inj h0
      exact idx_inj hb1 hb2 (by omega)
    have hlen := hk hkk
    have e : rank k1 ns1 = rank k2 ns2 := by
      rw [List.take_of_length_le (by omega), List.take_of_length_le (by omega)] at ht
      exact ht
    have q' := q _ (s1.trans (s2.trans s'))
    rw [e, lex_self] at q'
    exact q'
end
end K15
namespace K15
open PySem PySem.Spec PyProof.Rows L2 VK
open C8 (Cal pe_c pe_gc pss_cut)
section
variable {P : Program} {w : World} {K : PySem.W.Frag} {mg : Str → Option Value} {base : Heap}
abbrev s_law : Stmt := topS 21
theorem sc_law : FnScope ["_law_script", "_law_pen_here", "_law_last", "_law_turn", "_law_mode", "_law_good_here", "_law_bent_here", "_law_item", "_law_kept", "_law_told"] ["_law_script"] (defScope s_law) := ⟨rfl, rfl, rfl, by decide +kernel, rfl, by decide +kernel, by decide +kernel⟩
/- slots: 0 _law_script, 1 _law_pen_here, 2 _law_last, 3 _law_turn, 4 _law_mode, 5 _law_good_here, 6 _law_bent_here, 7 _law_item, 8 _law_kept, 9 _law_told -/
def same1 {α : Type} : List α → List α → List α := fun _ ws => ws
def app2 {α : Type} : List α → List α → List α := fun us ws => us ++ ws
def swap2 {α : Type} : List α → List α → List α := fun _ ws => match ws with
  | [a, b] => [b, a]
  | _ => []
theorem many_base {mode k : Str} {m : Int} (h : many mode k = some m) : ∃ n, baseN k = some n ∧ m ≤ 3 := by
  unfold many at h
  split at h
  · rename_i hc
    refine ⟨1, ?_, ?_⟩
    · rw [hc.1]
      decide +kernel
    · have := Option.some.inj h
      omega
  · refine ⟨m, h, ?_⟩
    have h3 := base_word h
    simp only [kindsL, List.mem_cons, List.not_mem_nil, or_false, Prod.mk.injEq] at h3
    omega
theorem nn_atom {x : PyData} (h : nn x) : Atom x := by
  rcases h with e | ⟨i, e, hi⟩ <;> rw [e]
  · exact ⟨it_none.le (by decide) (by decide), pl_none⟩
  · exact ⟨(it_int hi).le (by decide) (by decide), pl_int i⟩
theorem word_atom {k : Str} {n : Int} (h : baseN k = some n) : Atom (.str k) := by
  refine ⟨?_, pl_str k⟩
  have h3 := base_word h
  simp only [kindsL, List.mem_cons, List.not_mem_nil, or_false, Prod.mk.injEq] at h3
  have st : ∀ {s : String}, s.length ≤ 8 → It 0 82 (.str (Str.ofString s)) := fun h => it_ofS (m := 8) h
  rcases h3 with ⟨rfl, rfl⟩ | ⟨rfl, rfl⟩ | ⟨rfl, rfl⟩ | ⟨rfl, rfl⟩ | ⟨rfl, rfl⟩ | ⟨rfl, rfl⟩ | ⟨rfl, rfl⟩ | ⟨rfl, rfl⟩ | ⟨rfl, rfl⟩
  · exact st (s := "start") (by decide)
  · exact st (s := "load") (by decide)
  · exact st (s := "store") (by decide)
  · exact st (s := "move") (by decide)
  · exact st (s := "clear") (by decide)
  · exact st (s := "new") (by decide)
  · exact st (s := "scan") (by decide)
  · exact st (s := "look") (by decide)
  · exact st (s := "end") (by decide)
def LastOK (K : PySem.W.Frag) (F : Hp) (v : V) (m : Str) : Prop := ∃ k ns, Da K F v (.tuple (.str k :: ns)) ∧ Good m k ns
theorem LastOK.mono {F F' : Hp} {v : V} {m : Str} (s : Same F F') (h : LastOK K F v m) : LastOK K F' v m := by
  obtain ⟨k, ns, h1, h2⟩ := h
  exact ⟨k, ns, h1.mono s, h2⟩
theorem Bnt.sho {d : PyData} (h : Bnt d) : Sho d := h.1.sho (by decide) (by decide) h.2
theorem idx_lt {k : Str} {n : Int} (h : baseN k = some n) : idx k < 9 := (List.getElem?_eq_some_iff.mp (idx_ok h).1).1
theorem sho_ranks {k : Str} {n : Int} {ns : List PyData} (hb : baseN k = some n) (hn : ∀ x ∈ ns, nn x) (hl : ns.length ≤ 10) : Sho (.list [.tuple ((rank k ns).map PyData.int), .tuple ((rank k ns).map PyData.int)]) := by
  have hi := idx_lt hb
  have h1 : It 1 1000 (.tuple ((rank k ns).map PyData.int)) := by
    refine (it_tup (k := 0) (m := 61) 12 (fun d hd => ?_) ?_).le (by decide) (by decide)
    · obtain ⟨i, hi', rfl⟩ := List.mem_map.mp hd
      rcases List.mem_cons.mp hi' with e | hm
      · rw [e]
        exact it_small (by omega) (by omega)
      · obtain ⟨x, hx, rfl⟩ := List.mem_map.mp hm
        rcases hn x hx with e | ⟨i, e, hi⟩ <;> rw [e]
        · exact it_small (by decide) (by decide)
        · exact it_int hi
    · show ((ns.map val).map PyData.int).length + 1 ≤ 12
      rw [List.length_map, List.length_map]
      omega
  exact ((it_lst 2 (it_cons h1 (it_one h1)) (by simp only [List.length_cons, List.length_nil]; omega)).le (k' := 2) (m' := 5000) (by decide) (by decide)).sho (by decide) (by decide)
theorem sho_bools (b : Bool) : Sho (.list [.bool b, .bool b]) :=
  ((it_lst 2 (it_cons (it_bool b) (it_one (it_bool b))) (by simp only [List.length_cons, List.length_nil]; omega)).le (k' := 2) (m' := 5000) (by decide) (by decide)).sho (by decide) (by decide)
def lastK (x y : V) : List (Key × V) := [(.inr "whole", x), (.inr "fields", y)]
theorem merge2 (x y : V) : mergeK [] (lastK x y) = lastK x y := rfl
theorem val_w (x y : V) : valV (lastK x y) (.inr "whole") = some x := rfl
theorem val_f (x y : V) : valV (lastK x y) (.inr "fields") = some y := rfl
theorem put_w (x y v : V) : putK (lastK x y) (.inr "whole") v = lastK v y := rfl
theorem put_f (x y v : V) : putK (lastK x y) (.inr "fields") v = lastK x v := rfl
def sp_law (K : PySem.W.Frag) : Sp := fun vs H Q _ => ∃ (a : Addr) (ns : List Int), vs = [.ref a] ∧ SqL K H a (ns.map V.int) ∧ ∀ H', Q (.bl true) H'
theorem ok_law {f : Addr} {fd : FuncData} (z : ∀ x, x ∈ zs → mg x = none) (D : Fun K "law" "law" s_law f fd) (c_law_pen : Cal P w K mg base 1 "_law_pen" (sp_pen K) []) (c_law_draw : Cal P w K mg base 1 "_law_draw" sp_draw []) (c_law_good : Cal P w K mg base 2 "_law_good" (sp_good K) [])
    (c_law_bent : Cal P w K mg base 3 "_law_bent" (sp_bent K) []) (c_law_odd : Cal P w K mg base 2 "_law_odd" (sp_odd K) []) (c_law_due : Cal P w K mg base 2 "_law_due" (sp_due K) []) (c_law_rank : Cal P w K mg base 2 "_law_rank" (sp_rank K) []) (c_law_is_less : Cal P w K mg base 3 "_law_is_less" (sp_less K) [])
    (c_is_step : Cal P w K mg base 3 "is_step" (sp_is_step K) [V.str "whole"]) (n_is_step : CalN P w K mg base 3 1 "is_step" (sp_is_step K) ["scanning"] app2) (k_is_step : CalK P w K mg base 3 "is_step" (sp_is_step K) ["scanning", "thing"] swap2)
    (c_step_rank : Cal P w K mg base 1 "step_rank" (sp_rank K) []) (k_step_rank : CalK P w K mg base 1 "step_rank" (sp_rank K) ["step"] same1) : FnG P w K mg base 4 f fd ["_law_script"] (sp_law K) := by
  refine okG D sc_law (fun vs H Q E ⟨a, ns, e, _⟩ => by rw [e]; rfl) (fun cdv A outer s H vs Q E hr hgd h => ?_)
  obtain ⟨sa, ns, rfl, hS, q⟩ := h
  refine ⟨_, (pss_cons (ps_set (i := 1) sc_law.nd rfl (Or.inl rfl) (pe_c c_law_pen hr (by decide) (by rfl) (pa_cons (pv 0) pa_nil)))
      (pss_cons (ps_set (i := 2) sc_law.nd rfl (Or.inl rfl) (pe_disp (pps_cons pe_str (pe_tup (pa_cons pe_str pa_nil)) (pps_cons pe_str (pe_tup (pa_cons pe_str pa_nil)) pps_nil)) (by rfl) (by rfl) (fun z => by cases z) (by decide)))
      (pss_cons (ps_for PassesOwn.never rfl (pi_range1 (by rfl) (z "range" (by decide)) (pa_cons pe_int pa_nil)) (pg_name (i := 3) sc_law.nd rfl (Or.inl rfl))
        (pss_cons (ps_set (i := 4) sc_law.nd rfl (Or.inl rfl) (pe_ix (r := rIxL K) ix_list (pe_lst (pa_cons pe_str (pa_cons pe_str pa_nil))) (pe_c c_law_draw hr (by decide) (by rfl) (pa_cons (pv 1) (pa_cons pe_int pa_nil))) (fun _ _ => rfl)))
        (pss_cons (ps_set (i := 5) sc_law.nd rfl (Or.inl rfl) (pe_c c_law_good hr (by decide) (by rfl) (pa_cons (pv 1) (pa_cons (pv 4) pa_nil))))
        (pss_cons (ps_set (i := 6) sc_law.nd rfl (Or.inl rfl) (pe_c c_law_bent hr (by decide) (by rfl) (pa_cons (pv 1) (pa_cons (pv 5) pa_nil))))
        (pss_cons (ps_for PassesOwn.never rfl (pi_tup (pe_tup (pa_cons (pv 5) (pa_cons (pv 6) (pa_cons (pe_c c_law_bent hr (by decide) (by rfl) (pa_cons (pv 1) (pa_cons (pv 5) pa_nil))) (pa_cons (pe_c c_law_odd hr (by decide) (by rfl) (pa_cons (pv 1) pa_nil)) pa_nil)))))) (pg_name (i := 7) sc_law.nd rfl (Or.inl rfl))
          (pss_cons (ps_set (i := 8) sc_law.nd rfl (Or.inl rfl) (pe_callB (r := rRepr K) (call_repr hgd hr.units) (by rfl) (z "repr" (by decide)) PyProof.Rows.boot_repr (pa_cons (pv 7) pa_nil)))
          (pss_cons (ps_set (i := 9) sc_law.nd rfl (Or.inl rfl) (pe_lst (pa_cons (pe_cN n_is_step hr (by decide) (by rfl) (pa_cons (pv 7) pa_nil) (pk_cons (pv 4) pk_nil)) (pa_cons (pe_cKw k_is_step hr (by decide) (by rfl) (pk_cons (pv 4) (pk_cons (pv 7) pk_nil))) pa_nil))))
          (pss_cons (ps_if (PW.pt (pw_or (pt_cmpR op_ne (pe_callB (r := rRepr K) (call_repr hgd hr.units) (by rfl) (z "repr" (by decide)) PyProof.Rows.boot_repr (pa_cons (pv 9) pa_nil)) (pe_callB (r := rRepr K) (call_repr hgd hr.units) (by rfl) (z "repr" (by decide)) PyProof.Rows.boot_repr (pa_cons (pe_op op_rep (pe_lst (pa_cons (pe_c c_law_due hr (by decide) (by rfl) (pa_cons (pv 7) (pa_cons (pv 4) pa_nil))) pa_nil)) pe_int) pa_nil)) (nomark _)) (pw_or1 (pt_cmpR op_ne (pe_c c_is_step hr (by decide) (by rfl) (pa_cons (pv 7) pa_nil)) (pe_c c_law_due hr (by decide) (by rfl) (pa_cons (pv 7) (pa_cons pe_str pa_nil))) (nomark _))))) (pss_one (ps_ret pe_bl)) pss_nil)
          (pss_one (ps_if (pt_cmpR op_ne (pe_callB (r := rRepr K) (call_repr hgd hr.units) (by rfl) (z "repr" (by decide)) PyProof.Rows.boot_repr (pa_cons (pv 7) pa_nil)) (pv 8) (nomark _)) (pss_one (ps_ret pe_bl)) pss_nil))))))
        (pss_cons (ps_if (pt_cmpR op_ne (pe_callB (r := rRepr K) (call_repr hgd hr.units) (by rfl) (z "repr" (by decide)) PyProof.Rows.boot_repr (pa_cons (pe_lst (pa_cons (pe_c c_step_rank hr (by decide) (by rfl) (pa_cons (pv 5) pa_nil)) (pa_cons (pe_cKw k_step_rank hr (by decide) (by rfl) (pk_cons (pv 5) pk_nil)) pa_nil))) pa_nil)) (pe_callB (r := rRepr K) (call_repr hgd hr.units) (by rfl) (z "repr" (by decide)) PyProof.Rows.boot_repr (pa_cons (pe_op op_rep (pe_lst (pa_cons (pe_c c_law_rank hr (by decide) (by rfl) (pa_cons (pv 5) pa_nil)) pa_nil)) pe_int) pa_nil)) (nomark _)) (pss_one (ps_ret pe_bl)) pss_nil)
        (pss_cons (ps_if (pt_cmpR op_ne (pe_cmpR (r := rLtT K) (op_ltT (Nat.lt_of_le_of_lt (Nat.le_add_right _ 64) hr.units)) (pe_c c_step_rank hr (by decide) (by rfl) (pa_cons (pe_dget (Nat.lt_of_le_of_lt (Nat.add_le_add_left (by decide : 1 ≤ 64) _) hr.units) (pv 2) (pv 4) (fun _ _ => rfl)) pa_nil)) (pe_c c_step_rank hr (by decide) (by rfl) (pa_cons (pv 5) pa_nil)) (nomark _)) (pe_c c_law_is_less hr (by decide) (by rfl) (pa_cons (pe_dget (Nat.lt_of_le_of_lt (Nat.add_le_add_left (by decide : 1 ≤ 64) _) hr.units) (pv 2) (pv 4) (fun _ _ => rfl)) (pa_cons (pv 5) pa_nil))) (nomark _)) (pss_one (ps_ret pe_bl)) pss_nil)
        (pss_one (ps_dput (Nat.lt_of_le_of_lt (Nat.add_le_add_left (by decide : 1 ≤ 64) _) hr.units) (pv 2) (pv 4) (pv 5) rfl)))))))))
      (pss_one (ps_ret (pe_and (pe_cmpR op_isBl (pe_c c_is_step hr (by decide) (by rfl) (pa_cons (pe_tup (pa_cons pe_str (pa_cons pe_int (pa_cons pe_int (pa_cons pe_non pa_nil))))) pa_nil)) pe_bl (nomark _)) (pe_one (pe_cmpR op_isBl (pe_c c_is_step hr (by decide) (by rfl) (pa_cons (pe_tup (pa_cons pe_str (pa_cons pe_int (pa_cons pe_int (pa_cons pe_non pa_nil))))) pa_nil)) pe_bl (nomark _))))))))), ?_⟩
  have n1 : ∀ m : Nat, m ≤ 1000 → m ≤ sizeLine := fun m h => Nat.le_of_lt (small1000 (by omega))
  have new : ∀ {H : Hp} {a : Addr} {xs : List V} {ds : List PyData}, H a = none → DaAll K H xs ds → Da K (upd H a (.tup xs)) (.ref a) (.tuple ds) := fun na h => .tup (.inl (.inl upd_same)) (h.mono (same_new na))
  refine ⟨.ref sa, rfl, sa, ns, rfl, hS, fun p c H1 s1 fp fc pen1 => ?_⟩
  refine fun dl ndl => ⟨n1 1 (by decide), fun t1 m1 => ⟨n1 1 (by decide), fun t2 m2 => ?_⟩⟩
  have dp := (pen1.ne ndl).1
  have dc := (pen1.ne ndl).2
  have sd := same_new (o := .dK []) ndl
  have st1 := same_new (o := .tup [V.str "start"]) m1
  have st2 := same_new (o := .tup [V.str "start"]) m2
  have dt1 : dl ≠ t1 := ne_of_none (o := .dK []) upd_same m1
  have dt2 : dl ≠ t2 := ne_of_none (o := .dK []) (st1 _ _ upd_same) m2
  have t1p : t1 ≠ p := (pen1.ne (sd.free m1)).1
  have t2p : t2 ≠ p := (pen1.ne (sd.free (st1.free m2))).1
  refine ⟨st2 _ _ (st1 _ _ upd_same), lastK (.ref t1) (.ref t2), rfl, (by show 2 ≤ 15; decide), ?_⟩
  rw [merge2]
  refine ⟨24, rfl, by decide, by decide, for_range (lo := 0) (n := 24) (fun i σ H' => ∃ x3 x4 x5 x6 x7 x8 x9 v1 v2 F, σ = [some (.ref sa), some (.ref p), some (.ref dl), x3, x4, x5, x6, x7, x8, x9] ∧ Pen H' p c (30 * i) ∧ H' dl = some (.dK (lastK v1 v2)) ∧ Same F H' ∧ F p = none ∧ F dl = none ∧ LastOK K F v1 "whole" ∧ LastOK K F v2 "fields") ?h0 ?hs ?hd⟩
  case h0 =>
    have g0 : ∀ m : Str, many m "start" = some 0 → Good m "start" [] := fun m h => ⟨h, fun x hx => nomatch hx⟩
    have cell : ∀ {t : Addr}, dl ≠ t → t ≠ p → (upd (upd (upd H1 dl (.dK [])) t1 (.tup [V.str "start"])) t2 (.tup [V.str "start"])) t = some (.tup [V.str "start"]) → LastOK K (cut dl (cut p (upd (upd (upd H1 dl (.dK [])) t1 (.tup [V.str "start"])) t2 (.tup [V.str "start"])))) (.ref t) "whole" ∧ LastOK K (cut dl (cut p (upd (upd (upd H1 dl (.dK [])) t1 (.tup [V.str "start"])) t2 (.tup [V.str "start"])))) (.ref t) "fields" := fun h1 h2 h3 => by
      have h4 : Da K (cut dl (cut p (upd (upd (upd H1 dl (.dK [])) t1 (.tup [V.str "start"])) t2 (.tup [V.str "start"])))) (.ref _) (.tuple [.str "start"]) := .tup (.inl (.inl (by rw [cut_ne h1.symm, cut_ne h2]; exact h3))) (.one (.str _))
      exact ⟨⟨_, [], h4, g0 _ (by decide +kernel)⟩, ⟨_, [], h4, g0 _ (by decide +kernel)⟩⟩
    refine ⟨_, _, _, _, _, _, _, .ref t1, .ref t2, cut dl (cut p (upd (upd (upd H1 dl (.dK [])) t1 (.tup [V.str "start"])) t2 (.tup [V.str "start"]))), rfl, ((((pen1.mono sd (Nat.le_refl _)).mono st1 (Nat.le_refl _)).mono st2 (Nat.le_refl _)).off dp dc), upd_same, same_off (cut_same.trans cut_same) cut_at, ?_, cut_at, (cell dt1 t1p (st2 _ _ upd_same)).1, (cell dt2 t2p upd_same).2⟩
    rw [cut_ne dp.symm]
    exact cut_at
  case hs =>
    rintro i σ H0 hi ⟨x3, x4, x5, x6, x7, x8, x9, v1, v2, F, rfl, pen, hdl, sF, Fp, Fd, la, lb⟩
    refine ⟨n1 2 (by decide), fun l1 nl1 => ?_⟩
    have sl1 := same_new (o := .lst [V.str "whole", V.str "fields"]) nl1
    have penA := pen.mono sl1 (Nat.le_refl _)
    refine ⟨.ref p, rfl, p, c, _, 2, rfl, by decide, by decide, penA, by omega, fun r H2 r0 r1 o2 p2 => ?_⟩
    obtain ⟨mv, hmv, hmm⟩ := at_in (xs := [V.str "whole", V.str "fields"]) r0 r1
    have hmode : ∃ mode : Str, mv = .str mode ∧ (mode = "whole" ∨ mode = "fields") := by
      simp only [List.mem_cons, List.not_mem_nil, or_false] at hmm
      rcases hmm with e | e
      · exact ⟨_, e, .inl rfl⟩
      · exact ⟨_, e, .inr rfl⟩
    obtain ⟨mode, rfl, hmode⟩ := hmode
    refine ⟨l1, _, r, _, rfl, rfl, .inl (.inl (o2 _ _ (pen.ne nl1).1 upd_same)), hmv, ?_⟩
    have sF2 : Same F H2 := o2.same Fp (sF.trans sl1)
    have hdl2 := o2 _ _ dp (sl1 _ _ hdl)
    have fx2 : Fx F H2 p := ⟨sF2, Fp, p2.some⟩
    refine ⟨.ref p, rfl, .str mode, rfl, p, c, _, mode, F, rfl, p2, by omega, fx2, fun v5 k5 ns5 H3 o3 p3 d5 g5 => ?_⟩
    have fx3 := fx2.next o3 p3.some
    have Fd3 := fr_off (H' := H3) Fd hdl2
    have hdl3 := o3 _ _ dp hdl2
    obtain ⟨n5, hb5, l5⟩ := many_base g5.len
    have at5 : ∀ x ∈ (.str k5 :: ns5 : List PyData), Atom x := fun x hx => by
      rcases List.mem_cons.mp hx with e | hx
      · rw [e]
        exact word_atom hb5
      · exact nn_atom (g5.nn x hx)
    have len5 : (.str k5 :: ns5 : List PyData).length ≤ 4 := by rw [List.length_cons]; omega
    have ne5 : (.str k5 :: ns5 : List PyData) ≠ [] := fun z => nomatch z
    have b5 : Bnt (.tuple (.str k5 :: ns5)) := bnt_tup at5 (by omega)
    refine ⟨.ref p, rfl, v5, rfl, p, c, _, v5, .str k5 :: ns5, _, rfl, p3, by omega, fx3, d5, ne5, len5, at5, fun v6 d6 H4 o4 p4 hd6 b6 => ?_⟩
    have fx4 := fx3.next o4 p4.some
    have Fd4 := fr_off (H' := H4) Fd3 hdl3
    have hdl4 := o4 _ _ dp hdl3
    refine ⟨v5, rfl, v6, rfl, .ref p, rfl, v5, rfl, p, c, _, v5, .str k5 :: ns5, _, rfl, p4, by omega, fx4, d5.mono fr_ext, ne5, len5, at5, fun v7 d7 H5 o5 p5 hd7 b7 => ?_⟩
    have fx5 := fx4.next o5 p5.some
    have Fd5 := fr_off (H' := H5) Fd4 hdl4
    have hdl5 := o5 _ _ dp hdl4
    refine ⟨.ref p, rfl, p, c, _, _, rfl, p5, by omega, fx5, fun v8 d8 H6 o6 p6 hd8 od8 => ⟨n1 4 (by decide), fun t nt => ?_⟩⟩
    have fx6 := fx5.next o6 p6.some
    have Fd6 := fr_off (H' := H6) Fd5 hdl5
    have hdl6 := o6 _ _ dp hdl5
    have E4 := DaAll.cons (d5.mono (fr_ext.trans (fr_ext.trans fr_ext))) (DaAll.cons (hd6.mono (fr_ext.trans fr_ext)) (DaAll.cons (hd7.mono fr_ext) (DaAll.one hd8)))
    have up : Same F (fr (fr (fr (fr F H2 H3) H3 H4) H4 H5) H5 H6) := fr_ext.trans (fr_ext.trans (fr_ext.trans fr_ext))
    have laF := la.mono up
    have lbF := lb.mono up
    have B4 : ∀ d ∈ [PyData.tuple (.str k5 :: ns5), d6, d7, d8], Bnt d := fun d hd => by
      simp only [List.mem_cons, List.not_mem_nil, or_false] at hd
      rcases hd with e | e | e | e <;> rw [e]
      · exact b5
      · exact b6
      · exact b7
      · exact ⟨od8.1.le (by decide) (by decide), od8.2⟩
    have d5F := E4.hd
    generalize hF : fr (fr (fr (fr F H2 H3) H3 H4) H4 H5) H5 H6 = G at *
    have sG := fx6.s
    have Gp := fx6.n
    have st := same_new (o := .tup [v5, v6, v7, v8]) nt
    refine ⟨t, rfl, ⟨_, .inl (.inl upd_same)⟩, for_tup (K := K) (a := t) (xs := [v5, v6, v7, v8]) (fun j σ H' => ∃ x7 x8 x9, σ = [some (.ref sa), some (.ref p), some (.ref dl), some (.int (0 + (i : Int))), some (.str mode), some v5, some v6, x7, x8, x9] ∧ Same (upd H6 t (.tup [v5, v6, v7, v8])) H')
      ⟨_, _, _, rfl, Same.refl _⟩ (fun j σ H' _ ⟨_, _, _, _, s'⟩ => .inl (.inl (s' _ _ upd_same))) ?fs ?fd⟩
    case fs =>
      rintro j x σ H7 hx ⟨x7, x8, x9, rfl, s7⟩
      obtain ⟨d, hd, hxd⟩ := E4.get hx
      have bd := B4 d (List.mem_of_getElem? hd)
      have sG7 : Same G H7 := sG.trans (st.trans s7)
      have sho := bd.sho
      refine ⟨x, rfl, x, d, rfl, hxd.mono sG7, sho, ?_⟩
      refine ⟨x, rfl, .str mode, rfl, rfl, rfl, x, d, mode, rfl, hxd.mono sG7, fun H8 s8 => ?_⟩
      have sG8 := sG7.trans s8
      refine ⟨.str mode, rfl, x, rfl, rfl, x, d, mode, rfl, hxd.mono sG8, fun H9 s9 => ⟨n1 2 (by decide), fun lt nlt => ?_⟩⟩
      have slt := same_new (o := .lst [V.bl (isStep mode d), V.bl (isStep mode d)]) nlt
      have sG10 := sG8.trans (s9.trans slt)
      refine ⟨.ref lt, rfl, .ref lt, .list [.bool (isStep mode d), .bool (isStep mode d)], rfl, .lst (.inl (.inl upd_same)) (.cons (.bl _) (.one (.bl _))), sho_bools _, ?_⟩
      refine ⟨x, rfl, .str mode, rfl, x, d, mode, rfl, hxd.mono sG10, fun H11 s11 => ⟨n1 1 (by decide), fun l3 nl3 => ?_⟩⟩
      have sl3 := same_new (o := .lst [V.bl (isStep mode d)]) nl3
      refine ⟨l3, 2, [V.bl (isStep mode d)], rfl, rfl, upd_same, by decide, by decide, (by show 2 ≤ sizeLine; decide), fun l4 nl4 => ?_⟩
      have sl4 := same_new (o := .lst (List.replicate (2 : Int).toNat [V.bl (isStep mode d)]).flatten) nl4
      refine ⟨.ref l4, .list [.bool (isStep mode d), .bool (isStep mode d)], rfl, .lst (.inl (.inl upd_same)) (.cons (.bl _) (.one (.bl _))), sho_bools _, rfl, _, rfl, ?_⟩
      rw [decide_eq_true rfl]
      have sG12 := sG10.trans (s11.trans (sl3.trans sl4))
      refine iteF ⟨x, rfl, x, d, "whole", rfl, hxd.mono sG12, fun H13 s13 => ?_⟩
      refine ⟨x, rfl, x, d, "whole", rfl, hxd.mono (sG12.trans s13), fun H14 s14 => ⟨rfl, _, rfl, ?_⟩⟩
      rw [decide_eq_true rfl]
      have sG14 := sG12.trans (s13.trans s14)
      refine iteF ⟨x, rfl, x, d, rfl, hxd.mono sG14, sho, _, rfl, rfl, _, rfl, ?_⟩
      rw [decide_eq_true rfl]
      exact iteF ⟨_, _, _, rfl, s7.trans (s8.trans (s9.trans (slt.trans (s11.trans (sl3.trans (sl4.trans (s13.trans s14)))))))⟩
    case fd =>
      rintro σ H7 ⟨x7, x8, x9, rfl, s7⟩
      have sG7 : Same G H7 := sG.trans (st.trans s7)
      have hl5 : ns5.length ≤ 10 := by omega
      have rkD : ∀ {k : Str} {ns : List PyData} {H' : Hp} {a : Addr}, SqT K H' a ((rank k ns).map V.int) → Da K H' (.ref a) (.tuple ((rank k ns).map PyData.int)) := fun h => .tup h (da_ints _)
      refine ⟨v5, rfl, v5, k5, ns5, n5, rfl, d5F.mono sG7, hb5, g5.nn, hl5, fun a1 H8 s8 q8 => ?_⟩
      have sG8 := sG7.trans s8
      refine ⟨v5, rfl, rfl, v5, k5, ns5, n5, rfl, d5F.mono sG8, hb5, g5.nn, hl5, fun a2 H9 s9 q9 => ⟨n1 2 (by decide), fun l2 nl2 => ?_⟩⟩
      have sl2 := same_new (o := .lst [V.ref a1, V.ref a2]) nl2
      have sG10 := sG8.trans (s9.trans sl2)
      refine ⟨.ref l2, .list [.tuple ((rank k5 ns5).map PyData.int), .tuple ((rank k5 ns5).map PyData.int)], rfl, .lst (.inl (.inl upd_same)) (.cons (rkD (same_seqT (s9.trans sl2) q8)) (.one (rkD (same_seqT sl2 q9)))), sho_ranks hb5 g5.nn hl5, ?_⟩
      refine ⟨v5, rfl, v5, k5, ns5, n5, rfl, d5F.mono sG10, hb5, g5.nn, hl5, fun a3 H11 s11 q11 => ⟨n1 1 (by decide), fun l3 nl3 => ?_⟩⟩
      have sl3 := same_new (o := .lst [V.ref a3]) nl3
      refine ⟨l3, 2, [V.ref a3], rfl, rfl, upd_same, by decide, by decide, (by show 2 ≤ sizeLine; decide), fun l4 nl4 => ?_⟩
      have sl4 := same_new (o := .lst (List.replicate (2 : Int).toNat [V.ref a3]).flatten) nl4
      refine ⟨.ref l4, .list [.tuple ((rank k5 ns5).map PyData.int), .tuple ((rank k5 ns5).map PyData.int)], rfl, .lst (.inl (.inl upd_same)) (.cons (rkD (same_seqT (sl3.trans sl4) q11)) (.one (rkD (same_seqT (sl3.trans sl4) q11)))), sho_ranks hb5 g5.nn hl5, rfl, _, rfl, ?_⟩
      rw [decide_eq_true rfl]
      have sG12 := sG10.trans (s11.trans (sl3.trans sl4))
      have s712 := s8.trans (s9.trans (sl2.trans (s11.trans (sl3.trans sl4))))
      have hdl12 := (st.trans (s7.trans s712)) _ _ hdl6
      have sel : ∃ vL, LastOK K G vL mode ∧ (∀ H' : Hp, H' dl = some (.dK (lastK v1 v2)) → DGet H' dl (.str mode) (some vL)) := by
        rcases hmode with e | e <;> rw [e]
        · exact ⟨v1, laF, fun H' h => by have h' := DGet.k (k := .inr "whole") h; rw [val_w] at h'; exact h'⟩
        · exact ⟨v2, lbF, fun H' h => by have h' := DGet.k (k := .inr "fields") h; rw [val_f] at h'; exact h'⟩
      obtain ⟨vL, ⟨kL, nsL, dL, gL⟩, dget⟩ := sel
      obtain ⟨nL, hbL, lL⟩ := many_base gL.len
      have hlL : nsL.length ≤ 10 := by omega
      refine iteF ⟨.ref dl, rfl, .str mode, rfl, dl, vL, rfl, dget _ hdl12, vL, kL, nsL, nL, rfl, dL.mono sG12, hbL, gL.nn, hlL, fun b1 H13 s13 q13 => ?_⟩
      have sG13 := sG12.trans s13
      refine ⟨v5, rfl, v5, k5, ns5, n5, rfl, d5F.mono sG13, hb5, g5.nn, hl5, fun b2 H14 s14 q14 => ⟨b1, b2, rank kL nsL, rank k5 ns5, rfl, rfl, same_seqT s14 q13, q14, ?_⟩⟩
      have sG14 := sG13.trans s14
      have hdl14 := (s13.trans s14) _ _ hdl12
      refine ⟨.ref dl, rfl, .str mode, rfl, dl, vL, rfl, dget _ hdl14, v5, rfl, vL, kL, nsL, nL, v5, k5, ns5, n5, rfl, dL.mono sG14, hbL, gL.nn, hlL, d5F.mono sG14, hb5, g5.nn, hl5, fun e => ?_, fun H15 s15 => ⟨rfl, _, rfl, ?_⟩⟩
      · have h1 := gL.len
        rw [e, g5.len] at h1
        have := Option.some.inj h1
        omega
      rw [decide_eq_true rfl]
      have sG15 := sG14.trans s15
      have hdl15 := s15 _ _ hdl14
      have pen15 : Pen H15 p c (30 * (i + 1)) := p6.mono (st.trans (s7.trans (s712.trans (s13.trans (s14.trans s15))))) (by omega)
      have g5F : LastOK K G v5 mode := ⟨k5, ns5, d5F, g5⟩
      refine iteF ⟨v5, rfl, .ref dl, rfl, .str mode, rfl, dl, _, rfl, DPut.k (k := .inr mode) hdl15 (small1000 (by show 2 ≤ 1000; decide)), ?_⟩
      rcases hmode with e | e
      · subst e
        rw [put_w]
        exact ⟨_, _, _, _, _, _, _, v5, v2, G, rfl, pen15.off dp dc, upd_same, same_off sG15 Fd6, Gp, Fd6, g5F, lbF⟩
      · subst e
        rw [put_f]
        exact ⟨_, _, _, _, _, _, _, v1, v5, G, rfl, pen15.off dp dc, upd_same, same_off sG15 Fd6, Gp, Fd6, laF, g5F⟩
  case hd =>
    rintro σ H0 ⟨x3, x4, x5, x6, x7, x8, x9, v1, v2, F, rfl, pen, hdl, sF, Fp, Fd, la, lb⟩
    refine ⟨n1 4 (by decide), fun a1 m1 => ⟨.ref a1, .tuple [.str "store", .int 0, .int 0, .none], "whole", rfl, new m1 (.cons (.str _) (.cons (.int 0) (.cons (.int 0) (.one .non)))), fun H2 s2 => ⟨_, _, rfl, rfl, _, rfl, ?_⟩⟩⟩
    rw [show isStep "whole" (.tuple [.str "store", .int 0, .int 0, .none]) = true by decide +kernel]
    refine iteT ⟨n1 4 (by decide), fun a3 m3 => ⟨.ref a3, .tuple [.str "load", .int 0, .int 0, .none], "whole", rfl, new m3 (.cons (.str _) (.cons (.int 0) (.cons (.int 0) (.one .non)))), fun H4 s4 => ⟨_, _, rfl, rfl, ?_⟩⟩⟩
    rw [show isStep "whole" (.tuple [.str "load", .int 0, .int 0, .none]) = false by decide +kernel]
    exact q H4
end
end K15
namespace K15
open PySem PySem.Spec PyProof.Rows L2 VK
open C8 (Cal pe_c pe_gc pss_cut)
set_option pp.deepTerms false
set_option pp.maxSteps 300
section
variable {P : Program} {w : World} {K : PySem.W.Frag} {mg : Str → Option Value} {base : Heap}
theorem cal_is_step (D : FokD P w K mg base 3 "is_step" s_is_step [("scanning", .str "whole")] ["thing", "scanning"] (sp_is_step K)) : Cal P w K mg base 3 "is_step" (sp_is_step K) [V.str "whole"] :=
  D.cal 1 (fun z => nomatch z) rfl (fun D doc pm an cdv ct us ks h1 h2 => match us, ks, h1, h2 with
    | [_], [_], _, _ => ⟨_, _, _, _, _, _, rfl, rfl, rfl⟩)
theorem calN_is_step (D : FokD P w K mg base 3 "is_step" s_is_step [("scanning", .str "whole")] ["thing", "scanning"] (sp_is_step K)) : CalN P w K mg base 3 1 "is_step" (sp_is_step K) ["scanning"] app2 :=
  D.calN (ks := ["scanning"]) (g := app2) (gV := app2) 1 (fun _ _ _ _ _ _ us ws h1 h2 => match us, ws, h1, h2 with | [_], [_], _, _ => rfl) (fun r1 r2 => r1.append r2)
theorem calK_is_step (D : FokD P w K mg base 3 "is_step" s_is_step [("scanning", .str "whole")] ["thing", "scanning"] (sp_is_step K)) : CalK P w K mg base 3 "is_step" (sp_is_step K) ["scanning", "thing"] swap2 :=
  (D.calN (ks := ["scanning", "thing"]) (g := swap2) (gV := swap2) 0 (fun _ _ _ _ _ _ us ws h1 h2 => match us, ws, h1, h2 with | [], [_, _], _, _ => rfl) (fun _ r => match r with
    | .nil => .nil
    | .cons _ .nil => .nil
    | .cons a (.cons b .nil) => .cons b (.cons a .nil)
    | .cons _ (.cons _ (.cons _ _)) => .nil)).toK
theorem all_ok {f : Addr} {fd : FuncData} (z : ∀ x, x ∈ zs → mg x = none) {dN sk : Addr} (gN : mg "NUMBERS" = some (.ref dN)) (hN : ∀ q ∈ kindsL, KDct K w dN q.1 (.int q.2)) (gS : mg "STEP_KINDS" = some (.ref sk)) (hK : ∀ H, SqT K H sk wordsV) (hKo : ∃ o, K.lookup sk = some o ∧ o.cls = .type "tuple" ∧ o.dict = none)
    (dis_step : DfD K mg "is_step" s_is_step [("scanning", .str "whole")])
    (dkind_of : Df K mg "kind_of" s_kind_of)
    (dhas_numbers : Df K mg "has_numbers" s_has_numbers)
    (dis_number : Df K mg "is_number" s_is_number)
    (dmany_numbers : Df K mg "many_numbers" s_many_numbers)
    (dstep_rank : Df K mg "step_rank" s_step_rank)
    (d_law_pen : Df K mg "_law_pen" s_law_pen)
    (d_law_draw : Df K mg "_law_draw" s_law_draw)
    (d_law_kinds : Df K mg "_law_kinds" s_law_kinds)
    (d_law_good : Df K mg "_law_good" s_law_good)
    (d_law_odd : Df K mg "_law_odd" s_law_odd)
    (d_law_bent : Df K mg "_law_bent" s_law_bent)
    (d_law_is_number : Df K mg "_law_is_number" s_law_is_number)
    (d_law_due : Df K mg "_law_due" s_law_due)
    (d_law_rank : Df K mg "_law_rank" s_law_rank)
    (d_law_is_less : Df K mg "_law_is_less" s_law_is_less) (D : Fun K "law" "law" s_law f fd) :
    FnG P w K mg base 4 f fd ["_law_script"] (sp_law K) := by
  have cd : Cal P w K mg base 1 "_law_draw" sp_draw [] := ok_law_draw z d_law_draw
  have ck : Cal P w K mg base 1 "_law_kinds" (sp_kinds K) [] := ok_law_kinds d_law_kinds
  have co := ok_law_odd z d_law_odd cd
  have cs := ok_is_step (P := P) (w := w) (base := base) dis_step (ok_kind_of z dkind_of gS hK) (ok_has_numbers z dhas_numbers (ok_is_number z dis_number)) (ok_many_numbers dmany_numbers gN hN)
  have cr := ok_step_rank (P := P) (w := w) (base := base) z dstep_rank gS hK hKo
  have crk := ok_law_rank z d_law_rank ck
  exact ok_law z D (ok_law_pen z d_law_pen) cd (ok_law_good z d_law_good cd ck) (ok_law_bent z d_law_bent cd co) co (ok_law_due z d_law_due ck (ok_law_is_number z d_law_is_number)) crk (ok_law_is_less z d_law_is_less crk) (cal_is_step cs) (calN_is_step cs) (calK_is_step cs)
    (cr.cal (fun _ _ _ _ _ _ us hl => match us, hl with | [_], _ => rfl)) (cr.calK (g := same1) (fun _ _ _ _ _ _ ws hl => match ws, hl with | [_], _ => rfl) (fun _ r => r))
end
def KindsOK {K : PySem.W.Frag} {h : Heap} (_ : K.In h) (mg : Str → Option Value) : Prop := ∃ sk, mg "STEP_KINDS" = some (.ref sk) ∧ (∀ H, SqT K H sk wordsV) ∧ ∃ o, K.lookup sk = some o ∧ o.cls = .type "tuple" ∧ o.dict = none
def NumsOK {K : PySem.W.Frag} {h : Heap} (_ : K.In h) (w : World) (mg : Str → Option Value) : Prop := ∃ dN, mg "NUMBERS" = some (.ref dN) ∧ ∀ q ∈ kindsL, KDct K w dN q.1 (.int q.2)
def StepOK {K : PySem.W.Frag} {h : Heap} (_ : K.In h) (mg : Str → Option Value) : Prop := DfD K mg "is_step" s_is_step [("scanning", .str "whole")]
end K15
open PySem PySem.W PyProof.Rows
set_option maxHeartbeats 0 in
set_option pp.deepTerms false in
set_option pp.maxSteps 200 in
theorem PySem.Challenge.cw_shadeguards_k15_forms_of_steps_holds : PySem.Challenge.rw_shadeguards_k15_forms_of_steps.Holds := by
  w_on; o_law; k_head; (case hw => w_witness2)
  k_fill
  refine VK.walk_ofG (l := PySem.Challenge.rw_shadeguards_k15_forms_of_steps) (n := 63) (k := 4) (x := "_law_script") (sp := K15.sp_law) rfl (by decide) rfl ⟨rfl, by decide, by decide⟩ (fun w h Y => PySem.W.kIn_of Y) ?F (fun K H a ns hl hS => ⟨a, ns, rfl, hS, fun _ => rfl⟩)
  case F =>
    intro w mg fa h KX G hmg
    have hz : ∀ x, x ∈ K15.zs → mg x = none := by
      intro x hx
      simp only [K15.zs, List.mem_cons, List.not_mem_nil, or_false] at hx
      rcases hx with e | e | e | e | e | e | e | e | e | e | e | e | e <;> rw [e] <;> exact PySem.W.mg_none_of KX G (by k_is)
    have gS : K15.KindsOK KX mg := by
      refine' ⟨22, PySem.W.mg_of KX G ?g, fun H => .inr ⟨_, _, _, rfl, rfl, rfl, ?s, ?v⟩, _, rfl, rfl, rfl⟩
      (case g => rfl)
      (case s => decide)
      (case v => exact .cons ⟨_, rfl⟩ (.cons ⟨_, rfl⟩ (.cons ⟨_, rfl⟩ (.cons ⟨_, rfl⟩ (.cons ⟨_, rfl⟩ (.cons ⟨_, rfl⟩ (.cons ⟨_, rfl⟩ (.cons ⟨_, rfl⟩ (.cons ⟨_, rfl⟩ .nil)))))))))
    obtain ⟨sk, gS, hK, hKo⟩ := gS
    have gN : K15.NumsOK KX w mg := by
      refine' ⟨23, PySem.W.mg_of KX G ?g, ?r⟩
      (case g => rfl)
      (case r =>
        intro q hq
        simp only [K15.kindsL, List.mem_cons, List.not_mem_nil, or_false] at hq
        rcases hq with e | e | e | e | e | e | e | e | e <;> rw [e] <;> (refine' ⟨_, _, _, rfl, ⟨⟨_, _, rfl, rfl⟩, ⟨⟨_, _, rfl, rfl⟩, ⟨⟨_, _, rfl, rfl⟩, ⟨⟨_, _, rfl, rfl⟩, ⟨⟨_, _, rfl, rfl⟩, ⟨⟨_, _, rfl, rfl⟩, ⟨⟨_, _, rfl, rfl⟩, ⟨⟨_, _, rfl, rfl⟩, ⟨⟨_, _, rfl, rfl⟩, trivial⟩⟩⟩⟩⟩⟩⟩⟩⟩, rfl, _, rfl⟩))
    obtain ⟨dN, gN, hN⟩ := gN
    have dis_step : K15.StepOK KX mg := by
      refine' VK.dfd_mk KX G ?a ?l ?c ?k (fun q hq => ?h)
      (case a => k_is)
      (case l => k_is)
      (case c => k_is)
      (case k => k_is)
      (case h =>
        rw [List.mem_singleton] at hq
        rw [hq]
        refine' ⟨_, rfl, ⟨_, rfl⟩⟩)
    have dkind_of := VK.df_mk (x := "kind_of") (st := K15.s_kind_of) KX G (by k_is) (by k_is) (by k_is) (by k_is)
    have dhas_numbers := VK.df_mk (x := "has_numbers") (st := K15.s_has_numbers) KX G (by k_is) (by k_is) (by k_is) (by k_is)
    have dis_number := VK.df_mk (x := "is_number") (st := K15.s_is_number) KX G (by k_is) (by k_is) (by k_is) (by k_is)
    have dmany_numbers := VK.df_mk (x := "many_numbers") (st := K15.s_many_numbers) KX G (by k_is) (by k_is) (by k_is) (by k_is)
    have dstep_rank := VK.df_mk (x := "step_rank") (st := K15.s_step_rank) KX G (by k_is) (by k_is) (by k_is) (by k_is)
    have d_law_pen := VK.df_mk (x := "_law_pen") (st := K15.s_law_pen) KX G (by k_is) (by k_is) (by k_is) (by k_is)
    have d_law_draw := VK.df_mk (x := "_law_draw") (st := K15.s_law_draw) KX G (by k_is) (by k_is) (by k_is) (by k_is)
    have d_law_kinds := VK.df_mk (x := "_law_kinds") (st := K15.s_law_kinds) KX G (by k_is) (by k_is) (by k_is) (by k_is)
    have d_law_good := VK.df_mk (x := "_law_good") (st := K15.s_law_good) KX G (by k_is) (by k_is) (by k_is) (by k_is)
    have d_law_odd := VK.df_mk (x := "_law_odd") (st := K15.s_law_odd) KX G (by k_is) (by k_is) (by k_is) (by k_is)
    have d_law_bent := VK.df_mk (x := "_law_bent") (st := K15.s_law_bent) KX G (by k_is) (by k_is) (by k_is) (by k_is)
    have d_law_is_number := VK.df_mk (x := "_law_is_number") (st := K15.s_law_is_number) KX G (by k_is) (by k_is) (by k_is) (by k_is)
    have d_law_due := VK.df_mk (x := "_law_due") (st := K15.s_law_due) KX G (by k_is) (by k_is) (by k_is) (by k_is)
    have d_law_rank := VK.df_mk (x := "_law_rank") (st := K15.s_law_rank) KX G (by k_is) (by k_is) (by k_is) (by k_is)
    have d_law_is_less := VK.df_mk (x := "_law_is_less") (st := K15.s_law_is_less) KX G (by k_is) (by k_is) (by k_is) (by k_is)
    have dlaw := VK.df_mk (x := "law") (st := K15.s_law) KX G (by k_is) (by k_is) (by k_is) (by k_is)
    exact VK.law_end dlaw hmg (fun _ _ _ _ _ _ _ => rfl) (fun f fd hF base _ _ => K15.all_ok hz gN hN gS hK hKo dis_step dkind_of dhas_numbers dis_number dmany_numbers dstep_rank d_law_pen d_law_draw d_law_kinds d_law_good d_law_odd d_law_bent d_law_is_number d_law_due d_law_rank d_law_is_less hF)
