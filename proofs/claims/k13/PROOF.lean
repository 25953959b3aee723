import PyProof.Rows.All
import Wide.All
import OpenK.AllK
import Wide.FinOn
import HandS.ForMost
import HandS.IsInst
import HandS.TupAny
import HandS.TupMul
import HandS.Style
import HandS.Defaults
import HandS.RaiseMore
import HandS.Codes
import HandS.Deep
import HandS.ForExc
import HandS.Text
import HandS.ExcInit
import HandS.ExcField
import HandS.ExcIs
import HandS.Small
import HandS.TryMany
import HandS.Star
import HandS.Property
import HandS.ClsMeth
import HandS.MakeKwOnly
import HandS.Steps
import HandS.TryOnly
import HandS.FStr
import HandS.StrMore
import HandS.Records
import HandS.SetFor
import HandS.Strs
import HandS.More
import HandS.Conv
import HandS.SortInts
import KE.KUnpack
import KE.GoesMore
import KE.KCallOwn
import PyProof.InstNe
import PyProof.StrOps2
import PySem.Challenge.RW_shadeguards_k13_shortest_paths
set_option Elab.async false
set_option linter.all false
set_option maxRecDepth 100000
set_option maxHeartbeats 4000000
/-! What these proofs share: data at any depth, its repr, calls made while no repr is under way, the law's end. -/
namespace VK
open PySem PySem.Spec PyProof.Rows L2

/-! ### data -/
mutual
/-- v, in H, is the data d: tuples, lists, dicts with keys that are ints or texts -/
inductive Da (K : PySem.W.Frag) (H : Hp) : V → PyData → Prop
  | non : Da K H .non .none
  | bl (b : Bool) : Da K H (.bl b) (.bool b)
  | int (i : Int) : Da K H (.int i) (.int i)
  | str (x : Str) : Da K H (.str x) (.str x)
  | lst {a : Addr} {xs : List V} {ds : List PyData} : SqL K H a xs → DaAll K H xs ds → Da K H (.ref a) (.list ds)
  | tup {a : Addr} {xs : List V} {ds : List PyData} : SqT K H a xs → DaAll K H xs ds → Da K H (.ref a) (.tuple ds)
  | dic {a : Addr} {kvs : List (Key × V)} {es : List (PyData × PyData)} : H a = some (.dK kvs) → DaKv K H kvs es → Da K H (.ref a) (.dict es)
inductive DaAll (K : PySem.W.Frag) (H : Hp) : List V → List PyData → Prop
  | nil : DaAll K H [] []
  | cons {v : V} {vs : List V} {d : PyData} {ds : List PyData} : Da K H v d → DaAll K H vs ds → DaAll K H (v :: vs) (d :: ds)
inductive DaKv (K : PySem.W.Frag) (H : Hp) : List (Key × V) → List (PyData × PyData) → Prop
  | nil : DaKv K H [] []
  | cons {k : Key} {v : V} {kvs : List (Key × V)} {a b : PyData} {es : List (PyData × PyData)} : Da K H (kV k) a → Da K H v b → DaKv K H kvs es → DaKv K H ((k, v) :: kvs) ((a, b) :: es)
end

/-! no list stands anywhere in it -/
mutual
def noL : PyData → Bool
  | .list _ => false
  | .tuple xs => noLs xs
  | .dict kvs => noLk kvs
  | _ => true
def noLs : List PyData → Bool
  | [] => true
  | x :: xs => noL x && noLs xs
def noLk : List (PyData × PyData) → Bool
  | [] => true
  | (k, v) :: r => noL k && noL v && noLk r
end
section
variable {X : Cx} {pins : List (Addr × Obj)} {σ : L2.St} {H : Hp} {s : Shared}
mutual
theorem Da.reads (I : Inv X pins σ H s) : ∀ (d : PyData) (v : V) (u : Value), Da X.K H v d → RelV v u → ∃ as, Reads s.heap u d as ∧ (noL d = true → sysModules ∉ as)
  | .none, _, _, h, r => by
    cases h
    cases r
    exact ⟨_, Reads.none, fun _ z => (nomatch z)⟩
  | .bool b, _, _, h, r => by
    cases h
    cases r
    exact ⟨_, Reads.bool b, fun _ z => (nomatch z)⟩
  | .int i, _, _, h, r => by
    cases h
    obtain ⟨t, rfl⟩ := r
    exact ⟨_, Reads.int i t, fun _ z => (nomatch z)⟩
  | .str x, _, _, h, r => by
    cases h
    obtain ⟨t, rfl⟩ := r
    exact ⟨_, Reads.str x t, fun _ z => (nomatch z)⟩
  | .list ds, _, _, h, r => by
    cases h with
    | lst hs ha =>
      cases r
      obtain ⟨its, rv, ⟨o, n, ho, hc, _, hd⟩, _⟩ := I.list hs
      obtain ⟨as, hr, _⟩ := Da.readsAll I ds _ its ha rv
      exact ⟨_, Reads.list ho hc hd hr, fun z => Bool.noConfusion (show false = true from z)⟩
  | .tuple ds, _, _, h, r => by
    cases h with
    | tup hs ha =>
      cases r
      obtain ⟨its, rv, ⟨o, ho, hc, n, hd⟩, _⟩ := I.tuple hs
      obtain ⟨as, hr, hn⟩ := Da.readsAll I ds _ its ha rv
      exact ⟨_, Reads.tuple ho hc hd hr, hn⟩
  | .dict es, _, _, h, r => by
    cases h with
    | dic hs hk =>
      cases r
      obtain ⟨_, hsys, vs, rv, o, en, ep, ho, hc, hd, _, hp, _⟩ := I.hok _ _ hs
      obtain ⟨as, bs, r1, r2, n12⟩ := Da.readsKv I es _ _ _ hk rv hp
      refine ⟨_, Reads.dict ho hc.1 hd r1 r2, fun z m => ?_⟩
      rcases List.mem_append.mp m with m | m
      · rcases List.mem_cons.mp m with m | m
        · rw [← m] at hsys
          exact Bool.noConfusion hsys
        · exact (n12 z).1 m
      · exact (n12 z).2 m
theorem Da.readsAll (I : Inv X pins σ H s) : ∀ (ds : List PyData) (vs : List V) (us : List Value), DaAll X.K H vs ds → Vals vs us → ∃ as, ReadsAll s.heap us ds as ∧ (noLs ds = true → sysModules ∉ as)
  | [], _, _, h, r => by
    cases h
    cases r
    exact ⟨_, ReadsAll.nil, fun _ z => (nomatch z)⟩
  | d :: ds, _, _, h, r => by
    cases h with
    | cons h1 h2 =>
      cases r with
      | cons r1 r2 =>
        obtain ⟨as, q1, n1⟩ := Da.reads I d _ _ h1 r1
        obtain ⟨bs, q2, n2⟩ := Da.readsAll I ds _ _ h2 r2
        refine ⟨_, ReadsAll.cons q1 q2, fun z m => ?_⟩
        have z' : (noL d && noLs ds) = true := z
        rw [Bool.and_eq_true] at z'
        rcases List.mem_append.mp m with m | m
        · exact n1 z'.1 m
        · exact n2 z'.2 m
theorem Da.readsKv (I : Inv X pins σ H s) : ∀ (es : List (PyData × PyData)) (kvs : List (Key × V)) (vs : List (Key × Value)) (en : List DictEntry), DaKv X.K H kvs es → KV kvs vs → Pairs (mixKind X.prog X.w) en vs →
    ∃ as bs, ReadsAll s.heap (en.map (·.key)) (es.map (·.1)) as ∧ ReadsAll s.heap (en.map (·.val)) (es.map (·.2)) bs ∧ (noLk es = true → sysModules ∉ as ∧ sysModules ∉ bs)
  | [], _, _, _, h, r, p => by
    cases h
    cases r
    cases p
    exact ⟨_, _, ReadsAll.nil, ReadsAll.nil, fun _ => ⟨fun z => (nomatch z), fun z => (nomatch z)⟩⟩
  | (a, b) :: es, _, _, _, h, r, p => by
    cases h with
    | @cons k v kvs _ _ _ h1 h2 h3 =>
      cases r with
      | @cons _ kv _ vs re rt =>
        cases p with
        | @cons e _ en _ p1 p2 p3 =>
          obtain ⟨x1, x2⟩ := kv
          obtain ⟨e1, rv⟩ := re
          have e1' : k = x1 := e1
          subst e1'
          have rk : RelV (kV k) e.key := by
            have h1' : keyIs k e.key = true := p1
            rcases keyIs_shape h1' with ⟨i, t, q1, q2⟩ | ⟨x, t, q1, q2⟩
            · rw [q1, q2]
              exact ⟨t, rfl⟩
            · rw [q1, q2]
              exact ⟨t, rfl⟩
          have rv2 : RelV v e.val := by
            rw [p2]
            exact rv
          obtain ⟨as1, u1, n1⟩ := Da.reads I a _ _ h1 rk
          obtain ⟨as2, u2, n2⟩ := Da.reads I b _ _ h2 rv2
          obtain ⟨bs1, bs2, u3, u4, n3⟩ := Da.readsKv I es _ _ _ h3 rt p3
          refine ⟨_, _, ReadsAll.cons u1 u3, ReadsAll.cons u2 u4, fun z => ?_⟩
          have z' : (noL a && noL b && noLk es) = true := z
          rw [Bool.and_eq_true, Bool.and_eq_true] at z'
          refine ⟨fun m => ?_, fun m => ?_⟩
          · rcases List.mem_append.mp m with m | m
            · exact n1 z'.1.1 m
            · exact (n3 z'.2).1 m
          · rcases List.mem_append.mp m with m | m
            · exact n2 z'.1.2 m
            · exact (n3 z'.2).2 m
end
end

/-! ### repr -/
/-- such data has a repr that the machine can make -/
structure Sho (d : PyData) : Prop where
  sh : d.showable = true
  dp : d.depth ≤ 60
  sz : d.shown.length ≤ sizeLine
  ls : d.hasDict = true → noL d = true
def rRepr (K : PySem.W.Frag) : List V → Hp → VK → Prop := fun xs H Q => ∃ v d, xs = [v] ∧ Da K H v d ∧ Sho d ∧ Q (.str d.shown) H
theorem call_repr {X : Cx} (hg : X.A.guards = some []) (hu : X.A.units + 64 < cLine) : CallR X (.builtin "repr") (rRepr X.K) := by
  intro pins s σ H xs us Q I r h
  obtain ⟨v, d, rfl, hd, hs, q⟩ := h
  obtain ⟨u, rfl, ru⟩ := vals1 r
  obtain ⟨as, hr, hn⟩ := Da.reads I d v u hd ru
  have leaf : (∀ a, u ≠ .ref a) → wpAny (model X.prog X.w) X.A (call (.builtin "repr") [u]) (EP X pins σ Q) X.xe s := fun hne => by
    cases hr with
    | none => exact PySem.P.repr_of_none ⟨.str _, H, I.tok _, ⟨_, rfl⟩, q⟩
    | bool b => exact PySem.P.repr_of_bool ⟨.str _, H, I.tok _, ⟨_, rfl⟩, q⟩
    | int i t => exact PySem.P.repr_of_int (of_decide_eq_true hs.sh) ⟨.str _, H, I.tok _, ⟨_, rfl⟩, q⟩
    | str x t => exact PySem.P.repr_of_str ⟨.str _, H, I.tok _, ⟨_, rfl⟩, q⟩ hs.sz
    | list => exact absurd rfl (hne _)
    | tuple => exact absurd rfl (hne _)
    | dict => exact absurd rfl (hne _)
  cases u with
  | ref a =>
    exact repr_of_reads' hr hs.sh (fun z => hn (hs.ls z)) hg (by have := hs.dp; omega) (fun _ _ e => e) (fun h' u tk hk => ⟨.str _, H, I.kept (t' := tk) hk, ⟨_, rfl⟩, q⟩) hs.sz
  | _ => exact leaf fun a e => by cases e

/-! ### defs that are called while no repr is under way -/
structure FnG (P : Program) (w : World) (K : PySem.W.Frag) (mg : Str → Option Value) (base : Heap) (k : Nat) (f : Addr) (fd : FuncData) (ps : List Str) (sp : Sp) : Prop where
  len : ∀ vs H Q E, sp vs H Q E → vs.length = ps.length
  run : ∀ (A : Around) (outer : List Env) (s : Shared) (H : Hp) (args : Args) (us : List Value) (vs : List V) (Q : VK) (E : XK), Room k A → A.guards = some [] →
    Env0 P w K mg base A outer s H → BindsTo s fd args (ps.zip us) → Vals vs us → sp vs H Q E → codeAny (model P w) A (.call (.ref f) args) (CR CX0 outer P w H s Q E) s

section
variable {P : Program} {w : World} {K : PySem.W.Frag} {mg : Str → Option Value} {base : Heap}
theorem okG {x qual : Str} {st : Stmt} {f : Addr} {fd : FuncData} {N ps : List Str} {k : Nat} {sp : Sp} (F : Fun K x qual st f fd) (S : FnScope N ps (defScope st)) (len : ∀ vs H Q E, sp vs H Q E → vs.length = ps.length)
    (hbody : ∀ (cdv : Value) (A : Around) (outer : List Env) (s : Shared) (H : Hp) (vs : List V) (Q : VK) (E : XK), Room k (A.deeper (envOfC qual (defScope st) s.heap.objs.size f cdv)) → (A.deeper (envOfC qual (defScope st) s.heap.objs.size f cdv)).guards = some [] → sp vs H Q E →
      ∃ t, PSs (cxOf CX0 P w K mg base N qual (defScope st) f cdv A outer s H E).nox (defBody st) t ∧ t { nx := fun _ H' => Q .non H', rt := Q } (start N vs) H) :
    FnG P w K mg base (k + 1) f fd ps sp := by
  obtain ⟨oc, od, kV, doc, pm, an, cdv, ct, osl, rfl, lk, hcd⟩ := F.ex
  constructor
  · exact len
  intro A outer s H args us vs Q E hr hgd e0 hb r hsp
  have KX : K.In s.heap := e0.mod.kin.keeps fun b o e => (e0.bs b o e).1
  have NL := e0.mod.nolimit.keeps fun b o e => (e0.bs b o e).1
  have hl := len vs H Q E hsp
  refine codeAny_call_function hr.depth (KX f _ lk) rfl S.co S.gen rfl (PySem.W.codeRec_of KX hcd) (hb _ _ _ _ (wpAny_newFunctionEnv_cells S.kind ?_ ?_))
  · rintro ⟨n, v⟩ hy
    rcases S.par n (List.of_mem_zip hy).1 with q | q
    · exact Or.inl q
    · exact Or.inr ⟨q, PySem.W.cellsFrom_some _ _ _ (Or.inl q)⟩
  · rintro env rfl s1 x
    refine ⟨NL.keeps x.toInCall.keep, codeAny_func ?_⟩
    obtain ⟨t, ht, hq⟩ := hbody cdv A outer s H vs Q E (hr.deeper _) hgd hsp
    refine wpAny_mono (ht.nox.run [] s1 (start N vs) H _ (inv_start S hr.hd e0 hl r x) hq) ?_ ?_
    · intro fl s' hs
      cases fl with
      | ret u =>
        obtain ⟨v, σ', H', J, rv, q⟩ := hs
        exact ⟨v, H', J.os, J.bare, J.base, J.hok, rv, q⟩
      | next =>
        obtain ⟨σ', H', J, q⟩ := hs
        exact ⟨V.non, H', J.os, J.bare, J.base, J.hok, rfl, q⟩
      | brk =>
        obtain ⟨_, _, _, q⟩ := hs
        exact q.elim
      | cont =>
        obtain ⟨_, _, _, q⟩ := hs
        exact q.elim
    · intro e s' hs
      exact hs

variable {X : Cx} {k : Nat} {f : Addr} {fd : FuncData} {ps : List Str} {sp : Sp} {x : Str} {p pos : Pos} {e : Expr} {es : List Expr} {t : TA}
theorem runG {pins : List (Addr × Obj)} {σ : L2.St} {H : Hp} {s : Shared} {Q : VK} {us : List Value} {vs : List V} (F : FnG X.prog X.w X.K X.mg X.base k f fd ps sp) (hr : Room k X.A) (hgd : X.A.guards = some []) (hb : Binds X.K fd ps [])
    (I : Inv X pins σ H s) (r : Vals vs us) (h : sp vs H Q E0) : wpAny (model X.prog X.w) X.A (call (.ref f) us) (EP X pins σ Q) X.xe s := by
  have hl : us.length = ps.length := by
    rw [← r.length]
    exact F.len _ _ _ _ h
  have hbs := hb s us I.kIn (by rw [List.append_nil]; exact hl)
  rw [List.append_nil] at hbs
  refine wpAny_call (codeAny_mono (F.run X.A X.stack s H ⟨us, []⟩ us vs Q E0 hr hgd I.env0 hbs r h) ?_)
  intro r s' hq
  match r, hq with
  | .ok (.ret u), hq => exact I.after hq
  | .ok .next, hq => exact hq.elim
  | .ok .brk, hq => exact hq.elim
  | .ok .cont, hq => exact hq.elim
  | .error e, hq => exact hq.elim
/-- f(e, ..) -/
theorem pe_callG (F : FnG X.prog X.w X.K X.mg X.base k f fd ps sp) (hr : Room k X.A) (hgd : X.A.guards = some []) (hg : Gl X x) (hm : X.mg x = some (.ref f)) (hk : PySem.W.keepIn X.K (.ref f) = true) (hb : Binds X.K fd ps [])
    (ha : PA X (e :: es) t) (hdb : (x == ("__debug__" : Str)) = false := by decide) (he : starEach (e :: es) X.env = (false, eval e X.env) :: starEach es X.env := by rfl) (hpl : (backTo pos (starEach es X.env)).any (·.1) = false := by rfl) :
    PE X (.Call (.Name x p) (e :: es) [] pos) (tCall sp [] E0 t) := by
  constructor
  intro pins s σ H Q I h
  refine wpAny_Call_Name_kw (ld_glob I hg hm ?_ hdb)
  refine PySem.W.callWith_K (h₀ := X.base) I.ok.mod.kin hk (thn (ha.run pos pins s σ H _ I h) ?_) he hpl
  rintro us s1 ⟨vs, H1, I1, r, q⟩
  rw [List.append_nil] at q
  exact ⟨I1.kIn, runG F hr hgd hb I1 r q⟩
end
end VK
namespace VK
open PySem PySem.Spec PyProof.Rows L2
section
variable {P : Program} {w : World} {K : PySem.W.Frag} {mg mb : Str → Option Value} {k : Nat} {fa a : Addr} {fd : FuncData} {x : Str} {sp : Sp} {s₁ : Shared} {vs : List Value} {ns : List Int}
/-- the law's call, from its promise, in an abstract heap that tracks the script at most -/
theorem enterG (KX : K.In s₁.heap) (hns : s₁.heap.Ns mainGlobals mg) (hb : s₁.heap.Ns builtinsNs mb) (hbb : ∀ x : Str, x ≠ "__name__" → mb x = bootBuiltins x) (hlim : s₁.heap.NoLimit) (hg : s₁.gens = #[])
    (ha : s₁.heap.get? a = some { cls := .type "list", data := .seq vs.toArray }) (hr : Room k callerA)
    (F : ∀ base : Heap, K.In base → base.Ns mainGlobals mg → FnG P w K mg base k fa fd [x] sp) (hbind : ∀ (s : Shared) (u : Value), BindsTo s fd ⟨[u], []⟩ [(x, u)])
    (H : Hp) (hO : Only H) (hok : HOk P w H s₁.heap) (hA : ∀ b, H b ≠ none → b = a) (hK : H a ≠ none → K.lookup a = none)
    (hsp : sp [.ref a] H (fun v _ => v = .bl true) E0) :
    codeAny (model P w) callerA (.call (.ref fa) ⟨[.ref a], []⟩) (fun r s' => r = .ok (.ret (.bool true)) ∧ OldK s₁.heap s'.heap ∧ s'.os = s₁.os ∧ AllBare s'.gens) s₁ := by
  -- what is not the script is untracked
  have only_a : ∀ {b : Addr} {o : Obj}, s₁.heap.get? b = some o → o ≠ { cls := .type "list", data := .seq vs.toArray } → H b = none := fun {b o} e d => by
    cases q : H b with
    | none => rfl
    | some u =>
      have e' : b = a := hA b (by rw [q]; intro z; cases z)
      rw [e', ha] at e
      exact absurd (Option.some.inj e).symm d
  have nsB : ∀ {b : Addr} {m : Str → Option Value}, s₁.heap.Ns b m → (hidT s₁.heap H).Ns b m := by
    rintro b m ⟨o, es, ep, e, d, r⟩
    refine ⟨o, es, ep, hidT_get e (only_a e ?_), d, r⟩
    intro z
    rw [z] at d
    cases d
  have KB : K.In (hidT s₁.heap H) := by
    intro b o e
    refine hidT_get (KX b o e) ?_
    cases q : H b with
    | none => rfl
    | some u =>
      have nn : H b ≠ none := by rw [q]; intro z; cases z
      have e' := hA b nn
      rw [e'] at e nn
      rw [hK nn] at e
      cases e
  have gB := nsB hns
  have M : Mod K mg (hidT s₁.heap H) := by
    obtain ⟨mc, h1, h2⟩ := hlim
    exact ⟨KB, gB, ⟨mb, nsB hb, hbb⟩, ⟨mc, nsB h1, h2⟩⟩
  have e0 : Env0 P w K mg (hidT s₁.heap H) callerA [] s₁ H :=
    ⟨rfl, M, fun b o e => of_hidT e, Nat.le_of_eq (hidT_size _ _), trivial, fun b hb => (List.not_mem_nil hb).elim, hok, AllBare.of_eq hg⟩
  have run := (F _ KB gB).run callerA [] s₁ H ⟨[.ref a], []⟩ [.ref a] [.ref a] (fun v _ => v = .bl true) E0 hr rfl e0 (hbind s₁ (.ref a)) (.cons rfl .nil) hsp
  refine codeAny_mono run ?_
  intro r s' h
  match r, h with
  | .ok (.ret u), ⟨v, H', os, bare, un, hok', r', q⟩ =>
    have q' : v = .bl true := q
    rw [q'] at r'
    have eu : u = Value.bool true := r'
    rw [eu]
    refine ⟨rfl, OldK.of_keep ?_, os, bare⟩
    intro b o e
    rcases hO b with z | ⟨ob, xs, z⟩
    · exact un.keep b o e z (fun m => List.not_mem_nil m) (fun m => List.not_mem_nil m)
    · have e1 := (hok b _ z).1
      have e2 := (hok' b _ (un.frzs b ob _ z)).1
      rw [e1] at e
      cases e
      exact e2
  | .ok .next, h => exact h.elim
  | .ok .brk, h => exact h.elim
  | .ok .cont, h => exact h.elim
  | .error e, h => exact h.elim
end
/-- a law's end: its promise, as a def that is called while no repr is under way -/
theorem walk_ofG {l : PySem.W.OpenLaw} {n k : Nat} {q : Program} {loose : List Str} {XP : (Str → Option Value) → Heap → Prop} {YP : World → Heap → Prop} {d : DefRec} {K : Params → PySem.W.Frag} {sp : PySem.W.Frag → Sp} {x : Str}
    (hn : l.most = some n) (hn2 : n ≤ sizeLine) (hdf : d.params.defaults = []) (hr : Room k callerA) (hY : ∀ (w : World) (h : Heap), YP w h → (K w.params).In h)
    (F : ∀ (w : World) (mg : Str → Option Value) (fa : Addr) (h : Heap), (K w.params).In h → h.Ns mainGlobals mg → mg d.name = some (.ref fa) →
      ∃ fd : FuncData, (∀ (s : Shared) (u : Value), BindsTo s fd ⟨[u], []⟩ [(x, u)]) ∧ ∀ base : Heap, (K w.params).In base → base.Ns mainGlobals mg → FnG l.prog w (K w.params) mg base k fa fd [x] (sp (K w.params)))
    (hsp : ∀ (K : PySem.W.Frag) (H : Hp) (a : Addr) (ns : List Int), ns.length ≤ n → SqL K H a (ns.map V.int) → sp K [.ref a] H (fun v _ => v = .bl true) E0) :
    PySem.W.WalkO q loose XP YP l.row.toRowW d [] (fun f vs => PySem.call f vs) := by
  refine Att.attach_call hn hdf ?_
  intro w s₀ s₁ mg mb fa o pm cd doc a vs ns G Y ho hd hcd hmg hobj hints hlen hg
  have KX := hY w _ Y
  have hz : ns.length ≤ sizeLine := Nat.le_trans hlen hn2
  have rv := vals_ints hints
  obtain ⟨fd, hb, hF⟩ := F w mg fa _ KX G.T.g hmg
  have go := fun H h1 h3 h4 h2 h5 => enterG (H := H) KX G.T.g G.T.b G.T.builtins G.T.nolimit hg hobj hr hF hb h1 h2 h3 h4 (hsp _ H a ns hlen h5)
  cases hk : (K w.params).lookup a with
  | some ob =>
    have e := KX a ob hk
    rw [hobj] at e
    cases e
    refine go (fun _ => none) (fun _ => .inl rfl) (fun b z => (z rfl).elim) (fun z => (z rfl).elim) (fun b u z => nomatch z) (.inr ⟨_, vs.toArray, _, hk, rfl, rfl, rfl, ?_, rv⟩)
    rw [List.size_toArray, hints.length]
    exact hz
  | none =>
    let ob : Obj := { cls := .type "list", data := .seq vs.toArray }
    have at_a : ∀ u : HO, (fun b => if b = a then some u else none : Hp) a = some u := fun u => if_pos rfl
    have off : ∀ (u : HO) b, b ≠ a → (fun b => if b = a then some u else none : Hp) b = none := fun u b z => if_neg z
    refine go (fun b => if b = a then some (HO.frz ob (.lst (ns.map V.int))) else none) (fun b => ?_) (fun b z => ?_) (fun _ => hk) (fun b u z => ?_) (.inl (.inr ⟨ob, at_a _⟩))
    · by_cases e : b = a
      · rw [e]
        exact .inr ⟨_, _, at_a _⟩
      · exact .inl (off _ b e)
    · by_cases e : b = a
      · exact e
      · exact absurd (off _ b e) z
    · by_cases e : b = a
      · rw [e] at z
        have z2 := (at_a _).symm.trans z
        cases z2
        rw [e]
        refine ⟨hobj, ?_, vs, _, rv, hobj⟩
        rw [List.length_map]
        exact hz
      · have z2 := (off _ b e).symm.trans z
        cases z2
end VK
namespace VK
open PySem PySem.Spec PyProof.Rows L2
open C8 (Cal pe_c pe_gc)

/-! ### heaps: what is never changed stands in F; p alone may change -/
def Off (p : Addr) (H H' : Hp) : Prop := ∀ b o, b ≠ p → H b = some o → H' b = some o
theorem Off.refl (p : Addr) (H : Hp) : Off p H H := fun _ _ _ h => h
theorem Off.trans {p : Addr} {H H1 H2 : Hp} (a : Off p H H1) (b : Off p H1 H2) : Off p H H2 := fun c o n h => b c o n (a c o n h)
theorem Off.of {p : Addr} {H H' : Hp} (a : Same H H') : Off p H H' := fun c o _ h => a c o h
theorem Off.same {p : Addr} {F H H' : Hp} (a : Off p H H') (hp : F p = none) (h : Same F H) : Same F H' := fun c o e => a c o (ne_of_none e hp) (h c o e)
theorem Off.upd {p : Addr} {H : Hp} {o : HO} : Off p H (upd H p o) := fun b u n h => by
  rw [upd_ne n]
  exact h
theorem Off.new {p q : Addr} {H : Hp} {o : HO} (h : H q = none) : Off p H (L2.upd H q o) := fun b u _ e => by
  rw [upd_ne (ne_of_none e h)]
  exact e
theorem same_new {H : Hp} {q : Addr} {o : HO} (h : H q = none) : Same H (upd H q o) := fun b u e => by
  rw [upd_ne (ne_of_none e h)]
  exact e
theorem same_off {F H : Hp} {q : Addr} {o : HO} (s : Same F H) (h : F q = none) : Same F (upd H q o) := fun b u e => by
  rw [upd_ne (ne_of_none e h)]
  exact s b u e
theorem same_grow {F H : Hp} {q : Addr} {o : HO} (s : Same F H) (h : H q = none) : Same (upd F q o) (upd H q o) := fun b u e => by
  by_cases z : b = q
  · rw [z, upd_same] at e
    rw [z, upd_same]
    exact e
  · rw [upd_ne z] at e
    rw [upd_ne z]
    exact s b u e
theorem same_seqT {K : PySem.W.Frag} {H H' : Hp} {a : Addr} {xs : List V} (e : Same H H') (h : SqT K H a xs) : SqT K H' a xs := by
  rcases h with (h | ⟨o, h⟩) | h
  · exact .inl (.inl (e _ _ h))
  · exact .inl (.inr ⟨o, e _ _ h⟩)
  · exact .inr h
section
variable {K : PySem.W.Frag} {H H' : Hp}
mutual
theorem Da.mono (s : Same H H') : ∀ {v : V} {d : PyData}, Da K H v d → Da K H' v d
  | _, _, .non => .non
  | _, _, .bl b => .bl b
  | _, _, .int i => .int i
  | _, _, .str x => .str x
  | _, _, .lst h t => .lst (s.seq h) (DaAll.mono s t)
  | _, _, .tup h t => .tup (same_seqT s h) (DaAll.mono s t)
  | _, _, .dic h t => .dic (s _ _ h) (DaKv.mono s t)
theorem DaAll.mono (s : Same H H') : ∀ {vs : List V} {ds : List PyData}, DaAll K H vs ds → DaAll K H' vs ds
  | _, _, .nil => .nil
  | _, _, .cons h t => .cons (Da.mono s h) (DaAll.mono s t)
theorem DaKv.mono (s : Same H H') : ∀ {kvs : List (Key × V)} {es : List (PyData × PyData)}, DaKv K H kvs es → DaKv K H' kvs es
  | _, _, .nil => .nil
  | _, _, .cons h1 h2 t => .cons (Da.mono s h1) (Da.mono s h2) (DaKv.mono s t)
end
theorem DaAll.length : ∀ {vs : List V} {ds : List PyData}, DaAll K H vs ds → vs.length = ds.length
  | _, _, .nil => rfl
  | _, _, .cons _ t => by rw [List.length_cons, List.length_cons, DaAll.length t]
theorem DaAll.get : ∀ {vs : List V} {ds : List PyData}, DaAll K H vs ds → ∀ {i : Nat} {v : V}, vs[i]? = some v → ∃ d, ds[i]? = some d ∧ Da K H v d
  | _, _, .cons h _, 0, _, e => ⟨_, rfl, by cases e; exact h⟩
  | _, _, .cons _ t, i + 1, _, e => DaAll.get t (i := i) e
theorem DaAll.append : ∀ {vs us : List V} {ds es : List PyData}, DaAll K H vs ds → DaAll K H us es → DaAll K H (vs ++ us) (ds ++ es)
  | _, _, _, _, .nil, s => s
  | _, _, _, _, .cons h t, s => .cons h (DaAll.append t s)
theorem DaAll.take : ∀ {vs : List V} {ds : List PyData} (n : Nat), DaAll K H vs ds → DaAll K H (vs.take n) (ds.take n)
  | _, _, 0, _ => .nil
  | _, _, _ + 1, .nil => .nil
  | _, _, n + 1, .cons h t => .cons h (DaAll.take n t)
theorem DaAll.drop : ∀ {vs : List V} {ds : List PyData} (n : Nat), DaAll K H vs ds → DaAll K H (vs.drop n) (ds.drop n)
  | _, _, 0, r => r
  | _, _, _ + 1, .nil => .nil
  | _, _, n + 1, .cons _ t => DaAll.drop n t
theorem DaAll.one {v : V} {d : PyData} (h : Da K H v d) : DaAll K H [v] [d] := .cons h .nil
theorem DaAll.flat : ∀ {n : Nat} {vs : List V} {ds : List PyData}, DaAll K H vs ds → DaAll K H (List.replicate n vs).flatten (List.replicate n ds).flatten
  | 0, _, _, _ => .nil
  | n + 1, _, _, h => DaAll.append h (DaAll.flat (n := n) h)

/-! ### what kind of data -/
def tyN : PyData → String
  | .none => "NoneType"
  | .bool _ => "bool"
  | .int _ => "int"
  | .str _ => "str"
  | .list _ => "list"
  | .tuple _ => "tuple"
  | .dict _ => "dict"
theorem da_ty {v : V} {d : PyData} (h : Da K H v d) : TyX K H v (.type (tyN d)) := by
  cases h with
  | non => exact .base .non
  | bl b => exact .base (.bl b)
  | int i => exact .base (.int i)
  | str x => exact .base (.str x)
  | lst h _ =>
    rcases h with (h | ⟨o, h⟩) | ⟨o, its, n, h1, h2, _⟩
    · exact .base (.lst h)
    · exact .base (.frz h)
    · exact .kList h1 h2
  | tup h _ =>
    rcases h with (h | ⟨o, h⟩) | ⟨o, its, n, h1, h2, _⟩
    · exact .base (.tup h)
    · exact .fTuple h
    · exact .kTuple h1 h2
  | dic h _ => exact .base (.dK h)
def isInt : PyData → Bool
  | .int _ => true
  | .bool _ => true
  | _ => false
def isBool : PyData → Bool
  | .bool _ => true
  | _ => false
def isTup : PyData → Bool
  | .tuple _ => true
  | _ => false
def isStr : PyData → Bool
  | .str _ => true
  | _ => false
def isLst : PyData → Bool
  | .list _ => true
  | _ => false
theorem kI (d : PyData) : PySem.W.kitOne K (.type (tyN d)) (.type "int") = some (isInt d) := by cases d <;> (refine kit_ty ?_; dsimp only [tyN, isInt]; decide +kernel)
theorem kB (d : PyData) : PySem.W.kitOne K (.type (tyN d)) (.type "bool") = some (isBool d) := by cases d <;> (refine kit_ty ?_; dsimp only [tyN, isBool]; decide +kernel)
theorem kT (d : PyData) : PySem.W.kitOne K (.type (tyN d)) (.type "tuple") = some (isTup d) := by cases d <;> (refine kit_ty ?_; dsimp only [tyN, isTup]; decide +kernel)
theorem kS (d : PyData) : PySem.W.kitOne K (.type (tyN d)) (.type "str") = some (isStr d) := by cases d <;> (refine kit_ty ?_; dsimp only [tyN, isStr]; decide +kernel)
theorem kL (d : PyData) : PySem.W.kitOne K (.type (tyN d)) (.type "list") = some (isLst d) := by cases d <;> (refine kit_ty ?_; dsimp only [tyN, isLst]; decide +kernel)
end
def rLenSq (K : PySem.W.Frag) : List V → Hp → VK → Prop := fun xs H Q => ∃ p ys, xs = [.ref p] ∧ (SqL K H p ys ∨ SqT K H p ys) ∧ Q (.int ys.length) H
theorem call_lenSq {X : Cx} : CallR X (.builtin "len") (rLenSq X.K) := call_len_seq
def rListOf (K : PySem.W.Frag) : List V → Hp → VK → Prop := fun xs H Q => ∃ p ys, xs = [.ref p] ∧ (SqL K H p ys ∨ SqT K H p ys) ∧ ∀ l, H l = none → Q (.ref l) (upd H l (.lst ys))
theorem call_listOf {X : Cx} : CallR X (.type "list") (rListOf X.K) := call_list_of
/-- tuple(a list) -/
def rTupleL (K : PySem.W.Frag) : List V → Hp → VK → Prop := fun xs H Q => ∃ p ys, xs = [.ref p] ∧ SqL K H p ys ∧ ∀ l, H l = none → Q (.ref l) (upd H l (.tup ys))
theorem call_tupleL {X : Cx} : CallR X (.type "tuple") (rTupleL X.K) := fun pins s σ H xs us Q I r h => by
  obtain ⟨p, ys, e, hp, q⟩ := h
  exact call_tuple_of pins s σ H xs us Q I r ⟨p, ys, e, .inl ⟨hp, q⟩⟩

/-! ### calls of defs that know that no repr is under way, by name -/
structure CalG (P : Program) (w : World) (K : PySem.W.Frag) (mg : Str → Option Value) (base : Heap) (k : Nat) (x : Str) (sp : Sp) : Prop where
  ex : ∃ (f : Addr) (fd : FuncData) (ps : List Str), FnG P w K mg base k f fd ps sp ∧ mg x = some (.ref f) ∧ PySem.W.keepIn K (.ref f) = true ∧ Binds K fd ps []
section
variable {X : Cx} {k j : Nat} {sp : Sp} {x : Str} {p pos : Pos} {e : Expr} {es : List Expr} {t : TA}
theorem pe_cG (c : CalG X.prog X.w X.K X.mg X.base k x sp) (hr : Room j X.A) (hgd : X.A.guards = some []) (hk : k ≤ j) (hg : Gl X x) (ha : PA X (e :: es) t)
    (hdb : (x == ("__debug__" : Str)) = false := by decide) (he : starEach (e :: es) X.env = (false, eval e X.env) :: starEach es X.env := by rfl) (hpl : (backTo pos (starEach es X.env)).any (·.1) = false := by rfl) :
    PE X (.Call (.Name x p) (e :: es) [] pos) (tCall sp [] E0 t) := by
  obtain ⟨f, fd, ps, F, hm, kp, b⟩ := c.ex
  exact pe_callG F (hr.mono hk) hgd hg hm kp b ha hdb he hpl
end
/-- what a def of the text is, by its place -/
structure Df (K : PySem.W.Frag) (mg : Str → Option Value) (x : Str) (st : Stmt) : Prop where
  ex : ∃ (f : Addr) (fd : FuncData), Fun K x x st f fd ∧ mg x = some (.ref f)
section
variable {P : Program} {w : World} {K : PySem.W.Frag} {mg : Str → Option Value} {base : Heap} {x : Str} {st : Stmt} {N ps : List Str} {k : Nat} {sp : Sp}
theorem Df.cal (D : Df K mg x st) (S : FnScope N ps (defScope st))
    (hb : ∀ (kV doc pm : Value) (an : Option Addr) (cdv ct : Value) (us : List Value), us.length = ps.length → bindArgs (PySem.W.fnOf x x (defArgs st) (defBody st) (defScope st) .none kV doc pm an cdv ct) ⟨us, []⟩ = pure (ps.zip us))
    (len : ∀ vs H Q E, sp vs H Q E → vs.length = ps.length)
    (hbody : ∀ (f : Addr) (cdv : Value) (A : Around) (outer : List Env) (s : Shared) (H : Hp) (vs : List V) (Q : VK) (E : XK), Room k (A.deeper (envOfC x (defScope st) s.heap.objs.size f cdv)) → sp vs H Q E →
      ∃ t, PSs (cxOf CX0 P w K mg base N x (defScope st) f cdv A outer s H E).nox (defBody st) t ∧ t { nx := fun _ H' => Q .non H', rt := Q } (start N vs) H) : Cal P w K mg base (k + 1) x sp [] := by
  obtain ⟨f, fd, F, hm⟩ := D.ex
  exact ⟨f, fd, ps, [], F.ok S len (hbody f), hm, F.kp, F.binds hb, .nil⟩
theorem Df.calG (D : Df K mg x st) (S : FnScope N ps (defScope st))
    (hb : ∀ (kV doc pm : Value) (an : Option Addr) (cdv ct : Value) (us : List Value), us.length = ps.length → bindArgs (PySem.W.fnOf x x (defArgs st) (defBody st) (defScope st) .none kV doc pm an cdv ct) ⟨us, []⟩ = pure (ps.zip us))
    (len : ∀ vs H Q E, sp vs H Q E → vs.length = ps.length)
    (hbody : ∀ (f : Addr) (cdv : Value) (A : Around) (outer : List Env) (s : Shared) (H : Hp) (vs : List V) (Q : VK) (E : XK), Room k (A.deeper (envOfC x (defScope st) s.heap.objs.size f cdv)) → (A.deeper (envOfC x (defScope st) s.heap.objs.size f cdv)).guards = some [] → sp vs H Q E →
      ∃ t, PSs (cxOf CX0 P w K mg base N x (defScope st) f cdv A outer s H E).nox (defBody st) t ∧ t { nx := fun _ H' => Q .non H', rt := Q } (start N vs) H) : CalG P w K mg base (k + 1) x sp := by
  obtain ⟨f, fd, F, hm⟩ := D.ex
  exact ⟨f, fd, ps, okG F S len (hbody f), hm, F.kp, F.binds hb⟩
end
end VK
namespace VK
open PySem PySem.Spec PyProof.Rows L2
open C8 (Cal pe_c pe_gc)
/-! ### how long what is shown may be -/
theorem ofS_len (s : String) : (Str.ofString s).length = s.length := by
  rw [Str.ofString_eq_toList]
  show ((s.toList.map Char.toNat).toArray).size = s.length
  rw [List.size_toArray, List.length_map, String.length_toList]
/-- every sign is one that a repr can write shortly -/
def Cd (x : Str) : Prop := ∀ c ∈ x.cps.toList, c < 16 ^ 8
theorem cd_ofS (s : String) : Cd (Str.ofString s) := by
  intro c hc
  rw [Str.ofString_eq_toList] at hc
  have hc' : c ∈ s.toList.map Char.toNat := by simpa using hc
  obtain ⟨ch, _, rfl⟩ := List.mem_map.mp hc'
  have h := ch.valid
  have h2 : ch.toNat < 1114112 := by
    rcases h with h | ⟨_, h⟩
    · exact Nat.lt_trans h (by decide)
    · exact h
  exact Nat.lt_trans h2 (by decide)
theorem cd_app {x y : Str} (hx : Cd x) (hy : Cd y) : Cd (x ++ y) := by
  intro c hc
  have hc' : c ∈ x.cps.toList ++ y.cps.toList := by
    have e : (x ++ y).cps.toList = x.cps.toList ++ y.cps.toList := by
      show (x.cps ++ y.cps).toList = _
      rw [Array.toList_append]
    rw [e] at hc
    exact hc
  rcases List.mem_append.mp hc' with h | h
  · exact hx c h
  · exact hy c h
theorem cd_join {sep : Str} (hs : Cd sep) : ∀ ts : List Str, (∀ t ∈ ts, Cd t) → Cd (Str.join sep ts)
  | [], _ => fun c hc => by cases hc
  | [x], h => h x (List.mem_singleton.mpr rfl)
  | x :: y :: r, h => cd_app (cd_app (h x List.mem_cons_self) hs) (cd_join hs (y :: r) fun t ht => h t (List.mem_cons_of_mem _ ht))
theorem cd_tuple (ts : List Str) (h : ∀ t ∈ ts, Cd t) : Cd (tupleText ts) := by
  unfold tupleText
  refine cd_app (cd_app (cd_ofS _) (cd_join (cd_ofS _) ts h)) ?_
  split <;> exact cd_ofS _
theorem piled_le {m : Nat} : ∀ ts : List Str, (∀ t ∈ ts, t.length ≤ m) → piled ts ≤ ts.length * (m + 2)
  | [], _ => by simp [piled]
  | t :: r, h => by
    have h1 := h t List.mem_cons_self
    have ih := piled_le r fun x hx => h x (List.mem_cons_of_mem _ hx)
    rw [piled_cons, List.length_cons, Nat.succ_mul]
    omega
theorem tuple_len (ts : List Str) : (tupleText ts).length ≤ piled ts + 3 := by
  have e : (tupleText ts).length = 1 + (Str.join ", " ts).length + (if ts.length == 1 then ",)" else ")" : String).length := by
    unfold tupleText
    rw [strLen_append, strLen_append]
    congr 1
    split <;> rfl
  rw [e]
  have e2 : (if ts.length == 1 then ",)" else ")" : String).length ≤ 2 := by split <;> decide
  by_cases h : ts = []
  · subst h
    have : (Str.join ", " []).length = 0 := rfl
    omega
  · have := join_length_add ts h
    omega
theorem from_len : ∀ (ts : List Str) (k : Nat) (acc : Str), (textFrom k acc ts).length ≤ acc.length + piled ts
  | [], k, acc => by show acc.length ≤ _; omega
  | t :: r, k, acc => by
    have ih := from_len r (k + 1) (acc ++ (if k > 0 then ", " else "" : String) ++ t)
    have e : (acc ++ (if k > 0 then ", " else "" : String) ++ t).length ≤ acc.length + 2 + t.length := by
      rw [strLen_append, strLen_append]
      split
      · show acc.length + 2 + t.length ≤ _
        omega
      · show acc.length + 0 + t.length ≤ _
        omega
    rw [piled_cons]
    show (textFrom (k + 1) (acc ++ (if k > 0 then ", " else "" : String) ++ t) r).length ≤ _
    omega
theorem list_len (ts : List Str) : (listText ts).length ≤ piled ts + 2 := by
  have h := from_len ts 0 "["
  unfold listText
  rw [strLen_append]
  have e1 : ((("[" : String) : Str)).length = 1 := rfl
  have e2 : ((("]" : String) : Str)).length = 1 := rfl
  omega
theorem shownAll_map : ∀ ds : List PyData, PyData.shownAll ds = ds.map PyData.shown
  | [] => by simp [PyData.shownAll]
  | d :: r => by simp [PyData.shownAll, shownAll_map r]
theorem showableAll_all : ∀ {ds : List PyData}, (∀ d ∈ ds, d.showable = true) → PyData.showableAll ds = true
  | [], _ => by simp [PyData.showableAll]
  | d :: r, h => by
    simp only [PyData.showableAll, Bool.and_eq_true]
    exact ⟨h d List.mem_cons_self, showableAll_all fun e he => h e (List.mem_cons_of_mem _ he)⟩
theorem depthAll_le {m : Nat} : ∀ {ds : List PyData}, (∀ d ∈ ds, d.depth ≤ m) → PyData.depthAll ds ≤ m
  | [], _ => by simp [PyData.depthAll]
  | d :: r, h => by
    simp only [PyData.depthAll]
    exact Nat.max_le.mpr ⟨h d List.mem_cons_self, depthAll_le fun e he => h e (List.mem_cons_of_mem _ he)⟩
theorem hasDictAll_false : ∀ {ds : List PyData}, (∀ d ∈ ds, d.hasDict = false) → PyData.hasDictAll ds = false
  | [], _ => by simp [PyData.hasDictAll]
  | d :: r, h => by
    simp only [PyData.hasDictAll, Bool.or_eq_false_iff]
    exact ⟨h d List.mem_cons_self, hasDictAll_false fun e he => h e (List.mem_cons_of_mem _ he)⟩
theorem noLs_all : ∀ {ds : List PyData}, (∀ d ∈ ds, noL d = true) → noLs ds = true
  | [], _ => by simp [noLs]
  | d :: r, h => by
    simp only [noLs, Bool.and_eq_true]
    exact ⟨h d List.mem_cons_self, noLs_all fun e he => h e (List.mem_cons_of_mem _ he)⟩
/-- bounds: depth k, length m -/
structure Bd (k m : Nat) (d : PyData) : Prop where
  sh : d.showable = true
  dp : d.depth ≤ k
  sz : d.shown.length ≤ m
theorem Bd.le {k m k' m' : Nat} {d : PyData} (h : Bd k m d) (hk : k ≤ k') (hm : m ≤ m') : Bd k' m' d := ⟨h.sh, Nat.le_trans h.dp hk, Nat.le_trans h.sz hm⟩
theorem bd_none : Bd 0 4 .none := ⟨rfl, Nat.le_refl _, by decide⟩
theorem bd_bool (b : Bool) : Bd 0 5 (.bool b) := ⟨rfl, Nat.le_refl _, by cases b <;> decide⟩
theorem bd_int {i : Int} (h : i.natAbs < 10 ^ 60) : Bd 0 61 (.int i) := by
  refine ⟨decide_eq_true ?_, Nat.le_refl _, ?_⟩
  · by_cases h0 : i.natAbs = 0
    · rw [h0]
      decide
    · rw [Nat.log2_lt h0]
      exact Nat.lt_trans h (by decide)
  · show (Str.ofString (toString i)).length ≤ 61
    rw [ofS_len]
    exact int_text_length_le10 (by decide) h
theorem bd_tup {k m : Nat} {ds : List PyData} (h : ∀ d ∈ ds, Bd k m d) : Bd (k + 1) (ds.length * (m + 2) + 3) (.tuple ds) := by
  refine ⟨?_, ?_, ?_⟩
  · simp only [PyData.showable]
    exact showableAll_all fun d hd => (h d hd).sh
  · simp only [PyData.depth]
    exact Nat.succ_le_succ (depthAll_le fun d hd => (h d hd).dp)
  · simp only [PyData.shown, shownAll_map]
    refine Nat.le_trans (tuple_len _) (Nat.add_le_add_right ?_ 3)
    have := piled_le (m := m) (ds.map PyData.shown) fun t ht => by
      obtain ⟨d, hd, rfl⟩ := List.mem_map.mp ht
      exact (h d hd).sz
    rw [List.length_map] at this
    exact this
theorem bd_lst {k m : Nat} {ds : List PyData} (h : ∀ d ∈ ds, Bd k m d) : Bd (k + 1) (ds.length * (m + 2) + 2) (.list ds) := by
  refine ⟨?_, ?_, ?_⟩
  · simp only [PyData.showable]
    exact showableAll_all fun d hd => (h d hd).sh
  · simp only [PyData.depth]
    exact Nat.succ_le_succ (depthAll_le fun d hd => (h d hd).dp)
  · simp only [PyData.shown, shownAll_map]
    refine Nat.le_trans (list_len _) (Nat.add_le_add_right ?_ 2)
    have := piled_le (m := m) (ds.map PyData.shown) fun t ht => by
      obtain ⟨d, hd, rfl⟩ := List.mem_map.mp ht
      exact (h d hd).sz
    rw [List.length_map] at this
    exact this
theorem bd_str {x : Str} {m : Nat} (h : Cd x) (hl : x.length ≤ m) : Bd 0 (10 * m + 2) (.str x) := by
  refine ⟨rfl, Nat.le_refl _, ?_⟩
  simp only [PyData.shown]
  have := StrLaws.reprText_len x h
  omega
theorem bd_emp : Bd 1 2 (.dict []) := ⟨rfl, by decide, by decide⟩
/-- no dict, no list -/
structure Pl (d : PyData) : Prop where
  nd : d.hasDict = false
  nl : noL d = true
theorem pl_none : Pl .none := ⟨rfl, rfl⟩
theorem pl_bool (b : Bool) : Pl (.bool b) := ⟨rfl, rfl⟩
theorem pl_int (i : Int) : Pl (.int i) := ⟨rfl, rfl⟩
theorem pl_str (x : Str) : Pl (.str x) := ⟨rfl, rfl⟩
theorem pl_tup {ds : List PyData} (h : ∀ d ∈ ds, Pl d) : Pl (.tuple ds) := ⟨by simp only [PyData.hasDict]; exact hasDictAll_false fun d hd => (h d hd).nd, by simp only [noL]; exact noLs_all fun d hd => (h d hd).nl⟩
/-- a dict only where no list stands -/
def Dl (d : PyData) : Prop := d.hasDict = true → noL d = true
theorem Pl.dl {d : PyData} (h : Pl d) : Dl d := fun _ => h.nl
theorem dl_pair {a b : PyData} (ha : Pl a) (hb : Dl b) : Dl (.tuple [a, b]) := by
  intro h
  simp only [PyData.hasDict, PyData.hasDictAll, ha.nd, Bool.false_or, Bool.or_false] at h
  simp only [noL, noLs, ha.nl, hb h, Bool.and_self]
theorem Bd.sho {k m : Nat} {d : PyData} (h : Bd k m d) (hk : k ≤ 60) (hm : m ≤ 16777216) (hd : Dl d) : Sho d := ⟨h.sh, Nat.le_trans h.dp hk, Nat.le_trans h.sz (by rw [sizeLine_eq]; exact hm), hd⟩
theorem sho_bool (b : Bool) : Sho (.bool b) := (bd_bool b).sho (by decide) (by decide) (pl_bool b).dl
section
variable {K : PySem.W.Frag} {H : Hp}
mutual
/-- data without dicts, for == and != -/
theorem Da.dp : ∀ {v : V} {d : PyData}, Da K H v d → d.canLay0 = true → Dp K H v d
  | _, _, .non, _ => .non
  | _, _, .bl b, _ => .bl b
  | _, _, .int i, _ => .int i
  | _, _, .str x, _ => .str x
  | _, _, .lst h t, c => .lst h (DaAll.dp t (by simpa only [PyData.canLay0] using c))
  | _, _, .tup h t, c => .tup h (DaAll.dp t (by simpa only [PyData.canLay0] using c))
  | _, _, .dic _ _, c => by simp only [PyData.canLay0] at c; cases c
theorem DaAll.dp : ∀ {vs : List V} {ds : List PyData}, DaAll K H vs ds → PyData.canLayAll0 ds = true → DpAll K H vs ds
  | _, _, .nil, _ => .nil
  | _, _, .cons h t, c => by
    simp only [PyData.canLayAll0, Bool.and_eq_true] at c
    exact .cons (Da.dp h c.1) (DaAll.dp t c.2)
end
end
end VK
/-! values without the heap: a def's body as a function on them -/
namespace PV
open PySem PySem.Spec PyProof.Rows L2 VK

inductive D where
  | non | bl (b : Bool) | int (i : Int) | str (z : Str)
  | lst (xs : List D) | tup (xs : List D) | dic (es : List (D × D))
  | ins (c : Str) (fs : List (Str × D)) | exn (c : Str) (fs : List (Str × D)) | gl (x : Str) | ty (n : String) | scr (ns : List Int)
instance : Inhabited D := ⟨.non⟩

/-! ### as the library's data -/
mutual
def D.py : D → PyData
  | .non => .none
  | .bl b => .bool b
  | .int i => .int i
  | .str z => .str z
  | .lst xs => .list (pyL xs)
  | .tup xs => .tuple (pyL xs)
  | .dic es => .dict (pyK es)
  | .ins _ _ => .none
  | .exn _ _ => .none
  | .gl _ => .none
  | .ty _ => .none
  | .scr _ => .none
def pyL : List D → List PyData
  | [] => []
  | x :: r => x.py :: pyL r
def pyK : List (D × D) → List (PyData × PyData)
  | [] => []
  | (a, b) :: r => (a.py, b.py) :: pyK r
end
mutual
/-- it is data -/
def D.dat : D → Bool
  | .lst xs => datL xs
  | .tup xs => datL xs
  | .dic es => datK es
  | .ins _ _ => false
  | .exn _ _ => false
  | .gl _ => false
  | .ty _ => false
  | .scr _ => false
  | _ => true
def datL : List D → Bool
  | [] => true
  | x :: r => x.dat && datL r
def datK : List (D × D) → Bool
  | [] => true
  | (a, b) :: r => a.dat && b.dat && datK r
end

/-! ### v, in G, is d -/
/-- an exception that was caught, of the class cls, its dict at d -/
def CxO (cls : Value) (d : Option Addr) (a : Addr) : HO := .ext fun h => ∃ (oe : Obj) (vs : Array Value), h.get? a = some oe ∧ Zc cls d oe ∧ oe.data = .fields vs
section
variable (K : PySem.W.Frag) (mg : Str → Option Value)
mutual
inductive R (G : Hp) : V → D → Prop
  | non : R G .non .non
  | bl (b : Bool) : R G (.bl b) (.bl b)
  | int (i : Int) : R G (.int i) (.int i)
  | str (z : Str) : R G (.str z) (.str z)
  | lst {a : Addr} {vs : List V} {ds : List D} : G a = some (.lst vs) → RL G vs ds → R G (.ref a) (.lst ds)
  | tup {a : Addr} {vs : List V} {ds : List D} : SqT K G a vs → RL G vs ds → R G (.ref a) (.tup ds)
  | dic {a : Addr} {kvs : List (Key × V)} {es : List (D × D)} : G a = some (.dK kvs) → RK G kvs es → R G (.ref a) (.dic es)
  | ins {a C dx : Addr} {c : Str} {fs : List (Str × V)} {ds : List (Str × D)} : G a = some (.ins C dx fs) → mg c = some (.ref C) → RF G fs ds → R G (.ref a) (.ins c ds)
  | exc0 {a C : Addr} {c : Str} : G a = some (CxO (.ref C) none a) → mg c = some (.ref C) → R G (.ref a) (.exn c [])
  | exc1 {a C dx : Addr} {c : Str} {fs : List (Str × V)} {ds : List (Str × D)} : G a = some (CxO (.ref C) (some dx) a) → G dx = some (.xd fs) → mg c = some (.ref C) → RF G fs ds → R G (.ref a) (.exn c ds)
  | gl {f : Addr} {x : Str} : mg x = some (.ref f) → R G (.ref f) (.gl x)
  | ty (n : String) : R G (.ty n) (.ty n)
  | scr {a : Addr} {ns : List Int} : SqL K G a (ns.map V.int) → R G (.ref a) (.scr ns)
inductive RL (G : Hp) : List V → List D → Prop
  | nil : RL G [] []
  | cons {v : V} {vs : List V} {d : D} {ds : List D} : R G v d → RL G vs ds → RL G (v :: vs) (d :: ds)
inductive RK (G : Hp) : List (Key × V) → List (D × D) → Prop
  | nil : RK G [] []
  | cons {k : Key} {v : V} {kvs : List (Key × V)} {a b : D} {es : List (D × D)} : R G (kV k) a → R G v b → RK G kvs es → RK G ((k, v) :: kvs) ((a, b) :: es)
inductive RF (G : Hp) : List (Str × V) → List (Str × D) → Prop
  | nil : RF G [] []
  | cons {x : Str} {v : V} {vs : List (Str × V)} {d : D} {ds : List (Str × D)} : R G v d → RF G vs ds → RF G ((x, v) :: vs) ((x, d) :: ds)
end
end
section
variable {K : PySem.W.Frag} {mg : Str → Option Value} {G G' : Hp}
mutual
theorem R.mono (s : Same G G') : ∀ {v : V} {d : D}, R K mg G v d → R K mg G' v d
  | _, _, .non => .non
  | _, _, .bl b => .bl b
  | _, _, .int i => .int i
  | _, _, .str x => .str x
  | _, _, .lst h t => .lst (s _ _ h) (RL.mono s t)
  | _, _, .tup h t => .tup (same_seqT s h) (RL.mono s t)
  | _, _, .dic h t => .dic (s _ _ h) (RK.mono s t)
  | _, _, .ins h m t => .ins (s _ _ h) m (RF.mono s t)
  | _, _, .exc0 h m => .exc0 (s _ _ h) m
  | _, _, .exc1 h h2 m t => .exc1 (s _ _ h) (s _ _ h2) m (RF.mono s t)
  | _, _, .gl m => .gl m
  | _, _, .ty n => .ty n
  | _, _, .scr h => .scr (s.seq h)
theorem RL.mono (s : Same G G') : ∀ {vs : List V} {ds : List D}, RL K mg G vs ds → RL K mg G' vs ds
  | _, _, .nil => .nil
  | _, _, .cons h t => .cons (R.mono s h) (RL.mono s t)
theorem RK.mono (s : Same G G') : ∀ {kvs : List (Key × V)} {es : List (D × D)}, RK K mg G kvs es → RK K mg G' kvs es
  | _, _, .nil => .nil
  | _, _, .cons h1 h2 t => .cons (R.mono s h1) (R.mono s h2) (RK.mono s t)
theorem RF.mono (s : Same G G') : ∀ {vs : List (Str × V)} {ds : List (Str × D)}, RF K mg G vs ds → RF K mg G' vs ds
  | _, _, .nil => .nil
  | _, _, .cons h t => .cons (R.mono s h) (RF.mono s t)
end
mutual
theorem R.da : ∀ {v : V} {d : D}, R K mg G v d → d.dat = true → Da K G v d.py
  | _, _, .non, _ => .non
  | _, _, .bl b, _ => .bl b
  | _, _, .int i, _ => .int i
  | _, _, .str x, _ => .str x
  | _, _, .lst h t, e => .lst (.inl (.inl h)) (RL.da t e)
  | _, _, .tup h t, e => .tup h (RL.da t e)
  | _, _, .dic h t, e => .dic h (RK.da t e)
  | _, _, .ins _ _ _, e => nomatch (show false = true from e)
  | _, _, .exc0 _ _, e => nomatch (show false = true from e)
  | _, _, .exc1 _ _ _ _, e => nomatch (show false = true from e)
  | _, _, .gl _, e => nomatch (show false = true from e)
  | _, _, .ty _, e => nomatch (show false = true from e)
  | _, _, .scr _, e => nomatch (show false = true from e)
theorem RL.da : ∀ {vs : List V} {ds : List D}, RL K mg G vs ds → datL ds = true → DaAll K G vs (pyL ds)
  | _, _, .nil, _ => .nil
  | _, _, .cons h t, e => by
    simp only [datL, Bool.and_eq_true] at e
    exact .cons (R.da h e.1) (RL.da t e.2)
theorem RK.da : ∀ {kvs : List (Key × V)} {es : List (D × D)}, RK K mg G kvs es → datK es = true → DaKv K G kvs (pyK es)
  | _, _, .nil, _ => .nil
  | _, _, .cons h1 h2 t, e => by
    simp only [datK, Bool.and_eq_true] at e
    exact .cons (R.da h1 e.1.1) (R.da h2 e.1.2) (RK.da t e.2)
end
theorem RL.length : ∀ {vs : List V} {ds : List D}, RL K mg G vs ds → vs.length = ds.length
  | _, _, .nil => rfl
  | _, _, .cons _ t => by rw [List.length_cons, List.length_cons, RL.length t]
theorem RL.get : ∀ {vs : List V} {ds : List D}, RL K mg G vs ds → ∀ {i : Nat} {d : D}, ds[i]? = some d → ∃ v, vs[i]? = some v ∧ R K mg G v d
  | _, _, .cons h _, 0, _, e => ⟨_, rfl, by cases e; exact h⟩
  | _, _, .cons _ t, i + 1, _, e => RL.get t (i := i) e
theorem RL.gets : ∀ {vs : List V} {ds : List D}, RL K mg G vs ds → ∀ {i : Nat} {v : V}, vs[i]? = some v → ∃ d, ds[i]? = some d ∧ R K mg G v d
  | _, _, .cons h _, 0, _, e => ⟨_, rfl, by cases e; exact h⟩
  | _, _, .cons _ t, i + 1, _, e => RL.gets t (i := i) e
theorem RL.append : ∀ {vs us : List V} {ds es : List D}, RL K mg G vs ds → RL K mg G us es → RL K mg G (vs ++ us) (ds ++ es)
  | _, _, _, _, .nil, s => s
  | _, _, _, _, .cons h t, s => .cons h (RL.append t s)
theorem RL.take : ∀ {vs : List V} {ds : List D} (n : Nat), RL K mg G vs ds → RL K mg G (vs.take n) (ds.take n)
  | _, _, 0, _ => .nil
  | _, _, _ + 1, .nil => .nil
  | _, _, n + 1, .cons h t => .cons h (RL.take n t)
theorem RL.drop : ∀ {vs : List V} {ds : List D} (n : Nat), RL K mg G vs ds → RL K mg G (vs.drop n) (ds.drop n)
  | _, _, 0, r => r
  | _, _, _ + 1, .nil => .nil
  | _, _, n + 1, .cons _ t => RL.drop n t
theorem RL.set : ∀ {vs : List V} {ds : List D} (n : Nat) {v : V} {d : D}, RL K mg G vs ds → R K mg G v d → RL K mg G (vs.set n v) (ds.set n d)
  | _, _, 0, _, _, .nil, _ => .nil
  | _, _, _ + 1, _, _, .nil, _ => .nil
  | _, _, 0, _, _, .cons _ t, q => .cons q t
  | _, _, n + 1, _, _, .cons h t, q => .cons h (RL.set n t q)
theorem RL.one {v : V} {d : D} (h : R K mg G v d) : RL K mg G [v] [d] := .cons h .nil
theorem RL.rev : ∀ {vs : List V} {ds : List D}, RL K mg G vs ds → RL K mg G vs.reverse ds.reverse
  | _, _, .nil => .nil
  | _, _, .cons h t => by
    rw [List.reverse_cons, List.reverse_cons]
    exact RL.append (RL.rev t) (.one h)
theorem RL.flat : ∀ {n : Nat} {vs : List V} {ds : List D}, RL K mg G vs ds → RL K mg G (List.replicate n vs).flatten (List.replicate n ds).flatten
  | 0, _, _, _ => .nil
  | n + 1, _, _, h => RL.append h (RL.flat (n := n) h)
theorem RF.look : ∀ {vs : List (Str × V)} {ds : List (Str × D)}, RF K mg G vs ds → ∀ {x : Str} {d : D}, ds.lookup x = some d → ∃ v, vs.lookup x = some v ∧ R K mg G v d
  | _, _, @RF.cons _ _ _ y v vs d ds h t, x, e, q => by
    rw [List.lookup_cons] at q ⊢
    cases z : x == y with
    | true =>
      rw [z] at q
      cases q
      exact ⟨_, rfl, h⟩
    | false =>
      rw [z] at q
      exact RF.look t q
theorem RF.lookN : ∀ {vs : List (Str × V)} {ds : List (Str × D)}, RF K mg G vs ds → ∀ {x : Str}, ds.lookup x = none → vs.lookup x = none
  | _, _, .nil, _, _ => rfl
  | _, _, @RF.cons _ _ _ y v vs d ds h t, x, q => by
    rw [List.lookup_cons] at q ⊢
    cases z : x == y with
    | true =>
      rw [z] at q
      cases q
    | false =>
      rw [z] at q
      exact RF.lookN t q
theorem RF.length : ∀ {vs : List (Str × V)} {ds : List (Str × D)}, RF K mg G vs ds → vs.length = ds.length
  | _, _, .nil => rfl
  | _, _, .cons _ t => by rw [List.length_cons, List.length_cons, RF.length t]
end

/-! ### slots -/
/-- a slot: nothing told; data that stands; an object of the def's own that changes; one that the caller lends -/
inductive Sl where
  | no | sh (d : D) | own (d : D) | pin (d : D)
abbrev En := List Sl
def En.at : En → Nat → Sl
  | [], _ => .no
  | s :: _, 0 => s
  | _ :: r, n + 1 => En.at r n
def Sl.mu : Sl → Option D
  | .own d => some d
  | .pin d => some d
  | _ => none
theorem En.at_set : ∀ (ρ : En) (i j : Nat) (s : Sl), En.at (ρ.set i s) j = if i = j ∧ i < ρ.length then s else En.at ρ j
  | [], i, j, s => by simp [En.at]
  | x :: r, 0, 0, s => by simp [En.at]
  | x :: r, 0, j + 1, s => by simp [En.at]
  | x :: r, i + 1, 0, s => by simp [En.at]
  | x :: r, i + 1, j + 1, s => by
    show En.at (r.set i s) j = _
    rw [En.at_set r i j s]
    simp [En.at]
theorem En.at_ne {ρ : En} {i j : Nat} {s : Sl} (h : i ≠ j) : En.at (ρ.set i s) j = En.at ρ j := by
  rw [En.at_set, if_neg (fun z => h z.1)]
theorem En.at_eq {ρ : En} {i : Nat} {s : Sl} (h : i < ρ.length) : En.at (ρ.set i s) i = s := by
  rw [En.at_set, if_pos ⟨rfl, h⟩]
theorem En.at_lt : ∀ {ρ : En} {i : Nat}, En.at ρ i ≠ .no → i < ρ.length
  | [], _, h => (h rfl).elim
  | _ :: _, 0, _ => Nat.succ_pos _
  | _ :: r, i + 1, h => Nat.succ_lt_succ (En.at_lt (ρ := r) h)

structure Zone where
  io : Nat → Option Addr
  F0 : Hp
  H0 : Hp

section
variable (K : PySem.W.Frag) (mg : Str → Option Value)
/-- the object at a, whose parts stand in F -/
def Ct (F H : Hp) (a : Addr) : D → Prop
  | .lst ds => ∃ vs, H a = some (.lst vs) ∧ RL K mg F vs ds
  | .dic es => ∃ kvs, H a = some (.dK kvs) ∧ RK K mg F kvs es
  | .ins c ds => ∃ C dx fs, H a = some (.ins C dx fs) ∧ mg c = some (.ref C) ∧ RF K mg F fs ds
  | _ => False
structure Rel (Z : Zone) (σ : L2.St) (H : Hp) (ρ : En) (F : Hp) : Prop where
  len : σ.length = ρ.length
  same : Same F H
  sh : ∀ i d, ρ.at i = .sh d → ∃ v, σ[i]? = some (some v) ∧ R K mg F v d
  mu : ∀ i d, (ρ.at i).mu = some d → ∃ a, σ[i]? = some (some (.ref a)) ∧ F a = none ∧ Ct K mg F H a d
  own : ∀ i d, ρ.at i = .own d → ∀ a, σ[i]? = some (some (.ref a)) → Z.H0 a = none
  pin : ∀ i d, ρ.at i = .pin d → ∀ a, σ[i]? = some (some (.ref a)) → Z.io i = some a
  dist : ∀ i j d e a, (ρ.at i).mu = some d → (ρ.at j).mu = some e → σ[i]? = some (some (.ref a)) → σ[j]? = some (some (.ref a)) → i = j
  off : ∀ b o, (∀ i, Z.io i ≠ some b) → Z.H0 b = some o → H b = some o
  live : ∀ b, Z.H0 b ≠ none → H b ≠ none
  fr0 : Same Z.F0 F
  new : ∀ b, F b ≠ none → Z.F0 b ≠ none ∨ Z.H0 b = none
end
section
variable {K : PySem.W.Frag} {mg : Str → Option Value} {Z : Zone} {σ : L2.St} {H H' F F' : Hp} {ρ : En} {a p : Addr} {d : D} {o : HO} {i : Nat}
theorem Ct.ex (h : Ct K mg F H a d) : ∃ o, H a = some o := by
  cases d <;> first | exact h.elim | (obtain ⟨_, h, _⟩ := h; exact ⟨_, h⟩) | (obtain ⟨_, _, _, h, _⟩ := h; exact ⟨_, h⟩)
theorem Ct.mono (h : Ct K mg F H a d) (s : Same F F') (e : H' a = H a) : Ct K mg F' H' a d := by
  cases d <;> first | exact h.elim | skip
  · obtain ⟨vs, h1, h2⟩ := h
    exact ⟨vs, e.trans h1, h2.mono s⟩
  · obtain ⟨vs, h1, h2⟩ := h
    exact ⟨vs, e.trans h1, h2.mono s⟩
  · obtain ⟨C, dx, vs, h1, h2, h3⟩ := h
    exact ⟨C, dx, vs, e.trans h1, h2, h3.mono s⟩
theorem Ct.r (h : Ct K mg F H a d) (s : Same F H) : R K mg H (.ref a) d := by
  cases d <;> first | exact h.elim | skip
  · obtain ⟨vs, h1, h2⟩ := h
    exact .lst h1 (h2.mono s)
  · obtain ⟨vs, h1, h2⟩ := h
    exact .dic h1 (h2.mono s)
  · obtain ⟨C, dx, vs, h1, h2, h3⟩ := h
    exact .ins h1 h2 (h3.mono s)
/-- from now on it stands -/
theorem Ct.stand (h : Ct K mg F H a d) (n : F a = none) : ∃ o, H a = some o ∧ R K mg (upd F a o) (.ref a) d := by
  have s : ∀ o, Same F (upd F a o) := fun o => same_new n
  cases d <;> first | exact h.elim | skip
  · obtain ⟨vs, h1, h2⟩ := h
    exact ⟨_, h1, .lst upd_same (h2.mono (s _))⟩
  · obtain ⟨vs, h1, h2⟩ := h
    exact ⟨_, h1, .dic upd_same (h2.mono (s _))⟩
  · obtain ⟨C, dx, vs, h1, h2, h3⟩ := h
    exact ⟨_, h1, .ins upd_same h2 (h3.mono (s _))⟩
theorem Rel.st (h : Rel K mg Z σ H ρ F) : ∀ i d, ρ.at i = .sh d → ∃ v, σ[i]? = some (some v) ∧ R K mg F v d := h.sh
/-- the heap grows by what is told nowhere -/
theorem Rel.keep (h : Rel K mg Z σ H ρ F) (s : Same H H') : Rel K mg Z σ H' ρ F where
  len := h.len
  same := h.same.trans s
  sh := h.sh
  mu := fun i d e => by
    obtain ⟨a, h1, h2, h3⟩ := h.mu i d e
    obtain ⟨o, ho⟩ := h3.ex
    exact ⟨a, h1, h2, h3.mono (Same.refl _) ((s _ _ ho).trans ho.symm)⟩
  own := h.own
  pin := h.pin
  dist := h.dist
  off := fun b o n e => s _ _ (h.off b o n e)
  live := fun b n => by
    have := h.live b n
    cases e : H b with
    | none => exact (this e).elim
    | some o =>
      rw [s _ _ e]
      intro z
      cases z
  fr0 := h.fr0
  new := h.new
theorem Rel.h0 (h : Rel K mg Z σ H ρ F) (n : H p = none) : Z.H0 p = none := by
  cases e : Z.H0 p with
  | none => rfl
  | some o => exact (h.live p (by rw [e]; intro z; cases z) n).elim
/-- .. and the frame, by new things or by what stood outside of the slots' own -/
theorem Rel.more (h : Rel K mg Z σ H ρ F) (s : Same H H') (f : Same F F') (t : Same F' H') (n : ∀ b, F' b ≠ none → F b ≠ none ∨ H b = none) : Rel K mg Z σ H' ρ F' where
  len := h.len
  same := t
  sh := fun i d e => by
    obtain ⟨v, h1, h2⟩ := h.sh i d e
    exact ⟨v, h1, h2.mono f⟩
  mu := fun i d e => by
    obtain ⟨a, h1, h2, h3⟩ := h.mu i d e
    obtain ⟨o, ho⟩ := h3.ex
    refine ⟨a, h1, ?_, h3.mono f ((s _ _ ho).trans ho.symm)⟩
    cases q : F' a with
    | none => rfl
    | some u =>
      rcases n a (by rw [q]; intro z; cases z) with z | z
      · exact (z h2).elim
      · rw [ho] at z
        cases z
  own := h.own
  pin := h.pin
  dist := h.dist
  off := (h.keep s).off
  live := (h.keep s).live
  fr0 := h.fr0.trans f
  new := fun b q => by
    rcases n b q with z | z
    · exact h.new b z
    · exact .inr (h.h0 z)
/-- a new object, in the frame -/
theorem Rel.lay (h : Rel K mg Z σ H ρ F) (n : H p = none) : Rel K mg Z σ (upd H p o) ρ (upd F p o) :=
  h.more (same_new n) (same_new (h.same.free n)) (same_grow h.same n) (fun b q => by
    by_cases e : b = p
    · rw [e]
      exact .inr n
    · rw [upd_ne e] at q
      exact .inl q)
theorem Rel.layF (h : Rel K mg Z σ H ρ F) (n : H p = none) : Same F (upd F p o) := same_new (h.same.free n)
/-- a name gets what stands -/
theorem Rel.put (h : Rel K mg Z σ H ρ F) {v : V} (r : R K mg F v d) : Rel K mg Z (σ.set i (some v)) H (ρ.set i (.sh d)) F := by
  have l := h.len
  have at_ : ∀ j, i ≠ j → (σ.set i (some v))[j]? = σ[j]? := fun j n => List.getElem?_set_ne n
  have mu_ : ∀ j e, (En.at (ρ.set i (.sh d)) j).mu = some e → i ≠ j := fun j e q z => by
    subst z
    by_cases hi : i < ρ.length
    · rw [En.at_eq hi] at q
      cases q
    · rw [En.at_set, if_neg (fun z => hi z.2)] at q
      refine hi (En.at_lt (ρ := ρ) (i := i) ?_)
      intro z
      rw [z] at q
      cases q
  refine ⟨by rw [List.length_set, List.length_set, l], h.same, fun j e q => ?_, fun j e q => ?_, fun j e q b hb => ?_, fun j e q b hb => ?_, fun j k e1 e2 b q1 q2 b1 b2 => ?_, h.off, h.live, h.fr0, h.new⟩
  · by_cases z : i = j
    · subst z
      have hi : i < ρ.length := by
        have := En.at_lt (ρ := ρ.set i (.sh d)) (i := i) (by rw [q]; intro z; cases z)
        rw [List.length_set] at this
        exact this
      rw [En.at_eq hi] at q
      cases q
      exact ⟨v, by rw [List.getElem?_set_self (by omega)], r⟩
    · rw [En.at_ne z] at q
      rw [at_ j z]
      exact h.sh j e q
  · have z := mu_ j e q
    rw [En.at_ne z] at q
    rw [at_ j z]
    exact h.mu j e q
  · have z := mu_ j e (by rw [q]; rfl)
    rw [En.at_ne z] at q
    rw [at_ j z] at hb
    exact h.own j e q b hb
  · have z := mu_ j e (by rw [q]; rfl)
    rw [En.at_ne z] at q
    rw [at_ j z] at hb
    exact h.pin j e q b hb
  · have z1 := mu_ j e1 q1
    have z2 := mu_ k e2 q2
    rw [En.at_ne z1] at q1
    rw [En.at_ne z2] at q2
    rw [at_ j z1] at b1
    rw [at_ k z2] at b2
    exact h.dist j k e1 e2 b q1 q2 b1 b2
/-- a name gets a new object of its own -/
theorem Rel.putOwn (h : Rel K mg Z σ H ρ F) (n : Z.H0 a = none) (f : F a = none) (c : Ct K mg F H a d) (ne : ∀ j e, (ρ.at j).mu = some e → σ[j]? ≠ some (some (.ref a))) : Rel K mg Z (σ.set i (some (.ref a))) H (ρ.set i (.own d)) F := by
  have l := h.len
  have at_ : ∀ j, i ≠ j → (σ.set i (some (V.ref a)))[j]? = σ[j]? := fun j n => List.getElem?_set_ne n
  have me : ∀ s, En.at (ρ.set i (.own d)) i = s → s ≠ .no → s = .own d ∧ (σ.set i (some (V.ref a)))[i]? = some (some (.ref a)) := fun s q hn => by
    have hi : i < ρ.length := by
      have := En.at_lt (ρ := ρ.set i (.own d)) (i := i) (by rw [q]; exact hn)
      rw [List.length_set] at this
      exact this
    rw [En.at_eq hi] at q
    exact ⟨q.symm, by rw [List.getElem?_set_self (by omega)]⟩
  refine ⟨by rw [List.length_set, List.length_set, l], h.same, fun j e q => ?_, fun j e q => ?_, fun j e q b hb => ?_, fun j e q b hb => ?_, fun j k e1 e2 b q1 q2 b1 b2 => ?_, h.off, h.live, h.fr0, h.new⟩
  · by_cases z : i = j
    · subst z
      have := (me _ q (fun z => by cases z)).1
      cases this
    · rw [En.at_ne z] at q
      rw [at_ j z]
      exact h.sh j e q
  · by_cases z : i = j
    · subst z
      obtain ⟨e1, e2⟩ := me (En.at (ρ.set i (.own d)) i) rfl (fun z => by rw [z] at q; cases q)
      rw [e1] at q
      cases q
      exact ⟨a, e2, f, c⟩
    · rw [En.at_ne z] at q
      rw [at_ j z]
      exact h.mu j e q
  · by_cases z : i = j
    · subst z
      obtain ⟨e1, e2⟩ := me _ q (fun z => by cases z)
      rw [e2] at hb
      cases hb
      exact n
    · rw [En.at_ne z] at q
      rw [at_ j z] at hb
      exact h.own j e q b hb
  · by_cases z : i = j
    · subst z
      have := (me _ q (fun z => by cases z)).1
      cases this
    · rw [En.at_ne z] at q
      rw [at_ j z] at hb
      exact h.pin j e q b hb
  · by_cases z1 : i = j
    · by_cases z2 : i = k
      · rw [← z1, ← z2]
      · subst z1
        obtain ⟨_, e2'⟩ := me (En.at (ρ.set i (.own d)) i) rfl (fun z => by rw [z] at q1; cases q1)
        rw [e2'] at b1
        cases b1
        rw [En.at_ne z2] at q2
        rw [at_ k z2] at b2
        exact (ne k e2 q2 b2).elim
    · by_cases z2 : i = k
      · subst z2
        obtain ⟨_, e2'⟩ := me (En.at (ρ.set i (.own d)) i) rfl (fun z => by rw [z] at q2; cases q2)
        rw [e2'] at b2
        cases b2
        rw [En.at_ne z1] at q1
        rw [at_ j z1] at b1
        exact (ne j e1 q1 b1).elim
      · rw [En.at_ne z1] at q1
        rw [En.at_ne z2] at q2
        rw [at_ j z1] at b1
        rw [at_ k z2] at b2
        exact h.dist j k e1 e2 b q1 q2 b1 b2
/-- a slot of its own from now on stands -/
theorem Rel.freeze (h : Rel K mg Z σ H ρ F) (q : ρ.at i = .own d) : ∃ a F', σ[i]? = some (some (.ref a)) ∧ Rel K mg Z σ H (ρ.set i (.sh d)) F' ∧ Same F F' ∧ R K mg F' (.ref a) d ∧ ∀ b, F' b ≠ none → F b ≠ none ∨ b = a := by
  obtain ⟨a, h1, h2, h3⟩ := h.mu i d (by rw [q]; rfl)
  obtain ⟨o, ho, r⟩ := h3.stand h2
  have n0 := h.own i d q a h1
  have hi : i < ρ.length := En.at_lt (by rw [q]; intro z; cases z)
  have f : Same F (upd F a o) := same_new h2
  have mu_ : ∀ j e, (En.at (ρ.set i (.sh d)) j).mu = some e → i ≠ j := fun j e q z => by
    subst z
    rw [En.at_eq hi] at q
    cases q
  refine ⟨a, upd F a o, h1, ⟨by rw [List.length_set]; exact h.len, fun b u e => ?_, fun j e q2 => ?_, fun j e q2 => ?_, fun j e q2 => ?_, fun j e q2 => ?_, fun j k e1 e2 b q1 q2 => ?_, h.off, h.live, h.fr0.trans f, fun b hb => ?_⟩, f, r, fun b hb => by
    by_cases z : b = a
    · exact .inr z
    · rw [upd_ne z] at hb
      exact .inl hb⟩
  · by_cases z : b = a
    · rw [z, upd_same] at e
      cases e
      rw [z]
      exact ho
    · rw [upd_ne z] at e
      exact h.same b u e
  · by_cases z : i = j
    · subst z
      rw [En.at_eq hi] at q2
      cases q2
      exact ⟨_, h1, r⟩
    · rw [En.at_ne z] at q2
      obtain ⟨v, g1, g2⟩ := h.sh j e q2
      exact ⟨v, g1, g2.mono f⟩
  · have z := mu_ j e q2
    rw [En.at_ne z] at q2
    obtain ⟨b, g1, g2, g3⟩ := h.mu j e q2
    refine ⟨b, g1, ?_, g3.mono f rfl⟩
    have ne : b ≠ a := fun e' => z (h.dist i j d e a (by rw [q]; rfl) q2 h1 (by rw [← e']; exact g1))
    rw [upd_ne ne]
    exact g2
  · have z := mu_ j e (by rw [q2]; rfl)
    rw [En.at_ne z] at q2
    exact h.own j e q2
  · have z := mu_ j e (by rw [q2]; rfl)
    rw [En.at_ne z] at q2
    exact h.pin j e q2
  · have z1 := mu_ j e1 q1
    have z2 := mu_ k e2 q2
    rw [En.at_ne z1] at q1
    rw [En.at_ne z2] at q2
    exact h.dist j k e1 e2 b q1 q2
  · by_cases z : b = a
    · rw [z]
      exact .inr n0
    · rw [upd_ne z] at hb
      exact h.new b hb
/-- a slot is forgotten -/
theorem Rel.drop (h : Rel K mg Z σ H ρ F) : Rel K mg Z σ H (ρ.set i .no) F := by
  have mu_ : ∀ j (s : Sl), (En.at (ρ.set i .no) j) = s → s ≠ .no → ρ.at j = s := fun j s q n => by
    rw [En.at_set] at q
    split at q
    · exact (n q.symm).elim
    · exact q
  have m2 : ∀ j e, (En.at (ρ.set i .no) j).mu = some e → (ρ.at j).mu = some e := fun j e q => by
    rw [mu_ j _ rfl (fun z => by rw [z] at q; cases q)]
    exact q
  exact ⟨by rw [List.length_set]; exact h.len, h.same, fun j e q => h.sh j e (mu_ j _ q (fun z => by cases z)), fun j e q => h.mu j e (m2 j e q), fun j e q => h.own j e (mu_ j _ q (fun z => by cases z)),
    fun j e q => h.pin j e (mu_ j _ q (fun z => by cases z)), fun j k e1 e2 b q1 q2 => h.dist j k e1 e2 b (m2 j e1 q1) (m2 k e2 q2), h.off, h.live, h.fr0, h.new⟩
end
end PV
namespace PV
open PySem PySem.Spec PyProof.Rows L2 VK

/-! ### results -/
inductive Res (α : Type) where
  | val (x : α) (ρ : En)
  | exc (c : Str) (fs : List (Str × D)) (ρ : En)
  | bad
abbrev M (α : Type) := En → Res α
def Res.bind {α β : Type} (r : Res α) (k : α → En → Res β) : Res β := match r with
  | .val x ρ => k x ρ
  | .exc c fs ρ => .exc c fs ρ
  | .bad => .bad
@[simp] theorem Res.bind_val {α β : Type} (x : α) (ρ : En) (k : α → En → Res β) : Res.bind (.val x ρ) k = k x ρ := rfl
@[simp] theorem Res.bind_exc {α β : Type} (c : Str) (fs : List (Str × D)) (ρ : En) (k : α → En → Res β) : Res.bind (.exc c fs ρ) k = .exc c fs ρ := rfl
@[simp] theorem Res.bind_bad {α β : Type} (k : α → En → Res β) : Res.bind .bad k = .bad := rfl
/-- an operand: what stands, or the object of a slot -/
inductive AV where
  | d (x : D) | io (i : Nat)
inductive Fl where
  | nx | rt (d : D) | bk | ct
/-- what it is now -/
def der : AV → En → Option D
  | .d x, _ => some x
  | .io i, ρ => match ρ.at i with
    | .sh c => some c
    | .own c => some c
    | .pin c => some c
    | .no => none
/-- from now on it stands -/
def frz : AV → En → Option (D × En)
  | .d x, ρ => some (x, ρ)
  | .io i, ρ => match ρ.at i with
    | .sh c => some (c, ρ)
    | .own c => some (c, ρ.set i (.sh c))
    | _ => none

section
variable (K : PySem.W.Frag) (mg : Str → Option Value)
def XR (F H : Hp) (cls : Value) (dx : Option Addr) (c : Str) (fs : List (Str × D)) : Prop :=
  ∃ C, mg c = some (.ref C) ∧ cls = .ref C ∧ ((dx = none ∧ fs = []) ∨ ∃ d vs, dx = some d ∧ F d = some (.xd vs) ∧ RF K mg F vs fs)
def AR (F : Hp) (σ : L2.St) (v : V) : AV → Prop
  | .d x => R K mg F v x
  | .io i => σ[i]? = some (some v)
inductive ARL (F : Hp) (σ : L2.St) : List V → List AV → Prop
  | nil : ARL F σ [] []
  | cons {v : V} {x : AV} {vs : List V} {xs : List AV} : AR K mg F σ v x → ARL F σ vs xs → ARL F σ (v :: vs) (x :: xs)
/-- what an expression leaves -/
structure Go (Z : Zone) (σ : L2.St) (H : Hp) (ρ : En) (F : Hp) (H' : Hp) (ρ' : En) (F' : Hp) : Prop where
  rel : Rel K mg Z σ H' ρ' F'
  fr : Same F F'
  keep : ∀ b o, (∀ j e, (ρ.at j).mu = some e → σ[j]? ≠ some (some (.ref b))) → H b = some o → H' b = some o
  sub : ∀ j e, (ρ'.at j).mu = some e → ∃ e', (ρ.at j).mu = some e'
  lv : ∀ b, H b ≠ none → H' b ≠ none
  nw : ∀ b, F' b ≠ none → F b ≠ none ∨ H b = none ∨ ∃ j e, (ρ.at j).mu = some e ∧ σ[j]? = some (some (.ref b))
def Post {α : Type} (Z : Zone) (W : WX) (σ : L2.St) (H : Hp) (ρ : En) (F : Hp) (r : Res α) (Q : α → Hp → En → Hp → Prop) : Prop := match r with
  | .val x ρ' => ∀ H' F', Go K mg Z σ H ρ F H' ρ' F' → Q x H' ρ' F'
  | .exc c fs ρ' => ∀ cls dx H' F', Go K mg Z σ H ρ F H' ρ' F' → XR K mg F' H' cls dx c fs → W cls dx σ H'
  | .bad => False
def tE (Z : Zone) (W : WX) (f : M AV) : TE := fun σ H Q => ∃ ρ F, Rel K mg Z σ H ρ F ∧ Post K mg Z W σ H ρ F (f ρ) fun x H' _ F' => ∀ v, AR K mg F' σ v x → Q v H'
/-- a new object that nobody else holds -/
def tN (Z : Zone) (W : WX) (f : M D) : TE := fun σ H Q => ∃ ρ F, Rel K mg Z σ H ρ F ∧ Post K mg Z W σ H ρ F (f ρ) fun d H' ρ' F' =>
  ∀ a, H a = none → Z.H0 a = none → F' a = none → Ct K mg F' H' a d → (∀ j e, (ρ'.at j).mu = some e → σ[j]? ≠ some (some (.ref a))) → Q (.ref a) H'
def tT (Z : Zone) (W : WX) (f : M Bool) : TT := fun σ H Q => ∃ ρ F, Rel K mg Z σ H ρ F ∧ Post K mg Z W σ H ρ F (f ρ) fun b H' _ F' => Q b H'
def tA (Z : Zone) (W : WX) (f : M (List AV)) : TA := fun σ H Q => ∃ ρ F, Rel K mg Z σ H ρ F ∧ Post K mg Z W σ H ρ F (f ρ) fun xs H' _ F' => ∀ vs, ARL K mg F' σ vs xs → Q vs H'
def Fl.ends (De : Ends) (σ' : L2.St) (H' F' : Hp) : Fl → Prop
  | .nx => De.nx σ' H'
  | .rt d => ∀ v, R K mg F' v d → De.rt v H'
  | .bk => De.bk σ' H'
  | .ct => De.ct σ' H'
/-- a statement: slots may change -/
def PostS (Z : Zone) (W : WX) (F : Hp) (r : Res Fl) (D : Ends) : Prop := match r with
  | .val x ρ' => ∀ σ' H' F', Rel K mg Z σ' H' ρ' F' → Same F F' → x.ends K mg D σ' H' F'
  | .exc c fs ρ' => ∀ cls dx σ' H' F', Rel K mg Z σ' H' ρ' F' → Same F F' → XR K mg F' H' cls dx c fs → W cls dx σ' H'
  | .bad => False
def tS (Z : Zone) (W : WX) (f : M Fl) : TS := fun D σ H => ∃ ρ F, Rel K mg Z σ H ρ F ∧ PostS K mg Z W F (f ρ) D
end
abbrev PV (X : Cx) (Z : Zone) (W : WX) (e : Expr) (f : M AV) : Prop := PE X e (tE X.K X.mg Z W f)
abbrev PN (X : Cx) (Z : Zone) (W : WX) (e : Expr) (f : M D) : Prop := PE X e (tN X.K X.mg Z W f)
abbrev PB (X : Cx) (Z : Zone) (W : WX) (e : Expr) (f : M Bool) : Prop := PT X e (tT X.K X.mg Z W f)
abbrev PL (X : Cx) (Z : Zone) (W : WX) (es : List Expr) (f : M (List AV)) : Prop := PA X es (tA X.K X.mg Z W f)
abbrev PC1 (X : Cx) (Z : Zone) (W : WX) (st : Stmt) (f : M Fl) : Prop := PS X st (tS X.K X.mg Z W f)
abbrev PCs (X : Cx) (Z : Zone) (W : WX) (st : List Stmt) (f : M Fl) : Prop := PSs X st (tS X.K X.mg Z W f)

theorem PE.weak {X : Cx} {e : Expr} {t t' : TE} (h : PE X e t) (w : ∀ σ H Q, t' σ H Q → t σ H Q) : PE X e t' := ⟨fun pins s σ H Q I q => h.run pins s σ H Q I (w _ _ _ q)⟩
theorem PT.weak {X : Cx} {e : Expr} {t t' : TT} (h : PT X e t) (w : ∀ σ H Q, t' σ H Q → t σ H Q) : PT X e t' := ⟨fun pins s σ H Q I q => h.run pins s σ H Q I (w _ _ _ q)⟩
theorem PW.weak {X : Cx} {e : Expr} {t t' : TT} (h : PW X e t) (w : ∀ σ H Q, t' σ H Q → t σ H Q) : PW X e t' := ⟨fun wh pins s σ H Q I q => h.run wh pins s σ H Q I (w _ _ _ q)⟩
theorem PA.weak {X : Cx} {e : List Expr} {t t' : TA} (h : PA X e t) (w : ∀ σ H Q, t' σ H Q → t σ H Q) : PA X e t' := ⟨fun pos pins s σ H Q I q => h.run pos pins s σ H Q I (w _ _ _ q)⟩
theorem PS.weak {X : Cx} {e : Stmt} {t t' : TS} (h : PS X e t) (w : ∀ D σ H, t' D σ H → t D σ H) : PS X e t' := ⟨fun pins s σ H D I q => h.run pins s σ H D I (w _ _ _ q)⟩
theorem PSs.weak {X : Cx} {e : List Stmt} {t t' : TS} (h : PSs X e t) (w : ∀ D σ H, t' D σ H → t D σ H) : PSs X e t' := ⟨fun pins s σ H D I q => h.run pins s σ H D I (w _ _ _ q)⟩

section
variable {K : PySem.W.Frag} {mg : Str → Option Value} {Z : Zone} {W : WX} {σ : L2.St} {H H1 H2 F F1 F2 : Hp} {ρ ρ1 ρ2 : En} {a p : Addr} {d e : D} {o : HO} {i : Nat} {v u : V} {x y : AV} {α β : Type}
theorem same_some {b : Addr} (s : Same H H1) (h : H b ≠ none) : H1 b ≠ none := by
  cases q : H b with
  | none => exact (h q).elim
  | some o =>
    rw [s _ _ q]
    intro z
    cases z
theorem Go.refl (r : Rel K mg Z σ H ρ F) : Go K mg Z σ H ρ F H ρ F := ⟨r, Same.refl _, fun _ _ _ h => h, fun _ e h => ⟨e, h⟩, fun _ h => h, fun _ h => .inl h⟩
theorem Go.trans (g : Go K mg Z σ H ρ F H1 ρ1 F1) (g2 : Go K mg Z σ H1 ρ1 F1 H2 ρ2 F2) : Go K mg Z σ H ρ F H2 ρ2 F2 :=
  ⟨g2.rel, g.fr.trans g2.fr, fun b o n h => g2.keep b o (fun j e q => by
    obtain ⟨e', q'⟩ := g.sub j e q
    exact n j e' q') (g.keep b o n h), fun j e q => by
    obtain ⟨e', q'⟩ := g2.sub j e q
    exact g.sub j e' q', fun b h => g2.lv b (g.lv b h), fun b h => by
    rcases g2.nw b h with h | h | ⟨j, e, h1, h2⟩
    · exact g.nw b h
    · refine .inr (.inl ?_)
      cases q : H b with
      | none => rfl
      | some o => exact (g.lv b (by rw [q]; intro z; cases z) h).elim
    · obtain ⟨e', h'⟩ := g.sub j e h1
      exact .inr (.inr ⟨j, e', h', h2⟩)⟩
theorem Post.at_ {r : Res α} {Q : α → Hp → En → Hp → Prop} (g : Go K mg Z σ H ρ F H1 ρ1 F1) (h : Post K mg Z W σ H ρ F r Q) : Post K mg Z W σ H1 ρ1 F1 r Q := by
  cases r with
  | val x ρ' => exact fun H' F' g2 => h H' F' (g.trans g2)
  | exc c fs ρ' => exact fun cls dx H' F' g2 => h cls dx H' F' (g.trans g2)
  | bad => exact h
theorem Post.bind {r : Res α} {k : α → En → Res β} {Q : β → Hp → En → Hp → Prop} (h : Post K mg Z W σ H ρ F (r.bind k) Q) : Post K mg Z W σ H ρ F r fun x H' ρ' F' => Post K mg Z W σ H' ρ' F' (k x ρ') Q := by
  cases r with
  | val x ρ' => exact fun H' F' g => Post.at_ g h
  | exc c fs ρ' => exact h
  | bad => exact h
theorem Post.imp {r : Res α} {Q Q' : α → Hp → En → Hp → Prop} (h : Post K mg Z W σ H ρ F r Q) (f : ∀ x H' ρ' F', Go K mg Z σ H ρ F H' ρ' F' → Q x H' ρ' F' → Q' x H' ρ' F') : Post K mg Z W σ H ρ F r Q' := by
  cases r with
  | val x ρ' => exact fun H' F' g => f _ _ _ _ g (h H' F' g)
  | exc c fs ρ' => exact h
  | bad => exact h
theorem Post.val_ {x : α} {Q : α → Hp → En → Hp → Prop} (h : Post K mg Z W σ H ρ F (.val x ρ) Q) (r : Rel K mg Z σ H ρ F) : Q x H ρ F := h H F (.refl r)
/-- the value of an operand behind more evaluation -/
theorem AR.go (h : AR K mg F σ v x) (s : Same F F1) : AR K mg F1 σ v x := by
  cases x with
  | d x => exact R.mono s h
  | io i => exact h
theorem ARL.go {vs : List V} {xs : List AV} (h : ARL K mg F σ vs xs) (s : Same F F1) : ARL K mg F1 σ vs xs := by
  induction h with
  | nil => exact .nil
  | cons h _ ih => exact .cons (h.go s) ih
/-- an operand's object -/
def Rp (K : PySem.W.Frag) (mg : Str → Option Value) (F H : Hp) (v : V) (d : D) : Prop := R K mg F v d ∨ ∃ a, v = .ref a ∧ F a = none ∧ Ct K mg F H a d
theorem Rp.r (h : Rp K mg F H v d) (s : Same F H) : R K mg H v d := by
  rcases h with h | ⟨a, rfl, _, h⟩
  · exact h.mono s
  · exact h.r s
theorem der_ok (r : Rel K mg Z σ H ρ F) (h : AR K mg F σ v x) (q : der x ρ = some d) : Rp K mg F H v d := by
  cases x with
  | d x =>
    cases q
    exact .inl h
  | io i =>
    simp only [der] at q
    have h' : σ[i]? = some (some v) := h
    cases e : ρ.at i with
    | no =>
      rw [e] at q
      cases q
    | sh c =>
      rw [e] at q
      cases q
      obtain ⟨u, h1, h2⟩ := r.sh i _ e
      rw [h'] at h1
      cases h1
      exact .inl h2
    | own c =>
      rw [e] at q
      cases q
      obtain ⟨a, h1, h2, h3⟩ := r.mu i d (by rw [e]; rfl)
      rw [h'] at h1
      cases h1
      exact .inr ⟨a, rfl, h2, h3⟩
    | pin c =>
      rw [e] at q
      cases q
      obtain ⟨a, h1, h2, h3⟩ := r.mu i d (by rw [e]; rfl)
      rw [h'] at h1
      cases h1
      exact .inr ⟨a, rfl, h2, h3⟩
theorem frz_ok (r : Rel K mg Z σ H ρ F) (h : AR K mg F σ v x) (q : frz x ρ = some (d, ρ1)) : ∃ F1, Go K mg Z σ H ρ F H ρ1 F1 ∧ R K mg F1 v d := by
  cases x with
  | d x =>
    cases q
    exact ⟨F, .refl r, h⟩
  | io i =>
    simp only [frz] at q
    have h' : σ[i]? = some (some v) := h
    cases e : ρ.at i with
    | no =>
      rw [e] at q
      cases q
    | sh c =>
      rw [e] at q
      cases q
      obtain ⟨u, h1, h2⟩ := r.sh i _ e
      rw [h'] at h1
      cases h1
      exact ⟨F, .refl r, h2⟩
    | pin c =>
      rw [e] at q
      cases q
    | own c =>
      rw [e] at q
      cases q
      obtain ⟨a, F', h1, h2, h3, h4, h5⟩ := r.freeze e
      rw [h'] at h1
      cases h1
      refine ⟨F', ⟨h2, h3, fun _ _ _ h => h, fun j e' q => ?_, fun _ h => h, fun b hb => ?_⟩, h4⟩
      · rw [En.at_set] at q
        split at q
        · cases q
        · exact ⟨_, q⟩
      · rcases h5 b hb with z | z
        · exact .inl z
        · rw [z]
          exact .inr (.inr ⟨i, d, by rw [e]; rfl, h'⟩)
theorem Go.more (r : Rel K mg Z σ H ρ F) (s : Same H H1) (f : Same F F1) (t : Same F1 H1) (n : ∀ b, F1 b ≠ none → F b ≠ none ∨ H b = none) : Go K mg Z σ H ρ F H1 ρ F1 :=
  ⟨r.more s f t n, f, fun _ _ _ h => s _ _ h, fun _ e h => ⟨e, h⟩, fun b h => same_some s h, fun b h => (n b h).imp id fun z => .inl z⟩
/-- a new object's place in the frame -/
theorem Go.lay (r : Rel K mg Z σ H ρ F) (n : H p = none) : Go K mg Z σ H ρ F (upd H p o) ρ (upd F p o) :=
  .more r (same_new n) (r.layF n) (r.lay n).same fun b h => by
    by_cases e : b = p
    · rw [e]
      exact .inr n
    · rw [upd_ne e] at h
      exact .inl h
/-- .. not in the frame -/
theorem Go.new (r : Rel K mg Z σ H ρ F) (s : Same H H1) : Go K mg Z σ H ρ F H1 ρ F :=
  .more r s (Same.refl _) (r.same.trans s) fun _ h => .inl h
/-- a new object nobody holds: it stands from now on -/
theorem Go.settle (g : Go K mg Z σ H ρ F H1 ρ1 F1) (nH : H a = none) (n0 : Z.H0 a = none) (f : F1 a = none) (c : Ct K mg F1 H1 a d) (ne : ∀ j e, (ρ1.at j).mu = some e → σ[j]? ≠ some (some (.ref a))) : ∃ F2, Go K mg Z σ H ρ F H1 ρ1 F2 ∧ R K mg F2 (.ref a) d := by
  have r := g.rel
  obtain ⟨o, ho, h⟩ := c.stand f
  refine ⟨upd F1 a o, ⟨⟨r.len, fun b u e => ?_, fun j e q => ?_, fun j e q => ?_, r.own, r.pin, r.dist, r.off, r.live, r.fr0.trans (same_new f), fun b q => ?_⟩, g.fr.trans (same_new f), g.keep, g.sub, g.lv, fun b q => ?_⟩, h⟩
  · by_cases z : b = a
    · rw [z, upd_same] at e
      cases e
      rw [z]
      exact ho
    · rw [upd_ne z] at e
      exact r.same b u e
  · obtain ⟨v, h1, h2⟩ := r.sh j e q
    exact ⟨v, h1, h2.mono (same_new f)⟩
  · obtain ⟨b, h1, h2, h3⟩ := r.mu j e q
    refine ⟨b, h1, ?_, h3.mono (same_new f) rfl⟩
    have z : b ≠ a := fun z => ne j e q (by rw [← z]; exact h1)
    rw [upd_ne z]
    exact h2
  · by_cases z : b = a
    · rw [z]
      exact .inr n0
    · rw [upd_ne z] at q
      exact r.new b q
  · by_cases z : b = a
    · rw [z]
      exact .inr (.inl nH)
    · rw [upd_ne z] at q
      exact g.nw b q
theorem Go.free (g : Go K mg Z σ H ρ F H1 ρ1 F1) (n : H1 p = none) : H p = none := by
  cases q : H p with
  | none => rfl
  | some o => exact (g.lv p (by rw [q]; intro z; cases z) n).elim
end

/-! ### expressions -/
def eC (d : D) : M AV := fun ρ => .val (.d d) ρ
def eVar (i : Nat) : M AV := fun ρ => match ρ.at i with
  | .no => .bad
  | .sh d => .val (.d d) ρ
  | _ => .val (.io i) ρ
/-- as a value that stands -/
def M.st (f : M AV) : M D := fun ρ => (f ρ).bind fun x ρ1 => match frz x ρ1 with
  | some (d, ρ2) => .val d ρ2
  | none => .bad
def eSt (f : M AV) : M AV := fun ρ => (f.st ρ).bind fun d ρ1 => .val (.d d) ρ1
def eNew (f : M D) : M AV := fun ρ => (f ρ).bind fun d ρ1 => .val (.d d) ρ1
def eL0 : M (List AV) := fun ρ => .val [] ρ
def eL1 (f : M AV) (g : M (List AV)) : M (List AV) := fun ρ => (f ρ).bind fun x ρ1 => (g ρ1).bind fun xs ρ2 => .val (x :: xs) ρ2
/-- they stand from now on -/
def frzL : List AV → En → Option (List D × En)
  | [], ρ => some ([], ρ)
  | x :: r, ρ => match frz x ρ with
    | none => none
    | some (d, ρ1) => match frzL r ρ1 with
      | none => none
      | some (ds, ρ2) => some (d :: ds, ρ2)
def M.sts (f : M (List AV)) : M (List D) := fun ρ => (f ρ).bind fun xs ρ1 => match frzL xs ρ1 with
  | some (ds, ρ2) => .val ds ρ2
  | none => .bad
def eTup (f : M (List AV)) : M AV := fun ρ => (f.sts ρ).bind fun ds ρ1 => if ds.length ≤ sizeLine then .val (.d (.tup ds)) ρ1 else .bad
def nLst (f : M (List AV)) : M D := fun ρ => (f.sts ρ).bind fun ds ρ1 => if ds.length ≤ sizeLine then .val (.lst ds) ρ1 else .bad
section
variable {X : Cx} {Z : Zone} {W : WX} {e : Expr} {es : List Expr}
theorem PV.st {f : M AV} (h : PV X Z W e f) : PE X e (fun σ H Q => ∃ ρ F, Rel X.K X.mg Z σ H ρ F ∧ Post X.K X.mg Z W σ H ρ F (f.st ρ) fun d H' _ F' => ∀ v, R X.K X.mg F' v d → Q v H') := by
  refine PE.weak h fun σ H Q ⟨ρ, F, r, q⟩ => ⟨ρ, F, r, (Post.bind q).imp fun x H1 ρ1 F1 g q1 v hv => ?_⟩
  cases hz : frz x ρ1 with
  | none =>
    simp only [hz] at q1
    exact q1.elim
  | some z =>
    obtain ⟨d, ρ2⟩ := z
    simp only [hz] at q1
    obtain ⟨F2, g2, r2⟩ := frz_ok g.rel hv hz
    exact q1 H1 F2 g2 v r2
theorem ev_var {i : Nat} (h : PE X e (tVar i)) : PV X Z W e (eVar i) := by
  refine PE.weak h fun σ H Q ⟨ρ, F, r, q⟩ => ?_
  unfold eVar at q
  cases hz : ρ.at i with
  | no =>
    simp only [hz] at q
    exact q.elim
  | sh d =>
    simp only [hz] at q
    obtain ⟨v, h1, h2⟩ := r.sh i d hz
    exact ⟨v, h1, q H F (.refl r) v h2⟩
  | own d =>
    simp only [hz] at q
    obtain ⟨a, h1, h2, h3⟩ := r.mu i d (by rw [hz]; rfl)
    exact ⟨_, h1, q H F (.refl r) _ h1⟩
  | pin d =>
    simp only [hz] at q
    obtain ⟨a, h1, h2, h3⟩ := r.mu i d (by rw [hz]; rfl)
    exact ⟨_, h1, q H F (.refl r) _ h1⟩
/-- a constant, or what a module's name holds -/
theorem ev_c {v : V} {d : D} (h : PE X e (tC v)) (hd : ∀ F, R X.K X.mg F v d) : PV X Z W e (eC d) :=
  PE.weak h fun σ H Q ⟨ρ, F, r, q⟩ => q H F (.refl r) v (hd F)
theorem ev_st {f : M AV} (h : PV X Z W e f) : PV X Z W e (eSt f) :=
  PE.weak (PV.st h) fun σ H Q ⟨ρ, F, r, q⟩ => ⟨ρ, F, r, (Post.bind q).imp fun x H1 ρ1 F1 g q1 v hv => q1.val_ g.rel v hv⟩
theorem ev_new {f : M D} (h : PN X Z W e f) : PV X Z W e (eNew f) := by
  refine PE.weak h fun σ H Q ⟨ρ, F, r, q⟩ => ⟨ρ, F, r, ?_⟩
  unfold eNew at q
  cases hf : f ρ with
  | bad =>
    rw [hf] at q
    exact q
  | exc c fs ρ1 =>
    rw [hf] at q
    exact q
  | val x ρ1 =>
    rw [hf] at q
    intro H1 F1 g a nH n0 fn c ne
    obtain ⟨F2, g2, r2⟩ := g.settle nH n0 fn c ne
    exact q H1 F2 g2 _ r2
theorem el_nil : PL X Z W [] eL0 := PA.weak pa_nil fun σ H Q ⟨ρ, F, r, q⟩ => q H F (.refl r) [] .nil
theorem el_cons {f : M AV} {g : M (List AV)} (h : PV X Z W e f) (t : PL X Z W es g) (hs : starEach (e :: es) X.env = (false, eval e X.env) :: starEach es X.env := by rfl) : PL X Z W (e :: es) (eL1 f g) :=
  PA.weak (pa_cons h t hs) fun σ H Q ⟨ρ, F, r, q⟩ => ⟨ρ, F, r, (Post.bind q).imp fun x H1 ρ1 F1 g1 q1 v hv => ⟨ρ1, F1, g1.rel, (Post.bind q1).imp fun xs H2 ρ2 F2 g2 q2 vs hvs => q2.val_ g2.rel _ (.cons (hv.go g2.fr) hvs)⟩⟩
theorem frzL_ok {K : PySem.W.Frag} {mg : Str → Option Value} {σ : L2.St} {H : Hp} : ∀ {xs : List AV} {vs : List V} {ρ ρ1 : En} {F : Hp} {ds : List D}, Rel K mg Z σ H ρ F → ARL K mg F σ vs xs → frzL xs ρ = some (ds, ρ1) →
    ∃ F1, Go K mg Z σ H ρ F H ρ1 F1 ∧ RL K mg F1 vs ds
  | [], _, ρ, _, F, _, r, .nil, q => by
    cases q
    exact ⟨F, .refl r, .nil⟩
  | x :: xs, _, ρ, ρ1, F, ds, r, .cons h t, q => by
    simp only [frzL] at q
    cases hz : frz x ρ with
    | none =>
      rw [hz] at q
      cases q
    | some z =>
      obtain ⟨d, ρ2⟩ := z
      simp only [hz] at q
      obtain ⟨F2, g2, r2⟩ := frz_ok r h hz
      cases hy : frzL xs ρ2 with
      | none =>
        rw [hy] at q
        cases q
      | some y =>
        obtain ⟨es, ρ3⟩ := y
        simp only [hy] at q
        cases q
        obtain ⟨F3, g3, r3⟩ := frzL_ok g2.rel (t.go g2.fr) hy
        exact ⟨F3, g2.trans g3, .cons (r2.mono g3.fr) r3⟩
theorem PL.sts {f : M (List AV)} (h : PL X Z W es f) : PA X es (fun σ H Q => ∃ ρ F, Rel X.K X.mg Z σ H ρ F ∧ Post X.K X.mg Z W σ H ρ F (f.sts ρ) fun ds H' _ F' => ∀ vs, RL X.K X.mg F' vs ds → Q vs H') := by
  refine PA.weak h fun σ H Q ⟨ρ, F, r, q⟩ => ⟨ρ, F, r, (Post.bind q).imp fun xs H1 ρ1 F1 g q1 vs hvs => ?_⟩
  cases hz : frzL xs ρ1 with
  | none =>
    simp only [hz] at q1
    exact q1.elim
  | some z =>
    obtain ⟨ds, ρ2⟩ := z
    simp only [hz] at q1
    obtain ⟨F2, g2, r2⟩ := frzL_ok g.rel hvs hz
    exact q1 H1 F2 g2 vs r2
theorem ev_tup {x1 : Nat} {pos : Pos} {f : M (List AV)} (h : PL X Z W es f) : PV X Z W (.Tuple es x1 pos) (eTup f) := by
  refine PE.weak (pe_tup (PL.sts h)) fun σ H Q ⟨ρ, F, r, q⟩ => ⟨ρ, F, r, (Post.bind q).imp fun ds H1 ρ1 F1 g q1 vs hvs => ?_⟩
  by_cases hz : ds.length ≤ sizeLine
  · rw [if_pos hz] at q1
    refine ⟨by rw [hvs.length]; exact hz, fun p np => ?_⟩
    exact q1 _ _ (.lay g.rel np) _ (.tup (.inl (.inl upd_same)) (hvs.mono (g.rel.layF np)))
  · rw [if_neg hz] at q1
    exact q1.elim
/-- a fresh place is no slot's -/
theorem new_ne {K : PySem.W.Frag} {mg : Str → Option Value} {σ : L2.St} {H F : Hp} {ρ : En} {p : Addr} (r : Rel K mg Z σ H ρ F) (n : H p = none) : ∀ j e, (ρ.at j).mu = some e → σ[j]? ≠ some (some (.ref p)) := fun j e q z => by
  obtain ⟨a, h1, _, h3⟩ := r.mu j e q
  rw [z] at h1
  cases h1
  obtain ⟨o, ho⟩ := h3.ex
  rw [n] at ho
  cases ho
theorem en_lst {pos : Pos} {f : M (List AV)} (h : PL X Z W es f) : PN X Z W (.List es pos) (nLst f) := by
  refine PE.weak (pe_lst (PL.sts h)) fun σ H Q ⟨ρ, F, r, q⟩ => ⟨ρ, F, r, (Post.bind q).imp fun ds H1 ρ1 F1 g q1 vs hvs => ?_⟩
  by_cases hz : ds.length ≤ sizeLine
  · rw [if_pos hz] at q1
    refine ⟨by rw [hvs.length]; exact hz, fun p np => ?_⟩
    exact q1 _ _ (.new g.rel (same_new np)) p (g.free np) (g.rel.h0 np) (g.rel.same.free np) ⟨_, upd_same, hvs⟩ (new_ne g.rel np)
  · rw [if_neg hz] at q1
    exact q1.elim
end
end PV
namespace PV
open PySem PySem.Spec PyProof.Rows L2 VK

/-! ### measures of data -/
mutual
/-- data, its ints below 10 ^ 60 -/
def D.si : D → Bool
  | .int i => decide (i.natAbs < 10 ^ 60)
  | .str z => PyData.strOk z
  | .lst xs => siL xs
  | .tup xs => siL xs
  | .dic es => siK es
  | .ins _ _ => false
  | .exn _ _ => false
  | .gl _ => false
  | .ty _ => false
  | .scr _ => false
  | _ => true
def siL : List D → Bool
  | [] => true
  | x :: r => x.si && siL r
def siK : List (D × D) → Bool
  | [] => true
  | (a, b) :: r => a.si && b.si && siK r
end
mutual
def D.dep : D → Nat
  | .lst xs => depL xs + 1
  | .tup xs => depL xs + 1
  | .dic es => depK es + 1
  | _ => 0
def depL : List D → Nat
  | [] => 0
  | x :: r => max x.dep (depL r)
def depK : List (D × D) → Nat
  | [] => 0
  | (a, b) :: r => max (max a.dep b.dep) (depK r)
end
mutual
def D.wt : D → Nat
  | .int _ => 200
  | .str z => z.length
  | .lst xs => wtL xs
  | .tup xs => wtL xs
  | .dic es => wtK es
  | _ => 0
def wtL : List D → Nat
  | [] => 0
  | x :: r => x.wt + 1 + wtL r
def wtK : List (D × D) → Nat
  | [] => 0
  | (a, b) :: r => a.wt + b.wt + 2 + wtK r
end
mutual
/-- no dict anywhere, the texts of signs -/
def D.nod : D → Bool
  | .str z => PyData.strOk z
  | .lst xs => nodL xs
  | .tup xs => nodL xs
  | .dic _ => false
  | _ => true
def nodL : List D → Bool
  | [] => true
  | x :: r => x.nod && nodL r
end
mutual
/-- no list anywhere -/
def D.nol : D → Bool
  | .lst _ => false
  | .tup xs => nolL xs
  | .dic es => nolK es
  | _ => true
def nolL : List D → Bool
  | [] => true
  | x :: r => x.nol && nolL r
def nolK : List (D × D) → Bool
  | [] => true
  | (a, b) :: r => a.nol && b.nol && nolK r
end
mutual
theorem si_dat : ∀ d : D, d.si = true → d.dat = true
  | .non, _ => rfl
  | .bl _, _ => rfl
  | .int _, _ => rfl
  | .str _, _ => rfl
  | .lst xs, h => siL_dat xs h
  | .tup xs, h => siL_dat xs h
  | .dic es, h => siK_dat es h
theorem siL_dat : ∀ xs : List D, siL xs = true → datL xs = true
  | [], _ => rfl
  | x :: r, h => by
    simp only [siL, Bool.and_eq_true] at h
    simp only [datL, si_dat x h.1, siL_dat r h.2, Bool.and_self]
theorem siK_dat : ∀ xs : List (D × D), siK xs = true → datK xs = true
  | [], _ => rfl
  | (a, b) :: r, h => by
    simp only [siK, Bool.and_eq_true] at h
    simp only [datK, si_dat a h.1.1, si_dat b h.1.2, siK_dat r h.2, Bool.and_self]
end
mutual
theorem py_dep : ∀ d : D, d.py.depth ≤ d.dep
  | .non => Nat.le_refl _
  | .bl _ => Nat.le_refl _
  | .int _ => Nat.le_refl _
  | .str _ => Nat.le_refl _
  | .lst xs => by
    simp only [D.py, D.dep, PyData.depth]
    exact Nat.succ_le_succ (pyL_dep xs)
  | .tup xs => by
    simp only [D.py, D.dep, PyData.depth]
    exact Nat.succ_le_succ (pyL_dep xs)
  | .dic es => by
    simp only [D.py, D.dep, PyData.depth]
    exact Nat.succ_le_succ (pyK_dep es)
  | .ins _ _ => Nat.le_refl _
  | .exn _ _ => Nat.le_refl _
  | .gl _ => Nat.le_refl _
  | .ty _ => Nat.le_refl _
  | .scr _ => Nat.le_refl _
theorem pyL_dep : ∀ xs : List D, PyData.depthAll (pyL xs) ≤ depL xs
  | [] => by simp [pyL, depL, PyData.depthAll]
  | x :: r => by
    have h1 := py_dep x
    have h2 := pyL_dep r
    simp only [pyL, depL, PyData.depthAll]
    omega
theorem pyK_dep : ∀ xs : List (D × D), PyData.depthKv (pyK xs) ≤ depK xs
  | [] => by simp [pyK, depK, PyData.depthKv]
  | (a, b) :: r => by
    have h1 := py_dep a
    have h2 := py_dep b
    have h3 := pyK_dep r
    simp only [pyK, depK, PyData.depthKv]
    omega
end
theorem log_small {i : Int} (h : i.natAbs < 10 ^ 60) : i.natAbs.log2 + 1 ≤ 200 := by
  by_cases h0 : i.natAbs = 0
  · rw [h0]
    decide
  · have := (Nat.log2_lt h0 (k := 200)).mpr (Nat.lt_trans h (by decide))
    omega
mutual
theorem py_wt : ∀ d : D, d.si = true → d.py.weight ≤ d.wt
  | .non, _ => Nat.le_refl _
  | .bl _, _ => Nat.le_refl _
  | .int i, h => by
    have h' : i.natAbs < 10 ^ 60 := of_decide_eq_true h
    simp only [D.py, D.wt, PyData.weight]
    have := log_small h'
    split <;> omega
  | .str _, _ => Nat.le_refl _
  | .lst xs, h => by
    simp only [D.py, D.wt, PyData.weight]
    exact pyL_wt xs h
  | .tup xs, h => by
    simp only [D.py, D.wt, PyData.weight]
    exact pyL_wt xs h
  | .dic es, h => by
    simp only [D.py, D.wt, PyData.weight]
    exact pyK_wt es h
theorem pyL_wt : ∀ xs : List D, siL xs = true → PyData.weightAll (pyL xs) ≤ wtL xs
  | [], _ => by simp [pyL, wtL, PyData.weightAll]
  | x :: r, h => by
    simp only [siL, Bool.and_eq_true] at h
    have h1 := py_wt x h.1
    have h2 := pyL_wt r h.2
    simp only [pyL, wtL, PyData.weightAll]
    omega
theorem pyK_wt : ∀ xs : List (D × D), siK xs = true → PyData.weightKv (pyK xs) ≤ wtK xs
  | [], _ => by simp [pyK, wtK, PyData.weightKv]
  | (a, b) :: r, h => by
    simp only [siK, Bool.and_eq_true] at h
    have h1 := py_wt a h.1.1
    have h2 := py_wt b h.1.2
    have h3 := pyK_wt r h.2
    simp only [pyK, wtK, PyData.weightKv]
    omega
end
mutual
theorem py_sh : ∀ d : D, d.si = true → d.py.showable = true
  | .non, _ => rfl
  | .bl _, _ => rfl
  | .int i, h => by
    have h' : i.natAbs < 10 ^ 60 := of_decide_eq_true h
    have := log_small h'
    exact decide_eq_true (by omega)
  | .str _, _ => rfl
  | .lst xs, h => by
    simp only [D.py, PyData.showable]
    exact pyL_sh xs h
  | .tup xs, h => by
    simp only [D.py, PyData.showable]
    exact pyL_sh xs h
  | .dic es, h => by
    simp only [D.py, PyData.showable]
    exact pyK_sh es h
theorem pyL_sh : ∀ xs : List D, siL xs = true → PyData.showableAll (pyL xs) = true
  | [], _ => by simp [pyL, PyData.showableAll]
  | x :: r, h => by
    simp only [siL, Bool.and_eq_true] at h
    simp only [pyL, PyData.showableAll, py_sh x h.1, pyL_sh r h.2, Bool.and_self]
theorem pyK_sh : ∀ xs : List (D × D), siK xs = true → PyData.showableKv (pyK xs) = true
  | [], _ => by simp [pyK, PyData.showableKv]
  | (a, b) :: r, h => by
    simp only [siK, Bool.and_eq_true] at h
    simp only [pyK, PyData.showableKv, py_sh a h.1.1, py_sh b h.1.2, pyK_sh r h.2, Bool.and_self]
end
mutual
theorem py_hd : ∀ d : D, d.nod = true → d.py.hasDict = false
  | .non, _ => rfl
  | .bl _, _ => rfl
  | .int _, _ => rfl
  | .str _, _ => rfl
  | .lst xs, h => by
    simp only [D.py, PyData.hasDict]
    exact pyL_hd xs h
  | .tup xs, h => by
    simp only [D.py, PyData.hasDict]
    exact pyL_hd xs h
  | .ins _ _, _ => rfl
  | .exn _ _, _ => rfl
  | .gl _, _ => rfl
  | .ty _, _ => rfl
  | .scr _, _ => rfl
theorem pyL_hd : ∀ xs : List D, nodL xs = true → PyData.hasDictAll (pyL xs) = false
  | [], _ => by simp [pyL, PyData.hasDictAll]
  | x :: r, h => by
    simp only [nodL, Bool.and_eq_true] at h
    simp only [pyL, PyData.hasDictAll, py_hd x h.1, pyL_hd r h.2, Bool.or_self]
end
mutual
theorem py_nl : ∀ d : D, d.nol = true → noL d.py = true
  | .non, _ => rfl
  | .bl _, _ => rfl
  | .int _, _ => rfl
  | .str _, _ => rfl
  | .tup xs, h => by
    simp only [D.py, noL]
    exact pyL_nl xs h
  | .dic es, h => by
    simp only [D.py, noL]
    exact pyK_nl es h
  | .ins _ _, _ => rfl
  | .exn _ _, _ => rfl
  | .gl _, _ => rfl
  | .ty _, _ => rfl
  | .scr _, _ => rfl
theorem pyL_nl : ∀ xs : List D, nolL xs = true → noLs (pyL xs) = true
  | [], _ => by simp [pyL, noLs]
  | x :: r, h => by
    simp only [nolL, Bool.and_eq_true] at h
    simp only [pyL, noLs, py_nl x h.1, pyL_nl r h.2, Bool.and_self]
theorem pyK_nl : ∀ xs : List (D × D), nolK xs = true → noLk (pyK xs) = true
  | [], _ => by simp [pyK, noLk]
  | (a, b) :: r, h => by
    simp only [nolK, Bool.and_eq_true] at h
    simp only [pyK, noLk, py_nl a h.1.1, py_nl b h.1.2, pyK_nl r h.2, Bool.and_self]
end
section
variable {K : PySem.W.Frag} {mg : Str → Option Value} {G : Hp}
mutual
theorem R.lay : ∀ {v : V} {d : D}, R K mg G v d → d.dat = true → d.nod = true → d.py.canLay0 = true
  | _, _, .non, _, _ => rfl
  | _, _, .bl b, _, _ => rfl
  | _, _, .int i, _, _ => rfl
  | _, _, .str x, _, h => h
  | _, _, .lst _ t, e, n => by
    simp only [D.py, PyData.canLay0]
    exact RL.lay t e n
  | _, _, .tup _ t, e, n => by
    simp only [D.py, PyData.canLay0]
    exact RL.lay t e n
  | _, _, .dic _ _, _, n => nomatch (show false = true from n)
  | _, _, .ins _ _ _, e, _ => nomatch (show false = true from e)
  | _, _, .exc0 _ _, e, _ => nomatch (show false = true from e)
  | _, _, .exc1 _ _ _ _, e, _ => nomatch (show false = true from e)
  | _, _, .gl _, e, _ => nomatch (show false = true from e)
  | _, _, .ty _, e, _ => nomatch (show false = true from e)
  | _, _, .scr _, e, _ => nomatch (show false = true from e)
theorem RL.lay : ∀ {vs : List V} {ds : List D}, RL K mg G vs ds → datL ds = true → nodL ds = true → PyData.canLayAll0 (pyL ds) = true
  | _, _, .nil, _, _ => by simp [pyL, PyData.canLayAll0]
  | _, _, .cons h t, e, n => by
    simp only [datL, Bool.and_eq_true] at e
    simp only [nodL, Bool.and_eq_true] at n
    simp only [pyL, PyData.canLayAll0, R.lay h e.1 n.1, RL.lay t e.2 n.2, Bool.and_self]
end
theorem ok_short {x : Str} (h : PyData.strOk x = true) : (x.cps.toList.all fun c => decide (c < 16 ^ 8)) = true := by
  rw [List.all_eq_true]
  intro c hc
  unfold PyData.strOk at h
  rw [Array.all_eq_true_iff_forall_mem] at h
  have := of_decide_eq_true (h c (by simpa using hc))
  exact decide_eq_true (Nat.lt_trans this (by decide))
mutual
theorem R.short : ∀ {v : V} {d : D}, R K mg G v d → d.si = true → d.py.leavesShort 64 = true
  | _, _, .non, _ => rfl
  | _, _, .bl b, _ => rfl
  | _, _, .int i, h => by
    have h' : i.natAbs < 10 ^ 60 := of_decide_eq_true h
    simp only [D.py, PyData.leavesShort, decide_eq_true_eq]
    show (Str.ofString (toString i)).length ≤ 64
    rw [ofS_len]
    exact Nat.le_trans (int_text_length_le10 (by decide) h') (by decide)
  | _, _, .str x, h => by
    simp only [D.py, PyData.leavesShort]
    exact ok_short h
  | _, _, .lst _ t, e => by
    simp only [D.py, PyData.leavesShort]
    exact RL.short t e
  | _, _, .tup _ t, e => by
    simp only [D.py, PyData.leavesShort]
    exact RL.short t e
  | _, _, .dic _ t, e => by
    simp only [D.py, PyData.leavesShort]
    exact RK.short t e
  | _, _, .ins _ _ _, e => nomatch (show false = true from e)
  | _, _, .exc0 _ _, e => nomatch (show false = true from e)
  | _, _, .exc1 _ _ _ _, e => nomatch (show false = true from e)
  | _, _, .gl _, e => nomatch (show false = true from e)
  | _, _, .ty _, e => nomatch (show false = true from e)
  | _, _, .scr _, e => nomatch (show false = true from e)
theorem RL.short : ∀ {vs : List V} {ds : List D}, RL K mg G vs ds → siL ds = true → PyData.leavesShortAll 64 (pyL ds) = true
  | _, _, .nil, _ => by simp [pyL, PyData.leavesShortAll]
  | _, _, .cons h t, e => by
    simp only [siL, Bool.and_eq_true] at e
    simp only [pyL, PyData.leavesShortAll, R.short h e.1, RL.short t e.2, Bool.and_self]
theorem RK.short : ∀ {kvs : List (Key × V)} {es : List (D × D)}, RK K mg G kvs es → siK es = true → PyData.leavesShortKv 64 (pyK es) = true
  | _, _, .nil, _ => by simp [pyK, PyData.leavesShortKv]
  | _, _, .cons h1 h2 t, e => by
    simp only [siK, Bool.and_eq_true] at e
    simp only [pyK, PyData.leavesShortKv, R.short h1 e.1.1, R.short h2 e.1.2, RK.short t e.2, Bool.and_self]
end
/-- can be compared -/
def D.eqo (d : D) : Bool := d.dat && d.nod && decide (d.dep ≤ 60)
/-- can be shown -/
def D.sho (d : D) : Bool := d.si && decide (d.dep ≤ 60) && decide (d.wt ≤ 250000) && (d.nod || d.nol)
theorem R.dp {v : V} {d : D} (h : R K mg G v d) (e : d.eqo = true) : Dp K G v d.py ∧ SeqAt.shaped d.py = true := by
  simp only [D.eqo, Bool.and_eq_true, decide_eq_true_eq] at e
  have l := h.lay e.1.1 e.1.2
  refine ⟨(h.da e.1.1).dp l, ?_⟩
  unfold SeqAt.shaped
  rw [l, decide_eq_true (Nat.le_trans (py_dep d) (by omega))]
  rfl
theorem R.sho {v : V} {d : D} (h : R K mg G v d) (e : d.sho = true) : Da K G v d.py ∧ Sho d.py := by
  simp only [D.sho, Bool.and_eq_true, decide_eq_true_eq, Bool.or_eq_true] at e
  obtain ⟨⟨⟨e1, e2⟩, e3⟩, e4⟩ := e
  refine ⟨h.da (si_dat d e1), py_sh d e1, Nat.le_trans (py_dep d) e2, ?_, fun z => ?_⟩
  · have h1 := PyData.shown_le 64 (by decide) d.py (h.short e1)
    have h2 := py_wt d e1
    rw [sizeLine_eq]
    omega
  · rcases e4 with e4 | e4
    · rw [py_hd d e4] at z
      cases z
    · exact py_nl d e4
end

/-! ### operators on data -/
abbrev G2 := D → D → Option D
def gAdd : G2
  | .int i, .int j => some (.int (i + j))
  | _, _ => none
def gSub : G2
  | .int i, .int j => some (.int (i - j))
  | _, _ => none
def gMul : G2
  | .int i, .int j => if i.natAbs < 2 ^ 60 ∨ j.natAbs < 2 ^ 60 then some (.int (i * j)) else none
  | _, _ => none
def gMod : G2
  | .int i, .int j => if 0 < j then some (.int (i % j)) else none
  | _, _ => none
def gDiv : G2
  | .int i, .int j => if 0 < j ∧ j < 1073741824 then some (.int (i / j)) else none
  | _, _ => none
def gPow : G2
  | .int i, .int j => if 0 ≤ j ∧ j ≤ 1000000 ∧ i.natAbs < 2 ^ 64 then some (.int (i ^ j.toNat)) else none
  | _, _ => none
def gAddS : G2
  | .str x, .str y => if x.length + y.length ≤ sizeLine then some (.str (x ++ y)) else none
  | _, _ => none
def gCatT : G2
  | .tup xs, .tup ys => if xs.length + ys.length ≤ sizeLine then some (.tup (xs ++ ys)) else none
  | _, _ => none
def gLt : G2
  | .int i, .int j => some (.bl (decide (i < j)))
  | _, _ => none
def gLe : G2
  | .int i, .int j => some (.bl (decide (i ≤ j)))
  | _, _ => none
def gGt : G2
  | .int i, .int j => some (.bl (decide (j < i)))
  | _, _ => none
def gGe : G2
  | .int i, .int j => some (.bl (decide (j ≤ i)))
  | _, _ => none
/-- == as data -/
def eqD (d e : D) : Bool := PyData.eqv d.py e.py
def memD (d : D) (xs : List D) : Bool := xs.any fun z => eqD z d
def gEq : G2 := fun d e => if d.eqo && e.eqo then some (.bl (eqD d e)) else none
def gNe : G2 := fun d e => if d.eqo && e.eqo then some (.bl (!eqD d e)) else none
def seqOf : D → Option (List D)
  | .lst xs => some xs
  | .tup xs => some xs
  | _ => none
def gIn : G2 := fun d e => match seqOf e with
  | some xs => if d.eqo && e.eqo then some (.bl (memD d xs)) else none
  | none => none
def gNin : G2 := fun d e => match seqOf e with
  | some xs => if d.eqo && e.eqo then some (.bl (!memD d xs)) else none
  | none => none
/-- x is None -/
def isN : D → Bool
  | .non => true
  | _ => false
def gIsN : G2 := fun d e => match e with
  | .non => some (.bl (isN d))
  | _ => none
def gNotN : G2 := fun d e => match e with
  | .non => some (.bl (!isN d))
  | _ => none
/-- == of scalars of one kind -/
def gEqS : G2
  | .str x, .str y => some (.bl (decide (x = y)))
  | .int i, .int j => some (.bl (decide (i = j)))
  | .bl a, .bl b => some (.bl (decide (a = b)))
  | _, _ => none
def gNeS : G2
  | .str x, .str y => some (.bl (!decide (x = y)))
  | .int i, .int j => some (.bl (!decide (i = j)))
  | .bl a, .bl b => some (.bl (!decide (a = b)))
  | _, _ => none
def gIsB : G2
  | .bl a, .bl b => some (.bl (decide (a = b)))
  | _, _ => none
def gNotB : G2
  | .bl a, .bl b => some (.bl (!decide (a = b)))
  | _, _ => none

section
variable (K : PySem.W.Frag) (mg : Str → Option Value)
/-- what r asks of the values, g tells; the result may be new -/
def OkA (r : R2) (g : G2) : Prop := ∀ {F H : Hp} {v w : V} {d e z : D} {Q : VK}, Same F H → Rp K mg F H v d → Rp K mg F H w e → g d e = some z →
  (∀ u H' F', Same H H' → Same F F' → Same F' H' → (∀ b, F' b ≠ none → F b ≠ none ∨ H b = none) → R K mg F' u z → Q u H') → r v w H Q
end
section
variable {K : PySem.W.Frag} {mg : Str → Option Value} {F H : Hp} {v w : V} {d e z : D} {Q : VK}
theorem Rp.int {i : Int} (h : Rp K mg F H v (.int i)) : v = .int i := by
  rcases h with h | ⟨a, _, _, h⟩
  · cases h
    rfl
  · exact h.elim
theorem Rp.bl {b : Bool} (h : Rp K mg F H v (.bl b)) : v = .bl b := by
  rcases h with h | ⟨a, _, _, h⟩
  · cases h
    rfl
  · exact h.elim
theorem Rp.str {x : Str} (h : Rp K mg F H v (.str x)) : v = .str x := by
  rcases h with h | ⟨a, _, _, h⟩
  · cases h
    rfl
  · exact h.elim
theorem Rp.non (h : Rp K mg F H v .non) : v = .non := by
  rcases h with h | ⟨a, _, _, h⟩
  · cases h
    rfl
  · exact h.elim
theorem Rp.tup {ds : List D} (h : Rp K mg F H v (.tup ds)) : ∃ a vs, v = .ref a ∧ SqT K F a vs ∧ RL K mg F vs ds := by
  rcases h with h | ⟨a, _, _, h⟩
  · cases h with
    | tup h1 h2 => exact ⟨_, _, rfl, h1, h2⟩
  · exact h.elim
theorem Rp.lst {ds : List D} (s : Same F H) (h : Rp K mg F H v (.lst ds)) : ∃ a vs, v = .ref a ∧ H a = some (.lst vs) ∧ RL K mg F vs ds := by
  rcases h with h | ⟨a, rfl, _, vs, h1, h2⟩
  · cases h with
    | lst h1 h2 => exact ⟨_, _, rfl, s _ _ h1, h2⟩
  · exact ⟨a, vs, rfl, h1, h2⟩
theorem sqT_same {a : Addr} {vs : List V} (s : Same F H) (h : SqT K F a vs) : SqT K H a vs := same_seqT s h
/-- a result that is no new object -/
theorem okQ (s : Same F H) (q : ∀ u H' F', Same H H' → Same F F' → Same F' H' → (∀ b, F' b ≠ none → F b ≠ none ∨ H b = none) → R K mg F' u z → Q u H') {u : V} (r : R K mg F u z) : Q u H :=
  q u H F (Same.refl _) (Same.refl _) s (fun b h => .inl h) r
/-- a new one at p -/
theorem okN (s : Same F H) (q : ∀ u H' F', Same H H' → Same F F' → Same F' H' → (∀ b, F' b ≠ none → F b ≠ none ∨ H b = none) → R K mg F' u z → Q u H') {p : Addr} {o : HO} (n : H p = none)
    (r : R K mg (upd F p o) (.ref p) z) : Q (.ref p) (upd H p o) :=
  q _ _ (upd F p o) (same_new n) (same_new (s.free n)) (same_grow s n) (fun b h => by
    by_cases e : b = p
    · rw [e]
      exact .inr n
    · rw [upd_ne e] at h
      exact .inl h) r
end
section
variable {K : PySem.W.Frag} {mg : Str → Option Value}
/-- both are ints -/
theorem ok_ii {C : Int → Int → Prop} {gv : Int → Int → V} {g : G2} {gd : Int → Int → D} (h : ∀ d e z, g d e = some z → ∃ i j, d = .int i ∧ e = .int j ∧ C i j ∧ z = gd i j) (r : ∀ i j F, R K mg F (gv i j) (gd i j)) : OkA K mg (rI C gv) g := by
  intro F H v w d e z Q s hv hw hg q
  obtain ⟨i, j, rfl, rfl, hc, rfl⟩ := h d e z hg
  cases hv.int
  cases hw.int
  exact ⟨i, j, rfl, rfl, hc, okQ s q (r i j F)⟩
theorem ok_ii0 {gv : Int → Int → V} {g : G2} {gd : Int → Int → D} (h : ∀ d e z, g d e = some z → ∃ i j, d = .int i ∧ e = .int j ∧ z = gd i j) (r : ∀ i j F, R K mg F (gv i j) (gd i j)) : OkA K mg (rI0 gv) g := by
  intro F H v w d e z Q s hv hw hg q
  obtain ⟨i, j, rfl, rfl, rfl⟩ := h d e z hg
  cases hv.int
  cases hw.int
  exact ⟨i, j, rfl, rfl, okQ s q (r i j F)⟩
theorem ok_add : OkA K mg (rI0 fun i j => V.int (i + j)) gAdd := ok_ii0 (gd := fun i j => .int (i + j)) (fun d e z h => by
  cases d <;> cases e <;> simp only [gAdd, Option.some.injEq] at h <;> first | (cases h; done) | exact ⟨_, _, rfl, rfl, h.symm⟩) fun _ _ _ => .int _
theorem ok_sub : OkA K mg (rI0 fun i j => V.int (i - j)) gSub := ok_ii0 (gd := fun i j => .int (i - j)) (fun d e z h => by
  cases d <;> cases e <;> simp only [gSub, Option.some.injEq] at h <;> first | (cases h; done) | exact ⟨_, _, rfl, rfl, h.symm⟩) fun _ _ _ => .int _
theorem ok_lt : OkA K mg (rI0 fun i j => V.bl (decide (i < j))) gLt := ok_ii0 (gd := fun i j => .bl (decide (i < j))) (fun d e z h => by
  cases d <;> cases e <;> simp only [gLt, Option.some.injEq] at h <;> first | (cases h; done) | exact ⟨_, _, rfl, rfl, h.symm⟩) fun _ _ _ => .bl _
theorem ok_le : OkA K mg (rI0 fun i j => V.bl (decide (i ≤ j))) gLe := ok_ii0 (gd := fun i j => .bl (decide (i ≤ j))) (fun d e z h => by
  cases d <;> cases e <;> simp only [gLe, Option.some.injEq] at h <;> first | (cases h; done) | exact ⟨_, _, rfl, rfl, h.symm⟩) fun _ _ _ => .bl _
theorem ok_gt : OkA K mg (rI0 fun i j => V.bl (decide (j < i))) gGt := ok_ii0 (gd := fun i j => .bl (decide (j < i))) (fun d e z h => by
  cases d <;> cases e <;> simp only [gGt, Option.some.injEq] at h <;> first | (cases h; done) | exact ⟨_, _, rfl, rfl, h.symm⟩) fun _ _ _ => .bl _
theorem ok_ge : OkA K mg (rI0 fun i j => V.bl (decide (j ≤ i))) gGe := ok_ii0 (gd := fun i j => .bl (decide (j ≤ i))) (fun d e z h => by
  cases d <;> cases e <;> simp only [gGe, Option.some.injEq] at h <;> first | (cases h; done) | exact ⟨_, _, rfl, rfl, h.symm⟩) fun _ _ _ => .bl _
theorem ok_mul : OkA K mg (rI CMul fun i j => V.int (i * j)) gMul := ok_ii (gd := fun i j => .int (i * j)) (fun d e z h => by
  cases d <;> cases e <;> simp only [gMul] at h <;> try (cases h; done)
  rename_i i j
  by_cases c : i.natAbs < 2 ^ 60 ∨ j.natAbs < 2 ^ 60
  · rw [if_pos c] at h
    exact ⟨_, _, rfl, rfl, c.imp (fun c => ⟨by omega, by omega⟩) (fun c => ⟨by omega, by omega⟩), (Option.some.inj h).symm⟩
  · rw [if_neg c] at h
    cases h) fun _ _ _ => .int _
theorem ok_mod : OkA K mg (rI (fun _ j => 0 < j) fun i j => V.int (i % j)) gMod := ok_ii (gd := fun i j => .int (i % j)) (fun d e z h => by
  cases d <;> cases e <;> simp only [gMod] at h <;> try (cases h; done)
  rename_i i j
  by_cases c : 0 < j
  · rw [if_pos c] at h
    exact ⟨_, _, rfl, rfl, c, (Option.some.inj h).symm⟩
  · rw [if_neg c] at h
    cases h) fun _ _ _ => .int _
theorem ok_div : OkA K mg (rI CDiv fun i j => V.int (i / j)) gDiv := ok_ii (gd := fun i j => .int (i / j)) (fun d e z h => by
  cases d <;> cases e <;> simp only [gDiv] at h <;> try (cases h; done)
  rename_i i j
  by_cases c : 0 < j ∧ j < 1073741824
  · rw [if_pos c] at h
    exact ⟨_, _, rfl, rfl, c, (Option.some.inj h).symm⟩
  · rw [if_neg c] at h
    cases h) fun _ _ _ => .int _
theorem ok_pow : OkA K mg (rI CPow fun i j => V.int (i ^ j.toNat)) gPow := ok_ii (gd := fun i j => .int (i ^ j.toNat)) (fun d e z h => by
  cases d <;> cases e <;> simp only [gPow] at h <;> try (cases h; done)
  rename_i i j
  by_cases c : 0 ≤ j ∧ j ≤ 1000000 ∧ i.natAbs < 2 ^ 64
  · rw [if_pos c] at h
    exact ⟨_, _, rfl, rfl, c, (Option.some.inj h).symm⟩
  · rw [if_neg c] at h
    cases h) fun _ _ _ => .int _
theorem ok_eq : OkA K mg (rEqD K) gEq := by
  intro F H v w d e z Q s hv hw hg q
  unfold gEq at hg
  cases c : d.eqo && e.eqo with
  | false =>
    rw [c] at hg
    cases hg
  | true =>
    rw [c] at hg
    cases hg
    rw [Bool.and_eq_true] at c
    obtain ⟨a1, a2⟩ := (hv.r s).dp c.1
    obtain ⟨b1, b2⟩ := (hw.r s).dp c.2
    exact ⟨_, _, a1, b1, a2, b2, okQ s q (.bl _)⟩
theorem ok_ne : OkA K mg (rNeD K) gNe := by
  intro F H v w d e z Q s hv hw hg q
  unfold gNe at hg
  cases c : d.eqo && e.eqo with
  | false =>
    rw [c] at hg
    cases hg
  | true =>
    rw [c] at hg
    cases hg
    rw [Bool.and_eq_true] at c
    obtain ⟨a1, a2⟩ := (hv.r s).dp c.1
    obtain ⟨b1, b2⟩ := (hw.r s).dp c.2
    exact ⟨_, _, a1, b1, a2, b2, okQ s q (.bl _)⟩
theorem dS {x y : Str} : decide (V.str x = V.str y) = decide (x = y) := by
  by_cases e : x = y
  · rw [e, decide_eq_true rfl, decide_eq_true rfl]
  · rw [decide_eq_false e, decide_eq_false (fun z => e (V.str.inj z))]
theorem dI {x y : Int} : decide (V.int x = V.int y) = decide (x = y) := by
  by_cases e : x = y
  · rw [e, decide_eq_true rfl, decide_eq_true rfl]
  · rw [decide_eq_false e, decide_eq_false (fun z => e (V.int.inj z))]
theorem dB {x y : Bool} : decide (V.bl x = V.bl y) = decide (x = y) := by
  by_cases e : x = y
  · rw [e, decide_eq_true rfl, decide_eq_true rfl]
  · rw [decide_eq_false e, decide_eq_false (fun z => e (V.bl.inj z))]
theorem ok_eqS : OkA K mg rEq gEqS := by
  intro F H v w d e z Q s hv hw hg q
  cases d <;> cases e <;> simp only [gEqS] at hg <;> try (cases hg; done)
  all_goals cases hg
  · rw [hv.bl, hw.bl]
    exact ⟨rfl, by rw [dB]; exact okQ s q (.bl _)⟩
  · rw [hv.int, hw.int]
    exact ⟨rfl, by rw [dI]; exact okQ s q (.bl _)⟩
  · rw [hv.str, hw.str]
    exact ⟨rfl, by rw [dS]; exact okQ s q (.bl _)⟩
theorem ok_neS : OkA K mg rNe gNeS := by
  intro F H v w d e z Q s hv hw hg q
  cases d <;> cases e <;> simp only [gNeS] at hg <;> try (cases hg; done)
  all_goals cases hg
  · rw [hv.bl, hw.bl]
    exact ⟨rfl, by rw [dB]; exact okQ s q (.bl _)⟩
  · rw [hv.int, hw.int]
    exact ⟨rfl, by rw [dI]; exact okQ s q (.bl _)⟩
  · rw [hv.str, hw.str]
    exact ⟨rfl, by rw [dS]; exact okQ s q (.bl _)⟩
theorem ok_isN : OkA K mg (fun x y H Q => y = .non ∧ Q (.bl (decide (x = .non))) H) gIsN := by
  intro F H v w d e z Q s hv hw hg q
  cases e <;> simp only [gIsN] at hg <;> try (cases hg; done)
  cases hg
  refine ⟨hw.non, ?_⟩
  have : decide (v = V.non) = isN d := by
    rcases hv with h | ⟨a, rfl, _, h⟩
    · cases h <;> rfl
    · cases d <;> first | rfl | exact h.elim
  rw [this]
  exact okQ s q (.bl _)
theorem ok_notN : OkA K mg (fun x y H Q => y = .non ∧ Q (.bl (!decide (x = .non))) H) gNotN := by
  intro F H v w d e z Q s hv hw hg q
  cases e <;> simp only [gNotN] at hg <;> try (cases hg; done)
  cases hg
  refine ⟨hw.non, ?_⟩
  have : decide (v = V.non) = isN d := by
    rcases hv with h | ⟨a, rfl, _, h⟩
    · cases h <;> rfl
    · cases d <;> first | rfl | exact h.elim
  rw [this]
  exact okQ s q (.bl _)
theorem ok_isB : OkA K mg rIsB gIsB := by
  intro F H v w d e z Q s hv hw hg q
  cases d <;> cases e <;> simp only [gIsB] at hg <;> try (cases hg; done)
  cases hg
  exact ⟨_, _, hv.bl, hw.bl, okQ s q (.bl _)⟩
theorem ok_notB : OkA K mg rNotB gNotB := by
  intro F H v w d e z Q s hv hw hg q
  cases d <;> cases e <;> simp only [gNotB] at hg <;> try (cases hg; done)
  cases hg
  exact ⟨_, _, hv.bl, hw.bl, okQ s q (.bl _)⟩
theorem ok_addS : OkA K mg (fun x y H Q => ∃ i j, x = .str i ∧ y = .str j ∧ i.length + j.length ≤ sizeLine ∧ Q (.str (i ++ j)) H) gAddS := by
  intro F H v w d e z Q s hv hw hg q
  cases d <;> cases e <;> simp only [gAddS] at hg <;> try (cases hg; done)
  rename_i x y
  by_cases c : x.length + y.length ≤ sizeLine
  · rw [if_pos c] at hg
    cases hg
    exact ⟨x, y, hv.str, hw.str, c, okQ s q (.str _)⟩
  · rw [if_neg c] at hg
    cases hg
/-- t + u -/
def rCatW' (K : PySem.W.Frag) : R2 := fun x y H Q => ∃ a b xs ys, x = .ref a ∧ y = .ref b ∧ SqT K H a xs ∧ SqT K H b ys ∧ xs.length + ys.length ≤ sizeLine ∧
  (xs = [] → Q (.ref b) H) ∧ (xs ≠ [] → ys = [] → Q (.ref a) H) ∧ (xs ≠ [] → ys ≠ [] → ∀ p, H p = none → Q (.ref p) (upd H p (.tup (xs ++ ys))))
theorem ok_catT : OkA K mg (rCatW' K) gCatT := by
  intro F H v w d e z Q s hv hw hg q
  cases d <;> cases e <;> simp only [gCatT] at hg <;> try (cases hg; done)
  rename_i x y
  by_cases c : x.length + y.length ≤ sizeLine
  · rw [if_pos c] at hg
    cases hg
    obtain ⟨a, vs, rfl, h1, h2⟩ := hv.tup
    obtain ⟨b, ws, rfl, h3, h4⟩ := hw.tup
    refine ⟨a, b, vs, ws, rfl, rfl, same_seqT s h1, same_seqT s h3, by rw [h2.length, h4.length]; exact c, fun z => ?_, fun _ z => ?_, fun _ _ p np => ?_⟩
    · refine okQ s q (.tup h3 ?_)
      have := h2.append h4
      rw [z] at this
      exact this
    · refine okQ s q (.tup h1 ?_)
      have := h2.append h4
      rw [z, List.append_nil] at this
      exact this
    · exact okN s q np (.tup (.inl (.inl upd_same)) ((h2.append h4).mono (same_new (s.free np))))
  · rw [if_neg c] at hg
    cases hg
theorem op_catT' {X : Cx} : OpR X (binaryOp .Add) (rCatW' X.K) := fun pins s σ H x y v u Q I rx ry h => by
  obtain ⟨a, b, xs, ys, e1, e2, ha, hb, hz, q1, q2, q3⟩ := h
  exact op_catA pins s σ H x y v u Q I rx ry ⟨a, b, xs, ys, e1, e2, ha, hb, hz, q1, q2, q3⟩
/-- in -/
def rInQ (K : PySem.W.Frag) (neg : Bool) : R2 := fun x y H Q => ∃ d ds, Dp K H x d ∧ (Dp K H y (.list ds) ∨ Dp K H y (.tuple ds)) ∧ SeqAt.shaped d = true ∧ SeqAt.shaped (.list ds) = true ∧ Q (.bl (if neg then !(ds.any fun z => PyData.eqv z d) else ds.any fun z => PyData.eqv z d)) H
theorem op_inQ {X : Cx} (hu : X.A.units + 64 < cLine) : OpR X (compareOp .In) (rInQ X.K false) := by
  intro pins s σ H x y v u Q I rx ry h
  obtain ⟨d, ds, hd, he, sd, se, q⟩ := h
  obtain ⟨as, r1⟩ := Dp.reads I d x v hd rx
  have dsl := SeqAt.canLay_of_shaped se
  have room : X.A.units + 1 + min (PyData.depthAll ds) d.depth < cLine := by
    have := SeqAt.depth_of_shaped se
    simp only [PyData.depth] at this
    omega
  rcases he with he | he
  · obtain ⟨bs, r2⟩ := Dp.reads I (.list ds) y u he ry
    exact SeqAt.in_list_reads r2 r1 (by simpa only [PyData.canLay0] using dsl) (SeqAt.canLay_of_shaped sd) room ⟨.bl _, H, I, rfl, q⟩
  · obtain ⟨bs, r2⟩ := Dp.reads I (.tuple ds) y u he ry
    exact SeqAt.in_tuple_reads r2 r1 (by simpa only [PyData.canLay0] using dsl) (SeqAt.canLay_of_shaped sd) room ⟨.bl _, H, I, rfl, q⟩
theorem op_ninQ {X : Cx} (hu : X.A.units + 64 < cLine) : OpR X (compareOp .NotIn) (rInQ X.K true) := by
  intro pins s σ H x y v u Q I rx ry h
  obtain ⟨d, ds, hd, he, sd, se, q⟩ := h
  obtain ⟨as, r1⟩ := Dp.reads I d x v hd rx
  have dsl := SeqAt.canLay_of_shaped se
  have room : X.A.units + 1 + min (PyData.depthAll ds) d.depth < cLine := by
    have := SeqAt.depth_of_shaped se
    simp only [PyData.depth] at this
    omega
  rcases he with he | he
  · obtain ⟨bs, r2⟩ := Dp.reads I (.list ds) y u he ry
    exact SeqAt.notIn_list_reads r2 r1 (by simpa only [PyData.canLay0] using dsl) (SeqAt.canLay_of_shaped sd) room ⟨.bl _, H, I, rfl, q⟩
  · obtain ⟨bs, r2⟩ := Dp.reads I (.tuple ds) y u he ry
    exact SeqAt.notIn_tuple_reads r2 r1 (by simpa only [PyData.canLay0] using dsl) (SeqAt.canLay_of_shaped sd) room ⟨.bl _, H, I, rfl, q⟩
theorem any_py (d : D) : ∀ xs : List D, ((pyL xs).any fun z => PyData.eqv z d.py) = memD d xs
  | [] => rfl
  | x :: r => by
    have ih := any_py d r
    simp only [pyL, memD, List.any_cons] at ih ⊢
    rw [ih]
    rfl
theorem in_core {F H : Hp} {v w : V} {d e : D} {xs : List D} (s : Same F H) (hv : Rp K mg F H v d) (hw : Rp K mg F H w e) (hs : seqOf e = some xs) (c : (d.eqo && e.eqo) = true) :
    Dp K H v d.py ∧ (Dp K H w (.list (pyL xs)) ∨ Dp K H w (.tuple (pyL xs))) ∧ SeqAt.shaped d.py = true ∧ SeqAt.shaped (.list (pyL xs)) = true := by
  rw [Bool.and_eq_true] at c
  obtain ⟨a1, a2⟩ := (hv.r s).dp c.1
  obtain ⟨b1, b2⟩ := (hw.r s).dp c.2
  cases e <;> simp only [seqOf] at hs <;> try (cases hs; done)
  · cases hs
    exact ⟨a1, .inl b1, a2, b2⟩
  · cases hs
    exact ⟨a1, .inr b1, a2, b2⟩
theorem ok_in : OkA K mg (rInQ K false) gIn := by
  intro F H v w d e z Q s hv hw hg q
  unfold gIn at hg
  cases hs : seqOf e with
  | none =>
    rw [hs] at hg
    cases hg
  | some xs =>
    simp only [hs] at hg
    cases c : d.eqo && e.eqo with
    | false =>
      rw [c] at hg
      cases hg
    | true =>
      rw [c] at hg
      cases hg
      obtain ⟨a1, a2, a3, a4⟩ := in_core s hv hw hs c
      refine ⟨_, _, a1, a2, a3, a4, ?_⟩
      rw [any_py]
      exact okQ s q (.bl _)
theorem ok_nin : OkA K mg (rInQ K true) gNin := by
  intro F H v w d e z Q s hv hw hg q
  unfold gNin at hg
  cases hs : seqOf e with
  | none =>
    rw [hs] at hg
    cases hg
  | some xs =>
    simp only [hs] at hg
    cases c : d.eqo && e.eqo with
    | false =>
      rw [c] at hg
      cases hg
    | true =>
      rw [c] at hg
      cases hg
      obtain ⟨a1, a2, a3, a4⟩ := in_core s hv hw hs c
      refine ⟨_, _, a1, a2, a3, a4, ?_⟩
      rw [any_py]
      exact okQ s q (.bl _)
end
end PV
namespace PV
open PySem PySem.Spec PyProof.Rows L2 VK

def op2 (g : G2) (x y : AV) (ρ : En) : Res AV := match der x ρ, der y ρ with
  | some d, some e => match g d e with
    | some z => .val (.d z) ρ
    | none => .bad
  | _, _ => .bad
def eOp (g : G2) (fa fb : M AV) : M AV := fun ρ => (fa ρ).bind fun x ρ1 => (fb ρ1).bind fun y ρ2 => op2 g x y ρ2
def op1 (g : D → Option D) (x : AV) (ρ : En) : Res AV := match der x ρ with
  | some d => match g d with
    | some z => .val (.d z) ρ
    | none => .bad
  | none => .bad
def eUn (g : D → Option D) (fa : M AV) : M AV := fun ρ => (fa ρ).bind fun x ρ1 => op1 g x ρ1
/-- as a bool -/
def tb (x : AV) (ρ : En) : Res Bool := match der x ρ with
  | some (.bl b) => .val b ρ
  | _ => .bad
def M.tb (f : M AV) : M Bool := fun ρ => (f ρ).bind fun x ρ1 => PV.tb x ρ1
def truD : D → Option Bool
  | .non => some false
  | .bl b => some b
  | .int i => some (i != 0)
  | .str z => if z.length ≤ sizeLine then some ((z.length : Int) != 0) else none
  | .lst xs => some !xs.isEmpty
  | .tup xs => some !xs.isEmpty
  | .dic es => some !es.isEmpty
  | _ => none
def tru (x : AV) (ρ : En) : Res Bool := match der x ρ with
  | some d => match truD d with
    | some b => .val b ρ
    | none => .bad
  | none => .bad
def M.tru (f : M AV) : M Bool := fun ρ => (f ρ).bind fun x ρ1 => PV.tru x ρ1
def bAnd (f g : M Bool) : M Bool := fun ρ => (f ρ).bind fun b ρ1 => if b = true then g ρ1 else .val false ρ1
def bOr (f g : M Bool) : M Bool := fun ρ => (f ρ).bind fun b ρ1 => if b = true then .val true ρ1 else g ρ1
def bNot (f : M Bool) : M Bool := fun ρ => (f ρ).bind fun b ρ1 => .val (!b) ρ1
def eAnd (f g : M AV) : M AV := fun ρ => (f.tb ρ).bind fun b ρ1 => if b = true then g ρ1 else .val (.d (.bl false)) ρ1
def eOr (f g : M AV) : M AV := fun ρ => (f.tb ρ).bind fun b ρ1 => if b = true then .val (.d (.bl true)) ρ1 else g ρ1
def eNot (f : M AV) : M AV := fun ρ => (f.tb ρ).bind fun b ρ1 => .val (.d (.bl !b)) ρ1
def eIf (c : M Bool) (f g : M AV) : M AV := fun ρ => (c ρ).bind fun b ρ1 => if b = true then f ρ1 else g ρ1
/-- a op b op c -/
def eChain (g h : G2) (fa fb fc : M AV) : M AV := fun ρ => (fa ρ).bind fun x ρ1 => (fb ρ1).bind fun y ρ2 => (op2 g x y ρ2).bind fun z ρ3 => (PV.tb z ρ3).bind fun b ρ4 =>
  if b = true then (fc ρ4).bind fun w ρ5 => op2 h y w ρ5 else .val (.d (.bl false)) ρ4

section
variable {X : Cx} {Z : Zone} {W : WX} {a b c e : Expr} {es : List Expr} {fa fb fc : M AV}
theorem op2_ok {K : PySem.W.Frag} {mg : Str → Option Value} {σ : L2.St} {H F : Hp} {ρ : En} {g : G2} {r : R2} (ok : OkA K mg r g) {x y : AV} {v w : V} {Q : VK} (rel : Rel K mg Z σ H ρ F) (hv : AR K mg F σ v x) (hw : AR K mg F σ w y)
    (q : Post K mg Z W σ H ρ F (op2 g x y ρ) fun x H' _ F' => ∀ v, AR K mg F' σ v x → Q v H') : r v w H Q := by
  unfold op2 at q
  cases hx : der x ρ with
  | none =>
    simp only [hx] at q
    exact q.elim
  | some d =>
    cases hy : der y ρ with
    | none =>
      simp only [hx, hy] at q
      exact q.elim
    | some e =>
      simp only [hx, hy] at q
      cases hg : g d e with
      | none =>
        simp only [hg] at q
        exact q.elim
      | some z =>
        simp only [hg] at q
        exact ok rel.same (der_ok rel hv hx) (der_ok rel hw hy) hg fun u H' F' s1 s2 s3 n r => q H' F' (.more rel s1 s2 s3 n) u r
theorem op_le {g : G2} {r : R2} (ok : OkA X.K X.mg r g) (σ : L2.St) (H : Hp) (Q : VK) (h : tE X.K X.mg Z W (eOp g fa fb) σ H Q) : tOp r (tE X.K X.mg Z W fa) (tE X.K X.mg Z W fb) σ H Q := by
  obtain ⟨ρ, F, rel, q⟩ := h
  exact ⟨ρ, F, rel, (Post.bind q).imp fun x H1 ρ1 F1 g1 q1 v hv => ⟨ρ1, F1, g1.rel, (Post.bind q1).imp fun y H2 ρ2 F2 g2 q2 w hw => op2_ok ok g2.rel (hv.go g2.fr) hw q2⟩⟩
theorem ev_op {op : Operator} {pos : Pos} {g : G2} {r : R2} (ho : OpR X (binaryOp op) r) (ok : OkA X.K X.mg r g) (ha : PV X Z W a fa) (hb : PV X Z W b fb) : PV X Z W (.BinOp a op b pos) (eOp g fa fb) := PE.weak (pe_op ho ha hb) (op_le ok)
theorem ev_cmp {op : CmpOp} {pos : Pos} {g : G2} {r : R2} (ho : OpR X (compareOp op) r) (ok : OkA X.K X.mg r g) (ha : PV X Z W a fa) (hb : PV X Z W b fb) (hm : behindInMarks op b = false) : PV X Z W (.Compare a [op] [b] pos) (eOp g fa fb) :=
  PE.weak (pe_cmpR ho ha hb hm) (op_le ok)
theorem tb_ok {K : PySem.W.Frag} {mg : Str → Option Value} {σ : L2.St} {H F : Hp} {ρ : En} {x : AV} {v : V} {Q : Bool → Hp → Prop} (rel : Rel K mg Z σ H ρ F) (hv : AR K mg F σ v x)
    (q : Post K mg Z W σ H ρ F (PV.tb x ρ) fun b H' _ F' => Q b H') : ∃ k, v = .bl k ∧ Q k H := by
  unfold PV.tb at q
  cases hx : der x ρ with
  | none =>
    simp only [hx] at q
    exact q.elim
  | some d =>
    cases d <;> simp only [hx] at q <;> first | exact q.elim | skip
    exact ⟨_, (der_ok rel hv hx).bl, q.val_ rel⟩
theorem tb_le {f : M AV} {t : TE} (h : ∀ σ H Q, tE X.K X.mg Z W f σ H Q → t σ H Q) (σ : L2.St) (H : Hp) (Q : Bool → Hp → Prop) (hq : tT X.K X.mg Z W f.tb σ H Q) : t σ H fun x H' => ∃ k, x = .bl k ∧ Q k H' := by
  obtain ⟨ρ, F, rel, q⟩ := hq
  exact h _ _ _ ⟨ρ, F, rel, (Post.bind q).imp fun x H1 ρ1 F1 g1 q1 v hv => tb_ok g1.rel hv q1⟩
theorem et_cmp {op : CmpOp} {pos : Pos} {g : G2} {r : R2} (ho : OpR X (compareOp op) r) (ok : OkA X.K X.mg r g) (ha : PV X Z W a fa) (hb : PV X Z W b fb) (hm : behindInMarks op b = false) : PB X Z W (.Compare a [op] [b] pos) (eOp g fa fb).tb :=
  PT.weak (pt_cmpR ho ha hb hm) (tb_le (op_le ok))
theorem et_val {f : M AV} (h : PV X Z W e f) (he : ∀ whole, isTrue e X.env whole = (do let v ← whole; standAt e.pos; holding [v] (truthy v)) := by intro _; rfl) : PB X Z W e f.tb :=
  PT.weak (pt_val h he) (tb_le fun _ _ _ h => h)
theorem tru_of {K : PySem.W.Frag} {mg : Str → Option Value} {H F : Hp} {v : V} {d : D} {k : Bool} (s : Same F H) (h : Rp K mg F H v d) (q : truD d = some k) : TruV K v H k := by
  cases d with
  | non =>
    rw [h.non]
    exact (Option.some.inj q).symm
  | bl b =>
    rw [h.bl]
    exact (Option.some.inj q).symm
  | int i =>
    rw [h.int]
    exact (Option.some.inj q).symm
  | str z =>
    rw [h.str]
    simp only [truD] at q
    by_cases c : z.length ≤ sizeLine
    · rw [if_pos c] at q
      exact ⟨c, (Option.some.inj q).symm⟩
    · rw [if_neg c] at q
      cases q
  | lst xs =>
    obtain ⟨a, vs, rfl, h1, h2⟩ := h.lst s
    refine .inl ⟨vs, .inl (.inl h1), ?_⟩
    rw [← Option.some.inj q]
    cases h2 <;> rfl
  | tup xs =>
    obtain ⟨a, vs, rfl, h1, h2⟩ := h.tup
    refine .inr (.inl ⟨vs, same_seqT s h1, ?_⟩)
    rw [← Option.some.inj q]
    cases h2 <;> rfl
  | dic es =>
    rcases h with h | ⟨a, rfl, _, kvs, h1, h2⟩
    · cases h with
      | dic h1 h2 =>
        refine .inr (.inr ⟨_, s _ _ h1, ?_⟩)
        rw [← Option.some.inj q]
        cases h2 <;> rfl
    · refine .inr (.inr ⟨_, h1, ?_⟩)
      rw [← Option.some.inj q]
      cases h2 <;> rfl
  | _ => exact nomatch q
theorem et_tru {f : M AV} (h : PV X Z W e f) (he : ∀ whole, isTrue e X.env whole = (do let v ← whole; standAt e.pos; holding [v] (truthy v)) := by intro _; rfl) : PB X Z W e f.tru := by
  refine PT.weak (pt_truth h he) fun σ H Q ⟨ρ, F, rel, q⟩ => ⟨ρ, F, rel, (Post.bind q).imp fun x H1 ρ1 F1 g1 q1 v hv => ?_⟩
  unfold PV.tru at q1
  cases hx : der x ρ1 with
  | none =>
    simp only [hx] at q1
    exact q1.elim
  | some d =>
    simp only [hx] at q1
    cases hd : truD d with
    | none =>
      simp only [hd] at q1
      exact q1.elim
    | some k =>
      simp only [hd] at q1
      exact ⟨k, tru_of g1.rel.same (der_ok g1.rel hv hx) hd, q1.val_ g1.rel⟩
theorem et_not {pos : Pos} {f : M Bool} (h : PB X Z W a f) : PB X Z W (.UnaryOp .Not a pos) (bNot f) :=
  PT.weak (pt_not h) fun σ H Q ⟨ρ, F, rel, q⟩ => ⟨ρ, F, rel, (Post.bind q).imp fun b H1 ρ1 F1 g1 q1 => q1.val_ g1.rel⟩
/-- tests in a row -/
abbrev PBW (X : Cx) (Z : Zone) (W : WX) (e : Expr) (f : M Bool) : Prop := PW X e (tT X.K X.mg Z W f)
theorem ew_and1 {pos : Pos} {f : M Bool} (h : PB X Z W a f) : PBW X Z W (.BoolOp .And [a] pos) f := pw_and1 h
theorem ew_or1 {pos : Pos} {f : M Bool} (h : PB X Z W a f) : PBW X Z W (.BoolOp .Or [a] pos) f := pw_or1 h
theorem ite_post {K : PySem.W.Frag} {mg : Str → Option Value} {α : Type} {σ : L2.St} {H F : Hp} {ρ : En} {b : Bool} {r s : Res α} {Q : α → Hp → En → Hp → Prop} (h : Post K mg Z W σ H ρ F (if b = true then r else s) Q) :
    if b = true then Post K mg Z W σ H ρ F r Q else Post K mg Z W σ H ρ F s Q := by
  cases b with
  | true => exact h
  | false => exact h
theorem ew_and {pos : Pos} {rest : List Expr} {f g : M Bool} (h : PB X Z W a f) (t : PBW X Z W (.BoolOp .And (b :: rest) pos) g) : PBW X Z W (.BoolOp .And (a :: b :: rest) pos) (bAnd f g) := by
  refine PW.weak (pw_and h t) fun σ H Q ⟨ρ, F, rel, q⟩ => ⟨ρ, F, rel, (Post.bind q).imp fun b H1 ρ1 F1 g1 q1 => ?_⟩
  cases b with
  | true => exact ⟨ρ1, F1, g1.rel, q1⟩
  | false => exact q1.val_ g1.rel
theorem ew_or {pos : Pos} {rest : List Expr} {f g : M Bool} (h : PB X Z W a f) (t : PBW X Z W (.BoolOp .Or (b :: rest) pos) g) : PBW X Z W (.BoolOp .Or (a :: b :: rest) pos) (bOr f g) := by
  refine PW.weak (pw_or h t) fun σ H Q ⟨ρ, F, rel, q⟩ => ⟨ρ, F, rel, (Post.bind q).imp fun b H1 ρ1 F1 g1 q1 => ?_⟩
  cases b with
  | true => exact q1.val_ g1.rel
  | false => exact ⟨ρ1, F1, g1.rel, q1⟩
theorem et_w {f : M Bool} (h : PBW X Z W e f) : PB X Z W e f := PW.pt h
/-- .. as values -/
theorem tb_post {K : PySem.W.Frag} {mg : Str → Option Value} {σ : L2.St} {H F : Hp} {ρ : En} {f : M AV} {Q : Bool → Hp → En → Hp → Prop} (h : Post K mg Z W σ H ρ F (f.tb ρ) Q) :
    Post K mg Z W σ H ρ F (f ρ) fun x H' ρ' F' => ∀ v, AR K mg F' σ v x → ∃ k, v = .bl k ∧ Q k H' ρ' F' := by
  refine (Post.bind h).imp fun x H1 ρ1 F1 g q v hv => ?_
  unfold PV.tb at q
  cases hx : der x ρ1 with
  | none =>
    simp only [hx] at q
    exact q.elim
  | some d =>
    cases d <;> simp only [hx] at q <;> first | exact q.elim | skip
    exact ⟨_, (der_ok g.rel hv hx).bl, q.val_ g.rel⟩
theorem ev_one {op : BoolOp} {pos : Pos} {f : M AV} (h : PV X Z W a f) : PV X Z W (.BoolOp op [a] pos) f := pe_one h
theorem ev_and {pos : Pos} {rest : List Expr} {f g : M AV} (h : PV X Z W a f) (t : PV X Z W (.BoolOp .And (b :: rest) pos) g) : PV X Z W (.BoolOp .And (a :: b :: rest) pos) (eAnd f g) := by
  refine PE.weak (pe_and h t) fun σ H Q ⟨ρ, F, rel, q⟩ => ⟨ρ, F, rel, (tb_post (Post.bind q)).imp fun x H1 ρ1 F1 g1 q1 v hv => ?_⟩
  obtain ⟨k, e, q2⟩ := q1 v hv
  refine ⟨k, e, ?_⟩
  cases k with
  | true => exact ⟨ρ1, F1, g1.rel, q2⟩
  | false => exact q2.val_ g1.rel _ (.bl _)
theorem ev_or {pos : Pos} {rest : List Expr} {f g : M AV} (h : PV X Z W a f) (t : PV X Z W (.BoolOp .Or (b :: rest) pos) g) : PV X Z W (.BoolOp .Or (a :: b :: rest) pos) (eOr f g) := by
  refine PE.weak (pe_or h t) fun σ H Q ⟨ρ, F, rel, q⟩ => ⟨ρ, F, rel, (tb_post (Post.bind q)).imp fun x H1 ρ1 F1 g1 q1 v hv => ?_⟩
  obtain ⟨k, e, q2⟩ := q1 v hv
  refine ⟨k, e, ?_⟩
  cases k with
  | true => exact q2.val_ g1.rel _ (.bl _)
  | false => exact ⟨ρ1, F1, g1.rel, q2⟩
theorem ev_not {pos : Pos} {f : M AV} (h : PV X Z W a f) : PV X Z W (.UnaryOp .Not a pos) (eNot f) := by
  refine PE.weak (pe_not h) fun σ H Q ⟨ρ, F, rel, q⟩ => ⟨ρ, F, rel, (tb_post (Post.bind q)).imp fun x H1 ρ1 F1 g1 q1 v hv => ?_⟩
  obtain ⟨k, e, q2⟩ := q1 v hv
  exact ⟨k, e, q2.val_ g1.rel _ (.bl _)⟩
theorem ev_if {pos : Pos} {f g : M AV} {t : M Bool} (h : PB X Z W c t) (ha : PV X Z W a f) (hb : PV X Z W b g) : PV X Z W (.IfExp c a b pos) (eIf t f g) := by
  refine PE.weak (pe_ifExp h ha hb) fun σ H Q ⟨ρ, F, rel, q⟩ => ⟨ρ, F, rel, (Post.bind q).imp fun b H1 ρ1 F1 g1 q1 => ?_⟩
  cases b with
  | true => exact ⟨ρ1, F1, g1.rel, q1⟩
  | false => exact ⟨ρ1, F1, g1.rel, q1⟩
/-- new objects in the ways of an if -/
def nIf (c : M Bool) (f g : M D) : M D := fun ρ => (c ρ).bind fun b ρ1 => if b = true then f ρ1 else g ρ1
theorem en_if {pos : Pos} {f g : M D} {t : M Bool} (h : PB X Z W c t) (ha : PN X Z W a f) (hb : PN X Z W b g) : PN X Z W (.IfExp c a b pos) (nIf t f g) := by
  refine PE.weak (pe_ifExp h ha hb) fun σ H Q ⟨ρ, F, rel, q⟩ => ⟨ρ, F, rel, (Post.bind q).imp fun b H1 ρ1 F1 g1 q1 => ?_⟩
  cases b with
  | true => exact ⟨ρ1, F1, g1.rel, q1.imp fun d H2 ρ2 F2 g2 k a na => k a (g1.free na)⟩
  | false => exact ⟨ρ1, F1, g1.rel, q1.imp fun d H2 ρ2 F2 g2 k a na => k a (g1.free na)⟩
theorem chain_le {g h : G2} {r r' : R2} (ok : OkA X.K X.mg r g) (ok' : OkA X.K X.mg r' h) (σ : L2.St) (H : Hp) (Q : VK) (hq : tE X.K X.mg Z W (eChain g h fa fb fc) σ H Q) :
    tChain r r' (tE X.K X.mg Z W fa) (tE X.K X.mg Z W fb) (tE X.K X.mg Z W fc) σ H Q := by
  obtain ⟨ρ, F, rel, q⟩ := hq
  refine ⟨ρ, F, rel, (Post.bind q).imp fun x H1 ρ1 F1 g1 q1 v hv => ⟨ρ1, F1, g1.rel, (Post.bind q1).imp fun y H2 ρ2 F2 g2 q2 w hw => ?_⟩⟩
  refine op2_ok ok g2.rel (hv.go g2.fr) hw ((Post.bind q2).imp fun z H3 ρ3 F3 g3 q3 u hu => ?_)
  obtain ⟨k, e, q4⟩ := tb_ok (Q := fun k H' => ∃ ρ4 F4, Go X.K X.mg Z σ H3 ρ3 F3 H' ρ4 F4 ∧ Post X.K X.mg Z W σ H' ρ4 F4 (if k = true then (fc ρ4).bind fun w ρ5 => op2 h y w ρ5 else .val (.d (.bl false)) ρ4) fun x H' _ F' => ∀ v, AR X.K X.mg F' σ v x → Q v H') g3.rel hu
    ((Post.bind q3).imp fun b H4 ρ4 F4 g4 q4 => ⟨ρ4, F4, g4, q4⟩)
  obtain ⟨ρ4, F4, g4, q4⟩ := q4
  refine ⟨k, e, ?_⟩
  cases k with
  | true => exact ⟨ρ4, F4, g4.rel, (Post.bind q4).imp fun w' H5 ρ5 F5 g5 q5 u' hu' => op2_ok ok' g5.rel (hw.go (g3.fr.trans (g4.fr.trans g5.fr))) hu' q5⟩
  | false => exact q4.val_ g4.rel _ (.bl _)
theorem ev_chain {op op' : CmpOp} {pos : Pos} {g h : G2} {r r' : R2} (ho : OpR X (compareOp op) r) (ok : OkA X.K X.mg r g) (ho' : OpR X (compareOp op') r') (ok' : OkA X.K X.mg r' h) (ha : PV X Z W a fa) (hb : PV X Z W b fb) (hc : PV X Z W c fc)
    (hm : lastMarks [op, op'] [b, c] = false := by with_unfolding_all rfl) : PV X Z W (.Compare a [op, op'] [b, c] pos) (eChain g h fa fb fc) := PE.weak (pe_chain ho ho' ha hb hc hm) (chain_le ok ok')
theorem et_chain {op op' : CmpOp} {pos : Pos} {g h : G2} {r r' : R2} (ho : OpR X (compareOp op) r) (ok : OkA X.K X.mg r g) (ho' : OpR X (compareOp op') r') (ok' : OkA X.K X.mg r' h) (ha : PV X Z W a fa) (hb : PV X Z W b fb) (hc : PV X Z W c fc)
    (hm : lastMarks [op, op'] [b, c] = false := by with_unfolding_all rfl) : PB X Z W (.Compare a [op, op'] [b, c] pos) (eChain g h fa fb fc).tb := PT.weak (pt_chain ho ho' ha hb hc hm) (tb_le (chain_le ok ok'))
end

/-! ### unary -/
def OkU (K : PySem.W.Frag) (mg : Str → Option Value) (r : V → Hp → VK → Prop) (g : D → Option D) : Prop := ∀ {F H : Hp} {v : V} {d z : D} {Q : VK}, Same F H → Rp K mg F H v d → g d = some z →
  (∀ u H' F', Same H H' → Same F F' → Same F' H' → (∀ b, F' b ≠ none → F b ≠ none ∨ H b = none) → R K mg F' u z → Q u H') → r v H Q
def gNeg : D → Option D
  | .int i => some (.int (-i))
  | _ => none
section
variable {X : Cx} {Z : Zone} {W : WX} {a b c e : Expr} {es : List Expr} {fa fb fc : M AV}
theorem ok_neg {K : PySem.W.Frag} {mg : Str → Option Value} : OkU K mg (rU fun i => V.int (-i)) gNeg := by
  intro F H v d z Q s hv hg q
  cases d <;> simp only [gNeg] at hg <;> try (cases hg; done)
  cases hg
  exact ⟨_, hv.int, okQ s q (.int _)⟩
theorem ev_un {op : UnaryOp} {pos : Pos} {g : D → Option D} {r : V → Hp → VK → Prop} (ho : UnR X (unaryOp op) r) (ok : OkU X.K X.mg r g) (ha : PV X Z W a fa) : PV X Z W (.UnaryOp op a pos) (eUn g fa) := by
  refine PE.weak (pe_un ho ha) fun σ H Q ⟨ρ, F, rel, q⟩ => ⟨ρ, F, rel, (Post.bind q).imp fun x H1 ρ1 F1 g1 q1 v hv => ?_⟩
  unfold op1 at q1
  cases hx : der x ρ1 with
  | none =>
    simp only [hx] at q1
    exact q1.elim
  | some d =>
    simp only [hx] at q1
    cases hg : g d with
    | none =>
      simp only [hg] at q1
      exact q1.elim
    | some z =>
      simp only [hg] at q1
      exact ok g1.rel.same (der_ok g1.rel hv hx) hg fun u H' F' s1 s2 s3 n r => q1 H' F' (.more g1.rel s1 s2 s3 n) u r
end

/-! ### items -/
def gIxL : G2
  | .lst xs, .int i => atI xs i
  | _, _ => none
def gIxT : G2
  | .tup xs, .int i => atI xs i
  | _, _ => none
def gIxS : G2
  | .str z, .int i => if z.length ≤ sizeLine then (atI z.cps.toList i).map fun c => .str ⟨#[c]⟩ else none
  | _, _ => none
theorem RL.atI {K : PySem.W.Frag} {mg : Str → Option Value} {G : Hp} {vs : List V} {ds : List D} {i : Int} {d : D} (h : RL K mg G vs ds) (q : L2.atI ds i = some d) : ∃ v, L2.atI vs i = some v ∧ R K mg G v d := by
  unfold L2.atI at q ⊢
  rw [h.length]
  cases e : ixN ds.length i with
  | none =>
    rw [e] at q
    cases q
  | some j =>
    rw [e] at q
    exact h.get q
section
variable {K : PySem.W.Frag} {mg : Str → Option Value}
theorem ok_ixL : OkA K mg (rIxL K) gIxL := by
  intro F H v w d e z Q s hv hw hg q
  cases d <;> cases e <;> simp only [gIxL] at hg <;> try (cases hg; done)
  obtain ⟨a, vs, rfl, h1, h2⟩ := hv.lst s
  obtain ⟨u, hu, ru⟩ := h2.atI hg
  exact ⟨a, vs, _, u, rfl, hw.int, .inl (.inl h1), hu, okQ s q ru⟩
theorem ok_ixT : OkA K mg (rIxT K) gIxT := by
  intro F H v w d e z Q s hv hw hg q
  cases d <;> cases e <;> simp only [gIxT] at hg <;> try (cases hg; done)
  obtain ⟨a, vs, rfl, h1, h2⟩ := hv.tup
  obtain ⟨u, hu, ru⟩ := h2.atI hg
  exact ⟨a, vs, _, u, rfl, hw.int, same_seqT s h1, hu, okQ s q ru⟩
theorem atI_mem {α : Type} {xs : List α} {i : Int} {x : α} (h : L2.atI xs i = some x) : x ∈ xs := by
  unfold L2.atI at h
  cases e : ixN xs.length i with
  | none =>
    rw [e] at h
    cases h
  | some j =>
    rw [e] at h
    exact List.mem_of_getElem? h
theorem ok_ixS : OkA K mg rIxS gIxS := by
  intro F H v w d e z Q s hv hw hg q
  cases d <;> cases e <;> simp only [gIxS] at hg <;> try (cases hg; done)
  rename_i x i
  by_cases c : x.length ≤ sizeLine
  · rw [if_pos c] at hg
    cases hc : L2.atI x.cps.toList i with
    | none =>
      rw [hc] at hg
      cases hg
    | some k =>
      rw [hc] at hg
      cases hg
      exact ⟨x, i, k, hv.str, hw.int, c, hc, okQ s q (.str _)⟩
  · rw [if_neg c] at hg
    cases hg
end
section
variable {X : Cx} {Z : Zone} {W : WX} {a b c e : Expr} {es : List Expr} {fa fb fc : M AV}
theorem ev_ix {pos : Pos} {g : G2} {r : R2} (hr : IxR X r) (ok : OkA X.K X.mg r g) (ha : PV X Z W a fa) (hb : PV X Z W b fb) (hs : PlainIx b := by intro _ _; rfl) : PV X Z W (.Subscript a b pos) (eOp g fa fb) := PE.weak (pe_ix hr ha hb hs) (op_le ok)
end

/-! ### built-in calls -/
def derL : List AV → En → Option (List D)
  | [], _ => some []
  | x :: r, ρ => match der x ρ, derL r ρ with
    | some d, some ds => some (d :: ds)
    | _, _ => none
inductive RpL (K : PySem.W.Frag) (mg : Str → Option Value) (F H : Hp) : List V → List D → Prop
  | nil : RpL K mg F H [] []
  | cons {v : V} {d : D} {vs : List V} {ds : List D} : Rp K mg F H v d → RpL K mg F H vs ds → RpL K mg F H (v :: vs) (d :: ds)
theorem derL_ok {K : PySem.W.Frag} {mg : Str → Option Value} {Z : Zone} {σ : L2.St} {H F : Hp} {ρ : En} (r : Rel K mg Z σ H ρ F) : ∀ {xs : List AV} {vs : List V} {ds : List D}, ARL K mg F σ vs xs → derL xs ρ = some ds → RpL K mg F H vs ds
  | [], _, _, .nil, q => by
    cases q
    exact .nil
  | x :: xs, _, ds, .cons h t, q => by
    simp only [derL] at q
    cases hx : der x ρ with
    | none =>
      rw [hx] at q
      cases q
    | some d =>
      cases hy : derL xs ρ with
      | none =>
        rw [hx, hy] at q
        cases q
      | some es =>
        rw [hx, hy] at q
        cases q
        exact .cons (der_ok r h hx) (derL_ok r t hy)
abbrev GL := List D → Option D
def opL (g : GL) (xs : List AV) (ρ : En) : Res AV := match derL xs ρ with
  | some ds => match g ds with
    | some z => .val (.d z) ρ
    | none => .bad
  | none => .bad
def eB (g : GL) (fs : M (List AV)) : M AV := fun ρ => (fs ρ).bind fun xs ρ1 => opL g xs ρ1
def OkL (K : PySem.W.Frag) (mg : Str → Option Value) (r : List V → Hp → VK → Prop) (g : GL) : Prop := ∀ {F H : Hp} {vs : List V} {ds : List D} {z : D} {Q : VK}, Same F H → RpL K mg F H vs ds → g ds = some z →
  (∀ u H' F', Same H H' → Same F F' → Same F' H' → (∀ b, F' b ≠ none → F b ≠ none ∨ H b = none) → R K mg F' u z → Q u H') → r vs H Q
/-- .. that give a new list -/
abbrev GN := List D → Option (List D)
def opN (g : GN) (xs : List AV) (ρ : En) : Res D := match derL xs ρ with
  | some ds => match g ds with
    | some z => .val (.lst z) ρ
    | none => .bad
  | none => .bad
def nB (g : GN) (fs : M (List AV)) : M D := fun ρ => (fs ρ).bind fun xs ρ1 => opN g xs ρ1
def OkN (K : PySem.W.Frag) (mg : Str → Option Value) (r : List V → Hp → VK → Prop) (g : GN) : Prop := ∀ {F H : Hp} {vs : List V} {ds zs : List D} {Q : VK}, Same F H → RpL K mg F H vs ds → g ds = some zs →
  (∀ p us, H p = none → RL K mg F us zs → Q (.ref p) (upd H p (.lst us))) → r vs H Q
section
variable {X : Cx} {Z : Zone} {W : WX} {e : Expr} {es : List Expr} {fs : M (List AV)} {p pos : Pos} {x : Str}
theorem callB_le {g : GL} {r : List V → Hp → VK → Prop} (ok : OkL X.K X.mg r g) (σ : L2.St) (H : Hp) (Q : VK) (h : tE X.K X.mg Z W (eB g fs) σ H Q) : tCB r (tA X.K X.mg Z W fs) σ H Q := by
  obtain ⟨ρ, F, rel, q⟩ := h
  refine ⟨ρ, F, rel, (Post.bind q).imp fun xs H1 ρ1 F1 g1 q1 vs hv => ?_⟩
  unfold opL at q1
  cases hx : derL xs ρ1 with
  | none =>
    simp only [hx] at q1
    exact q1.elim
  | some ds =>
    simp only [hx] at q1
    cases hg : g ds with
    | none =>
      simp only [hg] at q1
      exact q1.elim
    | some z =>
      simp only [hg] at q1
      exact ok g1.rel.same (derL_ok g1.rel hv hx) hg fun u H' F' s1 s2 s3 n r => q1 H' F' (.more g1.rel s1 s2 s3 n) u r
theorem callN_le {g : GN} {r : List V → Hp → VK → Prop} (ok : OkN X.K X.mg r g) (σ : L2.St) (H : Hp) (Q : VK) (h : tN X.K X.mg Z W (nB g fs) σ H Q) : tCB r (tA X.K X.mg Z W fs) σ H Q := by
  obtain ⟨ρ, F, rel, q⟩ := h
  refine ⟨ρ, F, rel, (Post.bind q).imp fun xs H1 ρ1 F1 g1 q1 vs hv => ?_⟩
  unfold opN at q1
  cases hx : derL xs ρ1 with
  | none =>
    simp only [hx] at q1
    exact q1.elim
  | some ds =>
    simp only [hx] at q1
    cases hg : g ds with
    | none =>
      simp only [hg] at q1
      exact q1.elim
    | some z =>
      simp only [hg] at q1
      exact ok g1.rel.same (derL_ok g1.rel hv hx) hg fun p us np hr => q1 _ _ (.new g1.rel (same_new np)) p (g1.free np) (g1.rel.h0 np) (g1.rel.same.free np) ⟨us, upd_same, hr⟩ (new_ne g1.rel np)
theorem ev_B {id : String} {g : GL} {r : List V → Hp → VK → Prop} (hc : CallR X (.builtin id) r) (ok : OkL X.K X.mg r g) (hg : Gl X x) (hm : X.mg x = none) (hv : bootBuiltins x = some (.builtin id)) (ha : PL X Z W (e :: es) fs) (hn : x ≠ "__name__" := by decide) (hdb : (x == ("__debug__" : Str)) = false := by decide)
    (he : starEach (e :: es) X.env = (false, eval e X.env) :: starEach es X.env := by rfl) (hpl : (backTo pos (starEach es X.env)).any (·.1) = false := by rfl) : PV X Z W (.Call (.Name x p) (e :: es) [] pos) (eB g fs) := PE.weak (pe_callB hc hg hm hv ha hn hdb he hpl) (callB_le ok)
theorem ev_Ty {T : String} {g : GL} {r : List V → Hp → VK → Prop} (hc : CallR X (.type T) r) (ok : OkL X.K X.mg r g) (hg : Gl X x) (hm : X.mg x = none) (hv : bootBuiltins x = some (.type T)) (ha : PL X Z W (e :: es) fs) (hn : x ≠ "__name__" := by decide) (hdb : (x == ("__debug__" : Str)) = false := by decide)
    (he : starEach (e :: es) X.env = (false, eval e X.env) :: starEach es X.env := by rfl) (hpl : (backTo pos (starEach es X.env)).any (·.1) = false := by rfl) : PV X Z W (.Call (.Name x p) (e :: es) [] pos) (eB g fs) := PE.weak (pe_callTy hc hg hm hv ha hn hdb he hpl) (callB_le ok)
theorem en_B {id : String} {g : GN} {r : List V → Hp → VK → Prop} (hc : CallR X (.builtin id) r) (ok : OkN X.K X.mg r g) (hg : Gl X x) (hm : X.mg x = none) (hv : bootBuiltins x = some (.builtin id)) (ha : PL X Z W (e :: es) fs) (hn : x ≠ "__name__" := by decide) (hdb : (x == ("__debug__" : Str)) = false := by decide)
    (he : starEach (e :: es) X.env = (false, eval e X.env) :: starEach es X.env := by rfl) (hpl : (backTo pos (starEach es X.env)).any (·.1) = false := by rfl) : PN X Z W (.Call (.Name x p) (e :: es) [] pos) (nB g fs) := PE.weak (pe_callB hc hg hm hv ha hn hdb he hpl) (callN_le ok)
theorem en_Ty {T : String} {g : GN} {r : List V → Hp → VK → Prop} (hc : CallR X (.type T) r) (ok : OkN X.K X.mg r g) (hg : Gl X x) (hm : X.mg x = none) (hv : bootBuiltins x = some (.type T)) (ha : PL X Z W (e :: es) fs) (hn : x ≠ "__name__" := by decide) (hdb : (x == ("__debug__" : Str)) = false := by decide)
    (he : starEach (e :: es) X.env = (false, eval e X.env) :: starEach es X.env := by rfl) (hpl : (backTo pos (starEach es X.env)).any (·.1) = false := by rfl) : PN X Z W (.Call (.Name x p) (e :: es) [] pos) (nB g fs) := PE.weak (pe_callTy hc hg hm hv ha hn hdb he hpl) (callN_le ok)
end
/-! ### which -/
def isTy (t : String) (d : D) : Option Bool := if d.dat then (if t = "int" then some (isInt d.py) else if t = "bool" then some (isBool d.py) else if t = "tuple" then some (isTup d.py) else if t = "str" then some (isStr d.py) else if t = "list" then some (isLst d.py) else none) else none
def gIsi : GL
  | [d, .ty t] => (isTy t d).map .bl
  | _ => none
def gLen : GL
  | [.lst xs] => some (.int xs.length)
  | [.tup xs] => some (.int xs.length)
  | _ => none
def gLenS : GL
  | [.str z] => if z.length ≤ sizeLine then some (.int z.length) else none
  | _ => none
def gLenD : GL
  | [.dic es] => some (.int es.length)
  | _ => none
def gAbs : GL
  | [.int i] => some (.int (if i < 0 then -i else i))
  | _ => none
def gInt1 : GL
  | [.int i] => some (.int i)
  | [.bl b] => some (.int (if b then 1 else 0))
  | _ => none
def gMin2 : GL
  | [.int m, .int n] => some (.int (if n < m then n else m))
  | _ => none
def gMax2 : GL
  | [.int m, .int n] => some (.int (if n > m then n else m))
  | _ => none
def bools : List D → Option (List Bool)
  | [] => some []
  | .bl b :: r => (bools r).map (b :: ·)
  | _ => none
def numsD : List D → Option (List Int)
  | [] => some []
  | .int b :: r => (numsD r).map (b :: ·)
  | _ => none
def gAll : GL
  | [.lst xs] => (bools xs).map fun bs => .bl (bs.all id)
  | _ => none
def gAny : GL
  | [.lst xs] => (bools xs).map fun bs => .bl (bs.any id)
  | _ => none
def gSum : GL
  | [.lst xs] => (numsD xs).map fun ns => .int ns.sum
  | _ => none
def gRepr : GL
  | [d] => if d.sho then some (.str d.py.shown) else none
  | _ => none
def gTuple : GL
  | [.lst xs] => some (.tup xs)
  | [.tup xs] => some (.tup xs)
  | _ => none
def nList : GN
  | [.lst xs] => some xs
  | [.tup xs] => some xs
  | _ => none
section
variable {K : PySem.W.Frag} {mg : Str → Option Value}
theorem kit_of {t : String} {d : D} {b : Bool} (q : isTy t d = some b) : PySem.W.kitOne K (.type (tyN d.py)) (.type t) = some b := by
  unfold isTy at q
  by_cases c : d.dat = true
  · rw [if_pos c] at q
    by_cases h1 : t = "int"
    · rw [if_pos h1] at q
      rw [h1, kI, q]
    rw [if_neg h1] at q
    by_cases h2 : t = "bool"
    · rw [if_pos h2] at q
      rw [h2, kB, q]
    rw [if_neg h2] at q
    by_cases h3 : t = "tuple"
    · rw [if_pos h3] at q
      rw [h3, kT, q]
    rw [if_neg h3] at q
    by_cases h4 : t = "str"
    · rw [if_pos h4] at q
      rw [h4, kS, q]
    rw [if_neg h4] at q
    by_cases h5 : t = "list"
    · rw [if_pos h5] at q
      rw [h5, kL, q]
    rw [if_neg h5] at q
    cases q
  · rw [if_neg c] at q
    cases q
theorem isTy_dat {t : String} {d : D} {b : Bool} (q : isTy t d = some b) : d.dat = true := by
  unfold isTy at q
  by_cases c : d.dat = true
  · exact c
  · rw [if_neg c] at q
    cases q
theorem ok_isi : OkL K mg (rIsi K) gIsi := by
  intro F H vs ds z Q s h hg q
  match ds, h, hg with
  | [d, .ty t], .cons h1 (.cons h2 .nil), hg =>
    simp only [gIsi] at hg
    cases hb : isTy t d with
    | none =>
      rw [hb] at hg
      cases hg
    | some b =>
      rw [hb] at hg
      cases hg
      rcases h2 with h2 | ⟨a, _, _, h2⟩
      case inr => exact h2.elim
      cases h2
      exact ⟨_, _, _, _, b, rfl, .ty _, da_ty ((h1.r s).da (isTy_dat hb)), kit_of hb, okQ s q (.bl _)⟩
theorem ok_len : OkL K mg (rLenSq K) gLen := by
  intro F H vs ds z Q s h hg q
  match ds, h, hg with
  | [.lst xs], .cons h1 .nil, hg =>
    cases hg
    obtain ⟨a, us, rfl, h2, h3⟩ := h1.lst s
    refine ⟨a, us, rfl, .inl (.inl (.inl h2)), ?_⟩
    rw [h3.length]
    exact okQ s q (.int _)
  | [.tup xs], .cons h1 .nil, hg =>
    cases hg
    obtain ⟨a, us, rfl, h2, h3⟩ := h1.tup
    refine ⟨a, us, rfl, .inr (same_seqT s h2), ?_⟩
    rw [h3.length]
    exact okQ s q (.int _)
theorem ok_abs : OkL K mg (fun xs H Q => ∃ i, xs = [.int i] ∧ Q (.int (if i < 0 then -i else i)) H) gAbs := by
  intro F H vs ds z Q s h hg q
  match ds, h, hg with
  | [.int i], .cons h1 .nil, hg =>
    cases hg
    cases h1.int
    exact ⟨i, rfl, okQ s q (.int _)⟩
theorem ok_int1 : OkL K mg (fun xs H Q => (∃ i, xs = [.int i] ∧ Q (.int i) H) ∨ ∃ k, xs = [.bl k] ∧ Q (.int (if k then 1 else 0)) H) gInt1 := by
  intro F H vs ds z Q s h hg q
  match ds, h, hg with
  | [.int i], .cons h1 .nil, hg =>
    cases hg
    cases h1.int
    exact .inl ⟨i, rfl, okQ s q (.int _)⟩
  | [.bl i], .cons h1 .nil, hg =>
    cases hg
    cases h1.bl
    exact .inr ⟨i, rfl, okQ s q (.int _)⟩
theorem bools_ok {G : Hp} : ∀ {xs : List D} {vs : List V} {bs : List Bool}, RL K mg G vs xs → bools xs = some bs → vs = bs.map V.bl
  | [], _, bs, .nil, q => by
    cases q
    rfl
  | .bl b :: r, _, bs, .cons h t, q => by
    simp only [bools] at q
    cases e : bools r with
    | none =>
      rw [e] at q
      cases q
    | some cs =>
      rw [e] at q
      cases q
      cases h
      rw [bools_ok t e]
      rfl
theorem nums_ok {G : Hp} : ∀ {xs : List D} {vs : List V} {bs : List Int}, RL K mg G vs xs → numsD xs = some bs → vs = bs.map V.int
  | [], _, bs, .nil, q => by
    cases q
    rfl
  | .int b :: r, _, bs, .cons h t, q => by
    simp only [numsD] at q
    cases e : numsD r with
    | none =>
      rw [e] at q
      cases q
    | some cs =>
      rw [e] at q
      cases q
      cases h
      rw [nums_ok t e]
      rfl
theorem ok_all : OkL K mg (rAll K) gAll := by
  intro F H vs ds z Q s h hg q
  match ds, h, hg with
  | [.lst xs], .cons h1 .nil, hg =>
    simp only [gAll] at hg
    cases e : bools xs with
    | none =>
      rw [e] at hg
      cases hg
    | some bs =>
      rw [e] at hg
      cases hg
      obtain ⟨a, us, rfl, h2, h3⟩ := h1.lst s
      rw [bools_ok h3 e] at h2
      exact ⟨a, bs, rfl, .inl (.inl h2), okQ s q (.bl _)⟩
theorem ok_any : OkL K mg (rAny K) gAny := by
  intro F H vs ds z Q s h hg q
  match ds, h, hg with
  | [.lst xs], .cons h1 .nil, hg =>
    simp only [gAny] at hg
    cases e : bools xs with
    | none =>
      rw [e] at hg
      cases hg
    | some bs =>
      rw [e] at hg
      cases hg
      obtain ⟨a, us, rfl, h2, h3⟩ := h1.lst s
      rw [bools_ok h3 e] at h2
      exact ⟨a, bs, rfl, .inl (.inl h2), okQ s q (.bl _)⟩
theorem ok_sum : OkL K mg (rSum K) gSum := by
  intro F H vs ds z Q s h hg q
  match ds, h, hg with
  | [.lst xs], .cons h1 .nil, hg =>
    simp only [gSum] at hg
    cases e : numsD xs with
    | none =>
      rw [e] at hg
      cases hg
    | some bs =>
      rw [e] at hg
      cases hg
      obtain ⟨a, us, rfl, h2, h3⟩ := h1.lst s
      rw [nums_ok h3 e] at h2
      exact ⟨a, bs, rfl, .inl (.inl h2), okQ s q (.int _)⟩
theorem ok_repr : OkL K mg (rRepr K) gRepr := by
  intro F H vs ds z Q s h hg q
  match ds, h, hg with
  | [d], .cons h1 .nil, hg =>
    simp only [gRepr] at hg
    by_cases c : d.sho = true
    · rw [if_pos c] at hg
      cases hg
      obtain ⟨a1, a2⟩ := (h1.r s).sho c
      exact ⟨_, _, rfl, a1, a2, okQ s q (.str _)⟩
    · rw [if_neg c] at hg
      cases hg
/-- tuple(x) -/
def rTup1 (K : PySem.W.Frag) : List V → Hp → VK → Prop := fun xs H Q => ∃ p ys, xs = [.ref p] ∧ ((SqL K H p ys ∧ ∀ l, H l = none → Q (.ref l) (upd H l (.tup ys))) ∨ (SqT K H p ys ∧ Q (.ref p) H))
theorem ok_tuple : OkL K mg (rTup1 K) gTuple := by
  intro F H vs ds z Q s h hg q
  match ds, h, hg with
  | [.lst xs], .cons h1 .nil, hg =>
    cases hg
    obtain ⟨a, us, rfl, h2, h3⟩ := h1.lst s
    exact ⟨a, us, rfl, .inl ⟨.inl (.inl h2), fun l nl => okN s q nl (.tup (.inl (.inl upd_same)) (h3.mono (same_new (s.free nl))))⟩⟩
  | [.tup xs], .cons h1 .nil, hg =>
    cases hg
    obtain ⟨a, us, rfl, h2, h3⟩ := h1.tup
    exact ⟨a, us, rfl, .inr ⟨same_seqT s h2, okQ s q (.tup h2 h3)⟩⟩
theorem ok_list : OkN K mg (rListOf K) nList := by
  intro F H vs ds zs Q s h hg q
  match ds, h, hg with
  | [.lst xs], .cons h1 .nil, hg =>
    cases hg
    obtain ⟨a, us, rfl, h2, h3⟩ := h1.lst s
    exact ⟨a, us, rfl, .inl (.inl (.inl h2)), fun l nl => q l us nl h3⟩
  | [.tup xs], .cons h1 .nil, hg =>
    cases hg
    obtain ⟨a, us, rfl, h2, h3⟩ := h1.tup
    exact ⟨a, us, rfl, .inr (same_seqT s h2), fun l nl => q l us nl h3⟩
end
end PV
namespace PV
open PySem PySem.Spec PyProof.Rows L2 VK

/-! ### values that stand -/
def tD (K : PySem.W.Frag) (mg : Str → Option Value) (Z : Zone) (W : WX) (f : M D) : TE := fun σ H Q => ∃ ρ F, Rel K mg Z σ H ρ F ∧ Post K mg Z W σ H ρ F (f ρ) fun d H' _ F' => ∀ v, R K mg F' v d → Q v H'
abbrev PD (X : Cx) (Z : Zone) (W : WX) (e : Expr) (f : M D) : Prop := PE X e (tD X.K X.mg Z W f)
theorem ed {X : Cx} {Z : Zone} {W : WX} {e : Expr} {f : M AV} (h : PV X Z W e f) : PD X Z W e f.st := PV.st h
/-! ### statements -/
def sNx : M Fl := fun ρ => .val .nx ρ
def sSeq (f g : M Fl) : M Fl := fun ρ => (f ρ).bind fun x ρ1 => match x with
  | .nx => g ρ1
  | .rt d => .val (.rt d) ρ1
  | .bk => .val .bk ρ1
  | .ct => .val .ct ρ1
def sSet (i : Nat) (f : M AV) : M Fl := fun ρ => (f.st ρ).bind fun d ρ1 => .val .nx (ρ1.set i (.sh d))
def sNew (i : Nat) (f : M D) : M Fl := fun ρ => (f ρ).bind fun d ρ1 => .val .nx (ρ1.set i (.own d))
def sRet (f : M AV) : M Fl := fun ρ => (f.st ρ).bind fun d ρ1 => .val (.rt d) ρ1
def sRetN : M Fl := fun ρ => .val (.rt .non) ρ
def sExp (f : M AV) : M Fl := fun ρ => (f ρ).bind fun _ ρ1 => .val .nx ρ1
def sIf (c : M Bool) (f g : M Fl) : M Fl := fun ρ => (c ρ).bind fun b ρ1 => if b = true then f ρ1 else g ρ1
def sBk : M Fl := fun ρ => .val .bk ρ
def sCt : M Fl := fun ρ => .val .ct ρ
/-- targets: the slots, what they get -/
structure Tg where
  sl : List Nat
  fn : D → Option (List D)
  len : ∀ d ds, fn d = some ds → ds.length = sl.length
def puts : En → List Nat → List D → En
  | ρ, i :: is, d :: ds => puts (ρ.set i (.sh d)) is ds
  | ρ, _, _ => ρ
def putsS : L2.St → List Nat → List V → L2.St
  | σ, i :: is, v :: vs => putsS (σ.set i (some v)) is vs
  | σ, _, _ => σ
def gNm (i : Nat) : Tg := ⟨[i], fun d => some [d], fun d ds e => by cases e; rfl⟩
def unL : List Tg → List D → Option (List D)
  | [], [] => some []
  | t :: ts, d :: ds => match t.fn d with
    | some a => match unL ts ds with
      | some b => some (a ++ b)
      | none => none
    | none => none
  | _, _ => none
theorem unL_len : ∀ (ts : List Tg) (ds es : List D), unL ts ds = some es → es.length = ((ts.map Tg.sl).flatten).length
  | [], [], es, e => by
    cases e
    rfl
  | [], _ :: _, _, e => nomatch e
  | _ :: _, [], _, e => nomatch e
  | t :: ts, d :: ds, es, e => by
    simp only [unL] at e
    cases h1 : t.fn d with
    | none =>
      rw [h1] at e
      cases e
    | some a =>
      cases h2 : unL ts ds with
      | none =>
        rw [h1, h2] at e
        cases e
      | some b =>
        rw [h1, h2] at e
        cases e
        rw [List.length_append, List.map_cons, List.flatten_cons, List.length_append, t.len d a h1, unL_len ts ds b h2]
def gTu (ts : List Tg) : Tg := ⟨(ts.map Tg.sl).flatten, fun d => match d with
  | .tup ds => unL ts ds
  | .lst ds => unL ts ds
  | _ => none, fun d ds e => by
    cases d <;> simp only [] at e <;> try (cases e; done)
    all_goals exact unL_len ts _ _ e⟩
/-- the slots behind an assignment -/
def Tg.to (t : Tg) (d : D) (ρ : En) : Option En := match t.fn d with
  | some ds => some (puts ρ t.sl ds)
  | none => none
def sAsg (f : M AV) (g : Tg) : M Fl := fun ρ => (f.st ρ).bind fun d ρ1 => match g.to d ρ1 with
  | some ρ2 => .val .nx ρ2
  | none => .bad
/-- forget a slot's own object: from now on it stands -/
def sFrz (i : Nat) (f : M Fl) : M Fl := fun ρ => match frz (.io i) ρ with
  | some (_, ρ1) => f ρ1
  | none => .bad
/-- the same data for each item -/
def forL (g : Tg) (body : M Fl) : List D → M Fl
  | [], ρ => .val .nx ρ
  | d :: r, ρ => match g.to d ρ with
    | none => .bad
    | some ρ1 => (body ρ1).bind fun x ρ2 => match x with
      | .nx => forL g body r ρ2
      | .ct => forL g body r ρ2
      | .bk => .val .nx ρ2
      | .rt d => .val (.rt d) ρ2
def sFor (it : M (List D)) (g : Tg) (body : M Fl) : M Fl := fun ρ => (it ρ).bind fun ds ρ1 => forL g body ds ρ1
def whL (c : M Bool) (body : M Fl) : Nat → M Fl
  | 0, _ => .bad
  | n + 1, ρ => (c ρ).bind fun b ρ1 => if b = true then (body ρ1).bind fun x ρ2 => (match x with
      | .nx => whL c body n ρ2
      | .ct => whL c body n ρ2
      | .bk => .val .nx ρ2
      | .rt d => .val (.rt d) ρ2) else .val .nx ρ1
def sWhile (n : Nat) (c : M Bool) (body : M Fl) : M Fl := fun ρ => whL c body n ρ

section
variable {K : PySem.W.Frag} {mg : Str → Option Value} {Z : Zone} {W : WX} {σ : L2.St} {H H1 F F1 : Hp} {ρ ρ1 : En} {De : Ends} {α : Type}
theorem PostS.up {r : Res Fl} (s : Same F F1) (h : PostS K mg Z W F r De) : PostS K mg Z W F1 r De := by
  cases r with
  | val x ρ' => exact fun σ' H' F' g e => h σ' H' F' g (s.trans e)
  | exc c fs ρ' => exact fun cls dx σ' H' F' g e => h cls dx σ' H' F' g (s.trans e)
  | bad => exact h
/-- an expression, then what it leads to -/
theorem PostS.bind {r : Res α} {k : α → En → Res Fl} (h : PostS K mg Z W F (r.bind k) De) : Post K mg Z W σ H ρ F r fun x H' ρ' F' => PostS K mg Z W F' (k x ρ') De := by
  cases r with
  | val x ρ' => exact fun H' F' g => PostS.up g.fr h
  | exc c fs ρ' => exact fun cls dx H' F' g x => h cls dx σ H' F' g.rel g.fr x
  | bad => exact h
theorem PostS.val_ {x : Fl} (h : PostS K mg Z W F (.val x ρ) De) (r : Rel K mg Z σ H ρ F) : Fl.ends K mg De σ H F x := h σ H F r (Same.refl _)
/-- a statement, then what it leads to -/
theorem PostS.seq {r : Res Fl} {k : Fl → En → Res Fl} {D2 : Ends} (h : PostS K mg Z W F (r.bind k) De)
    (hn : ∀ ρ' σ' H' F', Rel K mg Z σ' H' ρ' F' → PostS K mg Z W F' (k .nx ρ') De → D2.nx σ' H') (hb : ∀ ρ' σ' H' F', Rel K mg Z σ' H' ρ' F' → PostS K mg Z W F' (k .bk ρ') De → D2.bk σ' H')
    (hc : ∀ ρ' σ' H' F', Rel K mg Z σ' H' ρ' F' → PostS K mg Z W F' (k .ct ρ') De → D2.ct σ' H') (hr : ∀ d ρ' σ' H' F' v, Rel K mg Z σ' H' ρ' F' → R K mg F' v d → PostS K mg Z W F' (k (.rt d) ρ') De → D2.rt v H') :
    PostS K mg Z W F r D2 := by
  cases r with
  | val x ρ' =>
    intro σ' H' F' g e
    have h' := PostS.up e h
    cases x with
    | nx => exact hn _ _ _ _ g h'
    | bk => exact hb _ _ _ _ g h'
    | ct => exact hc _ _ _ _ g h'
    | rt d => exact fun v hv => hr d _ _ _ _ v g hv h'
  | exc c fs ρ' => exact h
  | bad => exact h
end
section
variable {X : Cx} {Z : Zone} {W : WX} {st : Stmt} {sts : List Stmt} {e : Expr} {f g : M Fl} {fa : M AV} {fn : M D} {i : Nat} {pos : Pos}
theorem cs_nil : PCs X Z W [] sNx := PSs.weak pss_nil fun D σ H ⟨ρ, F, r, q⟩ => q.val_ r
theorem cs_cons (h : PC1 X Z W st f) (t : PCs X Z W sts g) : PCs X Z W (st :: sts) (sSeq f g) :=
  PSs.weak (pss_cons h t) fun D σ H ⟨ρ, F, r, q⟩ => ⟨ρ, F, r, PostS.seq q (fun ρ' σ' H' F' g q => ⟨ρ', F', g, q⟩) (fun ρ' σ' H' F' g q => q.val_ g) (fun ρ' σ' H' F' g q => q.val_ g) (fun d ρ' σ' H' F' v g hv q => q.val_ g v hv)⟩
theorem cs_one (h : PC1 X Z W st f) : PCs X Z W [st] f := pss_one h
theorem cs_set (h : PS X st (tAsg (tD X.K X.mg Z W fa.st) (gName i))) : PC1 X Z W st (sSet i fa) :=
  PS.weak h fun D σ H ⟨ρ, F, r, q⟩ => ⟨ρ, F, r, (PostS.bind q).imp fun d H1 ρ1 F1 g q1 v hv => q1.val_ (g.rel.put hv)⟩
theorem cs_new (h : PS X st (tAsg (tN X.K X.mg Z W fn) (gName i))) : PC1 X Z W st (sNew i fn) :=
  PS.weak h fun D σ H ⟨ρ, F, r, q⟩ => ⟨ρ, F, r, (PostS.bind q).imp fun d H1 ρ1 F1 g q1 a _ n0 fn c ne => q1.val_ (g.rel.putOwn n0 fn c ne)⟩
theorem cs_ret (h : PV X Z W e fa) : PC1 X Z W (.Return (some e) pos) (sRet fa) :=
  PS.weak (ps_ret (ed h)) fun D σ H ⟨ρ, F, r, q⟩ => ⟨ρ, F, r, (PostS.bind q).imp fun d H1 ρ1 F1 g q1 v hv => q1.val_ g.rel v hv⟩
theorem cs_retN : PC1 X Z W (.Return none pos) sRetN := PS.weak ps_retN fun D σ H ⟨ρ, F, r, q⟩ => q.val_ r _ .non
theorem cs_exp (h : PS X st (tDrop (tE X.K X.mg Z W fa))) : PC1 X Z W st (sExp fa) :=
  PS.weak h fun D σ H ⟨ρ, F, r, q⟩ => ⟨ρ, F, r, (PostS.bind q).imp fun d H1 ρ1 F1 g q1 v hv => q1.val_ g.rel⟩
theorem cs_if {c : Expr} {a b : List Stmt} {t : M Bool} (hc : PB X Z W c t) (ha : PCs X Z W a f) (hb : PCs X Z W b g) : PC1 X Z W (.If c a b pos) (sIf t f g) := by
  refine PS.weak (ps_if hc ha hb) fun D σ H ⟨ρ, F, r, q⟩ => ⟨ρ, F, r, (PostS.bind q).imp fun b H1 ρ1 F1 g1 q1 => ?_⟩
  cases b with
  | true => exact ⟨ρ1, F1, g1.rel, q1⟩
  | false => exact ⟨ρ1, F1, g1.rel, q1⟩
theorem cs_pass : PC1 X Z W (.Pass pos) sNx := PS.weak ps_pass fun D σ H ⟨ρ, F, r, q⟩ => q.val_ r
theorem cs_break : PC1 X Z W (.Break pos) sBk := PS.weak ps_break fun D σ H ⟨ρ, F, r, q⟩ => q.val_ r
theorem cs_continue : PC1 X Z W (.Continue pos) sCt := PS.weak ps_continue fun D σ H ⟨ρ, F, r, q⟩ => q.val_ r
theorem cs_frz (h : PCs X Z W sts f) : PCs X Z W sts (sFrz i f) := by
  refine PSs.weak h fun D σ H ⟨ρ, F, r, q⟩ => ?_
  unfold sFrz at q
  cases hz : frz (.io i) ρ with
  | none =>
    simp only [hz] at q
    exact q.elim
  | some z =>
    obtain ⟨d, ρ1⟩ := z
    simp only [hz] at q
    have e : ∃ v, σ[i]? = some (some v) := by
      simp only [frz] at hz
      cases hs : ρ.at i with
      | no =>
        rw [hs] at hz
        cases hz
      | pin c =>
        rw [hs] at hz
        cases hz
      | sh c =>
        obtain ⟨v, h1, _⟩ := r.sh i c hs
        exact ⟨v, h1⟩
      | own c =>
        obtain ⟨a, h1, _⟩ := r.mu i c (by rw [hs]; rfl)
        exact ⟨_, h1⟩
    obtain ⟨v, hv⟩ := e
    obtain ⟨F1, g1, r1⟩ := frz_ok r (x := .io i) (v := v) hv hz
    exact ⟨ρ1, F1, g1.rel, PostS.up g1.fr q⟩
/-! targets -/
theorem puts_ok {K : PySem.W.Frag} {mg : Str → Option Value} {H F : Hp} : ∀ (sl : List Nat) (ds : List D) (vs : List V) (σ : L2.St) (ρ : En), Rel K mg Z σ H ρ F → RL K mg F vs ds → Rel K mg Z (putsS σ sl vs) H (puts ρ sl ds) F
  | [], _, _, _, _, r, _ => r
  | _ :: _, [], _, _, _, r, .nil => r
  | _ :: is, _ :: ds, _ :: vs, _, _, r, .cons h t => puts_ok is ds vs _ _ (r.put h) t
theorem putsS_app : ∀ (a b : List Nat) (x y : List V) (σ : L2.St), x.length = a.length → putsS σ (a ++ b) (x ++ y) = putsS (putsS σ a x) b y
  | [], _, [], _, _, _ => rfl
  | _ :: a, b, _ :: x, y, σ, h => by
    have h' : x.length = a.length := by simpa using h
    exact putsS_app a b x y _ h'
def tG (K : PySem.W.Frag) (mg : Str → Option Value) (t : Tg) : TG := fun v σ H Q => ∃ F d ds, Same F H ∧ R K mg F v d ∧ t.fn d = some ds ∧ ∀ vs, RL K mg F vs ds → Q (putsS σ t.sl vs) H
def tGs (K : PySem.W.Frag) (mg : Str → Option Value) (ts : List Tg) : TGs := fun vs σ H Q => ∃ F ds es, Same F H ∧ RL K mg F vs ds ∧ unL ts ds = some es ∧ ∀ ws, RL K mg F ws es → Q (putsS σ (ts.map Tg.sl).flatten ws) H
abbrev PT1 (X : Cx) (tg : Expr) (t : Tg) : Prop := PG X tg (tG X.K X.mg t)
abbrev PTgs (X : Cx) (tg : List Expr) (t : List Tg) : Prop := PGs X tg (tGs X.K X.mg t)
theorem PG.weak {e : Expr} {t t' : TG} (h : PG X e t) (w : ∀ v σ H Q, t' v σ H Q → t v σ H Q) : PG X e t' := ⟨fun pins s σ H v u Q I r q => h.run pins s σ H v u Q I r (w _ _ _ _ q)⟩
theorem PGs.weak {e : List Expr} {t t' : TGs} (h : PGs X e t) (w : ∀ v σ H Q, t' v σ H Q → t v σ H Q) : PGs X e t' := ⟨fun pins s σ H v u Q I r q => h.run pins s σ H v u Q I r (w _ _ _ _ q)⟩
theorem tg_name {tg : Expr} (h : PG X tg (gName i)) : PT1 X tg (gNm i) := PG.weak h fun v σ H Q ⟨F, d, ds, s, hv, e, q⟩ => by
  cases e
  exact q [v] (.one hv)
theorem tgs_nil : PTgs X [] [] := PGs.weak pgs_nil fun vs σ H Q ⟨F, ds, es, s, hv, e, q⟩ => by
  cases hv with
  | nil =>
    cases e
    exact ⟨rfl, q [] .nil⟩
  | cons _ _ => cases e
theorem tgs_cons {tg : Expr} {tgs : List Expr} {t : Tg} {ts : List Tg} (h : PT1 X tg t) (hs : PTgs X tgs ts)
    (hq : (assignEach (tg :: tgs) X.env).map (·.2) = assign tg X.env :: (assignEach tgs X.env).map (·.2) := by rfl) : PTgs X (tg :: tgs) (t :: ts) := PGs.weak (pgs_cons h hs hq) fun vs σ H Q ⟨F, ds, es, s, hv, e, q⟩ => by
  cases hv with
  | nil => cases e
  | @cons v vs d ds h1 h2 =>
    simp only [unL] at e
    cases ht : t.fn d with
    | none =>
      rw [ht] at e
      cases e
    | some a =>
      cases hu : unL ts ds with
      | none =>
        rw [ht, hu] at e
        cases e
      | some b =>
        rw [ht, hu] at e
        cases e
        refine ⟨_, _, rfl, F, d, a, s, h1, ht, fun w1 r1 => ⟨F, ds, b, s, h2, hu, fun w2 r2 => ?_⟩⟩
        have := q (w1 ++ w2) (r1.append r2)
        rw [List.map_cons, List.flatten_cons, putsS_app _ _ _ _ _ (by rw [r1.length, t.len d a ht])] at this
        exact this
theorem unL_two : ∀ (ts : List Tg) (ds es : List D), unL ts ds = some es → ds.length = ts.length
  | [], [], es, e => rfl
  | [], _ :: _, _, e => nomatch e
  | _ :: _, [], _, e => nomatch e
  | t :: ts, d :: ds, es, e => by
    simp only [unL] at e
    cases h1 : t.fn d with
    | none =>
      rw [h1] at e
      cases e
    | some a =>
      cases h2 : unL ts ds with
      | none =>
        rw [h1, h2] at e
        cases e
      | some b => rw [List.length_cons, List.length_cons, unL_two ts ds b h2]
/-- (a, b, ..) = a list or a tuple of that length -/
def gSeq (K : PySem.W.Frag) (n : Nat) (t : TGs) : TG := fun v σ H Q => ∃ a xs, v = .ref a ∧ (SqT K H a xs ∨ SqL K H a xs) ∧ xs.length = n ∧ t xs σ H Q
theorem pg_seq {es : List Expr} {k : Nat} {t : TGs} {n : Nat} (hc : X.calm = true) (h : PGs X es t)
    (hn : (assignEach es X.env).length = n := by rfl) (hst : (assignEach es X.env).findIdx? (·.1) = none := by rfl) : PG X (.Tuple es k pos) (gSeq X.K n t) := by
  refine ⟨fun pins s σ H v u Q I r hw => ?_⟩
  obtain ⟨a, xs, e1, hq, hl, hw⟩ := hw
  subst e1
  rcases hq with hq | hq
  · exact (pg_tup hc h hn hst).run pins s σ H _ _ _ I r ⟨a, xs, rfl, hq, hl, hw⟩
  · cases r
    obtain ⟨its, rv, ⟨o, n0, e, hc0, _, hd⟩, hz⟩ := I.list hq
    have ht : s.heap.IsList a its.toArray := ⟨o, e, hc0, n0, hd⟩
    rw [PyProof.Rows.assign_Tuple]
    refine wpAny_bind (wpAny_standAt ?_)
    unfold unpack
    rw [show (assignEach es X.env).length = its.toArray.size by simp [hn, ← hl, rv.length], hst]
    refine wpAny_bind (wpAny_holding (PySem.W.kun_itemsOf (I.ok.hd hc) ht fun h' hx => ?_))
    have I1 : Inv X pins σ H { s with heap := h' } := I.kept (t' := s.toks) fun b o e => hx b o (Nat.ne_of_lt (Heap.lt_size e)) e
    exact h.run pins _ σ H xs _ Q I1 (by simpa using rv) hw
theorem tg_tup {es : List Expr} {k : Nat} {ts : List Tg} (hc : X.calm = true) (h : PTgs X es ts) (hn : (assignEach es X.env).length = ts.length := by rfl) (hst : (assignEach es X.env).findIdx? (·.1) = none := by rfl) : PT1 X (.Tuple es k pos) (gTu ts) :=
  PG.weak (pg_seq hc h hn hst) fun v σ H Q ⟨F, d, ds, s, hv, e, q⟩ => by
  cases d <;> simp only [gTu] at e <;> try (cases e; done)
  · cases hv with
    | lst h1 h2 => exact ⟨_, _, rfl, .inr (.of (s _ _ h1)), by rw [h2.length]; exact unL_two _ _ _ e, F, _, ds, s, h2, e, q⟩
  · cases hv with
    | tup h1 h2 => exact ⟨_, _, rfl, .inl (same_seqT s h1), by rw [h2.length]; exact unL_two _ _ _ e, F, _, ds, s, h2, e, q⟩
theorem asg_core {t : Tg} {σ : L2.St} {H : Hp} {v : V} {ρ : En} {F : Hp} {d : D} {Q : L2.St → Hp → Prop} (r : Rel X.K X.mg Z σ H ρ F) (hv : R X.K X.mg F v d) (q : ∀ ρ', t.to d ρ = some ρ' → ∀ σ', Rel X.K X.mg Z σ' H ρ' F → Q σ' H) (n : t.to d ρ ≠ none) : tG X.K X.mg t v σ H Q := by
  unfold Tg.to at q n
  cases h : t.fn d with
  | none =>
    rw [h] at n
    exact (n rfl).elim
  | some ds =>
    rw [h] at q
    exact ⟨F, d, ds, r.same, hv, h, fun vs hvs => q _ rfl _ (puts_ok _ _ _ _ _ r hvs)⟩
theorem cs_asg {t : Tg} (h : PS X st (tAsg (tD X.K X.mg Z W fa.st) (tG X.K X.mg t))) : PC1 X Z W st (sAsg fa t) := by
  refine PS.weak h fun D σ H ⟨ρ, F, r, q⟩ => ⟨ρ, F, r, (PostS.bind q).imp fun d H1 ρ1 F1 g q1 v hv => ?_⟩
  refine asg_core g.rel hv (fun ρ' e σ' r' => ?_) (fun e => ?_)
  · simp only [e] at q1
    exact q1.val_ r'
  · simp only [e] at q1
    exact q1.elim
/-! ### walks -/
structure Wk (K : PySem.W.Frag) (mg : Str → Option Value) (F : Hp) (J : It) (ds : List D) : Prop where
  go : ∀ i H, Same F H → i < ds.length → J.go i H
  stop : ∀ i H, Same F H → ds.length ≤ i → J.stop i H
  yld : ∀ i H x H' d F2, Same F F2 → Same F2 H → ds[i]? = some d → J.yld i H x H' → ∃ F3, Same H H' ∧ Same F2 F3 ∧ Same F3 H' ∧ (∀ b, F3 b ≠ none → F2 b ≠ none ∨ H b = none) ∧ R K mg F3 x d
def tI (K : PySem.W.Frag) (mg : Str → Option Value) (Z : Zone) (W : WX) (f : M (List D)) : TI := fun σ H Rr => ∃ ρ F, Rel K mg Z σ H ρ F ∧ Post K mg Z W σ H ρ F (f ρ) fun ds H' _ F' => ∀ J, Wk K mg F' J ds → Rr J H'
abbrev PI1 (X : Cx) (Z : Zone) (W : WX) (tg iter : Expr) (f : M (List D)) : Prop := PI X tg iter (tI X.K X.mg Z W f)
theorem PI.weak {tg iter : Expr} {t t' : TI} (h : PI X tg iter t) (w : ∀ σ H Q, t' σ H Q → t σ H Q) : PI X tg iter t' := ⟨fun pins s σ H R I q => h.run pins s σ H R I (w _ _ _ q)⟩
theorem cs_for {tg iter : Expr} {body : List Stmt} {it : M (List D)} {t : Tg} {fb : M Fl} (hp : PassesOwn (model X.prog X.w) X.A X.env X.xe) (hc : X.calm = true) (hi : PI1 X Z W tg iter it) (hg : PT1 X tg t) (hb : PCs X Z W body fb)
    (hs : ∀ x, foldedSetIterable iter X.env x = pure x := by intro _; rfl) : PC1 X Z W (.For tg iter body [] pos) (sFor it t fb) := by
  refine PS.weak (ps_for hp hc hi hg hb hs) fun D σ H ⟨ρ, F, r, q⟩ => ⟨ρ, F, r, (PostS.bind q).imp fun ds H1 ρ1 F1 g q1 J wk => ?_⟩
  refine ⟨fun i m σ H => m = ds.length - i ∧ i ≤ ds.length ∧ ∃ ρ F, Rel X.K X.mg Z σ H ρ F ∧ Same F1 F ∧ PostS X.K X.mg Z W F (forL t fb (ds.drop i) ρ) D, ⟨ds.length, by simp, Nat.zero_le _, ρ1, F1, g.rel, Same.refl _, q1⟩, ?_⟩
  rintro i m σ H ⟨rfl, hi, ρ, F, r, s, q⟩
  by_cases hlt : i < ds.length
  · have hd : ds.drop i = ds[i] :: ds.drop (i + 1) := List.drop_eq_getElem_cons hlt
    rw [hd] at q
    simp only [forL] at q
    refine .inr ⟨wk.go i H (s.trans r.same) hlt, fun σ' H' => ∃ ρ' F', Rel X.K X.mg Z σ' H' ρ' F' ∧ Same F1 F' ∧ PostS X.K X.mg Z W F' (forL t fb (ds.drop (i + 1)) ρ') D, fun σ' H' ⟨ρ', F', r', s', q'⟩ => ⟨ds.length - (i + 1), by omega, rfl, hlt, ρ', F', r', s', q'⟩, fun x H' y => ?_⟩
    obtain ⟨F3, h1, h2, h3, h4, h5⟩ := wk.yld i H x H' _ F s r.same (List.getElem?_eq_getElem hlt) y
    have r3 := r.more h1 h2 h3 h4
    have q3 := PostS.up h2 q
    refine asg_core r3 h5 (fun ρ' e σ' r' => ?_) (fun e => ?_)
    · simp only [e] at q3
      have s3 := s.trans h2
      refine ⟨ρ', F3, r', ?_⟩
      cases hbd : fb ρ' with
      | bad =>
        simp only [hbd] at q3
        exact q3.elim
      | exc c fs ρ2 =>
        simp only [hbd] at q3
        exact q3
      | val x ρ2 =>
        simp only [hbd] at q3
        intro σ2 H2 F2 r2 s2
        cases x with
        | nx => exact ⟨ρ2, F2, r2, s3.trans s2, PostS.up s2 q3⟩
        | ct => exact ⟨ρ2, F2, r2, s3.trans s2, PostS.up s2 q3⟩
        | bk => exact q3 σ2 H2 F2 r2 s2
        | rt d => exact q3 σ2 H2 F2 r2 s2
    · simp only [e] at q3
      exact q3.elim
  · have e : i = ds.length := by omega
    subst e
    rw [List.drop_length] at q
    exact .inl ⟨wk.stop _ H (s.trans r.same) (Nat.le_refl _), q.val_ r⟩
theorem cs_while {c : Expr} {body : List Stmt} {fc : M Bool} {fb : M Fl} (n : Nat) (hp : PassesOwn (model X.prog X.w) X.A X.env X.xe) (hc : PB X Z W c fc) (hb : PCs X Z W body fb) : PC1 X Z W (.While c body [] pos) (sWhile n fc fb) := by
  refine PS.weak (ps_while hp hc hb) fun D σ H ⟨ρ, F, r, q⟩ => ?_
  refine ⟨fun m σ H => ∃ ρ F, Rel X.K X.mg Z σ H ρ F ∧ PostS X.K X.mg Z W F (whL fc fb m ρ) D, ⟨n, ρ, F, r, q⟩, ?_⟩
  rintro m σ H ⟨ρ, F, r, q⟩
  cases m with
  | zero => exact q.elim
  | succ m =>
    simp only [whL] at q
    refine ⟨ρ, F, r, (PostS.bind q).imp fun b H1 ρ1 F1 g1 q1 => ?_⟩
    cases b with
    | false => exact q1.val_ g1.rel
    | true =>
      rw [if_pos rfl] at q1 ⊢
      refine ⟨fun σ' H' => ∃ ρ' F', Rel X.K X.mg Z σ' H' ρ' F' ∧ PostS X.K X.mg Z W F' (whL fc fb m ρ') D, fun σ' H' ⟨ρ', F', r', q'⟩ => ⟨m, Nat.lt_succ_self _, ρ', F', r', q'⟩, ρ1, F1, g1.rel, ?_⟩
      cases hbd : fb ρ1 with
      | bad =>
        simp only [hbd] at q1
        exact q1.elim
      | exc c fs ρ2 =>
        simp only [hbd] at q1
        exact q1
      | val x ρ2 =>
        simp only [hbd] at q1
        intro σ2 H2 F2 r2 s2
        cases x with
        | nx => exact ⟨ρ2, F2, r2, PostS.up s2 q1⟩
        | ct => exact ⟨ρ2, F2, r2, PostS.up s2 q1⟩
        | bk => exact q1 σ2 H2 F2 r2 s2
        | rt d => exact q1 σ2 H2 F2 r2 s2
end
/-! ### what is walked -/
def iLst (f : M AV) : M (List D) := fun ρ => (f.st ρ).bind fun d ρ1 => match d with
  | .lst xs => .val xs ρ1
  | _ => .bad
def iTpl (f : M AV) : M (List D) := fun ρ => (f.st ρ).bind fun d ρ1 => match d with
  | .tup xs => .val xs ρ1
  | _ => .bad
def rng (lo : Int) (n : Nat) : List D := (List.range n).map fun (k : Nat) => .int (lo + (k : Int))
def iR1 (f : M (List AV)) : M (List D) := fun ρ => (f ρ).bind fun xs ρ1 => match derL xs ρ1 with
  | some [.int j] => if -(2 ^ 62) ≤ j ∧ j < 2 ^ 62 then .val (rng 0 j.toNat) ρ1 else .bad
  | _ => .bad
def iR2 (f : M (List AV)) : M (List D) := fun ρ => (f ρ).bind fun xs ρ1 => match derL xs ρ1 with
  | some [.int i, .int j] => if -(2 ^ 62) ≤ i ∧ i < 2 ^ 62 ∧ -(2 ^ 62) ≤ j ∧ j < 2 ^ 62 then .val (rng i (j - i).toNat) ρ1 else .bad
  | _ => .bad
def enumL : Nat → List D → List D
  | _, [] => []
  | k, d :: r => .tup [.int k, d] :: enumL (k + 1) r
def iEn (f : M (List AV)) : M (List D) := fun ρ => (f.sts ρ).bind fun xs ρ1 => match xs with
  | [.lst ds] => .val (enumL 0 ds) ρ1
  | _ => .bad
section
variable {K : PySem.W.Frag} {mg : Str → Option Value} {F : Hp}
theorem wk_lst {a : Addr} {vs : List V} {ds : List D} (h : F a = some (.lst vs)) (r : RL K mg F vs ds) : Wk K mg F (Itl K a) ds := by
  have hl := r.length
  refine ⟨fun i H s hi => ⟨vs, vs[i], .inl (.inl (s _ _ h)), List.getElem?_eq_getElem (by omega)⟩, fun i H s hi => ⟨vs, .inl (.inl (s _ _ h)), by omega⟩, fun i H x H' d F2 s1 s2 hd y => ?_⟩
  obtain ⟨rfl, y⟩ := y
  have e := y vs (.inl (.inl (s2 _ _ (s1 _ _ h))))
  obtain ⟨v, hv, rv⟩ := r.get hd
  rw [e] at hv
  cases hv
  exact ⟨F2, Same.refl _, Same.refl _, s2, fun b q => .inl q, rv.mono s1⟩
theorem wk_tup {a : Addr} {vs : List V} {ds : List D} (h : SqT K F a vs) (r : RL K mg F vs ds) : Wk K mg F (Itt K a) ds := by
  have hl := r.length
  refine ⟨fun i H s hi => ⟨vs, vs[i], same_seqT s h, List.getElem?_eq_getElem (by omega)⟩, fun i H s hi => ⟨vs, same_seqT s h, by omega⟩, fun i H x H' d F2 s1 s2 hd y => ?_⟩
  obtain ⟨rfl, y⟩ := y
  have e := y vs (same_seqT s2 (same_seqT s1 h))
  obtain ⟨v, hv, rv⟩ := r.get hd
  rw [e] at hv
  cases hv
  exact ⟨F2, Same.refl _, Same.refl _, s2, fun b q => .inl q, rv.mono s1⟩
theorem rng_get {lo : Int} {n i : Nat} {d : D} (h : (rng lo n)[i]? = some d) : d = .int (lo + i) := by
  unfold rng at h
  rw [List.getElem?_map] at h
  cases e : (List.range n)[i]? with
  | none =>
    rw [e] at h
    cases h
  | some k =>
    rw [e] at h
    have : k = i := by
      rw [List.getElem?_range] at e
      · exact (Option.some.inj e).symm
      · have := List.getElem?_eq_some_iff.mp e
        obtain ⟨h1, _⟩ := this
        simpa using h1
    subst this
    exact (Option.some.inj h).symm
theorem wk_rng (lo : Int) (n : Nat) : Wk K mg F (Itr lo n) (rng lo n) := by
  have hl : (rng lo n).length = n := by simp [rng]
  refine ⟨fun i H _ hi => by rw [hl] at hi; exact hi, fun i H _ hi => by rw [hl] at hi; exact hi, fun i H x H' d F2 s1 s2 hd y => ?_⟩
  obtain ⟨rfl, rfl⟩ := y
  rw [rng_get hd]
  exact ⟨F2, Same.refl _, Same.refl _, s2, fun b q => .inl q, .int _⟩
theorem enum_len : ∀ (ds : List D) (k : Nat), (enumL k ds).length = ds.length
  | [], _ => rfl
  | _ :: r, k => by rw [enumL, List.length_cons, List.length_cons, enum_len r]
theorem enum_get : ∀ (ds : List D) (k i : Nat) {d : D}, (enumL k ds)[i]? = some d → ∃ e, ds[i]? = some e ∧ d = .tup [.int ((k + i : Nat) : Int), e]
  | _ :: _, k, 0, _, h => by
    cases h
    exact ⟨_, rfl, rfl⟩
  | _ :: r, k, i + 1, _, h => by
    obtain ⟨e, h1, h2⟩ := enum_get r (k + 1) i h
    refine ⟨e, h1, ?_⟩
    rw [h2, show k + 1 + i = k + (i + 1) by omega]
theorem wk_enum {a : Addr} {vs : List V} {ds : List D} (h : F a = some (.lst vs)) (r : RL K mg F vs ds) : Wk K mg F (L2.Ite K a) (enumL 0 ds) := by
  have hl := r.length
  refine ⟨fun i H s hi => ?_, fun i H s hi => ?_, fun i H x H' d F2 s1 s2 hd y => ?_⟩
  · rw [enum_len] at hi
    exact ⟨vs, vs[i], .inl (.inl (s _ _ h)), List.getElem?_eq_getElem (by omega)⟩
  · rw [enum_len] at hi
    exact ⟨vs, .inl (.inl (s _ _ h)), by omega⟩
  · obtain ⟨T, u, rfl, nT, rfl, y⟩ := y
    have e := y vs (.inl (.inl (s2 _ _ (s1 _ _ h))))
    obtain ⟨e', h1, h2⟩ := enum_get ds 0 i hd
    obtain ⟨v, hv, rv⟩ := r.get h1
    rw [e] at hv
    cases hv
    rw [h2, Nat.zero_add]
    have f := same_new (o := .tup [V.int (i : Nat), u]) (s2.free nT)
    exact ⟨upd F2 T (.tup [.int (i : Nat), u]), same_new nT, f, same_grow s2 nT, fun b q => by
      by_cases z : b = T
      · rw [z]
        exact .inr nT
      · rw [upd_ne z] at q
        exact .inl q, .tup (.inl (.inl upd_same)) (.cons (.int _) (.cons (rv.mono (s1.trans f)) .nil))⟩
end
section
variable {X : Cx} {Z : Zone} {W : WX} {tg e a b : Expr} {f : M AV} {fs : M (List AV)}
theorem it_lst (h : PV X Z W e f) : PI1 X Z W tg e (iLst f) := by
  refine PI.weak (pi_list (ed h)) fun σ H Q ⟨ρ, F, r, q⟩ => ⟨ρ, F, r, (Post.bind q).imp fun d H1 ρ1 F1 g q1 v hv => ?_⟩
  cases d <;> simp only [] at q1 <;> try exact q1.elim
  cases hv with
  | lst h1 h2 => exact ⟨_, rfl, ⟨_, .inl (.inl (g.rel.same _ _ h1))⟩, q1.val_ g.rel _ (wk_lst h1 h2)⟩
theorem it_tup (h : PV X Z W e f) : PI1 X Z W tg e (iTpl f) := by
  refine PI.weak (pi_tup (ed h)) fun σ H Q ⟨ρ, F, r, q⟩ => ⟨ρ, F, r, (Post.bind q).imp fun d H1 ρ1 F1 g q1 v hv => ?_⟩
  cases d <;> simp only [] at q1 <;> try exact q1.elim
  cases hv with
  | tup h1 h2 => exact ⟨_, rfl, ⟨_, same_seqT g.rel.same h1⟩, q1.val_ g.rel _ (wk_tup h1 h2)⟩
theorem RpL.one {K : PySem.W.Frag} {mg : Str → Option Value} {F H : Hp} {vs : List V} {d : D} (h : RpL K mg F H vs [d]) : ∃ v, vs = [v] ∧ Rp K mg F H v d := by
  cases h with
  | cons h1 h2 =>
    cases h2
    exact ⟨_, rfl, h1⟩
theorem RpL.two {K : PySem.W.Frag} {mg : Str → Option Value} {F H : Hp} {vs : List V} {d e : D} (h : RpL K mg F H vs [d, e]) : ∃ v w, vs = [v, w] ∧ Rp K mg F H v d ∧ Rp K mg F H w e := by
  cases h with
  | cons h1 h2 =>
    obtain ⟨w, rfl, h3⟩ := h2.one
    exact ⟨_, _, rfl, h1, h3⟩
theorem it_r1 {p pos : Pos} (hg : Gl X "range") (hm : X.mg "range" = none) (h : PL X Z W [a] fs) (hs : starEach [a] X.env = [(false, eval a X.env)] := by rfl) : PI1 X Z W tg (.Call (.Name "range" p) [a] [] pos) (iR1 fs) := by
  refine PI.weak (pi_range1 hg hm h hs) fun σ H Q ⟨ρ, F, r, q⟩ => ⟨ρ, F, r, (Post.bind q).imp fun xs H1 ρ1 F1 g q1 vs hv => ?_⟩
  split at q1
  case h_2 => exact q1.elim
  case h_1 j e =>
    obtain ⟨v, rfl, h1⟩ := (derL_ok g.rel hv e).one
    by_cases c : -(2 ^ 62) ≤ j ∧ j < 2 ^ 62
    · rw [if_pos c] at q1
      exact ⟨j, by rw [h1.int], c.1, c.2, q1.val_ g.rel _ (wk_rng _ _)⟩
    · rw [if_neg c] at q1
      exact q1.elim
theorem it_r2 {p pos : Pos} (hg : Gl X "range") (hm : X.mg "range" = none) (h : PL X Z W [a, b] fs) (hs : starEach [a, b] X.env = [(false, eval a X.env), (false, eval b X.env)] := by rfl) (hs2 : starEach [b] X.env = [(false, eval b X.env)] := by rfl) :
    PI1 X Z W tg (.Call (.Name "range" p) [a, b] [] pos) (iR2 fs) := by
  refine PI.weak (pi_range2 hg hm h hs hs2) fun σ H Q ⟨ρ, F, r, q⟩ => ⟨ρ, F, r, (Post.bind q).imp fun xs H1 ρ1 F1 g q1 vs hv => ?_⟩
  split at q1
  case h_2 => exact q1.elim
  case h_1 i j e =>
    obtain ⟨v, w, rfl, h1, h2⟩ := (derL_ok g.rel hv e).two
    by_cases c : -(2 ^ 62) ≤ i ∧ i < 2 ^ 62 ∧ -(2 ^ 62) ≤ j ∧ j < 2 ^ 62
    · rw [if_pos c] at q1
      exact ⟨i, j, by rw [h1.int, h2.int], c, q1.val_ g.rel _ (wk_rng _ _)⟩
    · rw [if_neg c] at q1
      exact q1.elim
theorem it_enum {p pos tpos : Pos} {elts : List Expr} {kk : Nat} (hg : Gl X "enumerate") (hm : X.mg "enumerate" = none) (h : PL X Z W [e] fs) (hs : starEach [e] X.env = [(false, eval e X.env)] := by rfl) :
    PI1 X Z W (.Tuple elts kk tpos) (.Call (.Name "enumerate" p) [e] [] pos) (iEn fs) := by
  refine PI.weak (pi_enum hg hm (PL.sts h) hs) fun σ H Q ⟨ρ, F, r, q⟩ => ⟨ρ, F, r, (Post.bind q).imp fun xs H1 ρ1 F1 g q1 vs hv => ?_⟩
  split at q1
  case h_2 => exact q1.elim
  case h_1 ds =>
    cases hv with
    | cons h1 h2 =>
      cases h2
      cases h1 with
      | lst h1 h2 => exact ⟨_, _, rfl, .inl (.inl (g.rel.same _ _ h1)), q1.val_ g.rel _ (wk_enum h1 h2)⟩
end
/-! ### objects that change -/
def Sl.re : Sl → D → Option Sl
  | .own _, d => some (.own d)
  | .pin _, d => some (.pin d)
  | _, _ => none
/-- the object of slot i by a method: what it gives, what it is then -/
abbrev GM := D → List D → Option (D × D)
def mutI (g : GM) (i : Nat) (ds : List D) (ρ : En) : Res AV := match (ρ.at i).mu with
  | none => .bad
  | some c => match g c ds with
    | none => .bad
    | some (z, c') => match (ρ.at i).re c' with
      | none => .bad
      | some s => .val (.d z) (ρ.set i s)
def eMut (i : Nat) (g : GM) (fs : M (List AV)) : M AV := fun ρ => (fs.sts ρ).bind fun ds ρ1 => mutI g i ds ρ1
def eMut0 (i : Nat) (g : GM) : M AV := fun ρ => mutI g i [] ρ
section
variable {K : PySem.W.Frag} {mg : Str → Option Value} {Z : Zone} {σ : L2.St} {H F : Hp} {ρ : En} {a : Addr} {d d' : D} {o : HO} {i : Nat} {s : Sl}
theorem Rel.change (h : Rel K mg Z σ H ρ F) (q : (ρ.at i).mu = some d) (e : σ[i]? = some (some (.ref a))) (hs : (ρ.at i).re d' = some s) (c : Ct K mg F (upd H a o) a d') : Go K mg Z σ H ρ F (upd H a o) (ρ.set i s) F := by
  obtain ⟨a', h1, h2, h3⟩ := h.mu i d q
  rw [e] at h1
  cases h1
  have hi : i < ρ.length := En.at_lt (by intro z; rw [z] at q; cases q)
  have smu : s.mu = some d' := by
    cases z : ρ.at i <;> rw [z] at hs <;> simp only [Sl.re] at hs <;> cases hs <;> rfl
  have kind : ∀ j x, En.at (ρ.set i s) j = x → (j = i ∧ x = s) ∨ (j ≠ i ∧ ρ.at j = x) := fun j x e => by
    by_cases z : i = j
    · subst z
      rw [En.at_eq hi] at e
      exact .inl ⟨rfl, e.symm⟩
    · rw [En.at_ne z] at e
      exact .inr ⟨fun y => z y.symm, e⟩
  have mu2 : ∀ j x, (En.at (ρ.set i s) j).mu = some x → ∃ y, (ρ.at j).mu = some y := fun j x e => by
    rcases kind j _ rfl with ⟨rfl, _⟩ | ⟨_, z⟩
    · exact ⟨d, q⟩
    · rw [← z] at e
      exact ⟨x, e⟩
  refine ⟨⟨by rw [List.length_set]; exact h.len, same_off h.same h2, fun j x q2 => ?_, fun j x q2 => ?_, fun j x q2 b hb => ?_, fun j x q2 b hb => ?_, fun j k x y b q1 q2 => ?_, fun b u n e2 => ?_, fun b n => ?_, h.fr0, h.new⟩, Same.refl _, fun b u n e2 => ?_, fun j x e2 => mu2 j x e2, fun b hb => ?_, fun b hb => .inl hb⟩
  · rcases kind j _ q2 with ⟨rfl, z⟩ | ⟨_, z⟩
    · rw [← z] at smu
      cases smu
    · exact h.sh j x z
  · rcases kind j _ rfl with ⟨rfl, z⟩ | ⟨n, z⟩
    · rw [z] at q2
      rw [smu] at q2
      cases q2
      exact ⟨a, e, h2, c⟩
    · rw [← z] at q2
      obtain ⟨b, g1, g2, g3⟩ := h.mu j x q2
      refine ⟨b, g1, g2, g3.mono (Same.refl _) (upd_ne ?_)⟩
      intro z2
      exact n (h.dist j i x d a q2 q (by rw [← z2]; exact g1) e)
  · rcases kind j _ q2 with ⟨rfl, z⟩ | ⟨_, z⟩
    · cases y : ρ.at j with
      | own c0 => exact h.own j c0 y b hb
      | pin c0 =>
        rw [y] at hs
        cases hs
        cases z
      | no =>
        rw [y] at q
        cases q
      | sh _ =>
        rw [y] at q
        cases q
    · exact h.own j x z b hb
  · rcases kind j _ q2 with ⟨rfl, z⟩ | ⟨_, z⟩
    · cases y : ρ.at j with
      | pin c0 => exact h.pin j c0 y b hb
      | own c0 =>
        rw [y] at hs
        cases hs
        cases z
      | no =>
        rw [y] at q
        cases q
      | sh _ =>
        rw [y] at q
        cases q
    · exact h.pin j x z b hb
  · obtain ⟨x', hx⟩ := mu2 j x q1
    obtain ⟨y', hy⟩ := mu2 k y q2
    exact h.dist j k x' y' b hx hy
  · have ne : b ≠ a := by
      intro z
      subst z
      cases y : ρ.at i with
      | own c0 =>
        have := h.own i c0 y b e
        rw [this] at e2
        cases e2
      | pin c0 => exact n i (h.pin i c0 y b e)
      | no =>
        rw [y] at q
        cases q
      | sh _ =>
        rw [y] at q
        cases q
    rw [upd_ne ne]
    exact h.off b u n e2
  · by_cases z : b = a
    · rw [z, upd_same]
      intro y
      cases y
    · rw [upd_ne z]
      exact h.live b n
  · have ne : b ≠ a := fun z => n i d q (by rw [z]; exact e)
    rw [upd_ne ne]
    exact e2
  · by_cases z : b = a
    · rw [z, upd_same]
      intro y
      cases y
    · rw [upd_ne z]
      exact hb
/-- what r asks of the object at a -/
def OkM (K : PySem.W.Frag) (mg : Str → Option Value) (r : V → List V → Hp → VK → Prop) (g : GM) : Prop := ∀ {F H : Hp} {a : Addr} {c : D} {vs : List V} {ds : List D} {z c' : D} {Q : VK}, Same F H → F a = none → Ct K mg F H a c → RL K mg F vs ds → g c ds = some (z, c') →
  (∀ u o, Ct K mg F (upd H a o) a c' → R K mg F u z → Q u (upd H a o)) → r (.ref a) vs H Q
end
/-- the receiver's kind, ahead of the arguments -/
def kindOk (T : String) : Option D → Bool
  | some (.lst _) => T == "list"
  | some (.dic _) => T == "dict"
  | _ => false
def eMt (T : String) (i : Nat) (g : GM) (fs : M (List AV)) : M AV := fun ρ => if kindOk T (ρ.at i).mu = true then eMut i g fs ρ else .bad
def eMt0 (T : String) (i : Nat) (g : GM) : M AV := fun ρ => if kindOk T (ρ.at i).mu = true then eMut0 i g ρ else .bad
section
variable {X : Cx} {Z : Zone} {W : WX} {e : Expr} {es : List Expr} {fs : M (List AV)} {i : Nat}
theorem mut_core {r : V → List V → Hp → VK → Prop} {g : GM} (ok : OkM X.K X.mg r g) {σ : L2.St} {H F : Hp} {ρ : En} {vs : List V} {ds : List D} {Q : VK} (rel : Rel X.K X.mg Z σ H ρ F) (hv : RL X.K X.mg F vs ds)
    (q : Post X.K X.mg Z W σ H ρ F (mutI g i ds ρ) fun x H' _ F' => ∀ v, AR X.K X.mg F' σ v x → Q v H') : ∃ a, σ[i]? = some (some (.ref a)) ∧ r (.ref a) vs H Q := by
  unfold mutI at q
  cases hm : (ρ.at i).mu with
  | none =>
    simp only [hm] at q
    exact q.elim
  | some c =>
    simp only [hm] at q
    obtain ⟨a, h1, h2, h3⟩ := rel.mu i c hm
    cases hg : g c ds with
    | none =>
      simp only [hg] at q
      exact q.elim
    | some zc =>
      obtain ⟨z, c'⟩ := zc
      simp only [hg] at q
      cases hs : (ρ.at i).re c' with
      | none =>
        simp only [hs] at q
        exact q.elim
      | some s =>
        simp only [hs] at q
        exact ⟨a, h1, ok rel.same h2 h3 hv hg fun u o hc hu => q _ F (rel.change hm h1 hs hc) u hu⟩
theorem kind_ty {T : String} {σ : L2.St} {H F : Hp} {ρ : En} (rel : Rel X.K X.mg Z σ H ρ F) (h : kindOk T (ρ.at i).mu = true) : ∃ a, σ[i]? = some (some (.ref a)) ∧ tyV X.K T (.ref a) H := by
  cases hm : (ρ.at i).mu with
  | none =>
    rw [hm] at h
    cases h
  | some c =>
    rw [hm] at h
    obtain ⟨a, h1, _, h3⟩ := rel.mu i c hm
    refine ⟨a, h1, ?_⟩
    cases c <;> simp only [kindOk] at h <;> try (cases h; done)
    · obtain ⟨vs, g1, _⟩ := h3
      exact .inl ⟨beq_iff_eq.mp h, vs, .inl (.inl g1)⟩
    · obtain ⟨vs, g1, _⟩ := h3
      exact .inr (.inr (.inl ⟨beq_iff_eq.mp h, .inl ⟨vs, g1⟩⟩))
theorem ev_mt {T : String} {r : V → List V → Hp → VK → Prop} {g : GM} (ok : OkM X.K X.mg r g) (h : ∀ t, PA X es t → PE X e (tBM X.K T r (tVar i) t)) (ha : PL X Z W es fs) : PV X Z W e (eMt T i g fs) := by
  refine PE.weak (h _ (PL.sts ha)) fun σ H Q ⟨ρ, F, rel, q⟩ => ?_
  unfold eMt at q
  by_cases hk : kindOk T (ρ.at i).mu = true
  · rw [if_pos hk] at q
    obtain ⟨a, h1, h2⟩ := kind_ty rel hk
    refine ⟨_, h1, h2, ρ, F, rel, (Post.bind q).imp fun ds H1 ρ1 F1 g1 q1 vs hv => ?_⟩
    obtain ⟨a', h1', k⟩ := mut_core ok g1.rel hv q1
    rw [h1] at h1'
    cases h1'
    exact k
  · rw [if_neg hk] at q
    exact q.elim
theorem ev_mt0 {T : String} {r : V → List V → Hp → VK → Prop} {g : GM} (ok : OkM X.K X.mg r g) (h : PE X e (tBM0 X.K T r (tVar i))) : PV X Z W e (eMt0 T i g) := by
  refine PE.weak h fun σ H Q ⟨ρ, F, rel, q⟩ => ?_
  unfold eMt0 at q
  by_cases hk : kindOk T (ρ.at i).mu = true
  · rw [if_pos hk] at q
    obtain ⟨a, h1, h2⟩ := kind_ty rel hk
    refine ⟨_, h1, h2, ?_⟩
    obtain ⟨a', h1', k⟩ := mut_core ok rel .nil q
    rw [h1] at h1'
    cases h1'
    exact k
  · rw [if_neg hk] at q
    exact q.elim
end
def gApp : GM
  | .lst xs, [d] => if xs.length < sizeLine then some (.non, .lst (xs ++ [d])) else none
  | _, _ => none
def gExt : GM
  | .lst xs, [.lst ys] => if xs.length + ys.length ≤ sizeLine then some (.non, .lst (xs ++ ys)) else none
  | _, _ => none
def gPop : GM
  | .lst xs, [] => (xs[xs.length - 1]?).map fun d => (d, .lst xs.dropLast)
  | _, _ => none
section
variable {K : PySem.W.Frag} {mg : Str → Option Value}
theorem ok_app : OkM K mg rAppend gApp := by
  intro F H a c vs ds z c' Q s f hc hv hg q
  match c, ds, hc, hv, hg with
  | .lst xs, [d], ⟨us, h1, h2⟩, .cons r .nil, hg =>
    simp only [gApp] at hg
    by_cases k : xs.length < sizeLine
    · rw [if_pos k] at hg
      cases hg
      exact ⟨a, us, _, rfl, rfl, h1, by rw [h2.length]; exact k, q _ _ ⟨_, upd_same, h2.append (.one r)⟩ .non⟩
    · rw [if_neg k] at hg
      cases hg
theorem ok_ext : OkM K mg rExtend gExt := by
  intro F H a c vs ds z c' Q s f hc hv hg q
  match c, ds, hc, hv, hg with
  | .lst xs, [.lst ys], ⟨us, h1, h2⟩, .cons r .nil, hg =>
    simp only [gExt] at hg
    by_cases k : xs.length + ys.length ≤ sizeLine
    · rw [if_pos k] at hg
      cases hg
      cases r with
      | lst g1 g2 => exact ⟨a, _, us, _, rfl, rfl, h1, s _ _ g1, by rw [h2.length, g2.length]; exact k, q _ _ ⟨_, upd_same, h2.append g2⟩ .non⟩
    · rw [if_neg k] at hg
      cases hg
theorem RL.dropLast {G : Hp} : ∀ {vs : List V} {ds : List D}, RL K mg G vs ds → RL K mg G vs.dropLast ds.dropLast
  | _, _, .nil => .nil
  | _, _, .cons h .nil => .nil
  | _, _, .cons h (.cons h2 t) => .cons h (RL.dropLast (.cons h2 t))
theorem ok_pop : OkM K mg rPop gPop := by
  intro F H a c vs ds z c' Q s f hc hv hg q
  match c, ds, hc, hv, hg with
  | .lst xs, [], ⟨us, h1, h2⟩, .nil, hg =>
    simp only [gPop] at hg
    cases e : xs[xs.length - 1]? with
    | none =>
      rw [e] at hg
      cases hg
    | some d =>
      rw [e] at hg
      cases hg
      obtain ⟨v, hv, rv⟩ := h2.get e
      exact ⟨a, us, v, rfl, rfl, h1, by rw [h2.length]; exact hv, q _ _ ⟨_, upd_same, h2.dropLast⟩ rv⟩
end
/-! xs[i] = e -/
def stoI (i : Nat) (k d : D) (ρ : En) : Option En := match (ρ.at i).mu, k with
  | some (.lst xs), .int j => match ixN xs.length j with
    | some n => match (ρ.at i).re (.lst (xs.set n d)) with
      | some s => some (ρ.set i s)
      | none => none
    | none => none
  | _, _ => none
def sSto (i : Nat) (fi fe : M AV) : M Fl := fun ρ => (fe.st ρ).bind fun d ρ1 => match (ρ1.at i).mu with
  | none => .bad
  | some _ => (fi.st ρ1).bind fun k ρ2 => match stoI i k d ρ2 with
    | some ρ3 => .val .nx ρ3
    | none => .bad
section
variable {X : Cx} {Z : Zone} {W : WX} {st : Stmt} {fe fi : M AV} {i : Nat}
theorem cs_sto (h : PS X st (tAsg (tD X.K X.mg Z W fe.st) (L2.gSub (tVar i) (tD X.K X.mg Z W fi.st) rSetL))) : PC1 X Z W st (sSto i fi fe) := by
  refine PS.weak h fun De σ H ⟨ρ, F, r, q⟩ => ⟨ρ, F, r, (PostS.bind q).imp fun d H1 ρ1 F1 g q1 v hv => ?_⟩
  cases hm : (ρ1.at i).mu with
  | none =>
    simp only [hm] at q1
    exact q1.elim
  | some c =>
    simp only [hm] at q1
    obtain ⟨a, h1, _, _⟩ := g.rel.mu i c hm
    refine ⟨_, h1, ρ1, F1, g.rel, (PostS.bind q1).imp fun k H2 ρ2 F2 g2 q2 w hw => ?_⟩
    cases hs : stoI i k d ρ2 with
    | none =>
      simp only [hs] at q2
      exact q2.elim
    | some ρ3 =>
      simp only [hs] at q2
      unfold stoI at hs
      cases hm2 : (ρ2.at i).mu with
      | none =>
        simp only [hm2] at hs
        cases hs
      | some c2 =>
        cases c2 <;> cases k <;> simp only [hm2] at hs <;> try (cases hs; done)
        rename_i xs j
        cases hn : ixN xs.length j with
        | none =>
          simp only [hn] at hs
          cases hs
        | some n =>
          simp only [hn] at hs
          cases hr : (ρ2.at i).re (.lst (xs.set n d)) with
          | none =>
            simp only [hr] at hs
            cases hs
          | some s =>
            simp only [hr] at hs
            cases hs
            obtain ⟨a', g1, g2', us, g3, g4⟩ := g2.rel.mu i _ hm2
            rw [h1] at g1
            cases g1
            cases hw
            refine ⟨a, us, j, n, rfl, rfl, g3, by rw [g4.length]; exact hn, ?_⟩
            exact q2.val_ (g2.rel.change hm2 h1 hr ⟨_, upd_same, g4.set n (hv.mono g2.fr)⟩).rel
end
end PV
namespace PV
open PySem PySem.Spec PyProof.Rows L2 VK

/-! ### comprehensions -/
def Res.nox {α : Type} (r : Res α) : Res α := match r with
  | .val x ρ => .val x ρ
  | _ => .bad
def wipeE (ρ : En) : List Nat → En
  | [] => ρ
  | v :: vs => (wipeE ρ vs).set v .no
def keepS : Sl → Sl
  | .sh d => .sh d
  | _ => .no
/-- the names of the block are what they were -/
def unwipe (ρ : En) (ρ2 : En) : List Nat → En
  | [] => ρ2
  | v :: vs => (unwipe ρ ρ2 vs).set v (keepS (ρ.at v))
def lcL (vs : List Nat) (t : Tg) (ft : M Bool) (fe : M AV) : List D → List D → M (List D)
  | [], acc, ρ => .val acc ρ
  | d :: r, acc, ρ => match t.to d ρ with
    | none => .bad
    | some ρ1 => (ft ρ1).bind fun b ρ2 => if b = true then (fe.st ρ2).bind fun e ρ3 => (if acc.length < sizeLine then lcL vs t ft fe r (acc ++ [e]) (wipeE ρ3 vs) else .bad) else lcL vs t ft fe r acc (wipeE ρ2 vs)
def nLc (vs : List Nat) (it : M (List D)) (t : Tg) (ft : M Bool) (fe : M AV) : M D := fun ρ => (it ρ).bind fun ds ρ1 => (lcL vs t ft fe ds [] (wipeE ρ1 vs)).nox.bind fun acc ρ2 => .val (.lst acc) (unwipe ρ1 ρ2 vs)
def bYes : M Bool := fun ρ => .val true ρ

section
variable {K : PySem.W.Frag} {mg : Str → Option Value} {Z : Zone} {W : WX} {σ : L2.St} {H H1 F F1 : Hp} {ρ ρ1 ρ2 : En} {α : Type}
theorem wipeE_length (ρ : En) : ∀ vs : List Nat, (wipeE ρ vs).length = ρ.length
  | [] => rfl
  | v :: vs => by
    show ((wipeE ρ vs).set v .no).length = _
    rw [List.length_set, wipeE_length ρ vs]
theorem unwipe_length (ρ ρ2 : En) : ∀ vs : List Nat, (unwipe ρ ρ2 vs).length = ρ2.length
  | [] => rfl
  | v :: vs => by
    show ((unwipe ρ ρ2 vs).set v _).length = _
    rw [List.length_set, unwipe_length ρ ρ2 vs]
theorem wipeE_at {j : Nat} {s : Sl} (hs : s ≠ .no) : ∀ {vs : List Nat}, En.at (wipeE ρ vs) j = s → ρ.at j = s ∧ j ∉ vs
  | [], h => ⟨h, by simp⟩
  | v :: vs, h => by
    have h' : En.at ((wipeE ρ vs).set v .no) j = s := h
    rw [En.at_set] at h'
    split at h'
    · exact (hs h'.symm).elim
    · rename_i c
      obtain ⟨h1, h2⟩ := wipeE_at hs h'
      refine ⟨h1, fun m => ?_⟩
      rcases List.mem_cons.mp m with z | z
      · refine c ⟨z.symm, ?_⟩
        rw [wipeE_length, ← z]
        exact En.at_lt (by rw [h1]; exact hs)
      · exact h2 z
theorem unwipe_at {j : Nat} {s : Sl} (hs : s ≠ .no) : ∀ {vs : List Nat}, En.at (unwipe ρ ρ2 vs) j = s → (j ∈ vs ∧ keepS (ρ.at j) = s) ∨ (j ∉ vs ∧ ρ2.at j = s)
  | [], h => .inr ⟨by simp, h⟩
  | v :: vs, h => by
    have h' : En.at ((unwipe ρ ρ2 vs).set v (keepS (ρ.at v))) j = s := h
    rw [En.at_set] at h'
    split at h'
    · rename_i c
      rw [← c.1]
      exact .inl ⟨List.mem_cons_self, h'⟩
    · rename_i c
      rcases unwipe_at hs h' with ⟨h1, h2⟩ | ⟨h1, h2⟩
      · exact .inl ⟨List.mem_cons_of_mem _ h1, h2⟩
      · refine .inr ⟨fun m => ?_, h2⟩
        rcases List.mem_cons.mp m with z | z
        · refine c ⟨z.symm, ?_⟩
          rw [unwipe_length, ← z]
          exact En.at_lt (by rw [h2]; exact hs)
        · exact h1 z
theorem wipe_get {j : Nat} : ∀ {vs : List Nat}, j ∉ vs → (wipe σ vs)[j]? = σ[j]?
  | [], _ => rfl
  | v :: vs, h => by
    show ((wipe σ vs).set v none)[j]? = _
    rw [List.getElem?_set_ne (fun z => h (by rw [z]; exact List.mem_cons_self)), wipe_get fun z => h (List.mem_cons_of_mem _ z)]
theorem wipe_in {j : Nat} (hj : j < σ.length) : ∀ {vs : List Nat}, j ∈ vs → (wipe σ vs)[j]? = some none
  | v :: vs, h => by
    show ((wipe σ vs).set v none)[j]? = _
    by_cases e : v = j
    · subst e
      rw [List.getElem?_set_self (by rw [wipe_length]; exact hj)]
    · rw [List.getElem?_set_ne e]
      rcases List.mem_cons.mp h with z | z
      · exact (e z.symm).elim
      · exact wipe_in hj z
/-- two lists of slots that agree outside of vs are one when wiped -/
theorem wipe_eq {σ2 : L2.St} {vs : List Nat} (hl : σ2.length = σ.length) (h : ∀ j, j ∉ vs → σ2[j]? = σ[j]?) : wipe σ2 vs = wipe σ vs := by
  refine List.ext_getElem? fun j => ?_
  by_cases m : j ∈ vs
  · by_cases hj : j < σ.length
    · rw [wipe_in (by rw [hl]; exact hj) m, wipe_in hj m]
    · rw [List.getElem?_eq_none (by rw [wipe_length, hl]; omega), List.getElem?_eq_none (by rw [wipe_length]; omega)]
  · rw [wipe_get m, wipe_get m, h j m]
theorem putsS_length : ∀ (sl : List Nat) (vs : List V) (σ : L2.St), (putsS σ sl vs).length = σ.length
  | [], _, _ => rfl
  | _ :: _, [], _ => rfl
  | _ :: is, _ :: vs, σ => by
    rw [putsS, putsS_length is vs, List.length_set]
theorem putsS_get {j : Nat} : ∀ (sl : List Nat) (vs : List V) (σ : L2.St), j ∉ sl → (putsS σ sl vs)[j]? = σ[j]?
  | [], _, _, _ => rfl
  | _ :: _, [], _, _ => rfl
  | i :: is, _ :: vs, σ, h => by
    rw [putsS, putsS_get is vs _ (fun z => h (List.mem_cons_of_mem _ z)), List.getElem?_set_ne (fun z => h (by rw [z]; exact List.mem_cons_self))]
theorem wipe_puts {sl vs : List Nat} (h : ∀ i ∈ sl, i ∈ vs) (ws : List V) : wipe (putsS (wipe σ vs) sl ws) vs = wipe σ vs := by
  refine wipe_eq (by rw [putsS_length, wipe_length]) fun j hj => ?_
  rw [putsS_get sl ws _ (fun z => hj (h j z)), wipe_get hj]
theorem Rel.wipe (r : Rel K mg Z σ H ρ F) (vs : List Nat) : Rel K mg Z (wipe σ vs) H (wipeE ρ vs) F := by
  have m2 : ∀ j e, ((wipeE ρ vs).at j).mu = some e → (ρ.at j).mu = some e ∧ j ∉ vs := fun j e q => by
    obtain ⟨h1, h2⟩ := wipeE_at (s := (wipeE ρ vs).at j) (fun z => by rw [z] at q; cases q) rfl
    rw [h1]
    exact ⟨q, h2⟩
  refine ⟨by rw [wipe_length, wipeE_length]; exact r.len, r.same, fun j d q => ?_, fun j d q => ?_, fun j d q b hb => ?_, fun j d q b hb => ?_, fun j k d e b q1 q2 b1 b2 => ?_, r.off, r.live, r.fr0, r.new⟩
  · obtain ⟨h1, h2⟩ := wipeE_at (fun z => by cases z) q
    rw [wipe_get h2]
    exact r.sh j d h1
  · obtain ⟨h1, h2⟩ := m2 j d q
    rw [wipe_get h2]
    exact r.mu j d h1
  · obtain ⟨h1, h2⟩ := wipeE_at (fun z => by cases z) q
    rw [wipe_get h2] at hb
    exact r.own j d h1 b hb
  · obtain ⟨h1, h2⟩ := wipeE_at (fun z => by cases z) q
    rw [wipe_get h2] at hb
    exact r.pin j d h1 b hb
  · obtain ⟨h1, h2⟩ := m2 j d q1
    obtain ⟨h3, h4⟩ := m2 k e q2
    rw [wipe_get h2] at b1
    rw [wipe_get h4] at b2
    exact r.dist j k d e b h1 h3 b1 b2
theorem Rel.unwipe {vs : List Nat} (r : Rel K mg Z σ H1 ρ1 F1) (r2 : Rel K mg Z (L2.wipe σ vs) H ρ2 F) (s : Same F1 F) : Rel K mg Z σ H (PV.unwipe ρ1 ρ2 vs) F := by
  have m2 : ∀ j e, ((PV.unwipe ρ1 ρ2 vs).at j).mu = some e → (ρ2.at j).mu = some e ∧ j ∉ vs := fun j e q => by
    rcases unwipe_at (s := (PV.unwipe ρ1 ρ2 vs).at j) (fun z => by rw [z] at q; cases q) rfl with ⟨h1, h2⟩ | ⟨h1, h2⟩
    · rw [← h2] at q
      cases z : ρ1.at j <;> rw [z] at q <;> cases q
    · rw [h2]
      exact ⟨q, h1⟩
  have k2 : ∀ j (x : Sl), x ≠ .no → (∀ d, x ≠ .sh d) → (PV.unwipe ρ1 ρ2 vs).at j = x → ρ2.at j = x ∧ j ∉ vs := fun j x n1 n2 q => by
    rcases unwipe_at n1 q with ⟨h1, h2⟩ | ⟨h1, h2⟩
    · cases z : ρ1.at j <;> rw [z] at h2 <;> simp only [keepS] at h2
      · exact (n1 h2.symm).elim
      · exact (n2 _ h2.symm).elim
      · exact (n1 h2.symm).elim
      · exact (n1 h2.symm).elim
    · exact ⟨h2, h1⟩
  refine ⟨by rw [unwipe_length, ← r2.len, wipe_length], r2.same, fun j d q => ?_, fun j d q => ?_, fun j d q b hb => ?_, fun j d q b hb => ?_, fun j k d e b q1 q2 b1 b2 => ?_, r2.off, r2.live, r2.fr0, r2.new⟩
  · rcases unwipe_at (fun z => by cases z) q with ⟨h1, h2⟩ | ⟨h1, h2⟩
    · cases z : ρ1.at j <;> rw [z] at h2 <;> simp only [keepS] at h2 <;> try (cases h2; done)
      cases h2
      obtain ⟨v, g1, g2⟩ := r.sh j d z
      exact ⟨v, g1, g2.mono s⟩
    · have := r2.sh j d h2
      rw [wipe_get h1] at this
      exact this
  · obtain ⟨h1, h2⟩ := m2 j d q
    have := r2.mu j d h1
    rw [wipe_get h2] at this
    exact this
  · obtain ⟨h1, h2⟩ := k2 j _ (fun z => by cases z) (fun d z => by cases z) q
    exact r2.own j d h1 b (by rw [wipe_get h2]; exact hb)
  · obtain ⟨h1, h2⟩ := k2 j _ (fun z => by cases z) (fun d z => by cases z) q
    exact r2.pin j d h1 b (by rw [wipe_get h2]; exact hb)
  · obtain ⟨h1, h2⟩ := m2 j d q1
    obtain ⟨h3, h4⟩ := m2 k e q2
    exact r2.dist j k d e b h1 h3 (by rw [wipe_get h2]; exact b1) (by rw [wipe_get h4]; exact b2)
/-- the wish of a block: nothing is let out -/
abbrev W0 : WX := fun _ _ _ _ => False
theorem nox_post {r : Res α} {k : α → En → Res D} {Q : D → Hp → En → Hp → Prop} (h : Post K mg Z W σ H ρ F (r.nox.bind k) Q) : ∃ x ρ', r = .val x ρ' ∧ Post K mg Z W σ H ρ F (k x ρ') Q := by
  cases r with
  | val x ρ' => exact ⟨x, ρ', rfl, h⟩
  | exc c fs ρ' => exact h.elim
  | bad => exact h.elim
/-- a value that comes, through a step before it -/
theorem bind_val_of {α β : Type} {r : Res α} {k : α → En → Res β} {y : β} {ρ' : En} (h : r.bind k = .val y ρ') : ∃ x ρ1, r = .val x ρ1 ∧ k x ρ1 = .val y ρ' := by
  cases r with
  | val x ρ1 => exact ⟨x, ρ1, rfl, h⟩
  | exc c fs ρ' => cases h
  | bad => cases h
theorem Post.of_val {r : Res α} {x : α} {Q : α → Hp → En → Hp → Prop} (e : r = .val x ρ1) (h : ∀ H' F', Go K mg Z σ H ρ F H' ρ1 F' → Q x H' ρ1 F') : Post K mg Z W σ H ρ F r Q := by
  rw [e]
  exact h
end
section
variable {X : Cx} {Z : Zone} {W : WX} {it : M (List D)} {t : Tg} {ft : M Bool} {fe : M AV} {vs : List Nat}
theorem lc_le (hsl : ∀ i ∈ t.sl, i ∈ vs) {tt : TT} (htt : ∀ σ H Q, tT X.K X.mg Z W0 ft σ H Q → tt σ H Q) (σ : L2.St) (H : Hp) (Q : VK) (h : tN X.K X.mg Z W (nLc vs it t ft fe) σ H Q) :
    tLc (tI X.K X.mg Z W it) (tG X.K X.mg t) tt (tD X.K X.mg Z W0 fe.st) vs σ H Q := by
  obtain ⟨ρ, F, r, q⟩ := h
  refine ⟨ρ, F, r, ?_⟩
  unfold nLc at q
  cases hi : it ρ with
  | bad =>
    rw [hi] at q
    exact q
  | exc c fs ρ1 =>
    rw [hi] at q
    exact q
  | val ds ρ1 =>
    rw [hi] at q
    intro H1 F1 g1 J wk Dn nD
    obtain ⟨out, ρe, hout, qe⟩ := nox_post q
    have r1 := g1.rel
    have sD : Same H1 (upd H1 Dn (.lst [])) := same_new nD
    have nF1 : F1 Dn = none := r1.same.free nD
    have n0 : Z.H0 Dn = none := r1.h0 nD
    have rw := (r1.keep sD).wipe vs
    have neD : ∀ j e, ((wipeE ρ1 vs).at j).mu = some e → (wipe σ vs)[j]? ≠ some (some (V.ref Dn)) := fun j e q => by
      obtain ⟨h1, h2⟩ := wipeE_at (s := (wipeE ρ1 vs).at j) (fun z => by rw [z] at q; cases q) rfl
      rw [wipe_get h2]
      exact new_ne r1 nD j e (by rw [h1]; exact q)
    -- what holds between two turns
    let Iv : Nat → Hp → Prop := fun i H' => ∃ ρ' F' acc vals, Rel X.K X.mg Z (wipe σ vs) H' ρ' F' ∧ Same F1 F' ∧ lcL vs t ft fe (ds.drop i) acc ρ' = .val out ρe ∧ H' Dn = some (.lst vals) ∧ RL X.K X.mg F' vals acc ∧ F' Dn = none ∧
      (∀ j e, (ρ'.at j).mu = some e → ∃ e', ((wipeE ρ1 vs).at j).mu = some e') ∧
      (∀ b o, b ≠ Dn → (∀ j e, ((wipeE ρ1 vs).at j).mu = some e → (wipe σ vs)[j]? ≠ some (some (V.ref b))) → H1 b = some o → H' b = some o) ∧ (∀ b, H1 b ≠ none → H' b ≠ none) ∧
      (∀ b, F' b ≠ none → F1 b ≠ none ∨ H1 b = none ∨ ∃ j e, ((wipeE ρ1 vs).at j).mu = some e ∧ (wipe σ vs)[j]? = some (some (V.ref b)))
    -- a step within a turn keeps it
    refine ⟨fun i m H' => m = ds.length - i ∧ i ≤ ds.length ∧ Iv i H', ⟨ds.length, by simp, Nat.zero_le _, wipeE ρ1 vs, F1, [], [], rw, Same.refl _, hout, upd_same, .nil, nF1, fun j e q => ⟨e, q⟩, fun b o n _ e => sD b o e, fun b n => same_some sD n, fun b n => .inl n⟩, ?_⟩
    rintro i m H' ⟨rfl, hi', ρ', F', acc, vals, r', s', hl, hD, hda, nF', hsub, hkeep, hlv, hnw⟩
    by_cases hlt : i < ds.length
    · have hd : ds.drop i = ds[i] :: ds.drop (i + 1) := List.drop_eq_getElem_cons hlt
      rw [hd] at hl
      simp only [lcL] at hl
      refine .inr ⟨wk.go i H' (s'.trans r'.same) hlt, Iv (i + 1), fun H2 h2 => ⟨ds.length - (i + 1), by omega, rfl, hlt, h2⟩, fun x H2 y => ?_⟩
      obtain ⟨F3, a1, a2, a3, a4, a5⟩ := wk.yld i H' x H2 _ F' s' r'.same (List.getElem?_eq_getElem hlt) y
      have r3 := r'.more a1 a2 a3 a4
      unfold Tg.to at hl
      cases hfn : t.fn ds[i] with
      | none =>
        simp only [hfn] at hl
        cases hl
      | some es =>
        simp only [hfn] at hl
        refine ⟨F3, _, es, r3.same, a5, hfn, fun ws hws => ⟨wipe_puts hsl ws, ?_⟩⟩
        have r4 := puts_ok t.sl es ws _ _ r3 hws
        obtain ⟨b, ρ2, hb, hl⟩ := bind_val_of hl
        -- what is told of the heap so far
        have nF3 : F3 Dn = none := by
          cases z : F3 Dn with
          | none => rfl
          | some o =>
            rcases a4 Dn (by rw [z]; intro y; cases y) with y | y
            · exact (y nF').elim
            · rw [hD] at y
              cases y
        -- the slots that change are those of the start, none of them a target
        have sub4 : ∀ j e, (En.at (puts ρ' t.sl es) j).mu = some e → (ρ'.at j).mu = some e ∧ j ∉ t.sl := by
          have key : ∀ (sl : List Nat) (ds : List D) (ρ0 : En), ds.length = sl.length → ∀ j e, (En.at (puts ρ0 sl ds) j).mu = some e → (ρ0.at j).mu = some e ∧ j ∉ sl := by
            intro sl
            induction sl with
            | nil => exact fun ds ρ0 _ j e q => ⟨q, by simp⟩
            | cons a sl ih =>
              intro ds ρ0 hl j e q
              cases ds with
              | nil => cases hl
              | cons d ds =>
                obtain ⟨h1, h2⟩ := ih ds (ρ0.set a (.sh d)) (by simpa using hl) j e q
                rw [En.at_set] at h1
                split at h1
                · cases h1
                · rename_i c
                  refine ⟨h1, fun m => ?_⟩
                  rcases List.mem_cons.mp m with z | z
                  · refine c ⟨z.symm, ?_⟩
                    rw [← z]
                    exact En.at_lt (by intro y; rw [y] at h1; cases h1)
                  · exact h2 z
          exact key t.sl es ρ' (t.len _ _ hfn)
        have out4 : ∀ b, (∀ j e, ((wipeE ρ1 vs).at j).mu = some e → (wipe σ vs)[j]? ≠ some (some (V.ref b))) → ∀ j e, (En.at (puts ρ' t.sl es) j).mu = some e → (putsS (wipe σ vs) t.sl ws)[j]? ≠ some (some (V.ref b)) := fun b n j e q => by
          obtain ⟨h1, h2⟩ := sub4 j e q
          rw [putsS_get _ _ _ h2]
          obtain ⟨e', h3⟩ := hsub j e h1
          exact n j e' h3
        have nwF : ∀ b (F4 : Hp) (H4 : Hp) (ρ4 : En), Go X.K X.mg Z (putsS (wipe σ vs) t.sl ws) H2 (puts ρ' t.sl es) F3 H4 ρ4 F4 → F4 b ≠ none → F1 b ≠ none ∨ H1 b = none ∨ ∃ j e, ((wipeE ρ1 vs).at j).mu = some e ∧ (wipe σ vs)[j]? = some (some (V.ref b)) := fun b F4 H4 ρ4 g n => by
          rcases g.nw b n with z | z | ⟨j, e, z1, z2⟩
          · rcases a4 b z with z | z
            · exact hnw b z
            · refine .inr (.inl ?_)
              cases y : H1 b with
              | none => rfl
              | some o => exact (hlv b (by rw [y]; intro k; cases k) z).elim
          · refine .inr (.inl ?_)
            cases y : H1 b with
            | none => rfl
            | some o => exact (same_some a1 (hlv b (by rw [y]; intro k; cases k)) z).elim
          · obtain ⟨h1, h2⟩ := sub4 j e z1
            obtain ⟨e', h3⟩ := hsub j e h1
            rw [putsS_get _ _ _ h2] at z2
            exact .inr (.inr ⟨j, e', h3, z2⟩)
        have noD : ∀ (F4 : Hp) (H4 : Hp) (ρ4 : En), Go X.K X.mg Z (putsS (wipe σ vs) t.sl ws) H2 (puts ρ' t.sl es) F3 H4 ρ4 F4 → F4 Dn = none ∧ H4 Dn = some (.lst vals) := fun F4 H4 ρ4 g => by
          have hD4 := g.keep Dn _ (out4 Dn neD) (a1 _ _ hD)
          refine ⟨?_, hD4⟩
          cases z : F4 Dn with
          | none => rfl
          | some o =>
            rcases g.nw Dn (by rw [z]; intro y; cases y) with y | y | ⟨j, e, z1, z2⟩
            · exact (y nF3).elim
            · rw [a1 _ _ hD] at y
              cases y
            · exact (out4 Dn neD j e z1 z2).elim
        have next : ∀ (F4 : Hp) (H4 : Hp) (ρ4 : En) (acc2 : List D) (vals2 : List V) (H5 : Hp), Go X.K X.mg Z (putsS (wipe σ vs) t.sl ws) H2 (puts ρ' t.sl es) F3 H4 ρ4 F4 → (∀ b o, b ≠ Dn → H4 b = some o → H5 b = some o) → H5 Dn = some (.lst vals2) → RL X.K X.mg F4 vals2 acc2 →
            lcL vs t ft fe (ds.drop (i + 1)) acc2 (wipeE ρ4 vs) = .val out ρe → Iv (i + 1) H5 := fun F4 H4 ρ4 acc2 vals2 H5 g hk hD5 hda2 hl2 => by
          obtain ⟨n4, hD4⟩ := noD F4 H4 ρ4 g
          have r5 : Rel X.K X.mg Z (putsS (wipe σ vs) t.sl ws) H5 ρ4 F4 := by
            have r4' := g.rel
            have ne5 : ∀ j e b, (ρ4.at j).mu = some e → (putsS (wipe σ vs) t.sl ws)[j]? = some (some (V.ref b)) → b ≠ Dn := fun j e b q1 q2 z => by
              obtain ⟨e', q3⟩ := g.sub j e q1
              rw [z] at q2
              exact out4 Dn neD j e' q3 q2
            refine ⟨r4'.len, fun b o e => hk b o (fun z => by rw [z, n4] at e; cases e) (r4'.same b o e), r4'.sh, fun j e q => ?_, r4'.own, r4'.pin, r4'.dist, fun b o n e => hk b o (fun z => by rw [z, n0] at e; cases e) (r4'.off b o n e), fun b n => ?_, r4'.fr0, r4'.new⟩
            · obtain ⟨b, h1, h2, h3⟩ := r4'.mu j e q
              obtain ⟨o, ho⟩ := h3.ex
              exact ⟨b, h1, h2, h3.mono (Same.refl _) ((hk b o (ne5 j e b q h1) ho).trans ho.symm)⟩
            · by_cases z : b = Dn
              · rw [z, hD5]
                intro y
                cases y
              · have h1 := r4'.live b n
                cases y : H4 b with
                | none => exact (h1 y).elim
                | some o =>
                  rw [hk b o z y]
                  intro k
                  cases k
          have r6 := r5.wipe vs
          rw [wipe_puts hsl ws] at r6
          have subw : ∀ j e, ((wipeE ρ4 vs).at j).mu = some e → ∃ e', ((wipeE ρ1 vs).at j).mu = some e' := fun j e q => by
            obtain ⟨h1, h2⟩ := wipeE_at (s := (wipeE ρ4 vs).at j) (fun z => by rw [z] at q; cases q) rfl
            rw [← h1] at q
            obtain ⟨e1, q1⟩ := g.sub j e q
            exact hsub j e1 (sub4 j e1 q1).1
          refine ⟨wipeE ρ4 vs, F4, acc2, vals2, r6, s'.trans (a2.trans g.fr), hl2, hD5, hda2, n4, subw, fun b o n1 n2 e => hk b o n1 (g.keep b o (out4 b n2) (a1 _ _ (hkeep b o n1 n2 e))), fun b n => ?_, fun b n => nwF b F4 H4 ρ4 g n⟩
          by_cases z : b = Dn
          · rw [z, hD5]
            intro y
            cases y
          · have h1 := g.lv b (same_some a1 (hlv b n))
            cases y : H4 b with
            | none => exact (h1 y).elim
            | some o =>
              rw [hk b o z y]
              intro k
              cases k
        refine htt _ _ _ ⟨_, F3, r4, Post.of_val hb fun H4 F4 g4 => ?_⟩
        cases b with
        | false =>
          rw [if_neg Bool.false_ne_true] at hl ⊢
          obtain ⟨n4, hD4⟩ := noD F4 H4 ρ2 g4
          exact next F4 H4 ρ2 acc vals H4 g4 (fun b o _ e => e) hD4 (hda.mono (a2.trans g4.fr)) hl
        | true =>
          rw [if_pos rfl] at hl ⊢
          obtain ⟨e, ρ3, he, hl⟩ := bind_val_of hl
          refine ⟨ρ2, F4, g4.rel, Post.of_val he fun H5 F5 g5 v hv => ?_⟩
          have g6 := g4.trans g5
          obtain ⟨n5, hD5⟩ := noD F5 H5 ρ3 g6
          by_cases hz : acc.length < sizeLine
          · rw [if_pos hz] at hl
            refine ⟨vals, hD5, by rw [hda.length]; exact hz, ?_⟩
            exact next F5 H5 ρ3 (acc ++ [e]) (vals ++ [v]) _ g6 (fun b o n e => by rw [upd_ne n]; exact e) upd_same ((hda.mono (a2.trans g6.fr)).append (.one hv)) hl
          · rw [if_neg hz] at hl
            cases hl
    · have e : i = ds.length := by omega
      subst e
      rw [List.drop_length] at hl
      cases hl
      refine .inl ⟨wk.stop _ H' (s'.trans r'.same) (Nat.le_refl _), ?_⟩
      have r9 := r1.unwipe r' s'
      have m9 : ∀ j e, ((unwipe ρ1 ρe vs).at j).mu = some e → (ρe.at j).mu = some e ∧ j ∉ vs := fun j e q => by
        rcases unwipe_at (s := (unwipe ρ1 ρe vs).at j) (fun z => by rw [z] at q; cases q) rfl with ⟨h1, h2⟩ | ⟨h1, h2⟩
        · rw [← h2] at q
          cases z : ρ1.at j <;> rw [z] at q <;> cases q
        · rw [h2]
          exact ⟨q, h1⟩
      have w9 : ∀ j e, ((wipeE ρ1 vs).at j).mu = some e → (ρ1.at j).mu = some e ∧ (wipe σ vs)[j]? = σ[j]? := fun j e q => by
        obtain ⟨h1, h2⟩ := wipeE_at (s := (wipeE ρ1 vs).at j) (fun z => by rw [z] at q; cases q) rfl
        rw [h1]
        exact ⟨q, wipe_get h2⟩
      have go : Go X.K X.mg Z σ H1 ρ1 F1 H' (unwipe ρ1 ρe vs) F' := by
        refine ⟨r9, s', fun b o n e => hkeep b o (ne_of_none e nD) (fun j e' q z => ?_) e, fun j e q => ?_, hlv, fun b n => ?_⟩
        · obtain ⟨h1, h2⟩ := w9 j e' q
          rw [h2] at z
          exact n j e' h1 z
        · obtain ⟨h1, h2⟩ := m9 j e q
          obtain ⟨e', h3⟩ := hsub j e h1
          exact ⟨e', (w9 j e' h3).1⟩
        · rcases hnw b n with z | z | ⟨j, e, z1, z2⟩
          · exact .inl z
          · exact .inr (.inl z)
          · obtain ⟨h1, h2⟩ := w9 j e z1
            rw [h2] at z2
            exact .inr (.inr ⟨j, e, h1, z2⟩)
      refine qe H' F' (g1.trans go) Dn (g1.free nD) n0 nF' ⟨vals, hD, hda⟩ fun j e q z => ?_
      obtain ⟨h1, h2⟩ := m9 j e q
      obtain ⟨e', h3⟩ := hsub j e h1
      refine neD j e' h3 ?_
      rw [wipe_get h2]
      exact z
theorem tYes_le {K : PySem.W.Frag} {mg : Str → Option Value} (σ : L2.St) (H : Hp) (Q : Bool → Hp → Prop) (h : tT K mg Z W0 bYes σ H Q) : tYes σ H Q := by
  obtain ⟨ρ, F, r, q⟩ := h
  exact q H F (.refl r)
end
end PV
namespace PV
open PySem PySem.Spec PyProof.Rows L2 VK

/-! ### what a def does: a function on data; the lent objects' contents behind it -/
inductive MR where
  | val (d : D) (cs : List D)
  | exc (c : Str) (fs : List (Str × D)) (cs : List D)
  | bad
abbrev Md := List D → MR
/-- the slots at the entry: lent ones, others -/
def stE : List Bool → List D → En
  | true :: ms, d :: ds => .pin d :: stE ms ds
  | _ :: ms, d :: ds => .sh d :: stE ms ds
  | [], d :: ds => .sh d :: stE [] ds
  | _, [] => []
/-- the lent ones at the end -/
def pinsOf : List Bool → En → Option (List D)
  | true :: ms, s :: ρ => match s with
    | .pin c => match pinsOf ms ρ with
      | some cs => some (c :: cs)
      | none => none
    | _ => none
  | _ :: ms, _ :: ρ => pinsOf ms ρ
  | [], _ => some []
  | true :: _, [] => none
  | false :: ms, [] => pinsOf ms []
def runM (ms : List Bool) (n : Nat) (f : M Fl) : Md := fun ds => match f (stE ms ds ++ List.replicate (n - ds.length) .no) with
  | .val (.rt d) ρ => match pinsOf ms ρ with
    | some cs => .val d cs
    | none => .bad
  | .val .nx ρ => match pinsOf ms ρ with
    | some cs => .val .non cs
    | none => .bad
  | .exc c fs ρ => match pinsOf ms ρ with
    | some cs => .exc c fs cs
    | none => .bad
  | _ => .bad
section
variable (K : PySem.W.Frag) (mg : Str → Option Value)
/-- the arguments: values that stand in G, lent objects at as -/
inductive RA (G H : Hp) : List Bool → List V → List D → List Addr → Prop
  | nil : RA G H [] [] [] []
  | sh {ms : List Bool} {v : V} {vs : List V} {d : D} {ds : List D} {as : List Addr} : R K mg G v d → RA G H ms vs ds as → RA G H (false :: ms) (v :: vs) (d :: ds) as
  | io {ms : List Bool} {a : Addr} {vs : List V} {d : D} {ds : List D} {as : List Addr} : G a = none → Ct K mg G H a d → RA G H ms vs ds as → RA G H (true :: ms) (.ref a :: vs) (d :: ds) (a :: as)
/-- the heap behind a call -/
structure Aft (G H : Hp) (as : List Addr) (G' H' : Hp) : Prop where
  off : ∀ b o, b ∉ as → H b = some o → H' b = some o
  live : ∀ b, H b ≠ none → H' b ≠ none
  fr : Same G G'
  same : Same G' H'
  new : ∀ b, G' b ≠ none → G b ≠ none ∨ H b = none
/-- the lent ones' contents -/
def CtL (G' H' : Hp) (as : List Addr) (cs : List D) : Prop := cs.length = as.length ∧ ∀ (k : Nat) (a : Addr) (c : D), as[k]? = some a → cs[k]? = some c → Ct K mg G' H' a c
def EndM (G H : Hp) (as : List Addr) (Q : VK) (E : XK) : MR → Prop
  | .val d cs => ∀ v H' G', Aft G H as G' H' → CtL K mg G' H' as cs → R K mg G' v d → Q v H'
  | .exc c fs cs => ∀ cls dx H' G', Aft G H as G' H' → CtL K mg G' H' as cs → XR K mg G' H' cls dx c fs → E cls dx H'
  | .bad => False
def spD (ms : List Bool) (Mf : Md) : Sp := fun vs H Q E => ∃ G ds as, Same G H ∧ RA K mg G H ms vs ds as ∧ as.Nodup ∧ EndM K mg G H as Q E (Mf ds)
end
/-- a better model -/
def MLe (M M' : Md) : Prop := ∀ ds, M' ds ≠ .bad → M ds = M' ds
section
variable {K : PySem.W.Frag} {mg : Str → Option Value} {G H G' H' F : Hp} {ms : List Bool} {vs : List V} {ds : List D} {as : List Addr}
theorem RA.len (h : RA K mg G H ms vs ds as) : vs.length = ms.length ∧ ds.length = ms.length := by
  induction h with
  | nil => exact ⟨rfl, rfl⟩
  | sh _ _ ih => exact ⟨congrArg Nat.succ ih.1, congrArg Nat.succ ih.2⟩
  | io _ _ _ ih => exact ⟨congrArg Nat.succ ih.1, congrArg Nat.succ ih.2⟩
theorem RA.at_ (h : RA K mg G H ms vs ds as) : ∀ a ∈ as, G a = none ∧ ∃ d, Ct K mg G H a d := by
  induction h with
  | nil => exact fun a m => nomatch m
  | sh _ _ ih => exact ih
  | io h1 h2 _ ih =>
    intro a m
    rcases List.mem_cons.mp m with z | z
    · rw [z]
      exact ⟨h1, _, h2⟩
    · exact ih a z
/-- where the lent ones come from -/
def ioOf : List Bool → List V → Nat → Option Addr
  | true :: _, .ref a :: _, 0 => some a
  | _ :: ms, _ :: vs, n + 1 => ioOf ms vs n
  | _, _, _ => none
theorem ioOf_mem (h : RA K mg G H ms vs ds as) : ∀ i a, ioOf ms vs i = some a → a ∈ as := by
  induction h with
  | nil =>
    intro i a e
    cases i <;> cases e
  | sh _ _ ih =>
    intro i a e
    cases i with
    | zero => cases e
    | succ i => exact ih i a e
  | io h1 h2 _ ih =>
    intro i a e
    cases i with
    | zero =>
      cases e
      exact List.mem_cons_self
    | succ i => exact List.mem_cons_of_mem _ (ih i a e)
theorem mem_ioOf (h : RA K mg G H ms vs ds as) : ∀ a ∈ as, ∃ i, ioOf ms vs i = some a := by
  induction h with
  | nil => exact fun a m => nomatch m
  | sh _ _ ih =>
    intro a m
    obtain ⟨i, e⟩ := ih a m
    exact ⟨i + 1, e⟩
  | io h1 h2 _ ih =>
    intro a m
    rcases List.mem_cons.mp m with z | z
    · rw [z]
      exact ⟨0, rfl⟩
    · obtain ⟨i, e⟩ := ih a z
      exact ⟨i + 1, e⟩
theorem ioOf_inj (h : RA K mg G H ms vs ds as) (nd : as.Nodup) : ∀ i j a, ioOf ms vs i = some a → ioOf ms vs j = some a → i = j := by
  induction h with
  | nil =>
    intro i j a e
    cases i <;> cases e
  | sh _ _ ih =>
    intro i j a e1 e2
    cases i with
    | zero => cases e1
    | succ i =>
      cases j with
      | zero => cases e2
      | succ j => rw [ih nd i j a e1 e2]
  | @io ms a0 vs d ds as h1 h2 t ih =>
    intro i j a e1 e2
    obtain ⟨n1, n2⟩ := List.nodup_cons.mp nd
    cases i with
    | zero =>
      cases e1
      cases j with
      | zero => rfl
      | succ j => exact (n1 (ioOf_mem t j _ e2)).elim
    | succ i =>
      cases j with
      | zero =>
        cases e2
        exact (n1 (ioOf_mem t i _ e1)).elim
      | succ j => rw [ih n2 i j a e1 e2]
/-- the slots at the entry -/
theorem stE_at (h : RA K mg G H ms vs ds as) (tl : List Sl) (htl : ∀ s ∈ tl, s = .no) : ∀ i s, En.at (stE ms ds ++ tl) i = s → s ≠ .no →
    (∃ v d, s = .sh d ∧ vs[i]? = some v ∧ R K mg G v d) ∨ (∃ a d, s = .pin d ∧ vs[i]? = some (.ref a) ∧ ioOf ms vs i = some a ∧ G a = none ∧ Ct K mg G H a d) := by
  induction h with
  | nil =>
    intro i s e n
    have : ∀ (tl : List Sl) i, (∀ s ∈ tl, s = .no) → En.at tl i = .no := by
      intro tl
      induction tl with
      | nil => exact fun i _ => rfl
      | cons x r ih =>
        intro i h
        cases i with
        | zero => exact h x List.mem_cons_self
        | succ i => exact ih i fun s m => h s (List.mem_cons_of_mem _ m)
    exact (n (e.symm.trans (this tl i htl))).elim
  | sh h1 _ ih =>
    intro i s e n
    cases i with
    | zero => exact .inl ⟨_, _, e.symm, rfl, h1⟩
    | succ i => exact ih i s e n
  | io h1 h2 _ ih =>
    intro i s e n
    cases i with
    | zero => exact .inr ⟨_, _, e.symm, rfl, rfl, h1, h2⟩
    | succ i => exact ih i s e n
theorem stE_len : ∀ (ms : List Bool) (ds : List D), (stE ms ds).length = ds.length
  | [], [] => rfl
  | [], _ :: ds => congrArg Nat.succ (stE_len [] ds)
  | true :: ms, [] => rfl
  | false :: ms, [] => rfl
  | true :: ms, _ :: ds => congrArg Nat.succ (stE_len ms ds)
  | false :: ms, _ :: ds => congrArg Nat.succ (stE_len ms ds)
def zoneOf (ms : List Bool) (vs : List V) (G H : Hp) : Zone := ⟨ioOf ms vs, G, H⟩
theorem start_get {N : List Str} {vs : List V} {i : Nat} {v : V} (h : vs[i]? = some v) : (L2.start N vs)[i]? = some (some v) := by
  unfold L2.start
  have hi : i < vs.length := (List.getElem?_eq_some_iff.mp h).1
  rw [List.getElem?_append_left (by rw [List.length_map]; exact hi), List.getElem?_map, h]
  rfl
theorem rel_start {N : List Str} (h : RA K mg G H ms vs ds as) (nd : as.Nodup) (s : Same G H) (hl : vs.length ≤ N.length) : Rel K mg (zoneOf ms vs G H) (L2.start N vs) H (stE ms ds ++ List.replicate (N.length - ds.length) .no) G := by
  have hr : ∀ s ∈ List.replicate (N.length - ds.length) Sl.no, s = .no := fun s m => (List.mem_replicate.mp m).2
  have l1 := h.len
  have mu_ : ∀ i d, (En.at (stE ms ds ++ List.replicate (N.length - ds.length) .no) i).mu = some d → ∃ a, vs[i]? = some (.ref a) ∧ ioOf ms vs i = some a ∧ G a = none ∧ Ct K mg G H a d := fun i d q => by
    rcases stE_at h _ hr i _ rfl (fun z => by rw [z] at q; cases q) with ⟨v, e, h1, h2, h3⟩ | ⟨a, e, h1, h2, h3, h4, h5⟩
    · rw [h1] at q
      cases q
    · rw [h1] at q
      cases q
      exact ⟨a, h2, h3, h4, h5⟩
  refine ⟨?_, s, fun i d q => ?_, fun i d q => ?_, fun i d q b hb => ?_, fun i d q b hb => ?_, fun i j d e b q1 q2 b1 b2 => ?_, fun b o _ e => e, fun b n => n, Same.refl _, fun b n => .inl n⟩
  · unfold L2.start
    rw [List.length_append, List.length_append, List.length_map, List.length_replicate, List.length_replicate, stE_len]
    omega
  · rcases stE_at h _ hr i _ q (fun z => by cases z) with ⟨v, e, h1, h2, h3⟩ | ⟨a, e, h1, _⟩
    · cases h1
      exact ⟨v, start_get h2, h3⟩
    · cases h1
  · obtain ⟨a, h1, h2, h3, h4⟩ := mu_ i d q
    exact ⟨a, start_get h1, h3, h4⟩
  · rcases stE_at h _ hr i _ q (fun z => by cases z) with ⟨v, e, h1, _⟩ | ⟨a, e, h1, _⟩ <;> cases h1
  · obtain ⟨a, h1, h2, h3, h4⟩ := mu_ i d (by rw [q]; rfl)
    rw [start_get h1] at hb
    cases hb
    exact h2
  · obtain ⟨a1, h1, h2, _⟩ := mu_ i d q1
    obtain ⟨a2, h3, h4, _⟩ := mu_ j e q2
    rw [start_get h1] at b1
    rw [start_get h3] at b2
    cases b1
    cases b2
    exact ioOf_inj h nd i j _ h2 h4
/-- the lent ones at the end -/
theorem pins_ok (h : RA K mg G H ms vs ds as) : ∀ {Z : Zone} {σ : L2.St} {ρ : En} {cs : List D} (off : Nat), (∀ i c, ρ.at i = .pin c → ∀ a, ioOf ms vs i = some a → Ct K mg F H' a c) → pinsOf ms ρ = some cs → CtL K mg F H' as cs := by
  induction h with
  | nil =>
    intro Z σ ρ cs off hp e
    cases e
    exact ⟨rfl, fun k a c e => by cases k <;> cases e⟩
  | @sh ms v vs d ds as _ t ih =>
    intro Z σ ρ cs off hp e
    cases ρ with
    | nil => exact ih (Z := Z) (σ := σ) (ρ := []) off (fun i c q => nomatch q) e
    | cons s ρ => exact ih (Z := Z) (σ := σ) (ρ := ρ) off (fun i c q a z => hp (i + 1) c q a z) e
  | @io ms a vs d ds as _ _ t ih =>
    intro Z σ ρ cs off hp e
    cases ρ with
    | nil => cases e
    | cons s ρ =>
      cases s with
      | pin c =>
        simp only [pinsOf] at e
        cases hq : pinsOf ms ρ with
        | none =>
          rw [hq] at e
          cases e
        | some cs' =>
          rw [hq] at e
          cases e
          obtain ⟨h1, h2⟩ := ih (Z := Z) (σ := σ) (ρ := ρ) off (fun i c q a z => hp (i + 1) c q a z) hq
          refine ⟨congrArg Nat.succ h1, fun k b c' e1 e2 => ?_⟩
          cases k with
          | zero =>
            cases e1
            cases e2
            exact hp 0 c rfl a rfl
          | succ k => exact h2 k b c' e1 e2
      | no => cases e
      | sh _ => cases e
      | own _ => cases e
theorem aft_of {σ : L2.St} {ρ : En} (h : RA K mg G H ms vs ds as) (r : Rel K mg (zoneOf ms vs G H) σ H' ρ F) : Aft G H as F H' :=
  ⟨fun b o n e => r.off b o (fun i z => n (ioOf_mem h i b z)) e, r.live, r.fr0, r.same, r.new⟩
theorem ctl_of {σ : L2.St} {ρ : En} {cs : List D} (h : RA K mg G H ms vs ds as) (r : Rel K mg (zoneOf ms vs G H) σ H' ρ F) (e : pinsOf ms ρ = some cs) : CtL K mg F H' as cs :=
  pins_ok h (Z := zoneOf ms vs G H) (σ := σ) 0 (fun i c q a z => by
    obtain ⟨b, h1, h2, h3⟩ := r.mu i c (by rw [q]; rfl)
    have := r.pin i c q b h1
    rw [show (zoneOf ms vs G H).io i = ioOf ms vs i from rfl, z] at this
    cases this
    exact h3) e
/-- a def's body gives its promise -/
theorem run_post {P : Program} {w : World} {N : List Str} {f : M Fl} {W : WX} {Q : VK} {E : XK} (h : RA K mg G H ms vs ds as) (hW : ∀ cls d σ H, E cls d H → W cls d σ H) (q : EndM K mg G H as Q E (runM ms N.length f ds)) :
    PostS K mg (zoneOf ms vs G H) W G (f (stE ms ds ++ List.replicate (N.length - ds.length) .no)) { nx := fun _ H' => Q .non H', rt := Q } := by
  unfold runM at q
  cases hf : f (stE ms ds ++ List.replicate (N.length - ds.length) .no) with
  | bad =>
    rw [hf] at q
    exact q
  | exc c fs ρ =>
    rw [hf] at q
    intro cls dx σ' H' F' r s x
    cases hp : pinsOf ms ρ with
    | none =>
      simp only [hp] at q
      exact q.elim
    | some cs =>
      simp only [hp] at q
      exact hW _ _ _ _ (q cls dx H' F' (aft_of h r) (ctl_of h r hp) x)
  | val x ρ =>
    rw [hf] at q
    intro σ' H' F' r s
    cases x with
    | bk => exact q.elim
    | ct => exact q.elim
    | nx =>
      cases hp : pinsOf ms ρ with
      | none =>
        simp only [hp] at q
        exact q.elim
      | some cs =>
        simp only [hp] at q
        exact q .non H' F' (aft_of h r) (ctl_of h r hp) .non
    | rt d =>
      cases hp : pinsOf ms ρ with
      | none =>
        simp only [hp] at q
        exact q.elim
      | some cs =>
        simp only [hp] at q
        exact fun v hv => q v H' F' (aft_of h r) (ctl_of h r hp) hv
theorem spD_le {M M' : Md} (l : MLe M M') : ∀ vs H Q E, spD K mg ms M' vs H Q E → spD K mg ms M vs H Q E := fun vs H Q E ⟨G, ds, as, s, h, nd, q⟩ => by
  refine ⟨G, ds, as, s, h, nd, ?_⟩
  rw [l ds (fun z => by rw [z] at q; exact q)]
  exact q
end
/-! ### defs -/
structure FnX (P : Program) (w : World) (K : PySem.W.Frag) (mg : Str → Option Value) (base : Heap) (k : Nat) (f : Addr) (fd : FuncData) (ps : List Str) (sp : Sp) : Prop where
  len : ∀ vs H Q E, sp vs H Q E → vs.length = ps.length
  run : ∀ (A : Around) (outer : List Env) (s : Shared) (H : Hp) (args : Args) (us : List Value) (vs : List V) (Q : VK) (E : XK), Room k A → A.guards = some [] →
    Env0 P w K mg base A outer s H → BindsTo s fd args (ps.zip us) → Vals vs us → sp vs H Q E → codeAny (model P w) A (.call (.ref f) args) (CR (L2.CX P w) outer P w H s Q E) s
section
variable {P : Program} {w : World} {K : PySem.W.Frag} {mg : Str → Option Value} {base : Heap}
theorem FnX.of {k : Nat} {f : Addr} {fd : FuncData} {ps : List Str} {sp : Sp} (F : FnOk P w K mg base (L2.CX P w) k f fd ps sp) : FnX P w K mg base k f fd ps sp := ⟨F.len, fun A outer s H args us vs Q E hr _ => F.run A outer s H args us vs Q E hr⟩
theorem okX {x qual : Str} {st : Stmt} {f : Addr} {fd : FuncData} {N ps : List Str} {k : Nat} {sp : Sp} (F : Fun K x qual st f fd) (S : FnScope N ps (defScope st)) (len : ∀ vs H Q E, sp vs H Q E → vs.length = ps.length)
    (hbody : ∀ (cdv : Value) (A : Around) (outer : List Env) (s : Shared) (H : Hp) (vs : List V) (Q : VK) (E : XK), Room k (A.deeper (envOfC qual (defScope st) s.heap.objs.size f cdv)) → (A.deeper (envOfC qual (defScope st) s.heap.objs.size f cdv)).guards = some [] → sp vs H Q E →
      ∃ t, PSs (cxOf (L2.CX P w) P w K mg base N qual (defScope st) f cdv A outer s H E) (defBody st) t ∧ t { nx := fun _ H' => Q .non H', rt := Q } (L2.start N vs) H) :
    FnX P w K mg base (k + 1) f fd ps sp := by
  obtain ⟨oc, od, kV, doc, pm, an, cdv, ct, osl, rfl, lk, hcd⟩ := F.ex
  constructor
  · exact len
  intro A outer s H args us vs Q E hr hgd e0 hb r hsp
  have KX : K.In s.heap := e0.mod.kin.keeps fun b o e => (e0.bs b o e).1
  have NL := e0.mod.nolimit.keeps fun b o e => (e0.bs b o e).1
  have hl := len vs H Q E hsp
  refine codeAny_call_function hr.depth (KX f _ lk) rfl S.co S.gen rfl (PySem.W.codeRec_of KX hcd) (hb _ _ _ _ (wpAny_newFunctionEnv_cells S.kind ?_ ?_))
  · rintro ⟨n, v⟩ hy
    rcases S.par n (List.of_mem_zip hy).1 with q | q
    · exact Or.inl q
    · exact Or.inr ⟨q, PySem.W.cellsFrom_some _ _ _ (Or.inl q)⟩
  · rintro env rfl s1 x
    refine ⟨NL.keeps x.toInCall.keep, codeAny_func ?_⟩
    obtain ⟨t, ht, hq⟩ := hbody cdv A outer s H vs Q E (hr.deeper _) hgd hsp
    refine wpAny_mono (ht.run [] s1 (L2.start N vs) H _ (inv_start S hr.hd e0 hl r x) hq) ?_ ?_
    · intro fl s' hs
      cases fl with
      | ret u =>
        obtain ⟨v, σ', H', J, rv, q⟩ := hs
        exact ⟨v, H', J.os, J.bare, J.base, J.hok, rv, q⟩
      | next =>
        obtain ⟨σ', H', J, q⟩ := hs
        exact ⟨V.non, H', J.os, J.bare, J.base, J.hok, rfl, q⟩
      | brk =>
        obtain ⟨_, _, _, q⟩ := hs
        exact q.elim
      | cont =>
        obtain ⟨_, _, _, q⟩ := hs
        exact q.elim
    · intro e s' hs
      exact hs
/-- the wish of a body -/
abbrev WE (E : XK) : WX := fun cls d _ H => E cls d H
theorem pre_len {N ps : List Str} {sc : Scope} (S : FnScope N ps sc) : ps.length ≤ N.length := by
  have := congrArg List.length S.pre
  rw [List.length_take] at this
  omega
/-- THE RULE for a def -/
theorem fnX {x qual : Str} {st : Stmt} {f : Addr} {fd : FuncData} {N ps : List Str} {k : Nat} {ms : List Bool} {fM : M Fl} {Mf : Md} (F : Fun K x qual st f fd) (S : FnScope N ps (defScope st)) (hms : ms.length = ps.length)
    (hbody : ∀ (cdv : Value) (A : Around) (outer : List Env) (s : Shared) (H : Hp) (E : XK) (Z : Zone), Room k (A.deeper (envOfC qual (defScope st) s.heap.objs.size f cdv)) → (A.deeper (envOfC qual (defScope st) s.heap.objs.size f cdv)).guards = some [] →
      PCs (cxOf (L2.CX P w) P w K mg base N qual (defScope st) f cdv A outer s H E) Z (WE E) (defBody st) fM) (l : MLe (runM ms N.length fM) Mf := by exact fun _ _ => rfl) : FnX P w K mg base (k + 1) f fd ps (spD K mg ms Mf) := by
  refine okX F S (fun vs H Q E ⟨G, ds, as, s, h, _⟩ => h.len.1.trans hms) fun cdv A outer s H vs Q E hr hgd hsp => ?_
  obtain ⟨G, ds, as, sm, h, nd, q⟩ := spD_le l vs H Q E hsp
  refine ⟨_, hbody cdv A outer s H E (zoneOf ms vs G H) hr hgd, _, G, rel_start h nd sm (by rw [h.len.1, hms]; exact pre_len S), run_post (P := P) (w := w) h (fun _ _ _ _ h => h) q⟩
theorem fnOk {x qual : Str} {st : Stmt} {f : Addr} {fd : FuncData} {N ps : List Str} {k : Nat} {ms : List Bool} {fM : M Fl} {Mf : Md} (F : Fun K x qual st f fd) (S : FnScope N ps (defScope st)) (hms : ms.length = ps.length)
    (hbody : ∀ (cdv : Value) (A : Around) (outer : List Env) (s : Shared) (H : Hp) (E : XK) (Z : Zone), Room k (A.deeper (envOfC qual (defScope st) s.heap.objs.size f cdv)) →
      PCs (cxOf (L2.CX P w) P w K mg base N qual (defScope st) f cdv A outer s H E) Z (WE E) (defBody st) fM) (l : MLe (runM ms N.length fM) Mf := by exact fun _ _ => rfl) : FnOk P w K mg base (L2.CX P w) (k + 1) f fd ps (spD K mg ms Mf) := by
  refine F.okX S (fun vs H Q E ⟨G, ds, as, s, h, _⟩ => h.len.1.trans hms) fun cdv A outer s H vs Q E hr hsp => ?_
  obtain ⟨G, ds, as, sm, h, nd, q⟩ := spD_le l vs H Q E hsp
  refine ⟨_, hbody cdv A outer s H E (zoneOf ms vs G H) hr, _, G, rel_start h nd sm (by rw [h.len.1, hms]; exact pre_len S), run_post (P := P) (w := w) h (fun _ _ _ _ h => h) q⟩
/-- the same of a def with keyword-only parameters that have defaults -/
theorem fnOkD {x : Str} {st : Stmt} {f : Addr} {fd : FuncData} {dvs : List V} {kws : List (Str × V)} {N ps : List Str} {k : Nat} {ms : List Bool} {fM : M Fl} {Mf : Md} (F : FunD K x x (defArgs st) (defBody st) (defScope st) dvs kws f fd) (S : FnScope N ps (defScope st)) (hms : ms.length = ps.length)
    (hbody : ∀ (cdv : Value) (A : Around) (outer : List Env) (s : Shared) (H : Hp) (E : XK) (Z : Zone), Room k (A.deeper (envOfC x (defScope st) s.heap.objs.size f cdv)) →
      PCs (cxOf (L2.CX P w) P w K mg base N x (defScope st) f cdv A outer s H E) Z (WE E) (defBody st) fM) (l : MLe (runM ms N.length fM) Mf := by exact fun _ _ => rfl) : FnOk P w K mg base (L2.CX P w) (k + 1) f fd ps (spD K mg ms Mf) := by
  refine F.ok S (fun vs H Q E ⟨G, ds, as, s, h, _⟩ => h.len.1.trans hms) fun cdv A outer s H vs Q E hr hsp => ?_
  obtain ⟨G, ds, as, sm, h, nd, q⟩ := spD_le l vs H Q E hsp
  exact ⟨_, hbody cdv A outer s H E (zoneOf ms vs G H) hr, _, G, rel_start h nd sm (by rw [h.len.1, hms]; exact pre_len S), run_post (P := P) (w := w) h (fun _ _ _ _ h => h) q⟩
end

/-! ### calls -/
def prep1 : List Bool → List AV → En → Option (List AV × En)
  | [], [], ρ => some ([], ρ)
  | false :: ms, x :: xs, ρ => match frz x ρ with
    | none => none
    | some (d, ρ1) => match prep1 ms xs ρ1 with
      | none => none
      | some (ys, ρ2) => some (.d d :: ys, ρ2)
  | true :: ms, .io i :: xs, ρ => match prep1 ms xs ρ with
    | none => none
    | some (ys, ρ2) => some (.io i :: ys, ρ2)
  | _, _, _ => none
def conts : List AV → En → Option (List D)
  | [], _ => some []
  | .d x :: r, ρ => match conts r ρ with
    | some ds => some (x :: ds)
    | none => none
  | .io i :: r, ρ => match (ρ.at i).mu, conts r ρ with
    | some c, some ds => some (c :: ds)
    | _, _ => none
def slotsOf : List AV → List Nat
  | [] => []
  | .d _ :: r => slotsOf r
  | .io i :: r => i :: slotsOf r
def back : List Nat → List D → En → Option En
  | [], [], ρ => some ρ
  | i :: is, c :: cs, ρ => match (ρ.at i).re c with
    | some s => back is cs (ρ.set i s)
    | none => none
  | _, _, _ => none
/-- the call, the arguments being xs -/
def callM (ms : List Bool) (Mf : Md) (xs : List AV) (ρ : En) : Res AV := match prep1 ms xs ρ with
  | none => .bad
  | some (ys, ρ2) => if (slotsOf ys).Nodup then (match conts ys ρ2 with
    | none => .bad
    | some ds => match Mf ds with
      | .bad => .bad
      | .val d cs => (match back (slotsOf ys) cs ρ2 with
        | some ρ3 => .val (.d d) ρ3
        | none => .bad)
      | .exc c fs cs => (match back (slotsOf ys) cs ρ2 with
        | some ρ3 => .exc c fs ρ3
        | none => .bad)) else .bad
def eCall (ms : List Bool) (Mf : Md) (fs : M (List AV)) : M AV := fun ρ => (fs ρ).bind fun xs ρ1 => callM ms Mf xs ρ1
section
variable {K : PySem.W.Frag} {mg : Str → Option Value} {Z : Zone} {σ : L2.St} {H F : Hp}
theorem prep1_ok : ∀ {ms : List Bool} {xs ys : List AV} {vs : List V} {ρ ρ2 : En} {F : Hp}, Rel K mg Z σ H ρ F → ARL K mg F σ vs xs → prep1 ms xs ρ = some (ys, ρ2) → ∃ F2, Go K mg Z σ H ρ F H ρ2 F2 ∧ ARL K mg F2 σ vs ys ∧ ms.length = vs.length ∧
    (∀ (k : Nat) (b : Bool) (y : AV), ms[k]? = some b → ys[k]? = some y → b = (match y with | .d _ => false | .io _ => true))
  | [], [], ys, _, ρ, ρ2, F, r, .nil, e => by
    cases e
    exact ⟨F, .refl r, .nil, rfl, fun k b y h => by cases k <;> cases h⟩
  | false :: ms, x :: xs, ys, _, ρ, ρ2, F, r, .cons h t, e => by
    simp only [prep1] at e
    cases hx : frz x ρ with
    | none =>
      rw [hx] at e
      cases e
    | some z =>
      obtain ⟨d, ρ1⟩ := z
      simp only [hx] at e
      obtain ⟨F1, g1, r1⟩ := frz_ok r h hx
      cases hp : prep1 ms xs ρ1 with
      | none =>
        simp only [hp] at e
        cases e
      | some z2 =>
        obtain ⟨zs, ρ3⟩ := z2
        simp only [hp] at e
        cases e
        obtain ⟨F2, g2, a2, l2, k2⟩ := prep1_ok g1.rel (t.go g1.fr) hp
        refine ⟨F2, g1.trans g2, .cons (r1.mono g2.fr) a2, congrArg Nat.succ l2, fun k b y h1 h2 => ?_⟩
        cases k with
        | zero =>
          cases h1
          cases h2
          rfl
        | succ k => exact k2 k b y h1 h2
  | true :: ms, .io i :: xs, ys, _, ρ, ρ2, F, r, .cons h t, e => by
    simp only [prep1] at e
    cases hp : prep1 ms xs ρ with
    | none =>
      simp only [hp] at e
      cases e
    | some z2 =>
      obtain ⟨zs, ρ3⟩ := z2
      simp only [hp] at e
      cases e
      obtain ⟨F2, g2, a2, l2, k2⟩ := prep1_ok r t hp
      refine ⟨F2, g2, .cons h a2, congrArg Nat.succ l2, fun k b y h1 h2 => ?_⟩
      cases k with
      | zero =>
        cases h1
        cases h2
        rfl
      | succ k => exact k2 k b y h1 h2
/-- the arguments as the callee sees them -/
theorem ra_of : ∀ {ms : List Bool} {ys : List AV} {vs : List V} {ρ : En} {ds : List D}, Rel K mg Z σ H ρ F → ARL K mg F σ vs ys → ms.length = vs.length → (∀ (k : Nat) (b : Bool) (y : AV), ms[k]? = some b → ys[k]? = some y → b = (match y with | .d _ => false | .io _ => true)) →
    conts ys ρ = some ds → ∃ as, RA K mg F H ms vs ds as ∧ as.length = (slotsOf ys).length ∧ ∀ (k : Nat) (i : Nat), (slotsOf ys)[k]? = some i → ∃ a, as[k]? = some a ∧ σ[i]? = some (some (.ref a)) ∧ ∃ c, (ρ.at i).mu = some c
  | [], [], _, ρ, ds, r, .nil, _, _, e => by
    cases e
    exact ⟨[], .nil, rfl, fun k i h => by cases k <;> cases h⟩
  | [], _ :: _, _, ρ, ds, r, .cons _ _, l, _, _ => by cases l
  | _ :: _, [], _, ρ, ds, r, .nil, l, _, _ => by cases l
  | b :: ms, .d x :: ys, _, ρ, ds, r, .cons h t, l, hk, e => by
    have hb : b = false := hk 0 b _ rfl rfl
    subst hb
    simp only [conts] at e
    cases hc : conts ys ρ with
    | none =>
      rw [hc] at e
      cases e
    | some es =>
      rw [hc] at e
      cases e
      obtain ⟨as, h1, h2, h3⟩ := ra_of r t (Nat.succ.inj l) (fun k b y q1 q2 => hk (k + 1) b y q1 q2) hc
      exact ⟨as, .sh h h1, h2, h3⟩
  | b :: ms, .io i :: ys, _, ρ, ds, r, .cons h t, l, hk, e => by
    have hb : b = true := hk 0 b _ rfl rfl
    subst hb
    simp only [conts] at e
    cases hm : (ρ.at i).mu with
    | none =>
      rw [hm] at e
      cases e
    | some c =>
      cases hc : conts ys ρ with
      | none =>
        rw [hm, hc] at e
        cases e
      | some es =>
        rw [hm, hc] at e
        cases e
        obtain ⟨as, h1, h2, h3⟩ := ra_of r t (Nat.succ.inj l) (fun k b y q1 q2 => hk (k + 1) b y q1 q2) hc
        obtain ⟨a, g1, g2, g3⟩ := r.mu i c hm
        have h' : σ[i]? = some (some _) := h
        rw [h'] at g1
        cases g1
        refine ⟨a :: as, .io g2 g3 h1, congrArg Nat.succ h2, fun k j q => ?_⟩
        cases k with
        | zero =>
          cases q
          exact ⟨a, rfl, h', c, hm⟩
        | succ k => exact h3 k j q
theorem back_at : ∀ {is : List Nat} {cs : List D} {ρ ρ3 : En}, back is cs ρ = some ρ3 → is.Nodup → ρ3.length = ρ.length ∧ cs.length = is.length ∧ ∀ j, (j ∉ is ∧ ρ3.at j = ρ.at j) ∨ ∃ (k : Nat) (c : D) (s : Sl), is[k]? = some j ∧ cs[k]? = some c ∧ (ρ.at j).re c = some s ∧ ρ3.at j = s
  | [], [], ρ, ρ3, e, _ => by
    cases e
    exact ⟨rfl, rfl, fun j => .inl ⟨by simp, rfl⟩⟩
  | [], _ :: _, _, _, e, _ => by cases e
  | _ :: _, [], _, _, e, _ => by cases e
  | i :: is, c :: cs, ρ, ρ3, e, nd => by
    simp only [back] at e
    cases hs : (ρ.at i).re c with
    | none =>
      rw [hs] at e
      cases e
    | some s =>
      rw [hs] at e
      obtain ⟨n1, n2⟩ := List.nodup_cons.mp nd
      obtain ⟨h1, h2, h3⟩ := back_at (ρ := ρ.set i s) e n2
      have hi : i < ρ.length := En.at_lt (by intro z; rw [z] at hs; cases hs)
      refine ⟨by rw [h1, List.length_set], congrArg Nat.succ h2, fun j => ?_⟩
      by_cases z : i = j
      · subst z
        rcases h3 i with ⟨_, g2⟩ | ⟨k, c', s', g1, _⟩
        · rw [En.at_eq hi] at g2
          exact .inr ⟨0, c, s, rfl, rfl, hs, g2⟩
        · exact (n1 (List.mem_of_getElem? g1)).elim
      · rcases h3 j with ⟨g1, g2⟩ | ⟨k, c', s', g1, g2, g3, g4⟩
        · rw [En.at_ne z] at g2
          refine .inl ⟨fun m => ?_, g2⟩
          rcases List.mem_cons.mp m with y | y
          · exact z y.symm
          · exact g1 y
        · rw [En.at_ne z] at g3
          exact .inr ⟨k + 1, c', s', g1, g2, g3, g4⟩
theorem re_mu {s s' : Sl} {c : D} (h : s.re c = some s') : s'.mu = some c ∧ ((∃ d, s = .own d ∧ s' = .own c) ∨ ∃ d, s = .pin d ∧ s' = .pin c) := by
  cases s <;> simp only [Sl.re] at h <;> cases h
  · exact ⟨rfl, .inl ⟨_, rfl, rfl⟩⟩
  · exact ⟨rfl, .inr ⟨_, rfl, rfl⟩⟩
/-- the caller's slots behind the call -/
theorem go_back {ρ ρ3 : En} {is : List Nat} {cs : List D} {as : List Addr} {G' H' : Hp} (r : Rel K mg Z σ H ρ F) (A : Aft F H as G' H') (C : CtL K mg G' H' as cs) (hb : back is cs ρ = some ρ3) (nd : is.Nodup) (hl : as.length = is.length)
    (hs : ∀ (k : Nat) (i : Nat), is[k]? = some i → ∃ a, as[k]? = some a ∧ σ[i]? = some (some (.ref a)) ∧ ∃ c, (ρ.at i).mu = some c) : Go K mg Z σ H ρ F H' ρ3 G' := by
  obtain ⟨b1, b2, b3⟩ := back_at hb nd
  -- a slot that changes
  have kind : ∀ j x, (ρ3.at j).mu = some x → (j ∉ is ∧ ρ3.at j = ρ.at j ∧ (ρ.at j).mu = some x) ∨ (∃ (k : Nat) (a : Addr), is[k]? = some j ∧ as[k]? = some a ∧ cs[k]? = some x ∧ σ[j]? = some (some (.ref a)) ∧ (∃ c, (ρ.at j).mu = some c) ∧ (ρ.at j).re x = some (ρ3.at j)) := fun j x q => by
    rcases b3 j with ⟨h1, h2⟩ | ⟨k, c, s, h1, h2, h3, h4⟩
    · rw [h2] at q
      exact .inl ⟨h1, h2, q⟩
    · obtain ⟨m1, m2⟩ := re_mu h3
      rw [h4] at q
      rw [m1] at q
      cases q
      obtain ⟨a, g1, g2, g3⟩ := hs k j h1
      exact .inr ⟨k, a, h1, g1, h2, g2, g3, by rw [h4]; exact h3⟩
  have sub : ∀ j x, (ρ3.at j).mu = some x → ∃ y, (ρ.at j).mu = some y := fun j x q => by
    rcases kind j x q with ⟨_, _, h⟩ | ⟨_, _, _, _, _, _, h, _⟩
    · exact ⟨x, h⟩
    · exact h
  have asmu : ∀ a ∈ as, ∃ i c, σ[i]? = some (some (.ref a)) ∧ (ρ.at i).mu = some c ∧ i ∈ is := fun a m => by
    obtain ⟨k, hk, e⟩ := List.mem_iff_getElem.mp m
    have hk2 : k < is.length := by omega
    obtain ⟨a', g1, g2, c, g3⟩ := hs k is[k] (List.getElem?_eq_getElem hk2)
    rw [List.getElem?_eq_getElem hk, e] at g1
    cases g1
    exact ⟨_, c, g2, g3, List.getElem_mem hk2⟩
  refine ⟨⟨?_, A.same, fun j d q => ?_, fun j d q => ?_, fun j d q b hb => ?_, fun j d q b hb => ?_, fun j k d e b q1 q2 b1 b2 => ?_, fun b o n e => ?_, fun b n => A.live b (r.live b n), r.fr0.trans A.fr, fun b n => ?_⟩, A.fr, fun b o n e => ?_, sub, A.live, fun b n => ?_⟩
  · rw [b1]
    exact r.len
  · rcases b3 j with ⟨h1, h2⟩ | ⟨k, c, s, h1, h2, h3, h4⟩
    · rw [h2] at q
      obtain ⟨v, g1, g2⟩ := r.sh j d q
      exact ⟨v, g1, g2.mono A.fr⟩
    · obtain ⟨m1, _⟩ := re_mu h3
      rw [h4] at q
      rw [q] at m1
      cases m1
  · rcases kind j d q with ⟨h1, h2, h3⟩ | ⟨k, a, h1, h2, h3, h4, _, _⟩
    · obtain ⟨a, g1, g2, g3⟩ := r.mu j d h3
      obtain ⟨o, ho⟩ := g3.ex
      have na : a ∉ as := fun m => by
        obtain ⟨i, c, z1, z2, z3⟩ := asmu a m
        rw [r.dist j i d c a h3 z2 g1 z1] at h1
        exact h1 z3
      refine ⟨a, g1, ?_, g3.mono A.fr ((A.off a o na ho).trans ho.symm)⟩
      cases z : G' a with
      | none => rfl
      | some u =>
        rcases A.new a (by rw [z]; intro y; cases y) with y | y
        · exact (y g2).elim
        · rw [ho] at y
          cases y
    · obtain ⟨a', g1, g2, g3⟩ := r.mu j _ (sub j d q).choose_spec
      rw [h4] at g1
      cases g1
      refine ⟨a, h4, ?_, C.2 k a d h2 h3⟩
      obtain ⟨o, ho⟩ := g3.ex
      cases z : G' a with
      | none => rfl
      | some u =>
        rcases A.new a (by rw [z]; intro y; cases y) with y | y
        · exact (y g2).elim
        · rw [ho] at y
          cases y
  · rcases kind j d (by rw [q]; rfl) with ⟨h1, h2, h3⟩ | ⟨k, a, h1, h2, h3, h4, _, h6⟩
    · rw [h2] at q
      exact r.own j d q b hb
    · obtain ⟨_, ⟨c, y1, y2⟩ | ⟨c, y1, y2⟩⟩ := re_mu h6
      · exact r.own j c y1 b hb
      · rw [q] at y2
        cases y2
  · rcases kind j d (by rw [q]; rfl) with ⟨h1, h2, h3⟩ | ⟨k, a, h1, h2, h3, h4, _, h6⟩
    · rw [h2] at q
      exact r.pin j d q b hb
    · obtain ⟨_, ⟨c, y1, y2⟩ | ⟨c, y1, y2⟩⟩ := re_mu h6
      · rw [q] at y2
        cases y2
      · exact r.pin j c y1 b hb
  · obtain ⟨x, hx⟩ := sub j d q1
    obtain ⟨y, hy⟩ := sub k e q2
    exact r.dist j k x y b hx hy b1 b2
  · refine A.off b o (fun m => ?_) (r.off b o n e)
    obtain ⟨i, c, z1, z2, _⟩ := asmu b m
    cases y : ρ.at i with
    | own c0 =>
      rw [r.own i c0 y b z1] at e
      cases e
    | pin c0 => exact n i (r.pin i c0 y b z1)
    | no =>
      rw [y] at z2
      cases z2
    | sh _ =>
      rw [y] at z2
      cases z2
  · rcases A.new b n with z | z
    · exact r.new b z
    · exact .inr (r.h0 z)
  · refine A.off b o (fun m => ?_) e
    obtain ⟨i, c, z1, z2, _⟩ := asmu b m
    exact n i c z2 z1
  · rcases A.new b n with z | z
    · exact .inl z
    · exact .inr (.inl z)
/-- the caller's side -/
theorem call_core {ms : List Bool} {Mf : Md} {W : WX} {ρ : En} {xs : List AV} {vs : List V} {Q : VK} (r : Rel K mg Z σ H ρ F) (hv : ARL K mg F σ vs xs) (q : Post K mg Z W σ H ρ F (callM ms Mf xs ρ) fun x H' _ F' => ∀ v, AR K mg F' σ v x → Q v H') :
    spD K mg ms Mf vs H Q (fun cls d H' => W cls d σ H') := by
  unfold callM at q
  cases hp : prep1 ms xs ρ with
  | none =>
    simp only [hp] at q
    exact q.elim
  | some z =>
    obtain ⟨ys, ρ2⟩ := z
    simp only [hp] at q
    obtain ⟨F2, g2, a2, l2, k2⟩ := prep1_ok r hv hp
    by_cases nd : (slotsOf ys).Nodup
    · rw [if_pos nd] at q
      cases hc : conts ys ρ2 with
      | none =>
        simp only [hc] at q
        exact q.elim
      | some ds =>
        simp only [hc] at q
        obtain ⟨as, h1, h2, h3⟩ := ra_of g2.rel a2 l2 k2 hc
        have nda : as.Nodup := by
          rw [List.nodup_iff_pairwise_ne, List.pairwise_iff_getElem]
          intro i j hi hj hij e
          have hi2 : i < (slotsOf ys).length := by omega
          have hj2 : j < (slotsOf ys).length := by omega
          obtain ⟨a, x1, x2, c, x3⟩ := h3 i _ (List.getElem?_eq_getElem hi2)
          obtain ⟨b, y1, y2, d, y3⟩ := h3 j _ (List.getElem?_eq_getElem hj2)
          rw [List.getElem?_eq_getElem hi] at x1
          rw [List.getElem?_eq_getElem hj] at y1
          cases x1
          cases y1
          rw [e] at x2
          have := g2.rel.dist _ _ c d _ x3 y3 x2 y2
          have nn := List.pairwise_iff_getElem.mp (List.nodup_iff_pairwise_ne.mp nd) i j hi2 hj2 hij
          exact nn this
        refine ⟨F2, ds, as, g2.rel.same, h1, nda, ?_⟩
        cases hM : Mf ds with
        | bad =>
          simp only [hM] at q
          exact q.elim
        | val d cs =>
          simp only [hM] at q
          intro v H' G' A C hr
          cases hb : back (slotsOf ys) cs ρ2 with
          | none =>
            simp only [hb] at q
            exact q.elim
          | some ρ3 =>
            simp only [hb] at q
            exact q H' G' (g2.trans (go_back g2.rel A C hb nd h2 h3)) v hr
        | exc c fs cs =>
          simp only [hM] at q
          intro cls dx H' G' A C hr
          cases hb : back (slotsOf ys) cs ρ2 with
          | none =>
            simp only [hb] at q
            exact q.elim
          | some ρ3 =>
            simp only [hb] at q
            exact q cls dx H' G' (g2.trans (go_back g2.rel A C hb nd h2 h3)) hr
    · rw [if_neg nd] at q
      exact q.elim
end
end PV
namespace HT
open PySem PySem.Spec PyProof.Rows L2
section
variable {prog : Program} {w : World} {A : Around} {E : Value → Shared → Prop} {s : Shared}
theorem adjust_rev (n : Nat) : Builtin.Slice.sliceAdjust none none (-1) (n : Int) = ((n : Int) - 1, -1) := by
  unfold Builtin.Slice.sliceAdjust
  have h1 : ((-1 : Int) < 0) := by omega
  simp only [h1, if_true]
theorem places_rev (n : Nat) : Builtin.Slice.slicePlaces ((n : Int) - 1) (-1) (-1) = n := by
  unfold Builtin.Slice.slicePlaces
  have h1 : ¬ ((-1 : Int) > 0) := by omega
  simp only [h1, if_false]
  split
  · have : ((n : Int) - 1 - -1 - 1) / (- -1) + 1 = n := by
      rw [show (- -1 : Int) = 1 from rfl, Int.ediv_one]
      omega
    omega
  · omega
theorem sliceApplied_rev {sl : Addr} {vl vu vs : Value} {n : Nat} {Q : Int × Int × Nat → Shared → Prop} (hs : s.heap.IsSliceOf sl vl vu vs) (pl : IsPart vl none) (pu : IsPart vu none) (ps : IsPart vs (some (-1)))
    (h : Q ((n : Int) - 1, -1, n) s) : wpAny (model prog w) A (Builtin.Slice.sliceApplied (.ref sl) (pure (n : Int))) Q E s := by
  obtain ⟨os, hos, hcs, hds⟩ := id hs
  unfold Builtin.Slice.sliceApplied Builtin.Slice.sliceFields
  refine wpAny_bind (wpAny_bind (wpAny_field hos hds (x := vl) rfl (wpAny_bind (wpAny_field hos hds (x := vu) rfl (wpAny_bind (wpAny_field hos hds (x := vs) rfl (wpAny_pure ?_)))))))
  refine wpAny_bind (slicePart_ ps ?_)
  show wpAny _ _ (if ((-1 : Int) == 0) = true then _ else _) _ _ s
  rw [if_neg (by decide)]
  refine wpAny_bind (slicePart_ pl (wpAny_bind (slicePart_ pu (wpAny_bind (wpAny_pure ?_)))))
  show wpAny _ _ (match Builtin.Slice.sliceAdjust none none (-1) (n : Int) with | (lo, hi) => pure (lo, (-1 : Int), Builtin.Slice.slicePlaces lo hi (-1))) _ _ s
  rw [adjust_rev n]
  show wpAny _ _ (pure ((n : Int) - 1, (-1 : Int), Builtin.Slice.slicePlaces ((n : Int) - 1) (-1) (-1))) _ _ s
  rw [places_rev]
  exact wpAny_pure h
theorem fm_congr {α β : Type} {f g : α → Option β} : ∀ {l : List α}, (∀ x ∈ l, f x = g x) → l.filterMap f = l.filterMap g
  | [], _ => rfl
  | x :: r, h => by
    rw [List.filterMap_cons, List.filterMap_cons, h x List.mem_cons_self, fm_congr fun y hy => h y (List.mem_cons_of_mem _ hy)]
theorem pick_rev (xs : Array Value) : ((List.range xs.size).filterMap fun (m : Nat) => xs[((xs.size : Int) - 1 + (m : Int) * (-1)).toNat]?).toArray = xs.toList.reverse.toArray := by
  have h1 : (List.range xs.size).filterMap (fun (m : Nat) => xs[((xs.size : Int) - 1 + (m : Int) * (-1)).toNat]?) = ((List.range xs.size).map (fun k => xs.size - 1 - k)).filterMap (xs[·]?) := by
    rw [List.filterMap_map]
    refine fm_congr fun m hm => ?_
    have hm' := List.mem_range.mp hm
    show xs[((xs.size : Int) - 1 + (m : Int) * (-1)).toNat]? = xs[xs.size - 1 - m]?
    rw [show ((xs.size : Int) - 1 + (m : Int) * (-1)).toNat = xs.size - 1 - m by omega]
  rw [h1, PySem.W.krv_range, List.filterMap_reverse, PySem.W.krv_all]
theorem getItem_tuple_rev {t sl : Addr} {items : Array Value} {vl vu vs : Value} {Q : Value → Shared → Prop} (ht : IsTup s.heap t items) (hs : s.heap.IsSliceOf sl vl vu vs) (pl : IsPart vl none) (pu : IsPart vu none) (ps : IsPart vs (some (-1)))
    (h : Q (.ref s.heap.objs.size) { s with heap := s.heap.push { cls := .type "tuple", data := .seq items.toList.reverse.toArray } })
    (hsz : items.size ≤ sizeLine) : wpAny (model prog w) A (getItem (.ref t) (.ref sl)) Q E s := by
  have htake : sizeOk (.seq items.toList.reverse.toArray) := by
    show items.toList.reverse.toArray.size ≤ sizeLine
    rw [List.size_toArray, List.length_reverse, Array.length_toList]
    exact hsz
  obtain ⟨os, hos, hcs, hds⟩ := id hs
  have hTs : s.TypeIs (.ref sl) "slice" := ⟨os, hos, hcs⟩
  unfold getItem
  try with_reducible refine wpAny_holding ?_
  first | refine wpAny_bind (wpAny_pure ?_) | skip
  refine wpAny_bind (wpAny_sequenceKey ht.typeIs (by decide) ?_)
  refine wpAny_bind (wpAny_callSpecial?_slot (name := Str.ofString "__getitem__") ht.typeIs PyProof.Rows.slot_tuple_getitem
    (wpAny_call_entry PyProof.Rows.slot_tuple_getitem ht.typeIs entry_tuple_getitem ?_ (args_tuple_getitem _ _)))
  show wpAny _ _ (Builtin.Tuple.tupleItemsOf (.ref t) >>= _) _ _ s
  refine wpAny_bind (tupleItemsOf_ ht ?_)
  refine wpAny_bind (wpAny_typeOf hTs ?_)
  rw [if_pos (by decide)]
  refine wpAny_bind (sliceApplied_rev hs pl pu ps ?_)
  have hno : ¬ ((((items.size : Int) - 1) == 0 && (-1 : Int) == 1 && items.size == items.size) = true) := by
    intro q
    rw [Bool.and_eq_true, Bool.and_eq_true] at q
    exact absurd q.1.2 (by decide)
  show wpAny _ _ (if (((items.size : Int) - 1) == 0 && (-1 : Int) == 1 && items.size == items.size) = true then _ else _) _ _ s
  rw [if_neg hno, pick_rev]
  first
    | exact wpAny_bind (m := Builtin.Tuple.tupleExact _) (wpAny_newObj_type (wpAny_pure ⟨_, rfl, wpAny_pure h⟩) htake)
    | exact wpAny_bind (m := Builtin.Tuple.tupleExact _) (wpAny_newObj_type (wpAny_bind (wpAny_pure (wpAny_pure ⟨_, rfl, wpAny_pure h⟩))) htake)
    | exact wpAny_bind (wpAny_bind (m := Builtin.Tuple.tupleExact _) (wpAny_newObj_type (wpAny_pure (wpAny_pure ⟨_, rfl, wpAny_pure h⟩)) htake))
    | exact wpAny_bind (wpAny_bind (m := Builtin.Tuple.tupleExact _) (wpAny_newObj_type (wpAny_pure ⟨_, rfl, wpAny_pure h⟩) htake))
end
end HT
namespace PV
open PySem PySem.Spec PyProof.Rows L2 VK

/-! ### t[::-1] -/
def tRevT (K : PySem.W.Frag) (te : TE) : TE := fun σ H Q => te σ H fun x H1 => ∃ a xs, x = .ref a ∧ SqT K H1 a xs ∧ ∀ p, H1 p = none → Q (.ref p) (upd H1 p (.tup xs.reverse))
theorem pe_revT {X : Cx} {e : Expr} {te : TE} {k : Nat} {p1 p2 p3 pos : Pos} (he : PE X e te) : PE X (.Subscript e (.Slice none none (some (.UnaryOp .USub (.Constant (.int 1) k p1) p2)) p3) pos) (tRevT X.K te) := by
  refine ⟨fun pins s σ H Q I h => ?_⟩
  refine Subscript_ (thn (he.run pins s σ H _ I h) fun v s1 ⟨x, H1, I1, r1, q1⟩ => ?_)
  obtain ⟨a, xs, ex, hx, q⟩ := q1
  subst ex
  cases r1
  have hst : PO X (some (.UnaryOp .USub (.Constant (.int 1) k p1) p2)) (tPart (tUn (rU fun i => .int (-i)) (tC (.int 1)))) := po_some (pe_un un_neg pe_int)
  refine wpAny_Slice (thn (po_none.run pins s1 σ H1 (fun o H2 => o = none ∧ H2 = H1) I1 ⟨rfl, rfl⟩) fun vl s2 ⟨l, H2, I2, pl, el, e2⟩ => ?_)
  subst el e2
  refine thn (po_none.run pins s2 σ H2 (fun o H3 => o = none ∧ H3 = H2) I2 ⟨rfl, rfl⟩) fun vu s3 ⟨u, H3, I3, pu, eu, e3⟩ => ?_
  subst eu e3
  refine thn (hst.run pins s3 σ H3 (fun o H4 => o = some (-1) ∧ H4 = H3) I3 ⟨1, rfl, -1, rfl, rfl, rfl⟩) fun vs s4 ⟨o, H4, I4, ps, eo, e4⟩ => ?_
  subst eo e4
  have I5 : Inv X pins σ H4 { s4 with heap := s4.heap.push { cls := .type "slice", data := .fields #[vl, vu, vs] } } := I4.kept (t' := s4.toks) fun b ob q => Heap.get?_push_of_some _ q
  obtain ⟨its, r, ht, hz⟩ := I5.tuple hx
  have hlen := r.length
  show wpAny (model X.prog X.w) X.A (subscriptTail e (.Slice none none (some (.UnaryOp .USub (.Constant (.int 1) k p1) p2)) p3) (.ref a) (.ref s4.heap.objs.size)) (EP X pins σ Q) X.xe { s4 with heap := s4.heap.push { cls := .type "slice", data := .fields #[vl, vu, vs] } }
  refine tail_any (ops := [.ref a, .ref s4.heap.objs.size]) ht.typeIs (PyProof.Rows.slot_tuple_getitem.lookup) ?_ (by with_unfolding_all rfl)
  refine HT.getItem_tuple_rev ht (Heap.IsSliceOf.new _ vl vu vs) pl pu ps ?_ (by rw [List.size_toArray]; omega)
  refine ⟨.ref _, _, I5.laid (t' := s4.toks) (o := .tup xs.reverse) (fun b ob q => Heap.get?_push_of_some _ q) (Nat.le_refl _) ?_, rfl, q _ (I5.hok.fresh (Nat.le_refl _))⟩
  exact ⟨by rw [List.length_reverse]; exact hz, its.reverse, r.reverse, ⟨_, Heap.get?_push_size _ rfl, rfl, 0, by simp⟩⟩
def gRevT : D → Option D
  | .tup xs => some (.tup xs.reverse)
  | _ => none
section
variable {X : Cx} {Z : Zone} {W : WX} {e : Expr} {fa : M AV} {pos : Pos}
theorem un_le {g : D → Option D} {r : V → Hp → VK → Prop} (ok : OkU X.K X.mg r g) (σ : L2.St) (H : Hp) (Q : VK) (h : tE X.K X.mg Z W (eUn g fa) σ H Q) : tUn r (tE X.K X.mg Z W fa) σ H Q := by
  obtain ⟨ρ, F, rel, q⟩ := h
  refine ⟨ρ, F, rel, (Post.bind q).imp fun x H1 ρ1 F1 g1 q1 v hv => ?_⟩
  unfold op1 at q1
  cases hx : der x ρ1 with
  | none =>
    simp only [hx] at q1
    exact q1.elim
  | some d =>
    simp only [hx] at q1
    cases hg : g d with
    | none =>
      simp only [hg] at q1
      exact q1.elim
    | some z =>
      simp only [hg] at q1
      exact ok g1.rel.same (der_ok g1.rel hv hx) hg fun u H' F' s1 s2 s3 n r => q1 H' F' (.more g1.rel s1 s2 s3 n) u r
theorem ok_revT {K : PySem.W.Frag} {mg : Str → Option Value} : OkU K mg (fun x H Q => ∃ a xs, x = .ref a ∧ SqT K H a xs ∧ ∀ p, H p = none → Q (.ref p) (upd H p (.tup xs.reverse))) gRevT := by
  intro F H v d z Q s hv hg q
  cases d <;> simp only [gRevT] at hg <;> try (cases hg; done)
  cases hg
  obtain ⟨a, vs, rfl, h1, h2⟩ := hv.tup
  exact ⟨a, vs, rfl, same_seqT s h1, fun p np => okN s q np (.tup (.inl (.inl upd_same)) (h2.rev.mono (same_new (s.free np))))⟩
theorem ev_revT {k : Nat} {p1 p2 p3 : Pos} (h : PV X Z W e fa) : PV X Z W (.Subscript e (.Slice none none (some (.UnaryOp .USub (.Constant (.int 1) k p1) p2)) p3) pos) (eUn gRevT fa) := PE.weak (pe_revT h) (un_le ok_revT)
end

/-! ### slices -/
def cutG {α : Type} (xs : List α) (lo hi : Option Int) : List α := (xs.drop (HT.sIx xs.length 0 lo)).take (HT.sIx xs.length xs.length hi - HT.sIx xs.length 0 lo)
theorem cutG_take {α : Type} (xs : List α) (k : Nat) : cutG xs none (some (k : Int)) = xs.take k := by
  unfold cutG
  rw [HT.sIx_none, HT.sIx_nat, List.drop_zero, Nat.sub_zero]
  by_cases h : k ≤ xs.length
  · rw [Nat.min_eq_left h]
  · rw [Nat.min_eq_right (by omega), List.take_of_length_le (Nat.le_refl _), List.take_of_length_le (by omega)]
theorem cutG_drop {α : Type} (xs : List α) (k : Nat) : cutG xs (some (k : Int)) none = xs.drop k := by
  unfold cutG
  rw [HT.sIx_none, HT.sIx_nat]
  by_cases h : k ≤ xs.length
  · rw [Nat.min_eq_left h, List.take_of_length_le (by rw [List.length_drop]; exact Nat.le_refl _)]
  · rw [Nat.min_eq_right (by omega), List.drop_of_length_le (Nat.le_refl _), List.drop_of_length_le (by omega)]
    exact List.take_nil
/-- a part: left out, or an int -/
def pNo : M (Option Int) := fun ρ => .val none ρ
def pIn (f : M AV) : M (Option Int) := fun ρ => (f ρ).bind fun x ρ1 => match der x ρ1 with
  | some (.int i) => .val (some i) ρ1
  | _ => .bad
def tPO (K : PySem.W.Frag) (mg : Str → Option Value) (Z : Zone) (W : WX) (f : M (Option Int)) : TO := fun σ H Q => ∃ ρ F, Rel K mg Z σ H ρ F ∧ Post K mg Z W σ H ρ F (f ρ) fun o H' _ _ => Q o H'
abbrev PP (X : Cx) (Z : Zone) (W : WX) (e : Option Expr) (f : M (Option Int)) : Prop := PO X e (tPO X.K X.mg Z W f)
theorem PO.weak {X : Cx} {e : Option Expr} {t t' : TO} (h : PO X e t) (w : ∀ σ H Q, t' σ H Q → t σ H Q) : PO X e t' := ⟨fun pins s σ H Q I q => h.run pins s σ H Q I (w _ _ _ q)⟩
abbrev G3 := D → Option Int → Option Int → Option D
def eSl (g : G3) (f : M AV) (lo hi : M (Option Int)) : M AV := fun ρ => (f ρ).bind fun x ρ1 => (lo ρ1).bind fun a ρ2 => (hi ρ2).bind fun b ρ3 => match der x ρ3 with
  | some d => match g d a b with
    | some z => .val (.d z) ρ3
    | none => .bad
  | none => .bad
abbrev G3N := D → Option Int → Option Int → Option (List D)
def nSl (g : G3N) (f : M AV) (lo hi : M (Option Int)) : M D := fun ρ => (f ρ).bind fun x ρ1 => (lo ρ1).bind fun a ρ2 => (hi ρ2).bind fun b ρ3 => match der x ρ3 with
  | some d => match g d a b with
    | some z => .val (.lst z) ρ3
    | none => .bad
  | none => .bad
def gSlT : G3
  | .tup xs, a, b => some (.tup (cutG xs a b))
  | _, _, _ => none
def gSlS : G3
  | .str z, a, b => if z.length ≤ sizeLine then some (.str (cutS z a b)) else none
  | _, _, _ => none
def gSlL : G3N
  | .lst xs, a, b => some (cutG xs a b)
  | .scr ns, a, b => some (cutG (ns.map D.int) a b)
  | _, _, _ => none
section
variable {X : Cx} {Z : Zone} {W : WX} {e : Expr} {fa : M AV} {pos p2 : Pos} {lo hi : Option Expr} {fl fh : M (Option Int)}
theorem ep_no : PP X Z W none pNo := PO.weak po_none fun σ H Q ⟨ρ, F, r, q⟩ => q.val_ r
theorem ep_in (h : PV X Z W e fa) : PP X Z W (some e) (pIn fa) := by
  refine PO.weak (po_some h) fun σ H Q ⟨ρ, F, r, q⟩ => ⟨ρ, F, r, (Post.bind q).imp fun x H1 ρ1 F1 g q1 v hv => ?_⟩
  cases hx : der x ρ1 with
  | none =>
    simp only [hx] at q1
    exact q1.elim
  | some d =>
    cases d <;> simp only [hx] at q1 <;> try exact q1.elim
    exact ⟨_, (der_ok g.rel hv hx).int, q1.val_ g.rel⟩
def Ok3 (K : PySem.W.Frag) (mg : Str → Option Value) (r : V → Option Int → Option Int → Hp → VK → Prop) (g : G3) : Prop := ∀ {F H : Hp} {v : V} {d z : D} {a b : Option Int} {Q : VK}, Same F H → Rp K mg F H v d → g d a b = some z →
  (∀ u H' F', Same H H' → Same F F' → Same F' H' → (∀ b, F' b ≠ none → F b ≠ none ∨ H b = none) → R K mg F' u z → Q u H') → r v a b H Q
theorem ev_sl {r : V → Option Int → Option Int → Hp → VK → Prop} {g : G3} (hr : SlR X r) (ok : Ok3 X.K X.mg r g) (he : PV X Z W e fa) (hl : PP X Z W lo fl) (hu : PP X Z W hi fh) : PV X Z W (.Subscript e (.Slice lo hi none p2) pos) (eSl g fa fl fh) := by
  refine PE.weak (pe_slice hr he hl hu) fun σ H Q ⟨ρ, F, r, q⟩ => ⟨ρ, F, r, (Post.bind q).imp fun x H1 ρ1 F1 g1 q1 v hv => ⟨ρ1, F1, g1.rel, (Post.bind q1).imp fun a H2 ρ2 F2 g2 q2 => ⟨ρ2, F2, g2.rel, (Post.bind q2).imp fun b H3 ρ3 F3 g3 q3 => ?_⟩⟩⟩
  cases hx : der x ρ3 with
  | none =>
    simp only [hx] at q3
    exact q3.elim
  | some d =>
    simp only [hx] at q3
    cases hg : g d a b with
    | none =>
      simp only [hg] at q3
      exact q3.elim
    | some z =>
      simp only [hg] at q3
      exact ok g3.rel.same (der_ok g3.rel (hv.go (g2.fr.trans g3.fr)) hx) hg fun u H' F' s1 s2 s3 n r => q3 H' F' (.more g3.rel s1 s2 s3 n) u r
theorem RL.cut {K : PySem.W.Frag} {mg : Str → Option Value} {G : Hp} {vs : List V} {ds : List D} (h : RL K mg G vs ds) (a b : Option Int) : RL K mg G (cutV vs a b) (cutG ds a b) := by
  unfold cutV cutG
  rw [h.length]
  exact (h.drop _).take _
theorem RL.ints {K : PySem.W.Frag} {mg : Str → Option Value} {G : Hp} : ∀ ns : List Int, RL K mg G (ns.map V.int) (ns.map D.int)
  | [] => .nil
  | _ :: r => .cons (.int _) (RL.ints r)
theorem en_slL (he : PV X Z W e fa) (hl : PP X Z W lo fl) (hu : PP X Z W hi fh) : PN X Z W (.Subscript e (.Slice lo hi none p2) pos) (nSl gSlL fa fl fh) := by
  refine PE.weak (pe_slice (r := rSlL X.K) sl_list he hl hu) fun σ H Q ⟨ρ, F, r, q⟩ => ⟨ρ, F, r, (Post.bind q).imp fun x H1 ρ1 F1 g1 q1 v hv => ⟨ρ1, F1, g1.rel, (Post.bind q1).imp fun a H2 ρ2 F2 g2 q2 => ⟨ρ2, F2, g2.rel, (Post.bind q2).imp fun b H3 ρ3 F3 g3 q3 => ?_⟩⟩⟩
  have gg := g1.trans (g2.trans g3)
  cases hx : der x ρ3 with
  | none =>
    simp only [hx] at q3
    exact q3.elim
  | some d =>
    simp only [hx] at q3
    have hp := der_ok g3.rel (hv.go (g2.fr.trans g3.fr)) hx
    cases d <;> simp only [gSlL] at q3 <;> try exact q3.elim
    · obtain ⟨c, vs, rfl, h1, h2⟩ := hp.lst g3.rel.same
      exact ⟨c, vs, rfl, .inl (.inl h1), fun p np => q3 _ _ (.new g3.rel (same_new np)) p (gg.free np) (g3.rel.h0 np) (g3.rel.same.free np) ⟨_, upd_same, h2.cut a b⟩ (new_ne g3.rel np)⟩
    · rcases hp with hp | ⟨c, _, _, hp⟩
      · cases hp with
        | scr h1 => exact ⟨_, _, rfl, g3.rel.same.seq h1, fun p np => q3 _ _ (.new g3.rel (same_new np)) p (gg.free np) (g3.rel.h0 np) (g3.rel.same.free np) ⟨_, upd_same, (RL.ints _).cut a b⟩ (new_ne g3.rel np)⟩
      · exact hp.elim
theorem cut_wholeV {xs : List V} {lo hi : Option Int} (h : HT.sIx xs.length 0 lo = 0 ∧ HT.sIx xs.length xs.length hi = xs.length) : cutV xs lo hi = xs := by
  unfold cutV
  rw [h.1, h.2, List.drop_zero, Nat.sub_zero, List.take_of_length_le (Nat.le_refl _)]
theorem ok_slT {K : PySem.W.Frag} {mg : Str → Option Value} : Ok3 K mg (rSlA K) gSlT := by
  intro F H v d z a b Q s hv hg q
  cases d <;> simp only [gSlT] at hg <;> try (cases hg; done)
  cases hg
  obtain ⟨c, vs, rfl, h1, h2⟩ := hv.tup
  refine ⟨c, vs, rfl, same_seqT s h1, fun w => ?_, fun _ p np => okN s q np (.tup (.inl (.inl upd_same)) ((h2.cut a b).mono (same_new (s.free np))))⟩
  refine okQ s q (.tup h1 ?_)
  have := h2.cut a b
  rw [cut_wholeV w] at this
  exact this
theorem ok_slS {K : PySem.W.Frag} {mg : Str → Option Value} : Ok3 K mg rSlS gSlS := by
  intro F H v d z a b Q s hv hg q
  cases d <;> simp only [gSlS] at hg <;> try (cases hg; done)
  rename_i x
  by_cases c : x.length ≤ sizeLine
  · rw [if_pos c] at hg
    cases hg
    exact ⟨x, hv.str, c, okQ s q (.str _)⟩
  · rw [if_neg c] at hg
    cases hg
end
/-! ### lists joined, repeated: new ones -/
abbrev G2N := D → D → Option (List D)
def nOp (g : G2N) (fa fb : M AV) : M D := fun ρ => (fa ρ).bind fun x ρ1 => (fb ρ1).bind fun y ρ2 => match der x ρ2, der y ρ2 with
  | some d, some e => match g d e with
    | some z => .val (.lst z) ρ2
    | none => .bad
  | _, _ => .bad
def gCat : G2N
  | .lst xs, .lst ys => if xs.length + ys.length ≤ sizeLine then some (xs ++ ys) else none
  | _, _ => none
def gRep : G2N
  | .lst xs, .int k => if -(2 ^ 62) ≤ k ∧ k < 2 ^ 62 ∧ xs.length * k.toNat ≤ sizeLine then some (List.replicate k.toNat xs).flatten else none
  | _, _ => none
def Ok2N (K : PySem.W.Frag) (mg : Str → Option Value) (r : R2) (g : G2N) : Prop := ∀ {F H : Hp} {v w : V} {d e : D} {zs : List D} {Q : VK}, Same F H → Rp K mg F H v d → Rp K mg F H w e → g d e = some zs →
  (∀ p us, H p = none → RL K mg F us zs → Q (.ref p) (upd H p (.lst us))) → r v w H Q
section
variable {X : Cx} {Z : Zone} {W : WX} {a b : Expr} {fa fb : M AV} {pos : Pos}
theorem en_op {op : Operator} {r : R2} {g : G2N} (ho : OpR X (binaryOp op) r) (ok : Ok2N X.K X.mg r g) (ha : PV X Z W a fa) (hb : PV X Z W b fb) : PN X Z W (.BinOp a op b pos) (nOp g fa fb) := by
  refine PE.weak (pe_op ho ha hb) fun σ H Q ⟨ρ, F, rel, q⟩ => ⟨ρ, F, rel, (Post.bind q).imp fun x H1 ρ1 F1 g1 q1 v hv => ⟨ρ1, F1, g1.rel, (Post.bind q1).imp fun y H2 ρ2 F2 g2 q2 w hw => ?_⟩⟩
  cases hx : der x ρ2 with
  | none =>
    simp only [hx] at q2
    exact q2.elim
  | some d =>
    cases hy : der y ρ2 with
    | none =>
      simp only [hx, hy] at q2
      exact q2.elim
    | some e =>
      simp only [hx, hy] at q2
      cases hg : g d e with
      | none =>
        simp only [hg] at q2
        exact q2.elim
      | some z =>
        simp only [hg] at q2
        exact ok g2.rel.same (der_ok g2.rel (hv.go g2.fr) hx) (der_ok g2.rel hw hy) hg fun p us np r => q2 _ _ (.new g2.rel (same_new np)) p ((g1.trans g2).free np) (g2.rel.h0 np) (g2.rel.same.free np) ⟨us, upd_same, r⟩ (new_ne g2.rel np)
theorem ok_cat {K : PySem.W.Frag} {mg : Str → Option Value} : Ok2N K mg rCat gCat := by
  intro F H v w d e zs Q s hv hw hg q
  cases d <;> cases e <;> simp only [gCat] at hg <;> try (cases hg; done)
  rename_i x y
  by_cases c : x.length + y.length ≤ sizeLine
  · rw [if_pos c] at hg
    cases hg
    obtain ⟨a, vs, rfl, h1, h2⟩ := hv.lst s
    obtain ⟨b, ws, rfl, h3, h4⟩ := hw.lst s
    exact ⟨a, b, vs, ws, rfl, rfl, h1, h3, by rw [h2.length, h4.length]; exact c, fun p np => q p _ np (h2.append h4)⟩
  · rw [if_neg c] at hg
    cases hg
theorem ok_rep {K : PySem.W.Frag} {mg : Str → Option Value} : Ok2N K mg rRep gRep := by
  intro F H v w d e zs Q s hv hw hg q
  cases d <;> cases e <;> simp only [gRep] at hg <;> try (cases hg; done)
  rename_i x k
  by_cases c : -(2 ^ 62) ≤ k ∧ k < 2 ^ 62 ∧ x.length * k.toNat ≤ sizeLine
  · rw [if_pos c] at hg
    cases hg
    obtain ⟨a, vs, rfl, h1, h2⟩ := hv.lst s
    exact ⟨a, k, vs, rfl, hw.int, h1, by omega, by omega, by rw [h2.length]; exact c.2.2, fun p np => q p _ np h2.flat⟩
  · rw [if_neg c] at hg
    cases hg
end
/-! ### methods of texts -/
def eM0 (g : D → Option D) (f : M AV) : M AV := eUn g f
def gUpper : D → Option D
  | .str z => if z.length ≤ 5592405 then some (.str (Txt.upper z)) else none
  | _ => none
section
variable {X : Cx} {Z : Zone} {W : WX} {e : Expr} {fa : M AV} {apos pos : Pos}
theorem ev_upper (h : PV X Z W e fa) (hbase : attributeBase e "upper" X.env (eval e X.env) = eval e X.env := by rfl) (hline : (apos.endLine == pos.line) = true := by rfl) :
    PV X Z W (.Call (.Attribute e "upper" apos) [] [] pos) (eUn gUpper fa) := by
  refine PE.weak (pe_upper h hbase hline) fun σ H Q ⟨ρ, F, rel, q⟩ => ⟨ρ, F, rel, (Post.bind q).imp fun x H1 ρ1 F1 g1 q1 v hv => ?_⟩
  unfold op1 at q1
  cases hx : der x ρ1 with
  | none =>
    simp only [hx] at q1
    exact q1.elim
  | some d =>
    simp only [hx] at q1
    have hp := der_ok g1.rel hv hx
    cases d <;> simp only [gUpper] at q1 <;> try exact q1.elim
    rename_i z
    by_cases c : z.length ≤ 5592405
    · rw [if_pos c] at q1
      exact ⟨⟨z, hp.str⟩, z, hp.str, rfl, c, q1 H1 F1 (.refl g1.rel) _ (.str _)⟩
    · rw [if_neg c] at q1
      exact q1.elim
end
end PV
namespace PV
open PySem PySem.Spec PyProof.Rows L2 VK

/-! ### comprehensions, the rules -/
section
variable {X : Cx} {Z : Zone} {W : WX} {it : M (List D)} {t : Tg} {ft : M Bool} {fe : M AV}
theorem asg_weak {st : Stmt} {te te' : TE} {g : TG} (h : PS X st (tAsg te g)) (w : ∀ σ H Q, te' σ H Q → te σ H Q) : PS X st (tAsg te' g) := PS.weak h fun D σ H q => w _ _ _ q
/-- tests of a block -/
theorem ets_nil {X : Cx} : L2.PTs X [] tYes := pts_nil
theorem ets_one {c : Expr} (h : PB X Z W c ft) : L2.PTs X [c] (tT X.K X.mg Z W ft) := pts_one h
theorem en_lc {elt tg iter : Expr} {ifs : List Expr} {scope : Scope} {own : List (Str × Nat)} {pos : Pos} {tt : TT} (hc : X.calm = true) (hN : X.N.Nodup) (hi : PI1 X Z W tg iter it) (ok : BlkOk X.N X.env.scope scope own) (hsl : ∀ i ∈ t.sl, i ∈ own.map (·.2)) (htt : ∀ σ H Q, tT X.K X.mg Z W0 ft σ H Q → tt σ H Q)
    (hg : ∀ (s : Shared) (H : Hp) (C : Addr) (cl : List (Str × Addr)) (fp : List Addr), PT1 (X.blk s H scope (compEnvC scope cl C X.env) fp) tg t) (ht : ∀ (s : Shared) (H : Hp) (C : Addr) (cl : List (Str × Addr)) (fp : List Addr), L2.PTs (X.blk s H scope (compEnvC scope cl C X.env) fp) ifs tt)
    (he : ∀ (s : Shared) (H : Hp) (C : Addr) (cl : List (Str × Addr)) (fp : List Addr), PV (X.blk s H scope (compEnvC scope cl C X.env) fp) Z W0 elt fe) (hs : ∀ x, foldedSetIterable iter X.env x = pure x := by intro _; rfl) :
    PN X Z W (.ListComp elt [⟨tg, iter, ifs, 0⟩] scope pos) (nLc (own.map (·.2)) it t ft fe) :=
  PE.weak (pe_lc (te := tD X.K X.mg Z W0 fe.st) hc hN hi ok hg ht (fun s H C cl fp => ed (he s H C cl fp)) hs) (lc_le hsl htt)
theorem cs_newLc {i : Nat} {y : Str} {py : Pos} {elt tg iter : Expr} {ifs : List Expr} {scope : Scope} {own : List (Str × Nat)} {pos spos : Pos} {tt : TT} (hc : X.calm = true) (hN : X.N.Nodup) (hy : X.N[i]? = some y) (hyl : X.env.scope.names.lookup y = some .local)
    (hsw : swapsWith (.ListComp elt [⟨tg, iter, ifs, 0⟩] scope pos) (some (.Name y py)) spos.line X.env = pure true) (hi : PI1 X Z W tg iter it) (ok : BlkOk X.N X.env.scope scope own) (hsl : ∀ i ∈ t.sl, i ∈ own.map (·.2)) (htt : ∀ σ H Q, tT X.K X.mg Z W0 ft σ H Q → tt σ H Q)
    (hg : ∀ (s : Shared) (H : Hp) (C : Addr) (cl : List (Str × Addr)) (fp : List Addr), PT1 (X.blk s H scope (compEnvC scope cl C X.env) fp) tg t) (ht : ∀ (s : Shared) (H : Hp) (C : Addr) (cl : List (Str × Addr)) (fp : List Addr), L2.PTs (X.blk s H scope (compEnvC scope cl C X.env) fp) ifs tt)
    (he : ∀ (s : Shared) (H : Hp) (C : Addr) (cl : List (Str × Addr)) (fp : List Addr), PV (X.blk s H scope (compEnvC scope cl C X.env) fp) Z W0 elt fe) (hs : ∀ x, foldedSetIterable iter X.env x = pure x := by intro _; rfl) :
    PC1 X Z W (.Assign [.Name y py] (.ListComp elt [⟨tg, iter, ifs, 0⟩] scope pos) spos) (sNew i (nLc (own.map (·.2)) it t ft fe)) :=
  cs_new (asg_weak (ps_setLc (te := tD X.K X.mg Z W0 fe.st) hc hN hy hyl hsw hi ok hg ht (fun s H C cl fp => ed (he s H C cl fp)) hs) (lc_le hsl htt))
end

/-! ### calls by name -/
section
variable {X : Cx} {Z : Zone} {W : WX} {k j : Nat} {f : Addr} {fd : FuncData} {ps : List Str} {sp : Sp} {x : Str} {p pos : Pos} {e : Expr} {es : List Expr} {kws : List Keyword} {fs gs : M (List AV)} {ms : List Bool} {Mf : Md}
theorem run_fnX {pins : List (Addr × Obj)} {σ : L2.St} {H : Hp} {s : Shared} {Q : VK} {us us' : List Value} {kw : List (Str × Value)} {vs : List V} (F : FnX X.prog X.w X.K X.mg X.base k f fd ps sp) (hr : Room k X.A) (hgd : X.A.guards = some []) (tk : Takes X W)
    (I : Inv X pins σ H s) (hb : BindsTo s fd ⟨us, kw⟩ (ps.zip us')) (r : Vals vs us') (h : sp vs H Q (fun cls d H' => W cls d σ H')) : wpAny (model X.prog X.w) X.A (call (.ref f) us kw) (EP X pins σ Q) X.xe s := by
  refine wpAny_call (codeAny_mono (F.run X.A X.stack s H ⟨us, kw⟩ us' vs Q _ hr hgd I.env0 hb r h) fun r s' hq => ?_)
  cases r with
  | error e => exact passAt tk σ pins H s e s' I hq
  | ok fl =>
    cases fl with
    | ret u => exact I.after hq
    | next => exact False.elim hq
    | brk => exact False.elim hq
    | cont => exact False.elim hq
/-- a def of the module, called by place -/
structure CalX (P : Program) (w : World) (K : PySem.W.Frag) (mg : Str → Option Value) (base : Heap) (k : Nat) (x : Str) (ms : List Bool) (Mf : Md) : Prop where
  ex : ∃ (f : Addr) (fd : FuncData) (ps : List Str), FnX P w K mg base k f fd ps (spD K mg ms Mf) ∧ mg x = some (.ref f) ∧ PySem.W.keepIn K (.ref f) = true ∧ Binds K fd ps []
theorem ev_call (c : CalX X.prog X.w X.K X.mg X.base k x ms Mf) (hr : Room j X.A) (hgd : X.A.guards = some []) (hk : k ≤ j) (tk : Takes X W) (hg : Gl X x) (ha : PL X Z W (e :: es) fs)
    (hdb : (x == ("__debug__" : Str)) = false := by decide) (he : starEach (e :: es) X.env = (false, eval e X.env) :: starEach es X.env := by rfl) (hpl : (backTo pos (starEach es X.env)).any (·.1) = false := by rfl) :
    PV X Z W (.Call (.Name x p) (e :: es) [] pos) (eCall ms Mf fs) := by
  obtain ⟨f, fd, ps, F, hm, kp, hb⟩ := c.ex
  constructor
  intro pins s σ H Q I ⟨ρ, Fr, r, q⟩
  refine wpAny_Call_Name_kw (ld_glob I hg hm ?_ hdb)
  refine PySem.W.callWith_K (h₀ := X.base) I.ok.mod.kin kp (thn (ha.run pos pins s σ H (fun vs H1 => ∃ ρ1 F1 xs, Rel X.K X.mg Z σ H1 ρ1 F1 ∧ ARL X.K X.mg F1 σ vs xs ∧ Post X.K X.mg Z W σ H1 ρ1 F1 (callM ms Mf xs ρ1) fun x H' _ F' => ∀ v, AR X.K X.mg F' σ v x → Q v H') I
    ⟨ρ, Fr, r, (Post.bind q).imp fun xs H1 ρ1 F1 g q1 vs hv => ⟨ρ1, F1, xs, g.rel, hv, q1⟩⟩) fun us s1 ⟨vs, H1, I1, rv, q1⟩ => ?_) he hpl
  refine ⟨I1.kIn, ?_⟩
  obtain ⟨ρ1, F1, xs, r1, hv, q2⟩ := q1
  have hs := call_core r1 hv q2
  have hl := F.len _ _ _ _ hs
  have hl2 := rv.length
  have hbs := hb s1 us I1.kIn (by rw [List.append_nil]; omega)
  rw [List.append_nil] at hbs
  exact run_fnX F (hr.mono hk) hgd tk I1 hbs rv hs
end
end PV
namespace PV
open PySem PySem.Spec PyProof.Rows L2 VK

section
variable {X : Cx} {Z : Zone} {W : WX} {k j : Nat} {x : Str} {p pos : Pos} {e : Expr} {es : List Expr} {kws : List Keyword} {fs gs : M (List AV)} {ms : List Bool} {Mf : Md}
theorem ev_call0 (c : CalX X.prog X.w X.K X.mg X.base k x ms Mf) (hr : Room j X.A) (hgd : X.A.guards = some []) (hk : k ≤ j) (tk : Takes X W) (hg : Gl X x) (hdb : (x == ("__debug__" : Str)) = false := by decide) :
    PV X Z W (.Call (.Name x p) [] [] pos) (eCall ms Mf eL0) := by
  obtain ⟨f, fd, ps, F, hm, kp, hb⟩ := c.ex
  constructor
  intro pins s σ H Q I ⟨ρ, Fr, r, q⟩
  refine wpAny_Call_Name_kw (ld_glob I hg hm ?_ hdb)
  have hs := call_core r (vs := []) .nil (show Post X.K X.mg Z W σ H ρ Fr (callM ms Mf [] ρ) fun x H' _ F' => ∀ v, AR X.K X.mg F' σ v x → Q v H' from q)
  have hl := F.len _ _ _ _ hs
  have hbs := hb s [] I.kIn hl
  rw [List.append_nil] at hbs
  exact PySem.W.callWith_K0 I.kIn kp (run_fnX (us := []) F (hr.mono hk) hgd tk I hbs .nil hs)
/-! with keywords: the values in the parameters' order -/
def pick {α : Type} (is : List Nat) (xs : List α) : List α := is.filterMap (xs[·]?)
theorem ARL.get {K : PySem.W.Frag} {mg : Str → Option Value} {F : Hp} {σ : L2.St} : ∀ {vs : List V} {xs : List AV}, ARL K mg F σ vs xs → ∀ i : Nat, (vs[i]? = none ∧ xs[i]? = none) ∨ ∃ v x, vs[i]? = some v ∧ xs[i]? = some x ∧ AR K mg F σ v x
  | _, _, .nil, i => .inl ⟨by simp, by simp⟩
  | _, _, .cons h t, 0 => .inr ⟨_, _, rfl, rfl, h⟩
  | _, _, .cons h t, i + 1 => by
    rw [List.getElem?_cons_succ, List.getElem?_cons_succ]
    exact ARL.get t i
theorem ARL.pick {K : PySem.W.Frag} {mg : Str → Option Value} {F : Hp} {σ : L2.St} {vs : List V} {xs : List AV} (h : ARL K mg F σ vs xs) : ∀ is : List Nat, ARL K mg F σ (pick is vs) (pick is xs)
  | [] => .nil
  | i :: is => by
    unfold PV.pick
    rw [List.filterMap_cons, List.filterMap_cons]
    rcases h.get i with ⟨e1, e2⟩ | ⟨v, x, e1, e2, r⟩
    · rw [e1, e2]
      exact ARL.pick h is
    · rw [e1, e2]
      exact .cons r (ARL.pick h is)
theorem ARL.app {K : PySem.W.Frag} {mg : Str → Option Value} {F : Hp} {σ : L2.St} : ∀ {vs us : List V} {xs ys : List AV}, ARL K mg F σ vs xs → ARL K mg F σ us ys → ARL K mg F σ (vs ++ us) (xs ++ ys)
  | _, _, _, _, .nil, s => s
  | _, _, _, _, .cons h t, s => .cons h (ARL.app t s)
theorem ARL.ofRL {K : PySem.W.Frag} {mg : Str → Option Value} {F : Hp} {σ : L2.St} : ∀ {vs : List V} {ds : List D}, RL K mg F vs ds → ARL K mg F σ vs (ds.map .d)
  | _, _, .nil => .nil
  | _, _, .cons h t => .cons h (ARL.ofRL t)
theorem ARL.length {K : PySem.W.Frag} {mg : Str → Option Value} {F : Hp} {σ : L2.St} {vs : List V} {xs : List AV} (h : ARL K mg F σ vs xs) : vs.length = xs.length := by
  induction h with
  | nil => rfl
  | cons _ _ ih => exact congrArg Nat.succ ih
theorem Vals.pick {vs : List V} {us : List Value} (h : Vals vs us) : ∀ is : List Nat, Vals (pick is vs) (pick is us)
  | [] => .nil
  | i :: is => by
    unfold PV.pick
    rw [List.filterMap_cons, List.filterMap_cons]
    cases e : vs[i]? with
    | none =>
      rw [h.none_of e]
      exact Vals.pick h is
    | some v =>
      obtain ⟨u, e2, r⟩ := h.get e
      rw [e2]
      exact .cons r (Vals.pick h is)
/-- a def called with n values, the keywords ks, the defaults dds: where each parameter's value stands among these -/
structure CalK (P : Program) (w : World) (K : PySem.W.Frag) (mg : Str → Option Value) (base : Heap) (k n : Nat) (x : Str) (ms : List Bool) (Mf : Md) (ks : List Str) (dds : List D) (perm : List Nat) : Prop where
  ex : ∃ (f : Addr) (fd : FuncData) (ps : List Str) (dvs : List V) (ds : List Value), FnX P w K mg base k f fd ps (spD K mg ms Mf) ∧ mg x = some (.ref f) ∧ PySem.W.keepIn K (.ref f) = true ∧ Vals dvs ds ∧ (∀ G, RL K mg G dvs dds) ∧
    ∀ (s : Shared) (us ws : List Value), K.In s.heap → us.length = n → ws.length = ks.length → BindsTo s fd ⟨us, ks.zip ws⟩ (ps.zip (pick perm (us ++ ws ++ ds)))
def eCallK (n m : Nat) (ms : List Bool) (Mf : Md) (dds : List D) (perm : List Nat) (fs gs : M (List AV)) : M AV := fun ρ => (fs ρ).bind fun xs ρ1 => (gs ρ1).bind fun zs ρ2 => if xs.length = n ∧ zs.length = m then callM ms Mf (pick perm (xs ++ zs ++ dds.map .d)) ρ2 else .bad
/-- the keywords' values -/
def tKW (K : PySem.W.Frag) (mg : Str → Option Value) (Z : Zone) (W : WX) (f : M (List AV)) : TA := tA K mg Z W f
abbrev PLK (X : Cx) (Z : Zone) (W : WX) (ks : List Keyword) (f : M (List AV)) : Prop := PK X ks (tA X.K X.mg Z W f)
theorem PK.weak {X : Cx} {e : List Keyword} {t t' : TA} (h : PK X e t) (w : ∀ σ H Q, t' σ H Q → t σ H Q) : PK X e t' := ⟨fun pos pins s σ H Q I q => h.run pos pins s σ H Q I (w _ _ _ q)⟩
theorem ek_nil : PLK X Z W [] eL0 := PK.weak pk_nil fun σ H Q ⟨ρ, F, r, q⟩ => q H F (.refl r) [] .nil
theorem ek_cons {nm : Option Str} {kpos : Pos} {f : M AV} {g : M (List AV)} (h : PV X Z W e f) (t : PLK X Z W kws g) : PLK X Z W (⟨nm, e, kpos⟩ :: kws) (eL1 f g) :=
  PK.weak (pk_cons h t) fun σ H Q ⟨ρ, F, r, q⟩ => ⟨ρ, F, r, (Post.bind q).imp fun x H1 ρ1 F1 g1 q1 v hv => ⟨ρ1, F1, g1.rel, (Post.bind q1).imp fun xs H2 ρ2 F2 g2 q2 vs hvs => q2.val_ g2.rel _ (.cons (hv.go g2.fr) hvs)⟩⟩
theorem callK_fin {n : Nat} {ks : List Str} {dds : List D} {perm : List Nat} (c : CalK X.prog X.w X.K X.mg X.base k n x ms Mf ks dds perm) (hr : Room j X.A) (hgd : X.A.guards = some []) (hk : k ≤ j) (tk : Takes X W)
    {f : Addr} (hm : X.mg x = some (.ref f)) {pins : List (Addr × Obj)} {σ : L2.St} {H Fr : Hp} {s : Shared} {ρ : En} {Q : VK} {us ws : List Value} {vs zs : List V} {xs ys : List AV} (I : Inv X pins σ H s) (r : Rel X.K X.mg Z σ H ρ Fr) (rv : Vals vs us) (rz : Vals zs ws) (hv : ARL X.K X.mg Fr σ vs xs) (hz : ARL X.K X.mg Fr σ zs ys)
    (q : Post X.K X.mg Z W σ H ρ Fr (if xs.length = n ∧ ys.length = ks.length then callM ms Mf (pick perm (xs ++ ys ++ dds.map .d)) ρ else .bad) fun x H' _ F' => ∀ v, AR X.K X.mg F' σ v x → Q v H') :
    wpAny (model X.prog X.w) X.A (call (.ref f) us (ks.zip ws)) (EP X pins σ Q) X.xe s := by
  obtain ⟨f', fd, ps, dvs, ds, F, hm', kp, rd, hd, hb⟩ := c.ex
  rw [hm] at hm'
  cases hm'
  by_cases c0 : xs.length = n ∧ ys.length = ks.length
  · rw [if_pos c0] at q
    have hs := call_core r (((hv.app hz).app (ARL.ofRL (hd Fr))).pick perm) q
    refine run_fnX F (hr.mono hk) hgd tk I (hb s us ws I.kIn (by rw [← rv.length, hv.length]; exact c0.1) (by rw [← rz.length, hz.length]; exact c0.2)) (Vals.pick ((rv.append rz).append rd) perm) hs
  · rw [if_neg c0] at q
    exact q.elim
theorem ev_callK {n : Nat} {ks : List Str} {dds : List D} {perm : List Nat} (c : CalK X.prog X.w X.K X.mg X.base k n x ms Mf ks dds perm) (hr : Room j X.A) (hgd : X.A.guards = some []) (hk : k ≤ j) (tk : Takes X W) (hg : Gl X x) (ha : PL X Z W (e :: es) fs) (hkw : PLK X Z W kws gs)
    (hall : (backToKw pos (keywordEach kws X.env)).all (·.1.isSome) = true := by rfl) (hks : (backToKw pos (keywordEach kws X.env)).filterMap (·.1) = ks := by rfl)
    (hdb : (x == ("__debug__" : Str)) = false := by decide) (he : starEach (e :: es) X.env = (false, eval e X.env) :: starEach es X.env := by rfl)
    (hpl : ((backTo pos (starEach (e :: es) X.env)).any (·.1) || (backToKw pos (keywordEach kws X.env)).any (·.1.isNone)) = false := by rfl) :
    PV X Z W (.Call (.Name x p) (e :: es) kws pos) (eCallK n ks.length ms Mf dds perm fs gs) := by
  obtain ⟨f, fd, ps, dvs, ds, F, hm, kp, rd, hd, hb⟩ := c.ex
  constructor
  intro pins s σ H Q I ⟨ρ, Fr, r, q⟩
  refine wpAny_Call_Name_kw (ld_glob I hg hm ?_ hdb)
  refine PySem.W.callWith_KW (h₀ := X.base) I.ok.mod.kin kp hall (thn (ha.run pos pins s σ H (fun vs H1 => ∃ ρ1 F1 xs, Rel X.K X.mg Z σ H1 ρ1 F1 ∧ ARL X.K X.mg F1 σ vs xs ∧ Post X.K X.mg Z W σ H1 ρ1 F1 ((gs ρ1).bind fun zs ρ2 => if xs.length = n ∧ zs.length = ks.length then callM ms Mf (pick perm (xs ++ zs ++ dds.map .d)) ρ2 else .bad) fun x H' _ F' => ∀ v, AR X.K X.mg F' σ v x → Q v H') I
    ⟨ρ, Fr, r, (Post.bind q).imp fun xs H1 ρ1 F1 g q1 vs hv => ⟨ρ1, F1, xs, g.rel, hv, q1⟩⟩) fun us s1 ⟨vs, H1, I1, rv, ρ1, F1, xs, r1, hv, q1⟩ => ?_) hpl he
  refine thn (hkw.run pos pins s1 σ H1 (fun zs H2 => ∃ ρ2 F2 ys, Rel X.K X.mg Z σ H2 ρ2 F2 ∧ ARL X.K X.mg F2 σ vs xs ∧ ARL X.K X.mg F2 σ zs ys ∧ Post X.K X.mg Z W σ H2 ρ2 F2 (if xs.length = n ∧ ys.length = ks.length then callM ms Mf (pick perm (xs ++ ys ++ dds.map .d)) ρ2 else .bad) fun x H' _ F' => ∀ v, AR X.K X.mg F' σ v x → Q v H') I1
    ⟨ρ1, F1, r1, (Post.bind q1).imp fun ys H2 ρ2 F2 g2 q2 zs hz => ⟨ρ2, F2, ys, g2.rel, hv.go g2.fr, hz, q2⟩⟩) fun ws s2 ⟨zs, H2, I2, rz, ρ2, F2, ys, r2, hv2, hz, q2⟩ => ⟨I2.kIn, ?_⟩
  rw [hks]
  exact callK_fin c hr hgd hk tk hm I2 r2 rv rz hv2 hz q2
/-- f(k = v, ..) -/
theorem ev_callKw {ks : List Str} {dds : List D} {perm : List Nat} (c : CalK X.prog X.w X.K X.mg X.base k 0 x ms Mf ks dds perm) (hr : Room j X.A) (hgd : X.A.guards = some []) (hk : k ≤ j) (tk : Takes X W) (hg : Gl X x) (hkw : PLK X Z W kws gs)
    (hall : (backToKw pos (keywordEach kws X.env)).all (·.1.isSome) = true := by rfl) (hks : (backToKw pos (keywordEach kws X.env)).filterMap (·.1) = ks := by rfl) (hdb : (x == ("__debug__" : Str)) = false := by decide)
    (hpl : ((backTo pos (starEach [] X.env)).any (·.1) || (backToKw pos (keywordEach kws X.env)).any (·.1.isNone)) = false := by rfl) :
    PV X Z W (.Call (.Name x p) [] kws pos) (eCallK 0 ks.length ms Mf dds perm eL0 gs) := by
  obtain ⟨f, fd, ps, dvs, ds, F, hm, kp, rd, hd, hb⟩ := c.ex
  constructor
  intro pins s σ H Q I ⟨ρ, Fr, r, q⟩
  refine wpAny_Call_Name_kw (ld_glob I hg hm ?_ hdb)
  refine PySem.W.callWith_KW0 (h₀ := X.base) I.ok.mod.kin kp hall (thn (hkw.run pos pins s σ H (fun zs H2 => ∃ ρ2 F2 ys, Rel X.K X.mg Z σ H2 ρ2 F2 ∧ ARL X.K X.mg F2 σ zs ys ∧ Post X.K X.mg Z W σ H2 ρ2 F2 (if ([] : List AV).length = 0 ∧ ys.length = ks.length then callM ms Mf (pick perm ([] ++ ys ++ dds.map .d)) ρ2 else .bad) fun x H' _ F' => ∀ v, AR X.K X.mg F' σ v x → Q v H') I
    ⟨ρ, Fr, r, (Post.bind (show Post X.K X.mg Z W σ H ρ Fr ((gs ρ).bind fun zs ρ2 => if ([] : List AV).length = 0 ∧ zs.length = ks.length then callM ms Mf (pick perm ([] ++ zs ++ dds.map .d)) ρ2 else .bad) _ from q)).imp fun ys H2 ρ2 F2 g2 q2 zs hz => ⟨ρ2, F2, ys, g2.rel, hz, q2⟩⟩) fun ws s2 ⟨zs, H2, I2, rz, ρ2, F2, ys, r2, hz, q2⟩ => ⟨I2.kIn, ?_⟩) hpl
  rw [hks]
  exact callK_fin (us := []) (vs := []) (xs := []) c hr hgd hk tk hm I2 r2 .nil rz .nil hz q2
end
/-! ### the law's end -/
section
variable {P : Program} {w : World} {K : PySem.W.Frag} {mg mb : Str → Option Value} {k : Nat} {fa a : Addr} {fd : FuncData} {x : Str} {sp : Sp} {s₁ : Shared} {vs : List Value} {ns : List Int}
theorem enterX (KX : K.In s₁.heap) (hns : s₁.heap.Ns mainGlobals mg) (hb : s₁.heap.Ns builtinsNs mb) (hbb : ∀ x : Str, x ≠ "__name__" → mb x = bootBuiltins x) (hlim : s₁.heap.NoLimit) (hg : s₁.gens = #[])
    (ha : s₁.heap.get? a = some { cls := .type "list", data := .seq vs.toArray }) (hr : Room k callerA)
    (F : ∀ base : Heap, K.In base → base.Ns mainGlobals mg → FnX P w K mg base k fa fd [x] sp) (hbind : ∀ (s : Shared) (u : Value), BindsTo s fd ⟨[u], []⟩ [(x, u)])
    (H : Hp) (hO : Only H) (hok : HOk P w H s₁.heap) (hA : ∀ b, H b ≠ none → b = a) (hK : H a ≠ none → K.lookup a = none)
    (hsp : sp [.ref a] H (fun v _ => v = .bl true) E0) :
    codeAny (model P w) callerA (.call (.ref fa) ⟨[.ref a], []⟩) (fun r s' => r = .ok (.ret (.bool true)) ∧ OldK s₁.heap s'.heap ∧ s'.os = s₁.os ∧ AllBare s'.gens) s₁ := by
  have only_a : ∀ {b : Addr} {o : Obj}, s₁.heap.get? b = some o → o ≠ { cls := .type "list", data := .seq vs.toArray } → H b = none := fun {b o} e d => by
    cases q : H b with
    | none => rfl
    | some u =>
      have e' : b = a := hA b (by rw [q]; intro z; cases z)
      rw [e', ha] at e
      exact absurd (Option.some.inj e).symm d
  have nsB : ∀ {b : Addr} {m : Str → Option Value}, s₁.heap.Ns b m → (hidT s₁.heap H).Ns b m := by
    rintro b m ⟨o, es, ep, e, d, r⟩
    refine ⟨o, es, ep, hidT_get e (only_a e ?_), d, r⟩
    intro z
    rw [z] at d
    cases d
  have KB : K.In (hidT s₁.heap H) := by
    intro b o e
    refine hidT_get (KX b o e) ?_
    cases q : H b with
    | none => rfl
    | some u =>
      have nn : H b ≠ none := by rw [q]; intro z; cases z
      have e' := hA b nn
      rw [e'] at e nn
      rw [hK nn] at e
      cases e
  have gB := nsB hns
  have M : Mod K mg (hidT s₁.heap H) := by
    obtain ⟨mc, h1, h2⟩ := hlim
    exact ⟨KB, gB, ⟨mb, nsB hb, hbb⟩, ⟨mc, nsB h1, h2⟩⟩
  have e0 : Env0 P w K mg (hidT s₁.heap H) callerA [] s₁ H :=
    ⟨rfl, M, fun b o e => of_hidT e, Nat.le_of_eq (hidT_size _ _), trivial, fun b hb => (List.not_mem_nil hb).elim, hok, AllBare.of_eq hg⟩
  have run := (F _ KB gB).run callerA [] s₁ H ⟨[.ref a], []⟩ [.ref a] [.ref a] (fun v _ => v = .bl true) E0 hr rfl e0 (hbind s₁ (.ref a)) (.cons rfl .nil) hsp
  refine codeAny_mono run ?_
  intro r s' h
  match r, h with
  | .ok (.ret u), ⟨v, H', os, bare, un, hok', r', q⟩ =>
    have q' : v = .bl true := q
    rw [q'] at r'
    have eu : u = Value.bool true := r'
    rw [eu]
    refine ⟨rfl, OldK.of_keep ?_, os, bare⟩
    intro b o e
    rcases hO b with z | ⟨ob, xs, z⟩
    · exact un.keep b o e z (fun m => List.not_mem_nil m) (fun m => List.not_mem_nil m)
    · have e1 := (hok b _ z).1
      have e2 := (hok' b _ (un.frzs b ob _ z)).1
      rw [e1] at e
      cases e
      exact e2
  | .ok .next, h => exact h.elim
  | .ok .brk, h => exact h.elim
  | .ok .cont, h => exact h.elim
  | .error e, h =>
    obtain ⟨_, _, _, _, _, _, _, _, _, _, _, _, z⟩ := (show L2.CX P w [] H s₁ E0 e s' from h)
    exact z.elim
end
theorem walk_ofX {l : PySem.W.OpenLaw} {n k : Nat} {q : Program} {loose : List Str} {XP : (Str → Option Value) → Heap → Prop} {YP : World → Heap → Prop} {d : DefRec} {K : Params → PySem.W.Frag} {Mf : Md} {x : Str}
    (hn : l.most = some n) (hn2 : n ≤ sizeLine) (hdf : d.params.defaults = []) (hr : Room k callerA) (hY : ∀ (w : World) (h : Heap), YP w h → (K w.params).In h)
    (F : ∀ (w : World) (mg : Str → Option Value) (fa : Addr) (h : Heap), (K w.params).In h → h.Ns mainGlobals mg → mg d.name = some (.ref fa) →
      ∃ fd : FuncData, (∀ (s : Shared) (u : Value), BindsTo s fd ⟨[u], []⟩ [(x, u)]) ∧ ∀ base : Heap, (K w.params).In base → base.Ns mainGlobals mg → FnX l.prog w (K w.params) mg base k fa fd [x] (spD (K w.params) mg [false] Mf))
    (hM : ∀ ns : List Int, ns.length ≤ n → Mf [.scr ns] = .val (.bl true) []) :
    PySem.W.WalkO q loose XP YP l.row.toRowW d [] (fun f vs => PySem.call f vs) := by
  refine Att.attach_call hn hdf ?_
  intro w s₀ s₁ mg mb fa o pm cd doc a vs ns G Y ho hd hcd hmg hobj hints hlen hg
  have KX := hY w _ Y
  have hz : ns.length ≤ sizeLine := Nat.le_trans hlen hn2
  have rv := vals_ints hints
  obtain ⟨fd, hb, hF⟩ := F w mg fa _ KX G.T.g hmg
  have hsp : ∀ H : Hp, SqL (K w.params) H a (ns.map V.int) → spD (K w.params) mg [false] Mf [.ref a] H (fun v _ => v = .bl true) E0 := fun H hS => by
    refine ⟨H, [.scr ns], [], Same.refl _, .sh (.scr hS) .nil, .nil, ?_⟩
    rw [hM ns hlen]
    intro v H' G' _ _ r
    cases r
    rfl
  have go := fun H h1 h3 h4 h2 h5 => enterX (H := H) KX G.T.g G.T.b G.T.builtins G.T.nolimit hg hobj hr hF hb h1 h2 h3 h4 (hsp H h5)
  cases hk : (K w.params).lookup a with
  | some ob =>
    have e := KX a ob hk
    rw [hobj] at e
    cases e
    refine go (fun _ => none) (fun _ => .inl rfl) (fun b z => (z rfl).elim) (fun z => (z rfl).elim) (fun b u z => nomatch z) (.inr ⟨_, vs.toArray, _, hk, rfl, rfl, rfl, ?_, rv⟩)
    rw [List.size_toArray, hints.length]
    exact hz
  | none =>
    let ob : Obj := { cls := .type "list", data := .seq vs.toArray }
    have at_a : ∀ u : HO, (fun b => if b = a then some u else none : Hp) a = some u := fun u => if_pos rfl
    have off : ∀ (u : HO) b, b ≠ a → (fun b => if b = a then some u else none : Hp) b = none := fun u b z => if_neg z
    refine go (fun b => if b = a then some (HO.frz ob (.lst (ns.map V.int))) else none) (fun b => ?_) (fun b z => ?_) (fun _ => hk) (fun b u z => ?_) (.inl (.inr ⟨ob, at_a _⟩))
    · by_cases e : b = a
      · rw [e]
        exact .inr ⟨_, _, at_a _⟩
      · exact .inl (off _ b e)
    · by_cases e : b = a
      · exact e
      · exact absurd (off _ b e) z
    · by_cases e : b = a
      · rw [e] at z
        have z2 := (at_a _).symm.trans z
        cases z2
        rw [e]
        refine ⟨hobj, ?_, vs, _, rv, hobj⟩
        rw [List.length_map]
        exact hz
      · have z2 := (off _ b e).symm.trans z
        cases z2
/-! ### defs of the text -/
section
variable {P : Program} {w : World} {K : PySem.W.Frag} {mg : Str → Option Value} {base : Heap} {x : Str} {st : Stmt} {N ps : List Str} {k : Nat} {ms : List Bool} {fM : M Fl} {Mf : Md}
/-- a def whose promise is shown -/
structure DX (P : Program) (w : World) (K : PySem.W.Frag) (mg : Str → Option Value) (base : Heap) (k : Nat) (x : Str) (st : Stmt) (ps : List Str) (ms : List Bool) (Mf : Md) : Prop where
  ex : ∃ (f : Addr) (fd : FuncData), Fun K x x st f fd ∧ mg x = some (.ref f) ∧ FnX P w K mg base k f fd ps (spD K mg ms Mf)
theorem Df.dx (D : Df K mg x st) (S : FnScope N ps (defScope st)) (hms : ms.length = ps.length)
    (hbody : ∀ (f : Addr) (cdv : Value) (A : Around) (outer : List Env) (s : Shared) (H : Hp) (E : XK) (Z : Zone), Room k (A.deeper (envOfC x (defScope st) s.heap.objs.size f cdv)) → (A.deeper (envOfC x (defScope st) s.heap.objs.size f cdv)).guards = some [] →
      PCs (cxOf (L2.CX P w) P w K mg base N x (defScope st) f cdv A outer s H E) Z (WE E) (defBody st) fM) (l : MLe (runM ms N.length fM) Mf := by exact fun _ _ => rfl) : DX P w K mg base (k + 1) x st ps ms Mf := by
  obtain ⟨f, fd, F, hm⟩ := D.ex
  exact ⟨f, fd, F, hm, fnX F S hms (hbody f) l⟩
theorem DX.cal (d : DX P w K mg base k x st ps ms Mf)
    (hb : ∀ (kV doc pm : Value) (an : Option Addr) (cdv ct : Value) (us : List Value), us.length = ps.length → bindArgs (PySem.W.fnOf x x (defArgs st) (defBody st) (defScope st) .none kV doc pm an cdv ct) ⟨us, []⟩ = pure (ps.zip us)) : CalX P w K mg base k x ms Mf := by
  obtain ⟨f, fd, F, hm, G⟩ := d.ex
  exact ⟨f, fd, ps, G, hm, F.kp, F.binds hb⟩
theorem DX.calK (d : DX P w K mg base k x st ps ms Mf) {n : Nat} {ks : List Str} {perm : List Nat}
    (hb : ∀ (kV doc pm : Value) (an : Option Addr) (cdv ct : Value) (us ws : List Value), us.length = n → ws.length = ks.length → bindArgs (PySem.W.fnOf x x (defArgs st) (defBody st) (defScope st) .none kV doc pm an cdv ct) ⟨us, ks.zip ws⟩ = pure (ps.zip (pick perm (us ++ ws ++ [])))) : CalK P w K mg base k n x ms Mf ks [] perm := by
  obtain ⟨f, fd, F, hm, G⟩ := d.ex
  obtain ⟨oc, od, kV, doc, pm, an, cdv, ct, osl, e, lk, hcd⟩ := F.ex
  subst e
  exact ⟨f, _, ps, [], [], G, hm, F.kp, .nil, fun _ => .nil, fun s us ws X l1 l2 => .of_eq (hb kV doc pm an cdv ct us ws l1 l2)⟩
theorem law_endX {fa : Addr} (d : ∀ base : Heap, K.In base → base.Ns mainGlobals mg → DX P w K mg base k "law" st [x] ms Mf) (hfa : mg "law" = some (.ref fa)) (D : VK.Df K mg "law" st)
    (hb : ∀ (kV doc pm : Value) (an : Option Addr) (cdv ct u : Value), bindArgs (PySem.W.fnOf "law" "law" (defArgs st) (defBody st) (defScope st) .none kV doc pm an cdv ct) ⟨[u], []⟩ = pure [(x, u)]) :
    ∃ fd : FuncData, (∀ (s : Shared) (u : Value), BindsTo s fd ⟨[u], []⟩ [(x, u)]) ∧ ∀ base : Heap, K.In base → base.Ns mainGlobals mg → FnX P w K mg base k fa fd [x] (spD K mg ms Mf) := by
  obtain ⟨f, fd, hF, hm⟩ := D.ex
  rw [hfa] at hm
  cases hm
  refine ⟨fd, ?_, fun base h1 h2 => ?_⟩
  · obtain ⟨oc, od, kV, doc, pm, an, cdv, ct, osl, rfl, lk, hcd⟩ := hF.ex
    exact fun s u => .of_eq (hb kV doc pm an cdv ct u)
  · obtain ⟨f2, fd2, hF2, hm2, G⟩ := (d base h1 h2).ex
    rw [hfa] at hm2
    cases hm2
    -- the same object
    obtain ⟨oc, od, kV, doc, pm, an, cdv, ct, osl, e1, lk, hcd⟩ := hF.ex
    obtain ⟨oc2, od2, kV2, doc2, pm2, an2, cdv2, ct2, osl2, e2, lk2, hcd2⟩ := hF2.ex
    rw [lk] at lk2
    cases lk2
    exact G
end
end PV
namespace VK
open PySem PySem.Spec PyProof.Rows L2
/-! ### a tuple, any number of times -/
theorem mul_once (l : Addr) (o : Obj) (its : Array Value) (n : Nat) (u : Tok) (hc : o.cls = .type "tuple") (hd : o.data = .seq its n) :
    Meets (Builtin.«tuple.__mul__» ⟨[.ref l, .int 1 u], []⟩) (fun _ R s => s.heap.get? l = some o ∧ R (.ok (.ret (.ref l))) s) := by
  obtain ⟨c, dd, dt, sl⟩ := o
  simp only at hc hd
  subst hc hd
  refine .of_wp fun prog w A R s h => ?_
  obtain ⟨hp, g, d, tk, os⟩ := s
  obtain ⟨hl, h⟩ := h
  have f1 := AutoSeq1.idx_int
  wp_walk using wpAny_loadPart' hl
  exact ⟨_, rfl, h⟩
theorem mul_none (l : Addr) (o : Obj) (its : Array Value) (n : Nat) (k : Int) (u : Tok) (hc : o.cls = .type "tuple") (hd : o.data = .seq its n) (h0 : its.isEmpty = false) (hk : k ≤ 0) (hk2 : -(2 ^ 63) ≤ k) :
    Meets (Builtin.«tuple.__mul__» ⟨[.ref l, .int k u], []⟩) (fun _ R s => s.heap.get? l = some o ∧ R (.ok (.ret (.ref s.heap.objs.size))) { s with heap := s.heap.push { cls := .type "tuple", data := .seq #[] } }) := by
  obtain ⟨c, dd, dt, sl⟩ := o
  simp only at hc hd
  subst hc hd
  have c0 : (decide (k < -(2 ^ 63)) || decide (k ≥ 2 ^ 63)) = false := by
    rw [decide_eq_false (show ¬ k < -(2 ^ 63) by omega), decide_eq_false (show ¬ k ≥ 2 ^ 63 by omega)]
    rfl
  have c1 : (its.isEmpty || k == 1) = false := by
    rw [h0, Bool.false_or]
    exact beq_eq_false_iff_ne.mpr (by omega)
  have c2 : (decide (k ≤ 0) || its.isEmpty) = true := by
    rw [decide_eq_true hk]
    rfl
  refine .of_wp fun prog w A R s h => ?_
  obtain ⟨hp, g, d, tk, os⟩ := s
  obtain ⟨hl, h⟩ := h
  have f1 := AutoSeq1.idx_int
  wp_walk using wpAny_loadPart' hl
  refine wpAny_ite_false (decide_eq_false (by rw [c0]; decide)) ?_
  wp_walk using wpAny_loadPart' hl
  refine wpAny_ite_false (decide_eq_false (by rw [c1]; decide)) ?_
  wp_walk using wpAny_loadPart' hl
  exact ⟨_, rfl, h⟩
/-- t * k: the tuple itself, or a new one -/
def rRepW (K : PySem.W.Frag) : R2 := fun x y H Q => ∃ l k xs, x = .ref l ∧ y = .int k ∧ SqT K H l xs ∧ xs ≠ [] ∧ -(2 ^ 63) ≤ k ∧ k ≤ 1000 ∧ xs.length ≤ 1000 ∧
  ∀ a' H', Same H H' → ((a' = l ∧ (List.replicate k.toNat xs).flatten = xs) ∨ (H a' = none ∧ H' a' = some (.tup (List.replicate k.toNat xs).flatten))) → Q (.ref a') H'
theorem op_repW {X : Cx} : OpR X (binaryOp .Mult) (rRepW X.K) := by
  intro pins s σ H x y v u Q I rx ry h
  obtain ⟨l, k, xs, ex, ey, hT, hne, h1, h2, hz, q⟩ := h
  by_cases hk : 2 ≤ k
  · exact op_repT pins s σ H x y v u Q I rx ry ⟨l, k, xs, ex, ey, hT, hne, hk, h2, hz, fun p np => q p _ (same_new np) (.inr ⟨np, upd_same⟩)⟩
  subst ex ey
  cases rx
  obtain ⟨t, rfl⟩ := ry
  obtain ⟨its, r, ⟨⟨cl, dd, dt, sl⟩, ho, hc, n, hd⟩, hs⟩ := I.tuple hT
  simp only at hc hd
  subst hc hd
  have hle := r.length
  have he : its.toArray.isEmpty = false := by
    cases its with
    | nil => exact absurd (List.eq_nil_of_length_eq_zero hle) hne
    | cons a b => rfl
  -- what the int's own slot says is no answer; then the tuple's
  refine wpAny_binaryOp_repeat_ref (T := "tuple") (U := "int")
    (by decide) ⟨_, ho, rfl⟩ (fun s' => typeIs_int s' k t)
    noFill_tuple_mul F.fills_int_mul
    F.slot_int_rmul repeat_tuple F.slot_int_index.lookup ?_
  refine call_meets F.slot_int_rmul (typeIs_int s k t) F.entry_int_rmul (F.args_int_rmul_2 _ _)
    (int_rmul_tuple k t l its.toArray n dd sl) ?_
  refine ⟨ho, rfl, ⟨_, ho, rfl⟩, ?_⟩
  by_cases h11 : k = 1
  · subst h11
    refine call_meets F.slot_tuple_mul ⟨_, ho, rfl⟩ F.entry_tuple_mul (F.args_tuple_mul_2 _ _) (mul_once l _ its.toArray n t rfl rfl) ⟨ho, ?_⟩
    exact ⟨.ref l, H, I, rfl, q l H (Same.refl H) (.inl ⟨rfl, by show [xs].flatten = xs; rw [List.flatten_cons, List.flatten_nil, List.append_nil]⟩)⟩
  · refine call_meets F.slot_tuple_mul ⟨_, ho, rfl⟩ F.entry_tuple_mul (F.args_tuple_mul_2 _ _) (mul_none l _ its.toArray n k t rfl rfl he (by omega) h1) ⟨ho, ?_⟩
    have hf : H s.heap.objs.size = none := I.hok.fresh (Nat.le_refl _)
    have e0 : k.toNat = 0 := by omega
    have q' := q s.heap.objs.size (upd H s.heap.objs.size (.tup [])) (same_new hf) (.inr ⟨hf, by rw [e0]; exact upd_same⟩)
    refine ⟨.ref s.heap.objs.size, _, I.laid (t' := s.toks) (fun b u e => Heap.get?_push_of_some _ e) (Nat.le_refl _) ?_, rfl, q'⟩
    exact ⟨Nat.zero_le _, [], .nil, ⟨_, Heap.get?_push_size _ rfl, rfl, _, rfl⟩⟩
end VK
namespace PV
open PySem PySem.Spec PyProof.Rows L2 VK

/-! ### by what the values are -/
theorem opr_or {X : Cx} {f : Value → Value → Sem Value} {r r' : R2} (h : OpR X f r) (h' : OpR X f r') : OpR X f (fun x y H Q => r x y H Q ∨ r' x y H Q) := fun pins s σ H x y v u Q I rx ry q => q.elim (h pins s σ H x y v u Q I rx ry) (h' pins s σ H x y v u Q I rx ry)
section
variable {K : PySem.W.Frag} {mg : Str → Option Value}
/-- one or the other -/
def orG (g g' : G2) : G2 := fun d e => match g d e with
  | some z => some z
  | none => g' d e
theorem ok_or {r r' : R2} {g g' : G2} (h : OkA K mg r g) (h' : OkA K mg r' g') : OkA K mg (fun x y H Q => r x y H Q ∨ r' x y H Q) (orG g g') := by
  intro F H v w d e z Q s hv hw q k
  unfold orG at q
  cases c : g d e with
  | some u =>
    rw [c] at q
    cases q
    exact .inl (h s hv hw c k)
  | none =>
    rw [c] at q
    exact .inr (h' s hv hw q k)
def gCatL : G2
  | .lst xs, .lst ys => if xs.length + ys.length ≤ sizeLine then some (.lst (xs ++ ys)) else none
  | _, _ => none
theorem ok_catL : OkA K mg rCat gCatL := by
  intro F H v w d e z Q s hv hw hg q
  cases d <;> cases e <;> simp only [gCatL] at hg <;> try (cases hg; done)
  rename_i x y
  by_cases c : x.length + y.length ≤ sizeLine
  · rw [if_pos c] at hg
    cases hg
    obtain ⟨a, vs, rfl, h1, h2⟩ := hv.lst s
    obtain ⟨b, ws, rfl, h3, h4⟩ := hw.lst s
    exact ⟨a, b, vs, ws, rfl, rfl, h1, h3, by rw [h2.length, h4.length]; exact c, fun p np => okN s q np (.lst upd_same ((h2.append h4).mono (same_new (s.free np))))⟩
  · rw [if_neg c] at hg
    cases hg
/-- a + b -/
def gPlus : G2 := orG gAdd (orG gAddS (orG gCatT gCatL))
abbrev rPlus (K : PySem.W.Frag) : R2 := fun x y H Q => (rI0 fun i j => V.int (i + j)) x y H Q ∨ ((∃ i j, x = .str i ∧ y = .str j ∧ i.length + j.length ≤ sizeLine ∧ Q (.str (i ++ j)) H) ∨ (rCatW' K x y H Q ∨ rCat x y H Q))
theorem op_plus {X : Cx} : OpR X (binaryOp .Add) (rPlus X.K) := opr_or op_add (opr_or op_add_str (opr_or op_catT' op_cat))
theorem ok_plus : OkA K mg (rPlus K) gPlus := ok_or ok_add (ok_or ok_addS (ok_or ok_catT ok_catL))
/-- a * b -/
def gRepT : G2
  | .tup xs, .int k => if xs ≠ [] ∧ -(2 ^ 63) ≤ k ∧ k ≤ 1000 ∧ xs.length ≤ 1000 then some (.tup (List.replicate k.toNat xs).flatten) else none
  | _, _ => none
def gRepL : G2
  | .lst xs, .int k => if -(2 ^ 62) ≤ k ∧ k < 2 ^ 62 ∧ xs.length * k.toNat ≤ sizeLine then some (.lst (List.replicate k.toNat xs).flatten) else none
  | _, _ => none
theorem ok_repL : OkA K mg rRep gRepL := by
  intro F H v w d e z Q s hv hw hg q
  cases d <;> cases e <;> simp only [gRepL] at hg <;> try (cases hg; done)
  rename_i x k
  by_cases c : -(2 ^ 62) ≤ k ∧ k < 2 ^ 62 ∧ x.length * k.toNat ≤ sizeLine
  · rw [if_pos c] at hg
    cases hg
    obtain ⟨a, vs, rfl, h1, h2⟩ := hv.lst s
    exact ⟨a, k, vs, rfl, hw.int, h1, by omega, by omega, by rw [h2.length]; exact c.2.2, fun p np => okN s q np (.lst upd_same (h2.flat.mono (same_new (s.free np))))⟩
  · rw [if_neg c] at hg
    cases hg
theorem ok_repT : OkA K mg (VK.rRepW K) gRepT := by
  intro F H v w d e z Q s hv hw hg q
  cases d <;> cases e <;> simp only [gRepT] at hg <;> try (cases hg; done)
  rename_i x k
  by_cases c : x ≠ [] ∧ -(2 ^ 63) ≤ k ∧ k ≤ 1000 ∧ x.length ≤ 1000
  · rw [if_pos c] at hg
    cases hg
    obtain ⟨a, vs, rfl, h1, h2⟩ := hv.tup
    refine ⟨a, k, vs, rfl, hw.int, same_seqT s h1, fun z => ?_, c.2.1, c.2.2.1, by rw [h2.length]; exact c.2.2.2, fun a' H' sH h => ?_⟩
    · rw [z] at h2
      cases h2
      exact c.1 rfl
    · rcases h with ⟨rfl, e⟩ | ⟨n1, n2⟩
      · have := h2.flat (n := k.toNat)
        rw [e] at this
        exact q _ _ F sH (Same.refl _) (s.trans sH) (fun b h => .inl h) (.tup h1 this)
      · have nF : F a' = none := s.free n1
        refine q _ _ (upd F a' (.tup (List.replicate k.toNat vs).flatten)) sH (same_new nF) (fun b o e => ?_) (fun b hb => ?_) (.tup (.inl (.inl upd_same)) (h2.flat.mono (same_new nF)))
        · by_cases z : b = a'
          · rw [z, upd_same] at e
            cases e
            rw [z]
            exact n2
          · rw [upd_ne z] at e
            exact sH _ _ (s b o e)
        · by_cases z : b = a'
          · rw [z]
            exact .inr n1
          · rw [upd_ne z] at hb
            exact .inl hb
  · rw [if_neg c] at hg
    cases hg
def gTimes : G2 := orG gMul (orG gRepL gRepT)
abbrev rTimes (K : PySem.W.Frag) : R2 := fun x y H Q => (rI CMul fun i j => V.int (i * j)) x y H Q ∨ (rRep x y H Q ∨ VK.rRepW K x y H Q)
theorem op_times {X : Cx} : OpR X (binaryOp .Mult) (rTimes X.K) := opr_or op_mul (opr_or op_rep VK.op_repW)
theorem ok_times : OkA K mg (rTimes K) gTimes := ok_or ok_mul (ok_or ok_repL ok_repT)
/-- ==, != -/
def gEqG : G2 := orG gEqS gEq
def gNeG : G2 := orG gNeS gNe
theorem op_eqG {X : Cx} (hu : X.A.units + 64 < cLine) : OpR X (compareOp .Eq) (fun x y H Q => rEq x y H Q ∨ rEqD X.K x y H Q) := opr_or op_eq (op_eqD hu)
theorem op_neG {X : Cx} (hu : X.A.units + 64 < cLine) : OpR X (compareOp .NotEq) (fun x y H Q => rNe x y H Q ∨ rNeD X.K x y H Q) := opr_or op_ne (op_neD hu)
theorem ok_eqG : OkA K mg (fun x y H Q => rEq x y H Q ∨ rEqD K x y H Q) gEqG := ok_or ok_eqS ok_eq
theorem ok_neG : OkA K mg (fun x y H Q => rNe x y H Q ∨ rNeD K x y H Q) gNeG := ok_or ok_neS ok_ne
/-- a[i] -/
def gIx : G2 := orG gIxL (orG gIxT gIxS)
theorem ix_all {X : Cx} : IxR X (fun x y H Q => rIxL X.K x y H Q ∨ (rIxT X.K x y H Q ∨ rIxS x y H Q)) := ix_list.or (ix_tup.or ix_str)
theorem ok_ix : OkA K mg (fun x y H Q => rIxL K x y H Q ∨ (rIxT K x y H Q ∨ rIxS x y H Q)) gIx := ok_or ok_ixL (ok_or ok_ixT ok_ixS)
end
section
variable {K : PySem.W.Frag} {mg : Str → Option Value}
/-- a[lo:hi] -/
def orG3 (g g' : G3) : G3 := fun d a b => match g d a b with
  | some z => some z
  | none => g' d a b
theorem ok3_or {r r' : V → Option Int → Option Int → Hp → VK → Prop} {g g' : G3} (h : Ok3 K mg r g) (h' : Ok3 K mg r' g') : Ok3 K mg (fun x a b H Q => r x a b H Q ∨ r' x a b H Q) (orG3 g g') := by
  intro F H v d z a b Q s hv q k
  unfold orG3 at q
  cases c : g d a b with
  | some u =>
    rw [c] at q
    cases q
    exact .inl (h s hv c k)
  | none =>
    rw [c] at q
    exact .inr (h' s hv q k)
def gSlV : G3
  | .lst xs, a, b => some (.lst (cutG xs a b))
  | .scr ns, a, b => some (.lst (cutG (ns.map D.int) a b))
  | _, _, _ => none
theorem ok_slV : Ok3 K mg (rSlL K) gSlV := by
  intro F H v d z a b Q s hv hg q
  cases d <;> simp only [gSlV] at hg <;> try (cases hg; done)
  · cases hg
    obtain ⟨c, vs, rfl, h1, h2⟩ := hv.lst s
    exact ⟨c, vs, rfl, .inl (.inl h1), fun p np => okN s q np (.lst upd_same ((h2.cut a b).mono (same_new (s.free np))))⟩
  · cases hg
    rcases hv with hv | ⟨c, rfl, _, h⟩
    · cases hv with
      | scr h => exact ⟨_, _, rfl, s.seq h, fun p np => okN s q np (.lst upd_same ((RL.ints _).cut a b))⟩
    · exact h.elim
def gSl : G3 := orG3 gSlV (orG3 gSlT gSlS)
theorem sl_all {X : Cx} : SlR X (fun x a b H Q => rSlL X.K x a b H Q ∨ (rSlA X.K x a b H Q ∨ rSlS x a b H Q)) := sl_list.or (sl_tupA.or sl_str)
theorem ok_sl : Ok3 K mg (fun x a b H Q => rSlL K x a b H Q ∨ (rSlA K x a b H Q ∨ rSlS x a b H Q)) gSl := ok3_or (r := rSlL K) (r' := fun x a b H Q => rSlA K x a b H Q ∨ rSlS x a b H Q) (g := gSlV) (g' := orG3 gSlT gSlS) ok_slV (ok3_or (r := rSlA K) (r' := rSlS) (g := gSlT) (g' := gSlS) ok_slT ok_slS)
/-- len(a) -/
def orGL (g g' : GL) : GL := fun ds => match g ds with
  | some z => some z
  | none => g' ds
theorem okL_or {r r' : List V → Hp → VK → Prop} {g g' : GL} (h : OkL K mg r g) (h' : OkL K mg r' g') : OkL K mg (fun x H Q => r x H Q ∨ r' x H Q) (orGL g g') := by
  intro F H v d z Q s hv q k
  unfold orGL at q
  cases c : g d with
  | some u =>
    rw [c] at q
    cases q
    exact .inl (h s hv c k)
  | none =>
    rw [c] at q
    exact .inr (h' s hv q k)
theorem ok_lenS : OkL K mg (fun xs H Q => ∃ z, xs = [.str z] ∧ z.length ≤ sizeLine ∧ Q (.int z.length) H) gLenS := by
  intro F H vs ds z Q s hv hg q
  match ds, hg with
  | [.str x], hg =>
    obtain ⟨v, rfl, h1⟩ := hv.one
    simp only [gLenS] at hg
    by_cases c : x.length ≤ sizeLine
    · rw [if_pos c] at hg
      cases hg
      exact ⟨x, by rw [h1.str], c, okQ s q (.int _)⟩
    · rw [if_neg c] at hg
      cases hg
theorem RK.length {G : Hp} : ∀ {vs : List (Key × V)} {ds : List (D × D)}, RK K mg G vs ds → vs.length = ds.length
  | _, _, .nil => rfl
  | _, _, .cons _ _ t => by rw [List.length_cons, List.length_cons, RK.length t]
theorem Rp.dic {F H : Hp} {v : V} {es : List (D × D)} (s : Same F H) (h : Rp K mg F H v (.dic es)) : ∃ a kvs, v = .ref a ∧ H a = some (.dK kvs) ∧ RK K mg F kvs es := by
  rcases h with h | ⟨a, rfl, _, kvs, h1, h2⟩
  · cases h with
    | dic h1 h2 => exact ⟨_, _, rfl, s _ _ h1, h2⟩
  · exact ⟨a, kvs, rfl, h1, h2⟩
theorem ok_lenD : OkL K mg (fun xs H Q => ∃ a kvs, xs = [V.ref a] ∧ H a = some (.dK kvs) ∧ Q (.int kvs.length) H) gLenD := by
  intro F H vs ds z Q s hv hg q
  match ds, hg with
  | [.dic es], hg =>
    obtain ⟨v, rfl, h1⟩ := hv.one
    cases hg
    obtain ⟨a, kvs, rfl, h2, h3⟩ := h1.dic s
    refine ⟨a, kvs, rfl, h2, okQ s q ?_⟩
    rw [h3.length]
    exact .int _
def gLenA : GL := orGL gLen (orGL gLenS gLenD)
theorem call_lenA {X : Cx} : CallR X (.builtin "len") (fun x H Q => rLenSq X.K x H Q ∨ ((∃ z, x = [.str z] ∧ z.length ≤ sizeLine ∧ Q (.int z.length) H) ∨ (∃ a kvs, x = [V.ref a] ∧ H a = some (.dK kvs) ∧ Q (.int kvs.length) H))) := call_lenSq.or (call_len_str.or call_lenD)
theorem ok_lenA : OkL K mg (fun x H Q => rLenSq K x H Q ∨ ((∃ z, x = [.str z] ∧ z.length ≤ sizeLine ∧ Q (.int z.length) H) ∨ (∃ a kvs, x = [V.ref a] ∧ H a = some (.dK kvs) ∧ Q (.int kvs.length) H))) gLenA := okL_or ok_len (okL_or ok_lenS ok_lenD)
end
/-! ### one rule or the other -/
def orM {α : Type} (f g : M α) : M α := fun ρ => match f ρ with
  | .bad => g ρ
  | r => r
theorem post_or {K : PySem.W.Frag} {mg : Str → Option Value} {Z : Zone} {W : WX} {σ : L2.St} {H F : Hp} {ρ : En} {α : Type} {f g : M α} {Q : α → Hp → En → Hp → Prop} (h : Post K mg Z W σ H ρ F (orM f g ρ) Q) : Post K mg Z W σ H ρ F (f ρ) Q ∨ Post K mg Z W σ H ρ F (g ρ) Q := by
  unfold orM at h
  cases c : f ρ with
  | bad =>
    rw [c] at h
    exact .inr h
  | val x ρ1 =>
    rw [c] at h
    exact .inl h
  | exc a b ρ1 =>
    rw [c] at h
    exact .inl h
theorem PE.or {X : Cx} {e : Expr} {t t' : TE} (h : PE X e t) (h' : PE X e t') : PE X e (fun σ H Q => t σ H Q ∨ t' σ H Q) := ⟨fun pins s σ H Q I q => q.elim (h.run pins s σ H Q I) (h'.run pins s σ H Q I)⟩
theorem PI.or {X : Cx} {tg e : Expr} {t t' : TI} (h : PI X tg e t) (h' : PI X tg e t') : PI X tg e (fun σ H Q => t σ H Q ∨ t' σ H Q) := ⟨fun pins s σ H Q I q => q.elim (h.run pins s σ H Q I) (h'.run pins s σ H Q I)⟩
section
variable {X : Cx} {Z : Zone} {W : WX} {tg e : Expr}
theorem ev_orM {f g : M AV} (h : PV X Z W e f) (h' : PV X Z W e g) : PV X Z W e (orM f g) := PE.weak (PE.or h h') fun σ H Q ⟨ρ, F, r, q⟩ => (post_or q).elim (fun q => .inl ⟨ρ, F, r, q⟩) fun q => .inr ⟨ρ, F, r, q⟩
theorem en_orM {f g : M D} (h : PN X Z W e f) (h' : PN X Z W e g) : PN X Z W e (orM f g) := PE.weak (PE.or h h') fun σ H Q ⟨ρ, F, r, q⟩ => (post_or q).elim (fun q => .inl ⟨ρ, F, r, q⟩) fun q => .inr ⟨ρ, F, r, q⟩
theorem it_orM {f g : M (List D)} (h : PI1 X Z W tg e f) (h' : PI1 X Z W tg e g) : PI1 X Z W tg e (orM f g) := PI.weak (PI.or h h') fun σ H Q ⟨ρ, F, r, q⟩ => (post_or q).elim (fun q => .inl ⟨ρ, F, r, q⟩) fun q => .inr ⟨ρ, F, r, q⟩
/-- what is walked: a list or a tuple -/
def iSq (f : M AV) : M (List D) := fun ρ => (f.st ρ).bind fun d ρ1 => match d with
  | .lst xs => .val xs ρ1
  | .tup xs => .val xs ρ1
  | _ => .bad
theorem iSq_or (f : M AV) (ρ : En) : iSq f ρ = orM (iLst f) (iTpl f) ρ := by
  unfold iSq orM iLst iTpl
  cases c : f.st ρ with
  | bad => rfl
  | exc a b c => rfl
  | val d ρ1 => cases d <;> rfl
theorem it_sq {f : M AV} (h : PV X Z W e f) : PI1 X Z W tg e (iSq f) := by
  have q := it_orM (it_lst (tg := tg) h) (it_tup h)
  rw [← show iSq f = orM (iLst f) (iTpl f) from funext fun ρ => iSq_or f ρ] at q
  exact q
end
/-! ### the module's constants -/
def Gc (K : PySem.W.Frag) (mg : Str → Option Value) (x : Str) (d : D) : Prop := ∃ v u, mg x = some u ∧ RelV v u ∧ ∀ F, R K mg F v d
end PV
namespace PV
open PySem PySem.Spec PyProof.Rows L2 VK

section
variable {X : Cx} {Z : Zone} {W : WX} {x : Str} {p pos : Pos} {e : Expr} {es : List Expr} {fs : M (List AV)}
theorem ev_gc {d : D} (hg : Gl X x) (h : Gc X.K X.mg x d) (hd : (x == ("__debug__" : Str)) = false := by decide) : PV X Z W (.Name x p) (eC d) := by
  obtain ⟨v, u, h1, h2, h3⟩ := h
  exact ev_c (C8.pe_gc hg ⟨u, h1, h2⟩ hd) h3
def nDic0 : M D := fun ρ => .val (.dic []) ρ
theorem en_dic0 : PN X Z W (.Dict [] [] pos) nDic0 := PE.weak pe_dnewK fun σ H Q ⟨ρ, F, r, q⟩ p np => q _ _ (.new r (same_new np)) p np (r.h0 np) (r.same.free np) ⟨_, upd_same, .nil⟩ (new_ne r np)
end
/-! ### a def that returns a new thing -/
section
variable (K : PySem.W.Frag) (mg : Str → Option Value)
def spN (Mf : List D → Option D) : Sp := fun vs H Q E => ∃ G ds d, Same G H ∧ RL K mg G vs ds ∧ Mf ds = some d ∧
  ∀ a H' G', Same H H' → Same G G' → Same G' H' → (∀ b, G' b ≠ none → G b ≠ none ∨ H b = none) → H a = none → G' a = none → Ct K mg G' H' a d → Q (.ref a) H'
end
def runN (np n : Nat) (f : M D) : List D → Option D := fun ds => if ds.length = np then (match f (ds.map .sh ++ List.replicate (n - ds.length) .no) with
  | .val d _ => some d
  | _ => none) else none
section
variable {K : PySem.W.Frag} {mg : Str → Option Value} {G H : Hp}
theorem ra_sh : ∀ {vs : List V} {ds : List D}, RL K mg G vs ds → RA K mg G H (vs.map fun _ => false) vs ds []
  | _, _, .nil => .nil
  | _, _, .cons h t => .sh h (ra_sh t)
theorem stE_sh : ∀ {vs : List V} {ds : List D}, vs.length = ds.length → stE (vs.map fun _ => false) ds = ds.map .sh
  | [], [], _ => rfl
  | [], _ :: _, h => by cases h
  | _ :: _, [], h => by cases h
  | _ :: vs, d :: ds, h => by
    have t := stE_sh (vs := vs) (ds := ds) (by simpa using h)
    show Sl.sh d :: stE (vs.map fun _ => false) ds = _
    rw [t]
    rfl
theorem io_sh : ∀ (vs : List V) (i : Nat), ioOf (vs.map fun _ => false) vs i = none
  | [], i => rfl
  | v :: vs, 0 => by cases v <;> rfl
  | v :: vs, i + 1 => by
    have := io_sh vs i
    cases v <;> exact this
variable {P : Program} {w : World} {base : Heap}
theorem fnN {x qual : Str} {st : Stmt} {f : Addr} {fd : FuncData} {N ps : List Str} {k : Nat} {e : Expr} {pos : Pos} {fN : M D} (F : Fun K x qual st f fd) (S : FnScope N ps (defScope st)) (hb : defBody st = [.Return (some e) pos])
    (hbody : ∀ (cdv : Value) (A : Around) (outer : List Env) (s : Shared) (H : Hp) (E : XK) (Z : Zone), Room k (A.deeper (envOfC qual (defScope st) s.heap.objs.size f cdv)) → (A.deeper (envOfC qual (defScope st) s.heap.objs.size f cdv)).guards = some [] →
      PN (cxOf (L2.CX P w) P w K mg base N qual (defScope st) f cdv A outer s H E) Z (WE E) e fN) : FnX P w K mg base (k + 1) f fd ps (spN K mg (runN ps.length N.length fN)) := by
  have hlen : ∀ vs H Q E, spN K mg (runN ps.length N.length fN) vs H Q E → vs.length = ps.length := fun vs H Q E ⟨G, ds, d, _, h, e, _⟩ => by
    unfold runN at e
    by_cases c : ds.length = ps.length
    · exact h.length.trans c
    · rw [if_neg c] at e
      cases e
  refine okX F S hlen fun cdv A outer s H vs Q E hr hgd hsp => ?_
  have hl := hlen _ _ _ _ hsp
  obtain ⟨G, ds, d, sm, h, er, q⟩ := hsp
  have hl2 := h.length
  unfold runN at er
  rw [if_pos (hl2.symm.trans hl)] at er
  have hst := rel_start (N := N) (ra_sh (H := H) h) List.nodup_nil sm (by rw [hl]; exact pre_len S)
  rw [stE_sh hl2] at hst
  rw [hb]
  refine ⟨_, pss_one (ps_ret (hbody cdv A outer s H E (zoneOf (vs.map fun _ => false) vs G H) hr hgd)), _, G, hst, ?_⟩
  cases hc : fN (ds.map .sh ++ List.replicate (N.length - ds.length) .no) with
  | bad =>
    rw [hc] at er
    cases er
  | exc c fs ρ1 =>
    rw [hc] at er
    cases er
  | val d' ρ1 =>
    rw [hc] at er
    cases er
    intro H' F' g a n1 n2 n3 c ne
    exact q a H' F' (fun b o eb => g.rel.off b o (fun i z => by rw [show (zoneOf (vs.map fun _ => false) vs G H).io i = none from io_sh vs i] at z; cases z) eb) g.fr g.rel.same (fun b nb => g.rel.new b nb) n1 n3 c
structure CalN (P : Program) (w : World) (K : PySem.W.Frag) (mg : Str → Option Value) (base : Heap) (k : Nat) (x : Str) (Mf : List D → Option D) : Prop where
  ex : ∃ (f : Addr) (fd : FuncData) (ps : List Str), FnX P w K mg base k f fd ps (spN K mg Mf) ∧ mg x = some (.ref f) ∧ PySem.W.keepIn K (.ref f) = true ∧ Binds K fd ps []
theorem Df.calN {x : Str} {st : Stmt} {N ps : List Str} {k : Nat} {e : Expr} {pos : Pos} {fN : M D} (D : Df K mg x st) (S : FnScope N ps (defScope st)) (hb : defBody st = [.Return (some e) pos])
    (hb2 : ∀ (kV doc pm : Value) (an : Option Addr) (cdv ct : Value) (us : List Value), us.length = ps.length → bindArgs (PySem.W.fnOf x x (defArgs st) (defBody st) (defScope st) .none kV doc pm an cdv ct) ⟨us, []⟩ = pure (ps.zip us))
    (hbody : ∀ (f : Addr) (cdv : Value) (A : Around) (outer : List Env) (s : Shared) (H : Hp) (E : XK) (Z : Zone), Room k (A.deeper (envOfC x (defScope st) s.heap.objs.size f cdv)) → (A.deeper (envOfC x (defScope st) s.heap.objs.size f cdv)).guards = some [] →
      PN (cxOf (L2.CX P w) P w K mg base N x (defScope st) f cdv A outer s H E) Z (WE E) e fN) : CalN P w K mg base (k + 1) x (runN ps.length N.length fN) := by
  obtain ⟨f, fd, F, hm⟩ := D.ex
  exact ⟨f, fd, ps, fnN F S hb (hbody f), hm, F.kp, F.binds hb2⟩
end
def nCall (Mf : List D → Option D) (fs : M (List AV)) : M D := fun ρ => (fs.sts ρ).bind fun ds ρ1 => match Mf ds with
  | some d => .val d ρ1
  | none => .bad
section
variable {X : Cx} {Z : Zone} {W : WX} {k j : Nat} {x : Str} {p pos : Pos} {e : Expr} {es : List Expr} {fs : M (List AV)} {Mf : List D → Option D}
theorem en_call (c : CalN X.prog X.w X.K X.mg X.base k x Mf) (hr : Room j X.A) (hgd : X.A.guards = some []) (hk : k ≤ j) (tk : Takes X W) (hg : Gl X x) (ha : PL X Z W (e :: es) fs)
    (hdb : (x == ("__debug__" : Str)) = false := by decide) (he : starEach (e :: es) X.env = (false, eval e X.env) :: starEach es X.env := by rfl) (hpl : (backTo pos (starEach es X.env)).any (·.1) = false := by rfl) :
    PN X Z W (.Call (.Name x p) (e :: es) [] pos) (nCall Mf fs) := by
  obtain ⟨f, fd, ps, F, hm, kp, hb⟩ := c.ex
  constructor
  intro pins s σ H Q I ⟨ρ, Fr, r, q⟩
  refine wpAny_Call_Name_kw (ld_glob I hg hm ?_ hdb)
  refine PySem.W.callWith_K (h₀ := X.base) I.ok.mod.kin kp (thn ((PL.sts ha).run pos pins s σ H (fun vs H1 => spN X.K X.mg Mf vs H1 Q (fun cls d H' => W cls d σ H')) I
    ⟨ρ, Fr, r, (Post.bind q).imp fun ds H1 ρ1 F1 g q1 vs hv => ?_⟩) fun us s1 ⟨vs, H1, I1, rv, hs⟩ => ?_) he hpl
  · cases hd : Mf ds with
    | none =>
      rw [hd] at q1
      exact q1.elim
    | some d =>
      rw [hd] at q1
      exact ⟨F1, ds, d, g.rel.same, hv, hd, fun a H' G' s1 s2 s3 n1 n2 n3 c => q1 H' G' (.more g.rel s1 s2 s3 n1) a (g.free n2) (g.rel.h0 n2) n3 c (new_ne g.rel n2)⟩
  · refine ⟨I1.kIn, ?_⟩
    have hl := F.len _ _ _ _ hs
    have hl2 := rv.length
    have hbs := hb s1 us I1.kIn (by rw [List.append_nil]; omega)
    rw [List.append_nil] at hbs
    exact run_fnX F (hr.mono hk) hgd tk I1 hbs rv hs
end
end PV
namespace PV
open PySem PySem.Spec PyProof.Rows L2 VK

/-! ### the module's constants: what the frame K holds for good -/
mutual
inductive KR (K : PySem.W.Frag) : Value → D → Prop
  | non : KR K .none .non
  | bl (b : Bool) : KR K (.bool b) (.bl b)
  | int (i : Int) (t : Tok) : KR K (.int i t) (.int i)
  | str (x : Str) (t : Tok) : KR K (.str x t) (.str x)
  | tup {a : Addr} {o : Obj} {its : Array Value} {n : Nat} {ds : List D} : K.lookup a = some o → o.cls = .type "tuple" → o.data = .seq its n → its.size ≤ sizeLine → KRL K its.toList ds → KR K (.ref a) (.tup ds)
inductive KRL (K : PySem.W.Frag) : List Value → List D → Prop
  | nil : KRL K [] []
  | cons {u : Value} {us : List Value} {d : D} {ds : List D} : KR K u d → KRL K us ds → KRL K (u :: us) (d :: ds)
end
section
variable {K : PySem.W.Frag} {mg : Str → Option Value}
mutual
theorem KR.r : ∀ {u : Value} {d : D}, KR K u d → ∃ v, RelV v u ∧ ∀ F, R K mg F v d
  | _, _, .non => ⟨.non, rfl, fun _ => .non⟩
  | _, _, .bl b => ⟨.bl b, rfl, fun _ => .bl b⟩
  | _, _, .int i t => ⟨.int i, ⟨t, rfl⟩, fun _ => .int i⟩
  | _, _, .str x t => ⟨.str x, ⟨t, rfl⟩, fun _ => .str x⟩
  | _, _, .tup h1 h2 h3 h4 h5 => by
    obtain ⟨vs, h6, h7⟩ := KRL.r h5
    exact ⟨.ref _, rfl, fun F => .tup (.inr ⟨_, _, _, h1, h2, h3, h4, h6⟩) (h7 F)⟩
theorem KRL.r : ∀ {us : List Value} {ds : List D}, KRL K us ds → ∃ vs, Vals vs us ∧ ∀ F, RL K mg F vs ds
  | _, _, .nil => ⟨[], .nil, fun _ => .nil⟩
  | _, _, .cons h t => by
    obtain ⟨v, h1, h2⟩ := KR.r h
    obtain ⟨vs, h3, h4⟩ := KRL.r t
    exact ⟨v :: vs, .cons h1 h3, fun F => .cons (h2 F) (h4 F)⟩
end
theorem Gc.of {x : Str} {u : Value} {d : D} (h : mg x = some u) (k : KR K u d) : Gc K mg x d := by
  obtain ⟨v, h1, h2⟩ := k.r
  exact ⟨v, u, h, h1, h2⟩
def GcI {K : PySem.W.Frag} {h : Heap} (_ : K.In h) (mg : Str → Option Value) (x : Str) (d : D) : Prop := Gc K mg x d
/-! ### tuple(a list), tuple(a tuple); sums, least and greatest -/
theorem call_tup1 {X : Cx} : CallR X (.type "tuple") (rTup1 X.K) := call_tuple_of
theorem ok_min2 : OkL K mg (fun xs H Q => ∃ i j, xs = [.int i, .int j] ∧ Q (.int (if j < i then j else i)) H) gMin2 := by
  intro F H vs ds z Q s hv hg q
  match ds, hg with
  | [.int i, .int j], hg =>
    obtain ⟨v, w, rfl, h1, h2⟩ := hv.two
    cases hg
    exact ⟨i, j, by rw [h1.int, h2.int], okQ s q (.int _)⟩
theorem ok_max2 : OkL K mg (fun xs H Q => ∃ i j, xs = [.int i, .int j] ∧ Q (.int (if j > i then j else i)) H) gMax2 := by
  intro F H vs ds z Q s hv hg q
  match ds, hg with
  | [.int i, .int j], hg =>
    obtain ⟨v, w, rfl, h1, h2⟩ := hv.two
    cases hg
    exact ⟨i, j, by rw [h1.int, h2.int], okQ s q (.int _)⟩
def gBool1 : GL
  | [.int i] => some (.bl (i != 0))
  | [.bl b] => some (.bl b)
  | _ => none
theorem ok_bool1 : OkL K mg (fun xs H Q => (∃ i, xs = [.int i] ∧ Q (.bl (i != 0)) H) ∨ ∃ k, xs = [.bl k] ∧ Q (.bl k) H) gBool1 := by
  intro F H vs ds z Q s hv hg q
  match ds, hg with
  | [.int i], hg =>
    obtain ⟨v, rfl, h1⟩ := hv.one
    cases hg
    exact .inl ⟨i, by rw [h1.int], okQ s q (.bl _)⟩
  | [.bl i], hg =>
    obtain ⟨v, rfl, h1⟩ := hv.one
    cases hg
    exact .inr ⟨i, by rw [h1.bl], okQ s q (.bl _)⟩
def gStr1 : GL
  | [.int i] => if i.natAbs.log2 < 1920 then some (.str (toString i)) else none
  | [.str x] => some (.str x)
  | _ => none
theorem call_str1 {X : Cx} : CallR X (.type "str") (fun xs H Q => (∃ i, xs = [.int i] ∧ i.natAbs.log2 < 1920 ∧ Q (.str (toString i)) H) ∨ ∃ a, xs = [.str a] ∧ Q (.str a) H) := call_str_int.or SkE.call_str_str
theorem ok_str1 : OkL K mg (fun xs H Q => (∃ i, xs = [.int i] ∧ i.natAbs.log2 < 1920 ∧ Q (.str (toString i)) H) ∨ ∃ a, xs = [.str a] ∧ Q (.str a) H) gStr1 := by
  intro F H vs ds z Q s hv hg q
  match ds, hg with
  | [.int i], hg =>
    obtain ⟨v, rfl, h1⟩ := hv.one
    simp only [gStr1] at hg
    by_cases c : i.natAbs.log2 < 1920
    · rw [if_pos c] at hg
      cases hg
      exact .inl ⟨i, by rw [h1.int], c, okQ s q (.str _)⟩
    · rw [if_neg c] at hg
      cases hg
  | [.str i], hg =>
    obtain ⟨v, rfl, h1⟩ := hv.one
    cases hg
    exact .inr ⟨i, by rw [h1.str], okQ s q (.str _)⟩
end
end PV
namespace VK
open PySem PySem.Spec PyProof.Rows L2
theorem df_mk {K : PySem.W.Frag} {h : Heap} {mg : Str → Option Value} (X : K.In h) (G : h.Ns mainGlobals mg) {x : Str} {st : Stmt} {f : Addr} {oc : Value} {od an : Option Addr} {osl : Array (Option Value)} {kV doc pm cdv ct : Value}
    (a : PySem.W.nsIn K mainGlobals x = some (some (.ref f))) (l : K.lookup f = some ⟨oc, od, .func (PySem.W.fnOf x x (defArgs st) (defBody st) (defScope st) .none kV doc pm an cdv ct), osl⟩) (c : PySem.W.codeIn K cdv x = true) (k : PySem.W.keepIn K (.ref f) = true) : Df K mg x st :=
  ⟨f, _, fun_mk l c k, PySem.W.mg_of X G a⟩
end VK
/-! own exceptions over any built-in class, their __init__ storing one or two fields -/
namespace PySem
namespace HandSPX
open Builtin Builtin.ObjectAttr
/-- own classes, then tl -/
def refsT (tl : List Value) : List Value → Bool
  | .ref _ :: r => refsT tl r
  | l => l == tl
theorem refsT_ex {tl : List Value} : ∀ l : List Value, refsT tl l = true → ∃ cs : List Addr, l = cs.map Value.ref ++ tl
  | [], e => ⟨[], beq_iff_eq.mp e⟩
  | .ref c :: r, e => let ⟨cs, h⟩ := refsT_ex r e; ⟨c :: cs, by rw [h]; rfl⟩
  | .none :: _, e => ⟨[], beq_iff_eq.mp e⟩
  | .ellipsis :: _, e => ⟨[], beq_iff_eq.mp e⟩
  | .notImplemented :: _, e => ⟨[], beq_iff_eq.mp e⟩
  | .bool _ :: _, e => ⟨[], beq_iff_eq.mp e⟩
  | .int _ _ :: _, e => ⟨[], beq_iff_eq.mp e⟩
  | .float _ _ :: _, e => ⟨[], beq_iff_eq.mp e⟩
  | .str _ _ :: _, e => ⟨[], beq_iff_eq.mp e⟩
  | .bytes _ _ :: _, e => ⟨[], beq_iff_eq.mp e⟩
  | .type _ :: _, e => ⟨[], beq_iff_eq.mp e⟩
  | .builtin _ :: _, e => ⟨[], beq_iff_eq.mp e⟩
theorem refs_pass (self : Value) {tl : List Value} (h : refuseLoop self "__setattr__" tl = pure ()) : ∀ cs : List Addr, refuseLoop self "__setattr__" (cs.map Value.ref ++ tl) = pure ()
  | [] => h
  | c :: cs => by
    rw [List.map_cons, List.cons_append, refuseLoop_ref]
    exact refs_pass self h cs
theorem refs_has (X : String) (tl : List Value) : ∀ cs : List Addr, (cs.map Value.ref ++ tl).contains (.type X) = tl.contains (.type X)
  | [] => rfl
  | c :: cs => by
    rw [List.map_cons, List.cons_append, List.contains_cons, refs_has X tl cs]
    rfl
theorem refs_ne {tl : List Value} (h : tl.contains (.type "object") = true) (cs : List Addr) : (cs.map Value.ref ++ tl).isEmpty = false := by
  cases cs with
  | nil =>
    cases tl with
    | nil => exact absurd h (by decide)
    | cons _ _ => rfl
  | cons _ _ => rfl
section
variable {prog : Program} {w : World} {A : Around} {E : Value → Shared → Prop} {R : Result → Shared → Prop} {hp : Heap} {g : Array GenState} {d : Drawn} {t : Nat} {os : OsState}
theorem exc_osaT {K : W.Frag} {name : Str} {tk : Tok} {v : Value} {x C : Addr} {fv : Array Value} {cd : ClassData}
    (X : K.In hp) (hx : hp.get? x = some { cls := .ref C, data := .fields fv }) (hcd : W.clsIn K C = some cd) (hm : ∀ self, refuseLoop self "__setattr__" cd.mro = pure ()) (ne : cd.mro.isEmpty = false) (hob : cd.mro.contains (.type "object") = true) (hh : cd.hasDict = true) (ha : W.findIn K (.ref C) name = some none)
    (hq : ∀ h' tk' dx, (∀ b o, b ≠ x → hp.get? b = some o → h'.get? b = some o) → hp.objs.size ≤ dx → dx ≠ x → h'.get? x = some { cls := .ref C, dict := some dx, data := .fields fv } →
      h'.Ns1 dx (fun y => if y = name then some v else none) → R (.ok (.ret .none)) ⟨h', g, d, tk', os⟩) :
    codeAny (model prog w) A (.call (.builtin "object.__setattr__") ⟨[.ref x, .str name tk, v], []⟩) R ⟨hp, g, d, t, os⟩ := by
  have I : W.InstAt hp x { cls := .ref C, data := .fields fv } C none := ⟨hx, rfl, rfl, trivial⟩
  have SF := F.store_object
  have hxs : x ≠ hp.objs.size := Nat.ne_of_lt (Heap.lt_size hx)
  have sub : W.Looks (model prog w) hp (isInstance (.ref x) (.type "object")) true := I.type.andThen (W.looks_mroIn X (by unfold W.mroIn; rw [hcd, Option.bind_some, if_neg (by rw [ne]; decide), hob]))
  refine codeAny_call_builtin SF.slot.plain SF.entry (@W.check_slot (model prog w) _ _ ⟨hp, g, d, t, os⟩ "object.__setattr__" "object" "__setattr__" (.ref x) [.str name tk, v] [] _ SF.kind SF.split sub (SF.args (.ref x) (.str name tk) v) ?_)
  have hmr : W.Looks (model prog w) hp (mroOf (.ref C)) cd.mro := (W.looks_clsIn X hcd).andThen .now
  have L3 : W.Looks (model prog w) hp (storeTaker? none) none := .now
  have hcls : W.Looks (model prog w) hp (classData C) cd := W.looks_clsIn X hcd
  rw [W.osa_eq, refuse_eq]
  refine wpAny_bind (wpAny_bind (I.type.at (wpAny_bind (hmr.at ?_))))
  rw [hm]
  refine wpAny_pure (wpAny_bind (I.type.at (wpAny_bind ((W.looks_findIn X ha).at (wpAny_bind (L3.at ?_))))))
  show wpAny _ _ (storeInOwnDict (.ref x) (.ref C) (.str name tk) name v false) _ _ _
  obtain ⟨nm, bs, mro, ns, qn, hd, sn, sb, ab, col, del⟩ := cd
  dsimp only at hh
  subst hh
  unfold storeInOwnDict ownDictForStores
  repeat (first | with_reducible refine store_in_new ?_ ?_ | with_reducible refine wpAny_loadPart_at hx ?_ | with_reducible refine hcls.at ?_ | wp_step)
  · exact ⟨_, #[], _, (Heap.get?_update_ne _ _ _ _ hxs.symm).trans (Heap.get?_push_at rfl rfl), rfl, fun e he => absurd he (by simp), fun _ => rfl⟩
  · intro h' tk' hn' hs
    have hx₁ : (hp.push { cls := .type "dict", data := .dict #[] }).get? x = some { cls := .ref C, data := .fields fv } := Heap.get?_push_of_some _ hx
    refine hq h' tk' hp.objs.size (fun b o hb ho => ?_) (Nat.le_refl _) hxs.symm ?_ hn'
    · exact (hs.2 b (Nat.ne_of_lt (Heap.lt_size ho))).trans ((Heap.get?_update_ne _ _ _ _ hb).trans (Heap.get?_push_of_some _ ho))
    · exact (hs.2 x hxs).trans (Heap.get?_update_self _ hx₁ rfl)
end
section
open PySem.W PySem.Calls PyProof.Rows PySem.OEX
variable {prog : Program} {w : World} {A : Around} {E : Value → Shared → Prop} {R : Result → Shared → Prop} {hp : Heap} {g : Array GenState} {d : Drawn} {t : Nat} {os : OsState}
theorem osa_oldT {K : W.Frag} {name : Str} {tk : Tok} {v : Value} {x C dx : Addr} {fv : Array Value} {cd : ClassData} {m0 : Str → Option Value} {nl : List Str}
    (X : K.In hp) (hx : hp.get? x = some { cls := .ref C, dict := some dx, data := .fields fv }) (hns : hp.Ns1 dx m0) (hw : Within m0 nl) (hz : nl.length ≤ 1000) (hcd : W.clsIn K C = some cd) (hm : ∀ self, refuseLoop self "__setattr__" cd.mro = pure ()) (ne : cd.mro.isEmpty = false) (hob : cd.mro.contains (.type "object") = true) (hh : cd.hasDict = true)
    (ha : W.findIn K (.ref C) name = some none)
    (hq : ∀ h' tk', (∀ b o, b ≠ dx → hp.get? b = some o → h'.get? b = some o) → h'.Ns1 dx (fun y => if y = name then some v else m0 y) → R (.ok (.ret .none)) ⟨h', g, d, tk', os⟩) :
    codeAny (model prog w) A (.call (.builtin "object.__setattr__") ⟨[.ref x, .str name tk, v], []⟩) R ⟨hp, g, d, t, os⟩ := by
  obtain ⟨oD, esD, epD, hoD, hdD, _⟩ := hns.count hw
  have I : W.InstAt hp x { cls := .ref C, dict := some dx, data := .fields fv } C (some oD) := ⟨hx, rfl, rfl, hoD⟩
  have SF := F.store_object
  have sub : W.Looks (model prog w) hp (isInstance (.ref x) (.type "object")) true := I.type.andThen (W.looks_mroIn X (by unfold W.mroIn; rw [hcd, Option.bind_some, if_neg (by rw [ne]; decide), hob]))
  refine codeAny_call_builtin SF.slot.plain SF.entry (@W.check_slot (model prog w) _ _ ⟨hp, g, d, t, os⟩ "object.__setattr__" "object" "__setattr__" (.ref x) [.str name tk, v] [] _ SF.kind SF.split sub (SF.args (.ref x) (.str name tk) v) ?_)
  have hmr : W.Looks (model prog w) hp (mroOf (.ref C)) cd.mro := (W.looks_clsIn X hcd).andThen .now
  have L3 : W.Looks (model prog w) hp (storeTaker? none) none := .now
  have hcls : W.Looks (model prog w) hp (classData C) cd := W.looks_clsIn X hcd
  rw [W.osa_eq, refuse_eq]
  refine wpAny_bind (wpAny_bind (I.type.at (wpAny_bind (hmr.at ?_))))
  rw [hm]
  refine wpAny_pure (wpAny_bind (I.type.at (wpAny_bind ((W.looks_findIn X ha).at (wpAny_bind (L3.at ?_))))))
  show wpAny _ _ (storeInOwnDict (.ref x) (.ref C) (.str name tk) name v false) _ _ _
  obtain ⟨nm, bs, mro, ns, qn, hd, sn, sb, ab, col, del⟩ := cd
  dsimp only at hh
  subst hh
  unfold storeInOwnDict ownDictForStores
  repeat (first | with_reducible refine store_in_old hns hw hz ?_ | with_reducible refine wpAny_loadPart_at hx ?_ | with_reducible refine hcls.at ?_ | wp_step)
  intro h' tk' hn' hs
  exact hq h' tk' (fun b o hb ho => (hs.2 b hb).trans ho) hn'
end
end HandSPX
end PySem
namespace PV
open PySem PySem.Spec PyProof.Rows L2 VK
/-- what the written part says of an own exception class -/
structure ExK (K : PySem.W.Frag) (C : Addr) : Prop where
  cls : ∃ nm q N bs bm sn sub ab col dd k0 k1 k2 k3 k5 B newId initId bmB, K.lookup C = some (excClassObj nm q C N bs bm true sn sub ab col dd k0 k1 k2 k3 k5 newId) ∧ ExcBaseFacts B newId initId bmB ∧ PySem.HandSPX.refsT bmB bm = true ∧
    (∀ self, refuseLoop self "__setattr__" bmB = pure ()) ∧ bmB.contains (.type "object") = true
  sa : PySem.W.findIn K (.ref C) "__setattr__" = some (some (.builtin "object.__setattr__"))
  ga : PySem.W.findIn K (.ref C) "__getattribute__" = some (some (.builtin "BaseException.__getattribute__"))
  gg : PySem.W.findIn K (.ref C) "__getattr__" = some none
  exC : PySem.W.subIn K (.ref C) (.type "BaseException") = some true
  tyC : PySem.W.typeIn K (.ref C) = some (.type "type")
  kC : PySem.W.keepIn K (.ref C) = true
  hdC : PySem.W.hasDictIn K C = true
  ha : PySem.W.findIn K (.ref C) "__class__" = some (some (.builtin "object.__class__"))
  hn : PySem.W.specialIn K (.builtin "object.__class__") "__get__" = some (some (.builtin "getset_descriptor.__get__"))
  ht : PySem.W.takesIn K (.builtin "object.__class__") = some true
  hm : PySem.W.mroIn K C (.type "object") = some true
theorem ExK.xf {K : PySem.W.Frag} {C : Addr} (T : ExK K C) : XfC K C := ⟨T.ga, T.gg, T.exC, T.hdC⟩
theorem ExK.is {K : PySem.W.Frag} {C : Addr} (T : ExK K C) : ExcC K C := ⟨T.ga, T.gg, T.exC, T.hdC, T.ha, T.hn, T.ht, T.hm⟩
section
variable {X : Cx} {pins : List (Addr × Obj)} {σ : L2.St} {H : Hp} {s : Shared} {a C dx : Addr} {f : Str} {y : V} {u : Value} {fs : List (Str × V)} {Q : Unit → Shared → Prop} {E : Value → Shared → Prop} {A : Around}
theorem ExK.mro {K : PySem.W.Frag} {C : Addr} (T : ExK K C) : ∃ cd, PySem.W.clsIn K C = some cd ∧ (∀ self, refuseLoop self "__setattr__" cd.mro = pure ()) ∧ cd.mro.isEmpty = false ∧ cd.mro.contains (.type "object") = true ∧ cd.hasDict = true := by
  obtain ⟨nm, q, N, bs, bm, sn, sub, ab, col, dd, k0, k1, k2, k3, k5, B, newId, initId, bmB, hC, F0, hbm, hp, ho⟩ := T.cls
  obtain ⟨cs, e⟩ := PySem.HandSPX.refsT_ex bm hbm
  subst e
  refine ⟨{ name := nm, bases := bs, mro := .ref C :: (cs.map Value.ref ++ bmB), ns := N, qualname := q, hasDict := true, slotNames := sn, subclasses := sub, abstract := ab, collection := col, hasDel := false }, by unfold PySem.W.clsIn; rw [hC] <;> rfl, fun self => PySem.HandSPX.refs_pass self (hp self) (C :: cs), rfl, ?_, rfl⟩
  exact (PySem.HandSPX.refs_has "object" bmB (C :: cs)).trans ho
/-- self.f = y, the first one -/
theorem xst_new (T : ExK X.K C) (I : Inv X pins σ H s) (e : H a = some (exo a C none)) (hno : PySem.W.findIn X.K (.ref C) f = some none) (ry : RelV y u)
    (h : ∀ dx s', H dx = none → dx ≠ a → Inv X pins σ (upd (upd H dx (exd dx [(f, y)])) a (exo a C (some dx))) s' → Q () s') : wpAny (model X.prog X.w) A (setAttr (.ref a) f u) Q E s := by
  obtain ⟨cd, hcl, m1, m2, m3, m4⟩ := T.mro
  obtain ⟨t1, ho⟩ := exo_at I.hok e
  obtain ⟨hp, g, d, t, os⟩ := s
  refine PySem.W.set_plain I.kIn (ox := { cls := .ref C, dict := none, data := .fields #[.ref t1, .none, .none, .none, .bool false, .none] }) (od := none) ⟨ho, rfl, rfl, trivial⟩ T.sa ?_
  refine PySem.HandSPX.exc_osaT I.kIn ho hcl m1 m2 m3 m4 hno (fun h' tk' dx k dn dne hx hn => ?_)
  have hnd : H dx = none := I.hok.fresh dn
  have nd : ∀ {b : Addr} {o : Obj}, hp.get? b = some o → b ≠ dx := fun {b o} q => Nat.ne_of_lt (Nat.lt_of_lt_of_le (Heap.lt_size q) dn)
  have na : ∀ {b : Addr}, H b = none → b ≠ a := fun {b} n z => by
    rw [z, e] at n
    cases n
  have Un1 : Un X.fs [] H (upd (upd H dx (exd dx [(f, y)])) a (exo a C (some dx))) hp h' := {
    keep := fun b o q n _ _ => k b o (na n) q
    slot := fun b o q n _ _ => ⟨o.slots, k b o (na n) q⟩
    free := fun b o q n _ => by rw [upd_ne (na n), upd_ne (nd q)]; exact n
    there := fun b o q _ => by
      by_cases hb : b = a
      · exact ⟨_, by rw [hb]; exact hx⟩
      · exact ⟨o, k b o hb q⟩
    tups := fun b xs q => by rw [upd_ne (at_ne e q exo_tup), upd_ne (ne_of_none q hnd)]; exact q
    frzs := fun b o v q => by rw [upd_ne (at_ne e q exo_frz), upd_ne (ne_of_none q hnd)]; exact q
    tbls := fun b ps q => ⟨#[], by rw [upd_ne (at_ne e q exo_tbl), upd_ne (ne_of_none q hnd), q]; simp⟩ }
  refine h dx _ hnd dne (I.un (t' := tk') Un1 fun b o q => ?_)
  by_cases hb : b = a
  · subst hb
    rw [upd_same] at q
    cases q
    exact exo_ok hx
  · rw [upd_ne hb] at q
    by_cases hd : b = dx
    · subst hd
      rw [upd_same] at q
      cases q
      exact exd_ok hn (relO_put (fs := []) ry fun g => True.intro)
    · rw [upd_ne hd] at q
      exact (I.hok b o q).stay (fun c v hc z => k c v (by
          rcases hc with hc | hc
          · rw [hc]
            exact hb
          · exact at_ne e hc exo_own) z)
        (fun c hc => by rw [upd_ne (at_ne e hc exo_own), upd_ne (ne_of_none hc hnd)]; exact hc) (fun c xs hc => by rw [upd_ne (at_ne e hc exo_tup), upd_ne (ne_of_none hc hnd)]; exact hc)
/-- self.f = y, a further one -/
theorem xst_old (T : ExK X.K C) (I : Inv X pins σ H s) (e : H a = some (exo a C (some dx))) (ed : H dx = some (exd dx fs)) (hl : fs.length ≤ 900) (hno : PySem.W.findIn X.K (.ref C) f = some none) (ry : RelV y u)
    (h : ∀ s', Inv X pins σ (upd H dx (exd dx ((f, y) :: fs))) s' → Q () s') : wpAny (model X.prog X.w) A (setAttr (.ref a) f u) Q E s := by
  obtain ⟨cd, hcl, m1, m2, m3, m4⟩ := T.mro
  obtain ⟨t1, ho⟩ := exo_at I.hok e
  obtain ⟨mA, hns, rel⟩ := exd_at I.hok ed
  have hw := L2.within_of rel
  obtain ⟨hp, g, d, t, os⟩ := s
  obtain ⟨oD, _, _, hoD, _, _⟩ := hns.count hw
  refine PySem.W.set_plain I.kIn (ox := { cls := .ref C, dict := some dx, data := .fields #[.ref t1, .none, .none, .none, .bool false, .none] }) (od := some oD) ⟨ho, rfl, rfl, hoD⟩ T.sa ?_
  refine PySem.HandSPX.osa_oldT I.kIn ho hns hw (by rw [List.length_map]; omega) hcl m1 m2 m3 m4 hno (fun h' tk' k hn => ?_)
  have hd : ∃ o, h'.get? dx = some o := by
    obtain ⟨o, _, _, e', _⟩ := hn
    exact ⟨o, e'⟩
  exact h _ (I.write (t' := tk') (x := dx) (e := dx) (o := exd dx ((f, y) :: fs)) (by rw [ed]; exact True.intro) (.inl rfl) k hd (exd_ok hn (relO_put ry rel)))
end
/-- self.f = e -/
def tXst (K : PySem.W.Frag) (f : Str) (to te : TE) : TS := fun D σ H => te σ H fun y H1 => to σ H1 fun x H2 => ∃ a C : Addr, x = .ref a ∧ ExK K C ∧ PySem.W.findIn K (.ref C) f = some none ∧
  ((H2 a = some (exo a C none) ∧ ∀ dx, H2 dx = none → dx ≠ a → D.nx σ (upd (upd H2 dx (exd dx [(f, y)])) a (exo a C (some dx)))) ∨
    ∃ (dx : Addr) (fs : List (Str × V)), H2 a = some (exo a C (some dx)) ∧ H2 dx = some (exd dx fs) ∧ fs.length ≤ 900 ∧ D.nx σ (upd H2 dx (exd dx ((f, y) :: fs))))
section
variable {X : Cx} {o e : Expr} {es : List Expr} {to te : TE} {ta : TA} {f : Str} {p p' p1 p2 pos : Pos}
theorem ps_xst (ho : PE X o to) (he : PE X e te) (hs : swapsWith e (some (.Attribute o f p')) pos.line X.env = pure false := by rfl) : PS X (.Assign [.Attribute o f p'] e pos) (tXst X.K f to te) := by
  refine ⟨fun pins s σ H D I h => ?_⟩
  refine plainObj_wpAny_Assign_Attribute (thn (he.run pins s σ H _ I h) fun v s1 ⟨y, H1, I1, r1, q1⟩ => thn (ho.run pins s1 σ H1 _ I1 q1) fun u s2 ⟨x, H2, I2, r2, a, C, ex, T, hno, q⟩ => ?_) hs
  subst ex
  obtain rfl : u = Value.ref a := r2
  rcases q with ⟨ea, q⟩ | ⟨dx, fs, ea, ed, hl, q⟩
  · exact xst_new T I2 ea hno r1 fun dx s' n ne J => ⟨σ, _, J, q dx n ne⟩
  · exact xst_old T I2 ea ed hl hno r1 fun s' J => ⟨σ, _, J, q⟩
end
/-! ### __init__ of one field, of two -/
/-- what __init__ makes of a new exception at a: its fields -/
def spX (K : PySem.W.Frag) (fl : List V → List (Str × V)) (n : Nat) : Sp := fun vs H Q _ => ∃ (a C : Addr) (ws : List V), vs = .ref a :: ws ∧ ws.length = n ∧ ExK K C ∧ (∀ q ∈ fl ws, PySem.W.findIn K (.ref C) q.1 = some none) ∧ H a = some (exo a C none) ∧
  ∀ dx, H dx = none → dx ≠ a → Q .non (upd (upd H dx (exd dx (fl ws))) a (exo a C (some dx)))
section
variable {P : Program} {w : World} {K : PySem.W.Frag} {mg : Str → Option Value} {base : Heap} {fI : Addr} {name qual : Str} {params : Arguments} {body : List Stmt} {scope : Scope} {dV kV doc pm cdv ct oc : Value} {od an : Option Addr} {osl : Array (Option Value)}
theorem fn_x1 {p f : Str} {q1 q2 q3 q4 : Pos} (lk : K.lookup fI = some ⟨oc, od, .func (PySem.W.fnOf name qual params body scope dV kV doc pm an cdv ct), osl⟩) (hcd : PySem.W.codeIn K cdv qual = true) (S : FnScope ["self", p] ["self", p] scope) (d1 : (p == ("__debug__" : Str)) = false) (d2 : (p == ("__classdict__" : Str)) = false)
    (hb : body = [.Assign [.Attribute (.Name "self" q1) f q2] (.Name p q3) q4]) :
    FnOk P w K mg base CX0 1 fI (PySem.W.fnOf name qual params body scope dV kV doc pm an cdv ct) ["self", p] (spX K (fun ws => ([f].zip ws).reverse) 1) := by
  refine fn_of lk hcd S (fun vs H Q E h => ?_) (fun A outer s H vs Q E hr h => ?_)
  · obtain ⟨a, C, ws, e, hl, _⟩ := h
    rw [e, List.length_cons, hl]
    rfl
  · obtain ⟨a, C, ws, e, hl, T, hf, ea, q⟩ := h
    match ws, hl with
    | [y], _ =>
      subst e
      subst hb
      refine ⟨_, pss_one (ps_xst (pe_var (i := 0) rfl ((S.par "self" (List.Mem.head _)).elim (fun z => .inl z) (fun z => .inr (.inl z)))) (pe_var (i := 1) rfl ((S.par p (List.Mem.tail _ (List.Mem.head _))).elim (fun z => .inl z) (fun z => .inr (.inl z))) d1 d2)), ?_⟩
      exact ⟨y, rfl, .ref a, rfl, a, C, rfl, T, hf (f, y) (List.Mem.head _), .inl ⟨ea, fun dx n ne => q dx n ne⟩⟩
theorem fn_x2 {p p' f f' : Str} {q1 q2 q3 q4 r1 r2 r3 r4 : Pos} (lk : K.lookup fI = some ⟨oc, od, .func (PySem.W.fnOf name qual params body scope dV kV doc pm an cdv ct), osl⟩) (hcd : PySem.W.codeIn K cdv qual = true) (S : FnScope ["self", p, p'] ["self", p, p'] scope) (d1 : (p == ("__debug__" : Str)) = false) (d2 : (p == ("__classdict__" : Str)) = false) (d3 : (p' == ("__debug__" : Str)) = false) (d4 : (p' == ("__classdict__" : Str)) = false)
    (hb : body = [.Assign [.Attribute (.Name "self" q1) f q2] (.Name p q3) q4, .Assign [.Attribute (.Name "self" r1) f' r2] (.Name p' r3) r4]) :
    FnOk P w K mg base CX0 1 fI (PySem.W.fnOf name qual params body scope dV kV doc pm an cdv ct) ["self", p, p'] (spX K (fun ws => ([f, f'].zip ws).reverse) 2) := by
  refine fn_of lk hcd S (fun vs H Q E h => ?_) (fun A outer s H vs Q E hr h => ?_)
  · obtain ⟨a, C, ws, e, hl, _⟩ := h
    rw [e, List.length_cons, hl]
    rfl
  · obtain ⟨a, C, ws, e, hl, T, hf, ea, q⟩ := h
    match ws, hl with
    | [y, z], _ =>
      subst e
      subst hb
      refine ⟨_, pss_cons (ps_xst (pe_var (i := 0) rfl ((S.par "self" (List.Mem.head _)).elim (fun z => .inl z) (fun z => .inr (.inl z)))) (pe_var (i := 1) rfl ((S.par p (List.Mem.tail _ (List.Mem.head _))).elim (fun z => .inl z) (fun z => .inr (.inl z))) d1 d2))
        (pss_one (ps_xst (pe_var (i := 0) rfl ((S.par "self" (List.Mem.head _)).elim (fun z => .inl z) (fun z => .inr (.inl z)))) (pe_var (i := 2) rfl ((S.par p' (List.Mem.tail _ (List.Mem.tail _ (List.Mem.head _)))).elim (fun z => .inl z) (fun z => .inr (.inl z))) d3 d4))), ?_⟩
      refine ⟨y, rfl, .ref a, rfl, a, C, rfl, T, hf (f, y) (List.Mem.tail _ (List.Mem.head _)), .inl ⟨ea, fun dx n ne => ?_⟩⟩
      refine ⟨z, rfl, .ref a, rfl, a, C, rfl, T, hf (f', z) (List.Mem.head _), .inr ⟨dx, _, upd_same, (upd_ne ne).trans upd_same, by show (1 : Nat) ≤ 900; decide, ?_⟩⟩
      have e1 : upd (upd (upd H dx (exd dx [(f, y)])) a (exo a C (some dx))) dx (exd dx [(f', z), (f, y)]) = upd (upd H dx (exd dx [(f', z), (f, y)])) a (exo a C (some dx)) := by
        funext b
        by_cases h1 : b = dx
        · subst h1
          rw [upd_same, upd_ne ne, upd_same]
        · rw [upd_ne h1]
          by_cases h2 : b = a
          · subst h2
            rw [upd_same, upd_same]
          · rw [upd_ne h2, upd_ne h2, upd_ne h1, upd_ne h1]
      show Q .non _
      rw [e1]
      exact q dx n ne
end
end PV
/-! try: body, except C as n: y = n; the exception is kept -/
namespace PV
open PySem PySem.Spec PyProof.Rows L2 VK
section
variable {K : PySem.W.Frag} {M : Model}
theorem isExc_all {h : Heap} {cls : Value} (X : K.In h) : ∀ {cs : List Value} {b : Bool}, PySem.W.exmAny K cls cs = some b → ∀ c ∈ cs, PySem.W.Looks M h (isExcClass c) true
  | [], _, _, c, hc => nomatch hc
  | d :: r, b, e, c, hc => by
    obtain ⟨b1, d1, x1, y1, z1⟩ := PySem.W.exmAny_cons e
    rcases List.mem_cons.mp hc with q | q
    · subst q
      exact (PySem.W.exm_cls (M := M) X x1).1
    · exact isExc_all X y1 c q
theorem forIn_skip {A : Around} {E : Value → Shared → Prop} {s : Shared} {f : Value → PUnit → Sem (ForInStep PUnit)} : ∀ {cs : List Value} {Q : PUnit → Shared → Prop}, (∀ c ∈ cs, ∀ Q : ForInStep PUnit → Shared → Prop, Q (.yield ⟨⟩) s → wpAny M A (f c ⟨⟩) Q E s) → Q ⟨⟩ s → wpAny M A (forIn cs PUnit.unit f) Q E s := by
  intro cs
  induction cs with
  | nil =>
    intro Q _ q
    rw [List.forIn_nil]
    exact wpAny_pure q
  | cons c r ih =>
    intro Q hl q
    rw [List.forIn_cons]
    exact wpAny_bind (hl c (List.Mem.head _) _ (ih (fun d hd => hl d (List.Mem.tail _ hd)) q))
theorem forIn_sub {cls : Value} {A : Around} {E : Value → Shared → Prop} {s : Shared} {f : Value → Option Bool × Unit → Sem (ForInStep (Option Bool × Unit))} : ∀ {cs : List Value} {b : Bool} {Q : Option Bool × Unit → Shared → Prop}, PySem.W.exmAny K cls cs = some b →
    (∀ c ∈ cs, ∀ (d : Bool), PySem.W.exmOne K cls c = some d → ∀ Q : ForInStep (Option Bool × Unit) → Shared → Prop, Q (if d = true then .done (some true, ()) else .yield (none, ())) s → wpAny M A (f c (none, ())) Q E s) →
    Q (if b = true then (some true, ()) else (none, ())) s → wpAny M A (forIn cs (none, ()) f) Q E s := by
  intro cs
  induction cs with
  | nil =>
    intro b Q e _ q
    cases (show some false = some b from e)
    rw [List.forIn_nil]
    exact wpAny_pure q
  | cons c r ih =>
    intro b Q e hl q
    obtain ⟨b1, d1, x1, y1, z1⟩ := PySem.W.exmAny_cons e
    rw [List.forIn_cons]
    refine wpAny_bind (hl c (List.Mem.head _) b1 x1 _ ?_)
    cases b1 with
    | true =>
      subst z1
      exact wpAny_pure q
    | false =>
      subst z1
      exact ih y1 (fun d hd => hl d (List.Mem.tail _ hd)) q
theorem exm_tupN {cs : List Value} {cls : Value} {tp e : Addr} {b : Bool} {h : Heap} (X : K.In h) (LT : PySem.W.Looks M h (typeOf (.ref e)) cls) (hp : h.get? tp = some { cls := .type "tuple", data := .seq cs.toArray }) (hx : PySem.W.exmAny K cls cs = some b) :
    PySem.W.Looks M h (excMatches (.ref e) (.ref tp)) b := by
  intro A Q E s k₀ q
  obtain ⟨hh, g, d, tk, os⟩ := s
  have k : ∀ b o, h.get? b = some o → hh.get? b = some o := k₀
  have LT0 : PySem.W.Looks M h (isInstance (.ref tp) (.type "tuple")) true := ((PySem.W.Looks.ld hp).andThen .now).andThen (PySem.W.Looks.of_pure isSubtype_tuple_tuple)
  have LT := LT.keeps k
  have LT0 := LT0.keeps k
  have hp' := k _ _ hp
  unfold excMatches
  refine wpAny_bind (LT0.at ?_)
  dsimp only
  rw [if_pos rfl]
  first
    | refine wpAny_bind (wpAny_seqItems hp' rfl ?_)
    | refine wpAny_bind (wpAny_bind (wpAny_seqItems hp' rfl (wpAny_pure ?_)))
  dsimp only [Option.getD_some, Option.getD]
  refine wpAny_bind (wpAny_pure (wpAny_bind (forIn_skip (fun c hc Q' q' => ?_) (wpAny_bind (LT.at (wpAny_bind (forIn_sub hx (fun c hc d hd Q' q' => ?_) ?_)))))))
  · refine wpAny_bind (((isExc_all X hx c hc).keeps k).at ?_)
    simp only [Bool.not_true, Bool.false_eq_true, if_false]
    exact wpAny_pure q'
  · refine wpAny_bind ((((PySem.W.exm_cls (M := M) X hd).2).keeps k).at ?_)
    cases d with
    | true => exact wpAny_pure q'
    | false => exact wpAny_pure q'
  · cases b with
    | true => exact wpAny_pure q
    | false => exact wpAny_pure q
end
/-! ### the classes that a clause names -/
def CTest (X : Cx) (t : Expr) (cs : List Value) : Prop := ∀ (a : Addr) (p : Addr × Obj) (pn : List (Addr × Obj)) (σ : L2.St) (H : Hp) (s : Shared) (cls : Value) (b : Bool) (Q : Value → Shared → Prop) (E : Value → Shared → Prop), Inv (X.suite a (p :: pn)) [] σ H s →
  PySem.W.Looks (model X.prog X.w) s.heap (typeOf (.ref a)) cls → PySem.W.exmAny X.K cls cs = some b →
  (∀ (c : Value) (h4 : Heap), (∀ b o, s.heap.get? b = some o → h4.get? b = some o) → PySem.W.Looks (model X.prog X.w) h4 (excMatches (.ref a) c) b → Q c { s with heap := h4 }) → wpAny (model X.prog X.w) (X.A.mark (some (.ref a))) (eval t X.env) Q E s
theorem ct_load {X : Cx} {x : Str} {c : Value} {np : Pos} (hc : Names X x c) {a : Addr} {p : Addr × Obj} {pn : List (Addr × Obj)} {σ : L2.St} {H : Hp} {s : Shared} {Q : Value → Shared → Prop} {E : Value → Shared → Prop} (S3 : Inv (X.suite a (p :: pn)) [] σ H s) (q : Q c s) :
    wpAny (model X.prog X.w) (X.A.mark (some (.ref a))) (eval (.Name x np) X.env) Q E s := by
  obtain ⟨hg, hdbg, hm | ⟨hm, hv, hnn⟩⟩ := hc
  · exact ld_glob (X := X.suite a (p :: pn)) S3 hg hm q hdbg
  · exact ld_blt (X := X.suite a (p :: pn)) S3 hg hm hv q hnn hdbg
theorem ct_name {X : Cx} {x : Str} {c : Value} {np : Pos} (hc : Names X x c) : CTest X (.Name x np) [c] := fun a p pn σ H s cls b Q E S3 LT hx q => by
  obtain ⟨b1, d1, x1, y1, z1⟩ := PySem.W.exmAny_cons hx
  cases (show some false = some d1 from y1)
  rw [Bool.or_false] at z1
  subst z1
  exact ct_load hc S3 (q c s.heap (fun _ _ h => h) (PySem.W.exm_one S3.kIn LT x1))
inductive NamesL (X : Cx) : List Expr → List Value → Prop
  | nil : NamesL X [] []
  | cons {x : Str} {c : Value} {np : Pos} {es : List Expr} {cs : List Value} : Names X x c → NamesL X es cs → starEach (.Name x np :: es) X.env = (false, eval (.Name x np) X.env) :: starEach es X.env → NamesL X (.Name x np :: es) (c :: cs)
theorem NamesL.length {X : Cx} : ∀ {es : List Expr} {cs : List Value}, NamesL X es cs → es.length = cs.length
  | _, _, .nil => rfl
  | _, _, .cons _ t _ => congrArg Nat.succ t.length
theorem ct_tup {X : Cx} {es : List Expr} {cs : List Value} {x1 : Nat} {pos : Pos} (h : NamesL X es cs) (hl : cs.length ≤ 1000) : CTest X (.Tuple es x1 pos) cs := fun a p pn σ H s cls b Q E S3 LT hx q => by
  have key : ∀ {es : List Expr} {cs : List Value}, NamesL X es cs → ∀ Q : List Value → Shared → Prop, Q cs s → wpAny (model X.prog X.w) (X.A.mark (some (.ref a))) (spliced (backTo pos (starEach es X.env))) Q E s := by
    intro es cs h
    induction h with
    | nil =>
      intro Q q
      exact Calls.spliced_nil q
    | @cons x c np es cs hn _ hs ih =>
      intro Q q
      rw [hs]
      show wpAny _ _ (spliced ((false, eval (.Name x np) X.env) :: backTo pos (starEach es X.env))) _ _ s
      exact Calls.spliced_cons (ct_load hn S3 (ih _ q))
  refine wpAny_Tuple_spliced (key h _ ⟨by rw [sizeLine_eq]; omega, ?_⟩)
  have k : ∀ b o, s.heap.get? b = some o → (s.heap.push ({ cls := .type "tuple", data := .seq cs.toArray } : Obj)).get? b = some o := fun b o e => Heap.get?_push_of_some _ e
  exact q _ _ k (exm_tupN (S3.kIn.keeps k) (LT.keeps k) (Heap.get?_push_size _ rfl) hx)
/-! ### the statement -/
def wKeep (K : PySem.W.Frag) (cs : List Value) (i j : Nat) (Wout : WX) (D : Ends) : WX := fun cls d σ H =>
  ∃ b, PySem.W.exmAny K cls cs = some b ∧ (b = true → ∀ a, H a = none → D.nx (((σ.set i (some (.ref a))).set j (some (.ref a))).set i none) (upd H a (CxO cls d a))) ∧ (b = false → Wout cls d σ H)
theorem FlyingZ_keeps {B : Heap} {l : List Env} {a : Addr} {Z : Obj → Prop} {h h' : Heap} (x : HandSPX.FlyingZ B l a Z h) (k : ∀ b o, h.get? b = some o → h'.get? b = some o) (hf : h'.FunFrames B l) : HandSPX.FlyingZ B l a Z h' := by
  obtain ⟨k1, k2, k3, oe, vs, T, oT, ts, he, hz, hd, h1, hb, hne, hT, hTd, h3⟩ := x
  exact ⟨fun b o e => k b o (k1 b o e), k2, hf, oe, vs, T, oT, ts, k _ _ he, hz, hd, h1, hb, hne, k _ _ hT, hTd, h3⟩
end PV
namespace PV
open PySem PySem.Spec PyProof.Rows L2 VK
theorem cxO_ok {P : Program} {w : World} {H : Hp} {h : Heap} {a : Addr} {cls : Value} {d : Option Addr} {oe : Obj} {vs : Array Value} (e : h.get? a = some oe) (z : Zc cls d oe) (dd : oe.data = .fields vs) : ObjOk P w H h a (CxO cls d a) :=
  ⟨⟨oe, vs, e, z, dd⟩, ⟨oe, e⟩, fun _ _ ⟨o, v, q, r⟩ k => ⟨o, v, k o q, r⟩⟩
section
variable {X : Cx} {t : Expr} {n y : Str} {cs : List Value} {i j : Nat} {body : List Stmt} {q1 q2 q3 pos pos' : Pos} {tb : WX → TS} {Wout : WX}
/-- the exception is told from now on -/
theorem Inv.caught {a : Addr} {oe : Obj} {pins pn' : List (Addr × Obj)} {σ : L2.St} {H : Hp} {s : Shared} {cls : Value} {d : Option Addr} {vs : Array Value} (I : Inv (X.suite a ((a, oe) :: (X.pn ++ pins))) pn' σ H s) (ok : X.Ok) (hz : Zc cls d oe) (hd : oe.data = .fields vs)
    (h0 : X.s_0.heap.get? a = none) (hp : ∀ p ∈ X.pn ++ pins, p.1 ≠ a) : Inv X pins σ (upd H a (CxO cls d a)) s := by
  obtain ⟨g1, g2, g3, g4, g5⟩ := I.pin (a, oe) (List.mem_append_left _ List.mem_cons_self)
  have J := I.unsuite ok
  have na : ∀ {b : Addr} {o : HO}, H b = some o → b ≠ a := fun {b o} e z => by
    rw [z] at e
    rw [show H a = none from g2] at e
    cases e
  refine ⟨ok, J.os, J.bare, ⟨J.base.keep, J.base.slot, fun b o e m hx => ?_, J.base.there, fun b xs e => ?_, fun b o u e => ?_, fun b ps e => ?_⟩, J.loc, J.cell, ?_, fun x c e => ?_, fun p hp' => ?_, fun b o e => ?_, J.len⟩
  · have : b ≠ a := fun z => by
      rw [z, h0] at e
      cases e
    rw [upd_ne this]
    exact J.base.free b o e m hx
  · have := J.base.tups b xs e
    rw [upd_ne (na this)]
    exact this
  · have := J.base.frzs b o u e
    rw [upd_ne (na this)]
    exact this
  · obtain ⟨more, e2⟩ := J.base.tbls b ps e
    refine ⟨more, ?_⟩
    rw [upd_ne (na e2)]
    exact e2
  · rw [upd_ne (fun z => g3 z.symm)]
    exact J.free
  · obtain ⟨v, o, ho, hdc⟩ := J.cell x c e
    have : c ≠ a := fun z => by
      rw [z] at ho
      rw [show s.heap.get? a = some oe from g1] at ho
      cases ho
      exact g5 v hdc
    rw [upd_ne this]
    exact J.freeC x c e
  · obtain ⟨p1, p2, p3, p4, p5⟩ := J.pin p hp'
    exact ⟨p1, by rw [upd_ne (hp p hp')]; exact p2, p3, p4, p5⟩
  · by_cases hb : b = a
    · subst hb
      rw [upd_same] at e
      cases e
      exact cxO_ok g1 hz hd
    · rw [upd_ne hb] at e
      exact (J.hok b o e).stay (fun c v hc z => z) (fun c hc => by rw [upd_ne (na hc)]; exact hc) (fun c xs hc => by rw [upd_ne (na hc)]; exact hc)
theorem ps_try_keep (hs : X.stack = X.env :: X.outer) (hf : X.env.frame = some X.env.locals) (hex : X.ex = []) (hN : X.N.Nodup) (hi : X.N[i]? = some n) (hln : X.env.kindOf n = some .local) (hj : X.N[j]? = some y) (hly : X.env.kindOf y = some .local)
    (dn : (n == ("__debug__" : Str)) = false) (dc : (n == ("__classdict__" : Str)) = false) (hct : CTest X t cs) (tk : Takes X Wout)
    (hb : ∀ (W : WX) (pn : List (Addr × Obj)) (xe : Value → Shared → Prop), Takes (X.tr pn xe) W → PassesOwn (model X.prog X.w) X.A X.env xe → PSs (X.tr pn xe) body (tb W)) :
    PS X (.Try body [.ExceptHandler (some t) (some n) [.Assign [.Name y q1] (.Name n q2) q3] pos'] [] [] pos) (fun D σ H => tb (wKeep X.K cs i j Wout D) D σ H) := by
  refine ⟨fun pins s σ H D I h => ?_⟩
  have ok := I.ok
  have hfr : X.A.frames = some (X.env :: X.outer) := by rw [ok.frames, hs]
  have hloc : Loc X.env.scope n := .inl hln
  have hlocy : Loc X.env.scope y := .inl hly
  refine wpAny_Try_except ?_
  refine wpAny_mono ((hb (wKeep X.K cs i j Wout D) (X.pn ++ pins) (fun e s₁ => wpAny (model X.prog X.w) X.A (noteFrame e X.env) (fun _ s₂ => wpAny (model X.prog X.w) X.A (setFlight e none) (fun _ s₃ =>
    wpAny (model X.prog X.w) X.A (handleBy e X.env [.ExceptHandler (some t) (some n) [.Assign [.Name y q1] (.Name n q2) q3] pos']) (SP X pins D) X.xe s₃) X.xe s₂) X.xe s₁) (fun u s' xx => ?_) PassesOwn.looking).run [] s σ H D (I.toTry _) h) (fun f s1 hsp => ?_) (fun e s1 he => he)
  · -- the catch
    obtain ⟨a, B, sI, pins', σ', H', cls, d, rfl, J', nb, up, sky, na, os, ag, b, hb1, hyes, hno⟩ := xx
    have J : Inv X pins σ' H' sI := J'.ofTry ok
    have sky' : Sky B (X.env :: X.outer) a (Zc cls d) X.env.locals s'.heap := by rw [← hs]; exact sky
    show wpAny (model X.prog X.w) X.A (noteFrame (.ref a) X.env) _ _ _
    refine Sky.land Zc.steady hfr hf sky' fun h3 fl3 up3 => ?_
    have J3 : Inv X pins σ' H' { s' with heap := h3 } := J.landed nb fl3.1 (up.trans up3) os ag
    obtain ⟨oe3, vs3, he3, hz3, hd3⟩ := fl3.there
    have notFr : ∀ {h : Heap} {o : Obj} {vs : Array Value}, h.FunFrames B (X.env :: X.outer) → h.get? a = some o → o.data = .fields vs → a ∉ frs (X.env :: X.outer) := fun {h o vs} ff e dd hm => by
      obtain ⟨_, o', e', hnf⟩ := ff.mem hm
      rw [e] at e'; cases e'
      exact hnf _ dd
    have nfr := notFr fl3.2.2.1 he3 hd3
    have nL : a ≠ X.env.locals := fun z => nfr (List.mem_filterMap.mpr ⟨X.env, List.mem_cons_self, by rw [hf, z]⟩)
    have nF : a ∉ X.fs := fun hm => by
      obtain ⟨e, he, q⟩ := List.mem_filterMap.mp hm
      exact nfr (List.mem_filterMap.mpr ⟨e, List.mem_cons_of_mem _ he, q⟩)
    have nSt : a ∉ frs X.stack := by rw [hs]; exact nfr
    have nI : sI.heap.get? a = none := by
      cases z : sI.heap.get? a with
      | none => rfl
      | some o =>
        have := nb a o z nSt
        rw [fl3.2.1] at this
        cases this
    have h0 : X.s_0.heap.get? a = none := by
      cases z : X.s_0.heap.get? a with
      | none => rfl
      | some o =>
        obtain ⟨o', e'⟩ := J.base.there a o z (by rw [hex]; simp)
        rw [nI] at e'
        cases e'
    have hpins : ∀ p ∈ X.pn ++ pins, p.1 ≠ a := fun p hp z => by
      obtain ⟨p1, _⟩ := J.pin p hp
      rw [z, nI] at p1
      cases p1
    have S3 := J3.suite he3 hd3 na nL nF
    refine wpAny_handleBy_cons (codeAny_handlers_test ?_) (by intro q; cases q)
    have LT : PySem.W.Looks (model X.prog X.w) h3 (typeOf (.ref a)) cls := fun A Q E s k q => wpAny_typeOf_ref (k _ _ he3) (by rw [hz3.1]; exact q)
    refine hct a (a, oe3) (X.pn ++ pins) σ' H' { s' with heap := h3 } cls b _ _ S3 LT hb1 fun c h3' k3 LM => ?_
    have fl3' : HandSPX.FlyingZ B (X.env :: X.outer) a (Zc cls d) h3' := FlyingZ_keeps fl3 k3 (fl3.2.2.1.of_keeps fun b o e _ => ⟨o, k3 b o e, rfl⟩)
    have up3' : h3.UpToSlots h3' := fun b o e _ => ⟨o.slots, k3 b o e⟩
    refine LM.here ?_
    cases b with
    | true =>
      refine codeAny_handlers_suite_as ?_
      refine HandSPX.lands_againZ fl3' fun h4 fl4 up4 => ?_
      have J4 : Inv X pins σ' H' { s' with heap := h4 } := J.landed nb fl4.1 (((up.trans up3).trans up3').trans up4) os ag
      obtain ⟨oe4, vs4, he4, hz4, hd4⟩ := fl4.there
      have S4 := J4.suite he4 hd4 na nL nF
      refine store_ok (X := X.suite a ((a, oe4) :: (X.pn ++ pins))) (v := .ref a) S4 hN hi hloc rfl (fun s5 S5 => ?_) (.inr hln)
      have hset : PSs (X.suite a ((a, oe4) :: (X.pn ++ pins))) [.Assign [.Name y q1] (.Name n q2) q3] _ := pss_one (ps_asg (pe_var (i := i) hi (.inl hln) dn dc) (pg_name (i := j) hN hj hlocy (.inr hly)))
      refine wpAny_mono (hset.run [] s5 _ H' { nx := fun σ6 H6 => σ6 = (σ'.set i (some (.ref a))).set j (some (.ref a)) ∧ H6 = H', rt := fun _ _ => False, bk := fun _ _ => False, ct := fun _ _ => False } S5
        ⟨.ref a, ?_, rfl, rfl⟩) (fun f s6 hsp => ?_) (fun _ _ z => False.elim z)
      · have hi' : i < σ'.length := by rw [J.len]; exact (List.getElem?_eq_some_iff.mp hi).1
        exact List.getElem?_set_self hi'
      · cases f with
        | next =>
          obtain ⟨σ6, H6, S6, e1, e2⟩ := hsp
          subst e1 e2
          refine gone_ok (X := X.suite a ((a, oe4) :: (X.pn ++ pins))) S6 hN hi hln fun s7 S7 => ?_
          exact ⟨_, _, Inv.caught S7 ok hz4 hd4 h0 hpins, hyes rfl a na⟩
        | brk =>
          obtain ⟨_, _, _, q⟩ := hsp
          exact q.elim
        | cont =>
          obtain ⟨_, _, _, q⟩ := hsp
          exact q.elim
        | ret u =>
          obtain ⟨_, _, _, _, _, q⟩ := hsp
          exact q.elim
    | false =>
      show wpAny _ X.A (handleBy (.ref a) X.env []) _ _ _
      refine wpAny_handleBy_nil ?_
      obtain ⟨k1, k2, k3, oe, vs, T, oT, ts', he, hz, hd, h1, hr⟩ := id fl3'
      unfold PySem.passOn
      refine wpAny_bind (wpAny_field he hd h1 ?_)
      rw [if_neg (show ¬ ((Value.ref T == Value.none) = true) from by simp)]
      have fin : wpAny (model X.prog X.w) X.A (setFlight (.ref a) X.env.frame) (fun _ s4 => wpAny (model X.prog X.w) X.A (throw (.ref a) : Sem Flow) (SP X pins D) X.xe s4) X.xe { s' with heap := h3' } := by
        rw [hf]
        refine HandSPX.setFlight_upZ fl3' fun h4 hh4 up4 => wpAny_throw (tk _ _ ?_)
        exact ⟨a, B, sI, pins, σ', H', cls, d, rfl, J, nb, ((up.trans up3).trans up3').trans up4, .inr (.inr (by rw [hs]; exact hh4)), na, os, ag, hno rfl⟩
      first
        | exact wpAny_bind (wpAny_pure (wpAny_bind fin))
        | exact wpAny_bind fin
  · cases f with
    | next =>
      obtain ⟨σ', H', J', q⟩ := hsp
      exact wpAny_execs_nil ⟨σ', H', J'.ofTry ok, q⟩
    | brk =>
      obtain ⟨σ', H', J', q⟩ := hsp
      exact ⟨σ', H', J'.ofTry ok, q⟩
    | cont =>
      obtain ⟨σ', H', J', q⟩ := hsp
      exact ⟨σ', H', J'.ofTry ok, q⟩
    | ret u =>
      obtain ⟨v, σ', H', J', r, q⟩ := hsp
      exact ⟨v, σ', H', J'.ofTry ok, r, q⟩
end
end PV
namespace PV
open PySem PySem.Spec PyProof.Rows L2 VK
/-- the fields of an exception, by the names of __init__'s -/
def flG {α : Type} (ns : List Str) (xs : List α) : List (Str × α) := (ns.zip xs).reverse
section
variable {X : Cx} {e : Expr} {es : List Expr} {ta : TA} {p pos : Pos}
/-- C(e, ..) -/
theorem pmk_x {x : Str} {C fI : Addr} {fd : FuncData} {ps ns : List Str} (T : ExK X.K C) (iC : PySem.W.findIn X.K (.ref C) "__init__" = some (some (.ref fI))) (tI : PySem.W.typeIn X.K (.ref fI) = some (.type "function"))
    (F1 : FnOk X.prog X.w X.K X.mg X.base CX0 1 fI fd ps (spX X.K (flG ns) ns.length)) (hno : ∀ q ∈ ns, PySem.W.findIn X.K (.ref C) q = some none) (hl : ns.length ≤ 900) (hr : Room 2 X.A) (hb : Binds X.K fd ps []) (hg : Gl X x) (hm : X.mg x = some (.ref C)) (ha : PA X (e :: es) ta)
    (hdb : (x == ("__debug__" : Str)) = false := by decide) (he : starEach (e :: es) X.env = (false, eval e X.env) :: starEach es X.env := by rfl) (hpl : (backTo pos (starEach es X.env)).any (·.1) = false := by rfl) :
    PMk X (.Call (.Name x p) (e :: es) [] pos) (fun σ H Q => ta σ H fun vs H1 => vs.length = ns.length ∧ ∀ d, H1 d = none → Q (.ref C) (some d) (upd H1 d (.xd (flG ns vs)))) := by
  intro pins s σ H Q I h
  obtain ⟨nm, q, N, bs, bm, sn, sub, ab, col, dd, k0, k1, k2, k3, k5, B, newId, initId, bmB, hC, FB, hbm, _, _⟩ := T.cls
  obtain ⟨cs, ebm⟩ := PySem.HandSPX.refsT_ex bm hbm
  refine wpAny_Call_Name_kw (ld_glob I hg hm ?_ hdb)
  refine PySem.W.callWith_K (h₀ := X.base) I.ok.mod.kin T.kC (thn (ha.run pos pins s σ H _ I h) fun us s1 ⟨vs, H1, I1, r1, hz, q1⟩ => ⟨I1.kIn, ?_⟩) he hpl
  show wpAny _ _ (call (.ref C) us) _ _ _
  obtain ⟨hp, g, dr, tk, os⟩ := s1
  have hsz : hp.objs.size ≤ hp.objs.size + 1 := Nat.le_succ _
  have hn : H1 (hp.objs.size + 1) = none := I1.hok.fresh hsz
  have hq : spX X.K (flG ns) ns.length (V.ref (hp.objs.size + 1) :: vs) (upd H1 (hp.objs.size + 1) (exo (hp.objs.size + 1) C none)) (fun v H2 => v = .non ∧ ∃ dx, H1 dx = none ∧ dx ≠ hp.objs.size + 1 ∧ H2 = upd (upd (upd H1 (hp.objs.size + 1) (exo (hp.objs.size + 1) C none)) dx (exd dx (flG ns vs))) (hp.objs.size + 1) (exo (hp.objs.size + 1) C (some dx))) (fun _ _ _ => False) := by
    refine ⟨_, C, vs, rfl, hz, T, fun y hy => ?_, upd_same, fun dx n ne => ⟨rfl, dx, by rw [upd_ne ne] at n; exact n, ne, rfl⟩⟩
    unfold flG at hy
    rw [List.mem_reverse] at hy
    exact hno _ (List.of_mem_zip hy).1
  have kk : ∀ b o, hp.get? b = some o → ((hp.push (PySem.W.kdv_tup us)).push (PySem.HandSPX.excO C hp.objs.size)).get? b = some o := fun b o e => Heap.get?_push_of_some _ (Heap.get?_push_of_some _ e)
  have hget : ((hp.push (PySem.W.kdv_tup us)).push (PySem.HandSPX.excO C hp.objs.size)).get? (hp.objs.size + 1) = some (PySem.HandSPX.excO C hp.objs.size) := by heap_get
  have I2 : Inv X pins σ (upd H1 (hp.objs.size + 1) (exo (hp.objs.size + 1) C none)) ⟨(hp.push (PySem.W.kdv_tup us)).push (PySem.HandSPX.excO C hp.objs.size), g, dr, tk, os⟩ :=
    I1.laid (t' := tk) (a := hp.objs.size + 1) (o := exo (hp.objs.size + 1) C none) (h' := (hp.push (PySem.W.kdv_tup us)).push (PySem.HandSPX.excO C hp.objs.size)) kk hsz (exo_ok hget)
  have r2 : Vals (V.ref (hp.objs.size + 1) :: vs) (Value.ref (hp.objs.size + 1) :: us) := .cons rfl r1
  have hl2 : (Value.ref (hp.objs.size + 1) :: us).length = ps.length := by
    have e := r2.length
    rw [F1.len _ _ _ _ hq] at e
    exact e.symm
  have hus : us.length ≤ sizeLine := by
    rw [← Paired.length r1, sizeLine_eq]
    omega
  have hbs := hb ⟨(hp.push (PySem.W.kdv_tup us)).push (PySem.HandSPX.excO C hp.objs.size), g, dr, tk, os⟩ (Value.ref (hp.objs.size + 1) :: us) I2.kIn (by rw [List.append_nil]; exact hl2)
  rw [List.append_nil] at hbs
  refine wpAny_call (PySem.HandSPX.call_own FB (fun Y => by rw [ebm]; exact PySem.HandSPX.refs_has Y bmB cs) (I1.kIn _ _ hC) (PySem.W.looks_findIn I1.kIn iC) (fun self => PySem.W.bind_fn I1.kIn self tI) hus
    (codeAny_mono (F1.run _ X.stack _ _ ⟨Value.ref (hp.objs.size + 1) :: us, []⟩ (Value.ref (hp.objs.size + 1) :: us) _ _ (fun _ _ _ => False) ((hr.make C us []).mono (by decide)) (I2.env0.make C us []) hbs r2 hq) fun r s' hq' => ?_))
  cases r with
  | error er => exact pass0 pins σ _ _ er s' I2 hq'
  | ok fl =>
    cases fl with
    | ret u =>
      obtain ⟨v, H2, os2, bare2, un2, hok2, rv, ev, dx, hd1, ne, eH⟩ := hq'
      subst ev
      subst eH
      obtain ⟨h2, g2, d2, t2, os'⟩ := s'
      have eq : upd (L2.del (upd (upd (upd H1 (hp.objs.size + 1) (exo (hp.objs.size + 1) C none)) dx (exd dx (flG ns vs))) (hp.objs.size + 1) (exo (hp.objs.size + 1) C (some dx))) (hp.objs.size + 1)) dx (.xd (flG ns vs)) = upd H1 dx (.xd (flG ns vs)) := by
        funext b
        by_cases h1 : b = dx
        · rw [h1, upd_same, upd_same]
        · rw [upd_ne h1, upd_ne h1]
          by_cases h2 : b = hp.objs.size + 1
          · rw [h2, L2.del_same, hn]
          · rw [L2.del_ne h2, upd_ne h2, upd_ne h1, upd_ne h2]
      exact ⟨rv, mk_end (Q := Q) (raises_own T.exC T.tyC) I1 hsz kk un2 hok2 os2 bare2 (a := hp.objs.size + 1) (C := C) (d := dx) (fs := flG ns vs) upd_same ((upd_ne ne).trans upd_same) hd1 (by rw [eq]; exact q1 dx hd1)⟩
    | next => exact False.elim hq'
    | brk => exact False.elim hq'
    | cont => exact False.elim hq'
/-- C(), C without own __init__ -/
theorem pmk_x0 {C : Addr} {bmB : List Value} {B newId initId : String} {x : Str} (F : ExcBaseFacts B newId initId bmB) (q : PySem.W.excIn X.K C bmB newId = true) (gC : X.mg x = some (.ref C)) (kC : PySem.W.keepIn X.K (.ref C) = true) (r : Raises X (.ref C)) (hg : Gl X x)
    (hdb : (x == ("__debug__" : Str)) = false := by decide) : PMk X (.Call (.Name x p) [] [] pos) (fun _ H Q => Q (.ref C) none H) := by
  intro pins s σ H Q I h
  refine wpAny_Call_Name_kw (ld_glob I hg gC ?_ hdb)
  obtain ⟨bm, N, nm, qn, bs, hdct, sn, sub, ab, col, dd, k0, k1, k2, k3, k5, mN, hC, hN, hni, T⟩ := exc_obj I.kIn q
  refine PySem.W.callWith_K0 I.kIn kC ?_
  refine wpAny_call_exc_subT F T hC hN hni (fun h' e hm => ?_) (by show 0 ≤ sizeLine; omega)
  exact mk_of I hm r h (I.hok.gone hm.new)
end
/-! ### raise -/
def sRaise (c : Str) (ns : List Str) (fs : M (List AV)) : M Fl := fun ρ => (fs.sts ρ).bind fun ds ρ1 => if ds.length = ns.length then .exc c (flG ns ds) ρ1 else .bad
def sRaise0 (c : Str) : M Fl := fun ρ => .exc c [] ρ
/-- what is told of an own exception class: its __init__'s fields -/
def ExI (K : PySem.W.Frag) (mg : Str → Option Value) (c : Str) (ns : List Str) : Prop := ∃ C fI, mg c = some (.ref C) ∧ ExK K C ∧ PySem.W.findIn K (.ref C) "__init__" = some (some (.ref fI)) ∧ PySem.W.typeIn K (.ref fI) = some (.type "function") ∧ (∀ q ∈ ns, PySem.W.findIn K (.ref C) q = some none) ∧ ns.length ≤ 900 ∧
  ∀ (P : Program) (w : World) (base : Heap), ∃ fd ps, FnOk P w K mg base CX0 1 fI fd ps (spX K (flG ns) ns.length) ∧ Binds K fd ps []
def ExI0 (K : PySem.W.Frag) (mg : Str → Option Value) (c : Str) : Prop := ∃ C bmB B newId initId, mg c = some (.ref C) ∧ ExcBaseFacts B newId initId bmB ∧ PySem.W.excIn K C bmB newId = true ∧ ExK K C
theorem RF.append {K : PySem.W.Frag} {mg : Str → Option Value} {G : Hp} : ∀ {vs us : List (Str × V)} {ds es : List (Str × D)}, RF K mg G vs ds → RF K mg G us es → RF K mg G (vs ++ us) (ds ++ es)
  | _, _, _, _, .nil, s => s
  | _, _, _, _, .cons h t, s => .cons h (RF.append t s)
theorem RF.flG {K : PySem.W.Frag} {mg : Str → Option Value} {G : Hp} : ∀ {ns : List Str} {vs : List V} {ds : List D}, RL K mg G vs ds → RF K mg G (PV.flG ns vs) (PV.flG ns ds)
  | [], _, _, _ => by
    unfold PV.flG
    exact .nil
  | n :: ns, _, _, .nil => by
    unfold PV.flG
    exact .nil
  | n :: ns, _, _, .cons h t => by
    have := RF.flG (ns := ns) t
    unfold PV.flG at this ⊢
    rw [List.zip_cons_cons, List.zip_cons_cons, List.reverse_cons, List.reverse_cons]
    exact RF.append this (.cons h .nil)
section
variable {X : Cx} {Z : Zone} {W : WX} {c : Str} {ns : List Str} {j : Nat} {e : Expr} {es : List Expr} {fs : M (List AV)} {p pos pos' : Pos}
theorem cs_raise (T : ExI X.K X.mg c ns) (hr : Room j X.A) (hj : 2 ≤ j) (tk : Takes X W) (hc : X.calm = true) (hg : Gl X c) (ha : PL X Z W (e :: es) fs)
    (hdb : (c == ("__debug__" : Str)) = false := by decide) (he : starEach (e :: es) X.env = (false, eval e X.env) :: starEach es X.env := by rfl) (hpl : (backTo pos (starEach es X.env)).any (·.1) = false := by rfl) :
    PC1 X Z W (.Raise (some (.Call (.Name c p) (e :: es) [] pos)) none pos') (sRaise c ns fs) := by
  obtain ⟨C, fI, hm, TK, iC, tI, hno, hl, hF⟩ := T
  obtain ⟨fd, ps, F1, hb⟩ := hF X.prog X.w X.base
  refine PS.weak (ps_raise hc tk (pmk_x TK iC tI F1 hno hl (hr.mono hj) hb hg hm (PL.sts ha) hdb he hpl)) fun D σ H ⟨ρ, F, r, q⟩ => ?_
  refine ⟨ρ, F, r, ?_⟩
  unfold sRaise at q
  refine (PostS.bind q).imp fun ds H1 ρ1 F1 g q1 vs hv => ?_
  by_cases hl2 : ds.length = ns.length
  · rw [if_pos hl2] at q1
    refine ⟨hv.length.trans hl2, fun d n => ?_⟩
    have g2 := Go.lay (o := .xd (flG ns vs)) g.rel n
    exact q1 (.ref C) (some d) σ _ _ g2.rel g2.fr ⟨C, hm, rfl, .inr ⟨d, flG ns vs, rfl, upd_same, RF.flG (hv.mono g2.fr)⟩⟩
  · rw [if_neg hl2] at q1
    exact q1.elim
theorem cs_raise0 (T : ExI0 X.K X.mg c) (tk : Takes X W) (hc : X.calm = true) (hg : Gl X c) (hdb : (c == ("__debug__" : Str)) = false := by decide) : PC1 X Z W (.Raise (some (.Call (.Name c p) [] [] pos)) none pos') (sRaise0 c) := by
  obtain ⟨C, bmB, B, newId, initId, hm, FB, ei, TK⟩ := T
  refine PS.weak (ps_raise hc tk (pmk_x0 FB ei hm TK.kC (raises_own TK.exC TK.tyC) hg hdb)) fun D σ H ⟨ρ, F, r, q⟩ => ?_
  exact q (.ref C) none σ H F r (Same.refl _) ⟨C, hm, rfl, .inl ⟨rfl, rfl⟩⟩
end
end PV
namespace PySem.W
open PySem PySem.Spec PySem.Calls PyProof.Rows
section
variable {prog : Program} {w : World} {A : Around} {E : Value → Shared → Prop} {s : Shared} {K : Frag} {x D : Addr} {ox : Obj}
theorem findObj_dataA {C : Addr} {name : Str} {a g : Value} {od : Option Obj} (hc : (clsIn K C).isSome = true) (ha : findIn K (.ref C) name = some (some a)) (hg : specialIn K a "__get__" = some (some g)) (ht : takesIn K a = some true) : findObj K C od name = some (.bind g a) := by
  cases od with
  | none => exact findObj_dataN hc ha hg ht
  | some o => exact findObj_data hc ha hg ht
theorem kin_classA {od : Option Obj} {Q : Option Value → Shared → Prop} (hga : findIn K (.ref D) "__getattribute__" = some (some (.builtin "BaseException.__getattribute__"))) (hgt : findIn K (.ref D) "__getattr__" = some none) (hsub : subIn K (.ref D) (.type "BaseException") = some true)
    (hdct : hasDictIn K D = true) (ha : findIn K (.ref D) "__class__" = some (some (.builtin "object.__class__")))
    (hn : specialIn K (.builtin "object.__class__") "__get__" = some (some (.builtin "getset_descriptor.__get__"))) (htk : takesIn K (.builtin "object.__class__") = some true) (hm : mroIn K D (.type "object") = some true)
    (X : K.In s.heap) (I : InstAt s.heap x ox D od) (h : Q (some (.ref D)) { s with toks := s.toks + 1 }) : wpAny (model prog w) A (getAttr? (.ref x) "__class__") Q E s := by
  have hf : findObj K D od "__class__" = some (.bind (.builtin "getset_descriptor.__get__") (.builtin "object.__class__")) := findObj_dataA (by obtain ⟨cd, hc, _⟩ := any_some hdct; rw [hc]; rfl) ha hn htk
  obtain ⟨hp, g, d, t, os⟩ := s
  have L0 := I.type (M := model prog w)
  have L1 := looks_findIn (M := model prog w) X hga
  have L2 := looks_findIn (M := model prog w) X hgt
  have L3 := looks_find (M := model prog w) X I hf
  have sub : Looks (model prog w) hp (isInstance (.ref x) (.type "BaseException")) true := L0.andThen (looks_subIn X hsub)
  have hx0 : (false && onTheHeap (Value.builtin "BaseException.__getattribute__")) = false := rfl
  have hx2 : (Value.builtin "BaseException.__getattribute__" == Value.builtin "object.__getattribute__") = false := by decide +kernel
  have hx1 : (onTheHeap (Value.ref D) && Value.builtin "BaseException.__getattribute__" == Value.builtin "object.__getattribute__") = false := by rw [hx2]; rfl
  unfold getAttr? getAttrBy? getAttrBy
  refine wpAny_bind (wpAny_mkText (wpAny_bind (wpAny_attempt (wpAny_holding (wpAny_bind (L0.at (wpAny_bind (L1.at ?_))))))))
  show wpAny _ _ (if (onTheHeap (Value.ref D) && Value.builtin "BaseException.__getattribute__" == Value.builtin "object.__getattribute__") = true then _ else _) _ _ _
  rw [hx1, if_neg Bool.false_ne_true]
  unfold getAttrByItsOwn hookBefore
  refine wpAny_bind ?_
  rw [if_pos (show onTheHeap (Value.ref D) = true from rfl)]
  refine L2.at ?_
  refine wpAny_bind (wpAny_attempt (wpAny_holding ?_))
  unfold callGetattribute
  rw [hx0, if_neg Bool.false_ne_true]
  unfold boundAndCalled
  rw [PySem.F.excAttr_ValueError.ga.bind (.ref x)]
  refine wpAny_bind (wpAny_pure ?_)
  show wpAny _ _ (call (.builtin "BaseException.__getattribute__") [.ref x, .str "__class__" t]) _ _ _
  refine wpAny_call (codeAny_call_builtin PySem.F.excAttr_ValueError.ga.plain PySem.F.entry_bexc_ga ?_)
  refine @check_slot (model prog w) _ _ ⟨hp, g, d, t + 1, os⟩ "BaseException.__getattribute__" "BaseException" "__getattribute__" (.ref x) [.str "__class__" t] [] _ (by decide +kernel) (by decide +kernel) sub (PySem.F.args_bexc_ga (.ref x) (.str "__class__" t)) ?_
  unfold Builtin.«object.__getattribute__»
  refine wpAny_bind (wpAny_of_eq (a := ((Value.ref x : Value), [Value.str "__class__" t])) (by first | rfl | (simp only [slotArgs]; rfl)) ?_)
  refine wpAny_bind (wpAny_pure (wpAny_bind (L0.at (wpAny_bind (L3.at ?_)))))
  show wpAny _ _ (holding [Value.builtin "object.__class__"] (call (.builtin "getset_descriptor.__get__") [.builtin "object.__class__", .ref x, .ref D]) >>= ret) _ _ _
  refine wpAny_bind (wpAny_holding (wpAny_call (class_get (s := ⟨hp, g, d, t + 1, os⟩) (ox := ox) (od := od) X I hm ?_)))
  refine wpAny_pure ?_
  show wpAny _ _ (handedOut (.ref D)) _ _ _
  rw [handedOut_of (v := .ref D) rfl]
  first
    | exact wpAny_pure (wpAny_pure h)
    | exact wpAny_pure h
    | exact wpAny_pure (wpAny_bind (wpAny_pure (wpAny_pure h)))
theorem kitx_excA {od : Option Obj} (hga : findIn K (.ref D) "__getattribute__" = some (some (.builtin "BaseException.__getattribute__"))) (hgt : findIn K (.ref D) "__getattr__" = some none) (hsub : subIn K (.ref D) (.type "BaseException") = some true) (hdct : hasDictIn K D = true) (ha : findIn K (.ref D) "__class__" = some (some (.builtin "object.__class__")))
    (hn : specialIn K (.builtin "object.__class__") "__get__" = some (some (.builtin "getset_descriptor.__get__"))) (htk : takesIn K (.builtin "object.__class__") = some true) (hm : mroIn K D (.type "object") = some true) :
    KitX K (.ref x) (.ref D) (fun h => InstAt h x ox D od) where
  ty := fun _ _ _ I => I.type
  it := fun _ _ X _ => by
    obtain ⟨cdD, hcD, _⟩ := any_some hdct
    unfold clsIn at hcD
    split at hcD
    · rename_i c' d' cd' sl' ho
      intro A' Q' E' s' k q
      unfold isType loadHead
      exact wpAny_bind (wpAny_loadPart (k _ _ (X _ _ ho)) (wpAny_pure q))
    · cases hcD
  ne := fun h tp dd its n sl X htp => by
    obtain ⟨cdD, hcD, _⟩ := any_some hdct
    refine Bool.eq_false_iff.mpr fun q => ?_
    have e : D = tp := Value.ref.inj (beq_iff_eq.mp q)
    subst e
    unfold clsIn at hcD
    split at hcD
    · rename_i c' d' cd' sl' ho
      have z := (X _ _ ho).symm.trans htp
      cases z
    · cases hcD
  ca := fun X I k => kin_classA hga hgt hsub hdct ha hn htk hm X I k
end
end PySem.W
namespace PV
open PySem PySem.Spec PyProof.Rows L2 VK
/-- a value's type; an exception that was caught is one, too -/
inductive TyY (K : PySem.W.Frag) (H : Hp) : V → Value → Prop where
  | base {x : V} {t : Value} (h : TyX K H x t) : TyY K H x t
  | exc0 {a C : Addr} (e : H a = some (CxO (.ref C) none a)) (c : ExK K C) : TyY K H (.ref a) (.ref C)
  | exc1 {a C dd : Addr} {fs : List (Str × V)} (e : H a = some (CxO (.ref C) (some dd) a)) (e2 : H dd = some (.xd fs)) (c : ExK K C) : TyY K H (.ref a) (.ref C)
section
variable {X : Cx} {pins : List (Addr × Obj)} {σ : L2.St} {H : Hp} {s : Shared}
theorem cx_inst {a C : Addr} {d : Option Addr} (I : Inv X pins σ H s) (e : H a = some (CxO (.ref C) d a)) (hd : d = none ∨ ∃ dd fs, d = some dd ∧ H dd = some (.xd fs)) : ∃ oe od, PySem.W.InstAt s.heap a oe C od := by
  obtain ⟨⟨oe, vs, h1, h2, h3⟩, _⟩ := (show ObjOk X.prog X.w H s.heap a (CxO (.ref C) d a) from I.hok a _ e)
  rcases hd with rfl | ⟨dd, fs, rfl, ed⟩
  · exact ⟨oe, none, h1, h2.1, by unfold PySem.W.notCls; rw [h3] <;> rfl, by rw [h2.2]; trivial⟩
  · obtain ⟨mA, hns, _⟩ := (show ObjOk X.prog X.w H s.heap dd (.xd fs) from I.hok dd _ ed)
    obtain ⟨od, ho, _⟩ := lookIn_ns hns
    exact ⟨oe, some od, h1, h2.1, by unfold PySem.W.notCls; rw [h3] <;> rfl, by rw [h2.2]; exact ho⟩
theorem kit_ofY {x : V} {u t : Value} (I : Inv X pins σ H s) (rx : RelV x u) (ty : TyY X.K H x t) : ∃ P : Heap → Prop, PySem.W.KitX X.K u t P ∧ P s.heap ∧ u ≠ .builtin "__main__.__loader__#opaque" := by
  cases ty with
  | base b => exact L2.kit_of I rx b
  | @exc0 a C e c =>
    cases (show u = Value.ref a from rx)
    obtain ⟨oe, od, J⟩ := cx_inst I e (.inl rfl)
    exact ⟨_, PySem.W.kitx_excA c.ga c.gg c.exC c.hdC c.ha c.hn c.ht c.hm, J, fun z => nomatch z⟩
  | @exc1 a C dd fs e e2 c =>
    cases (show u = Value.ref a from rx)
    obtain ⟨oe, od, J⟩ := cx_inst I e (.inr ⟨dd, fs, rfl, e2⟩)
    exact ⟨_, PySem.W.kitx_excA c.ga c.gg c.exC c.hdC c.ha c.hn c.ht c.hm, J, fun z => nomatch z⟩
/-- isinstance(x, C), isinstance(x, (C, ..)) -/
def rIsY (K : PySem.W.Frag) : List V → Hp → VK → Prop := fun xs H Q => ∃ (x : V) (t : Value) (us : List Value) (b : Bool), TyY K H x t ∧
  ((∃ c u, xs = [x, c] ∧ ClsV c u ∧ us = [u] ∧ PySem.W.kitOne K t u = some b) ∨ (∃ tp cs, xs = [x, .ref tp] ∧ SqT K H tp cs ∧ Paired ClsV cs us ∧ PySem.W.kitAny K t us = some b)) ∧ Q (.bl b) H
theorem call_isY : CallR X (.builtin "isinstance") (rIsY X.K) := by
  intro pins s σ H xs us Q I r h
  obtain ⟨x, t, ws, b, ty, hc, q⟩ := h
  rcases hc with ⟨c, u, rfl, k, rfl, e⟩ | ⟨tp, cs, rfl, hT, k, e⟩
  · obtain ⟨u1, u2, rfl, r1, r2⟩ := vals2 r
    have e2 := k.eq r2
    subst e2
    obtain ⟨P, Z, p, hx⟩ := kit_ofY I r1 ty
    exact PySem.W.kia_one Z I.kIn p e hx fun tk => ⟨.bl b, H, I.tok tk, rfl, q⟩
  · obtain ⟨u1, u2, rfl, r1, r2⟩ := vals2 r
    cases (show u2 = Value.ref tp from r2)
    obtain ⟨P, Z, p, hx⟩ := kit_ofY I r1 ty
    obtain ⟨its, rv, ⟨o, h1, h2, n, h3⟩, _⟩ := I.tuple hT
    have e3 := ClsV.all k rv
    subst e3
    obtain ⟨oc, od, dt, sl⟩ := o
    simp only at h2 h3
    subst h2 h3
    exact PySem.W.kia_tup Z I.kIn p h1 e hx fun tk => ⟨.bl b, H, I.tok tk, rfl, q⟩
end
/-- e.f, e an exception that was caught -/
def tXfC (K : PySem.W.Frag) (f : Str) (te : TE) : TE := fun σ H Q => te σ H fun x H1 => ∃ (a C dd : Addr) (fs : List (Str × V)) (v : V), x = .ref a ∧ H1 a = some (CxO (.ref C) (some dd) a) ∧ ExK K C ∧ PySem.W.findIn K (.ref C) f = some none ∧ H1 dd = some (.xd fs) ∧ fs.lookup f = some v ∧ Q v H1
theorem pe_xfC {X : Cx} {e : Expr} {te : TE} {pos : Pos} {n : Str} (he : PE X e te) (hb : attributeBase e n X.env (eval e X.env) = eval e X.env := by rfl) : PE X (.Attribute e n pos) (tXfC X.K n te) := by
  refine ⟨fun pins s σ H Q I h => ?_⟩
  refine attr_of hb (thn (he.run pins s σ H _ I h) fun u s1 hh => ?_)
  obtain ⟨x, H1, I1, rx, a, C, dd, fs, v, ex, ea, T, hno, ed, l, q⟩ := hh
  subst ex
  obtain rfl : u = Value.ref a := rx
  obtain ⟨⟨oe, vs, h1, h2, h3⟩, _⟩ := (show ObjOk X.prog X.w H1 s1.heap a (CxO (.ref C) (some dd) a) from I1.hok a _ ea)
  have hx : ObjOk X.prog X.w H1 s1.heap dd (.xd fs) := I1.hok dd _ ed
  obtain ⟨mA, hns, hr⟩ := hx
  obtain ⟨od, ho, hl⟩ := lookIn_ns hns
  obtain ⟨u, hu, ru⟩ := RelO.some_of (v := v) (o := mA n) (by rw [← l]; exact hr n)
  have J : PySem.W.InstAt s1.heap a oe C (some od) := ⟨h1, h2.1, by unfold PySem.W.notCls; rw [h3] <;> rfl, by rw [h2.2]; exact ho⟩
  exact HandSPX.exc_get I1.kIn J T.ga T.gg T.exC (PySem.W.findObj_own T.hdC hno rfl (by rw [hl, hu])) (handed_of ru) ⟨v, H1, I1.tok _, ru, q⟩
end PV
namespace PV
open PySem PySem.Spec PyProof.Rows L2 VK

/-! ### how a def's function runs: rules for simp -/
section
variable {α β : Type} {ρ ρ' : En} {f g h : M Fl} {a b c : M AV} {t t' : M Bool} {i j k n : Nat} {d e z : D} {x y : AV} {s : Sl} {r : En}
@[simp] theorem at_nil : En.at [] n = .no := rfl
@[simp] theorem at_0 : En.at (s :: r) 0 = s := rfl
@[simp] theorem at_s : En.at (s :: r) (n + 1) = En.at r n := rfl
@[simp] theorem sNx_r : sNx ρ = .val .nx ρ := rfl
@[simp] theorem sBk_r : sBk ρ = .val .bk ρ := rfl
@[simp] theorem sCt_r : sCt ρ = .val .ct ρ := rfl
@[simp] theorem sRetN_r : sRetN ρ = .val (.rt .non) ρ := rfl
/-- what stands behind a statement -/
def thenF (g : M Fl) (x : Fl) (ρ : En) : Res Fl := match x with
  | .nx => g ρ
  | .rt d => .val (.rt d) ρ
  | .bk => .val .bk ρ
  | .ct => .val .ct ρ
@[simp] theorem thenF_nx : thenF g .nx ρ = g ρ := rfl
@[simp] theorem thenF_rt : thenF g (.rt d) ρ = .val (.rt d) ρ := rfl
@[simp] theorem thenF_bk : thenF g .bk ρ = .val .bk ρ := rfl
@[simp] theorem thenF_ct : thenF g .ct ρ = .val .ct ρ := rfl
theorem sSeq_r : sSeq f g ρ = (f ρ).bind (thenF g) := by
  unfold sSeq thenF
  rfl
@[simp] theorem sSet_r : sSet i a ρ = (a.st ρ).bind fun d ρ1 => .val .nx (ρ1.set i (.sh d)) := rfl
@[simp] theorem sNew_r {a : M D} : sNew i a ρ = (a ρ).bind fun d ρ1 => .val .nx (ρ1.set i (.own d)) := rfl
@[simp] theorem sRet_r : sRet a ρ = (a.st ρ).bind fun d ρ1 => .val (.rt d) ρ1 := rfl
@[simp] theorem sExp_r : sExp a ρ = (a ρ).bind fun _ ρ1 => .val .nx ρ1 := rfl
theorem sIf_r : sIf t f g ρ = (t ρ).bind fun b ρ1 => if b = true then f ρ1 else g ρ1 := rfl
@[simp] theorem eC_r : eC d ρ = .val (.d d) ρ := rfl
def varS : Sl → Nat → En → Res AV
  | .no, _, _ => .bad
  | .sh d, _, ρ => .val (.d d) ρ
  | .own _, i, ρ => .val (.io i) ρ
  | .pin _, i, ρ => .val (.io i) ρ
@[simp] theorem varS_sh : varS (.sh d) i ρ = .val (.d d) ρ := rfl
@[simp] theorem varS_own : varS (.own d) i ρ = .val (.io i) ρ := rfl
@[simp] theorem varS_pin : varS (.pin d) i ρ = .val (.io i) ρ := rfl
@[simp] theorem eVar_r : eVar i ρ = varS (ρ.at i) i ρ := by
  unfold eVar varS
  cases ρ.at i <;> rfl
def derS : Sl → Option D
  | .no => none
  | .sh d => some d
  | .own d => some d
  | .pin d => some d
@[simp] theorem derS_sh : derS (.sh d) = some d := rfl
@[simp] theorem derS_own : derS (.own d) = some d := rfl
@[simp] theorem derS_pin : derS (.pin d) = some d := rfl
@[simp] theorem der_d : der (.d d) ρ = some d := rfl
@[simp] theorem der_io : der (.io i) ρ = derS (ρ.at i) := by
  show (match ρ.at i with
    | .sh c => some c
    | .own c => some c
    | .pin c => some c
    | .no => none) = derS (ρ.at i)
  cases ρ.at i <;> rfl
def frzS : Sl → Nat → En → Option (D × En)
  | .sh c, _, ρ => some (c, ρ)
  | .own c, i, ρ => some (c, ρ.set i (.sh c))
  | _, _, _ => none
@[simp] theorem frzS_sh : frzS (.sh d) i ρ = some (d, ρ) := rfl
@[simp] theorem frzS_own : frzS (.own d) i ρ = some (d, ρ.set i (.sh d)) := rfl
@[simp] theorem frz_d : frz (.d d) ρ = some (d, ρ) := rfl
@[simp] theorem frz_io : frz (.io i) ρ = frzS (ρ.at i) i ρ := by
  show (match ρ.at i with
    | .sh c => some (c, ρ)
    | .own c => some (c, ρ.set i (.sh c))
    | _ => none) = frzS (ρ.at i) i ρ
  cases ρ.at i <;> rfl
/-- what a value that stands is -/
def frzR (o : Option (D × En)) : Res D := match o with
  | some (d, ρ) => .val d ρ
  | none => .bad
@[simp] theorem frzR_some : frzR (some (d, ρ)) = .val d ρ := rfl
@[simp] theorem st_r : M.st a ρ = (a ρ).bind fun x ρ1 => frzR (frz x ρ1) := by
  unfold M.st frzR
  rfl
def opR2 (o p : Option D) (g : G2) (ρ : En) : Res AV := match o, p with
  | some d, some e => match g d e with
    | some z => .val (.d z) ρ
    | none => .bad
  | _, _ => .bad
def valR (o : Option D) (ρ : En) : Res AV := match o with
  | some z => .val (.d z) ρ
  | none => .bad
@[simp] theorem valR_some : valR (some d) ρ = .val (.d d) ρ := rfl
@[simp] theorem valR_none : valR none ρ = .bad := rfl
@[simp] theorem opR2_some {g : G2} : opR2 (some d) (some e) g ρ = valR (g d e) ρ := rfl
@[simp] theorem op2_r {g : G2} : op2 g x y ρ = opR2 (der x ρ) (der y ρ) g ρ := by
  unfold op2 opR2
  rfl
@[simp] theorem eOp_r {g : G2} : eOp g a b ρ = (a ρ).bind fun x ρ1 => (b ρ1).bind fun y ρ2 => opR2 (der x ρ2) (der y ρ2) g ρ2 := by
  unfold eOp
  simp only [op2_r]
def opR1 (o : Option D) (g : D → Option D) (ρ : En) : Res AV := match o with
  | some d => valR (g d) ρ
  | none => .bad
@[simp] theorem opR1_some {g : D → Option D} : opR1 (some d) g ρ = valR (g d) ρ := rfl
@[simp] theorem eUn_r {g : D → Option D} : eUn g a ρ = (a ρ).bind fun x ρ1 => opR1 (der x ρ1) g ρ1 := by
  unfold eUn op1 opR1 valR
  rfl
@[simp] theorem eM0_r {g : D → Option D} : eM0 g a ρ = eUn g a ρ := rfl
def tbR (o : Option D) (ρ : En) : Res Bool := match o with
  | some (.bl b) => .val b ρ
  | _ => .bad
@[simp] theorem tbR_bl {b : Bool} : tbR (some (.bl b)) ρ = .val b ρ := rfl
@[simp] theorem tb_r : PV.tb x ρ = tbR (der x ρ) ρ := by
  unfold PV.tb tbR
  rfl
@[simp] theorem Mtb_r : M.tb a ρ = (a ρ).bind fun x ρ1 => tbR (der x ρ1) ρ1 := by
  unfold M.tb
  simp only [tb_r]
def truR (o : Option D) (ρ : En) : Res Bool := match o with
  | some d => (match truD d with
    | some b => .val b ρ
    | none => .bad)
  | none => .bad
theorem tru_r : PV.tru x ρ = truR (der x ρ) ρ := by
  unfold PV.tru truR
  cases der x ρ with
  | none => rfl
  | some d => cases c : truD d <;> simp only [c]
@[simp] theorem Mtru_r : M.tru a ρ = (a ρ).bind fun x ρ1 => truR (der x ρ1) ρ1 := by
  unfold M.tru
  simp only [tru_r]
@[simp] theorem bAnd_r : bAnd t t' ρ = (t ρ).bind fun b ρ1 => if b = true then t' ρ1 else .val false ρ1 := rfl
@[simp] theorem bOr_r : bOr t t' ρ = (t ρ).bind fun b ρ1 => if b = true then .val true ρ1 else t' ρ1 := rfl
@[simp] theorem bNot_r : bNot t ρ = (t ρ).bind fun b ρ1 => .val (!b) ρ1 := rfl
@[simp] theorem bYes_r : bYes ρ = .val true ρ := rfl
@[simp] theorem eAnd_r : eAnd a b ρ = (a.tb ρ).bind fun k ρ1 => if k = true then b ρ1 else .val (.d (.bl false)) ρ1 := rfl
@[simp] theorem eOr_r : eOr a b ρ = (a.tb ρ).bind fun k ρ1 => if k = true then .val (.d (.bl true)) ρ1 else b ρ1 := rfl
@[simp] theorem eNot_r : eNot a ρ = (a.tb ρ).bind fun k ρ1 => .val (.d (.bl !k)) ρ1 := rfl
@[simp] theorem eIf_r : eIf t a b ρ = (t ρ).bind fun k ρ1 => if k = true then a ρ1 else b ρ1 := rfl
@[simp] theorem nIf_r {a b : M D} : nIf t a b ρ = (t ρ).bind fun k ρ1 => if k = true then a ρ1 else b ρ1 := rfl
@[simp] theorem eChain_r {g g' : G2} : eChain g g' a b c ρ = (a ρ).bind fun x ρ1 => (b ρ1).bind fun y ρ2 => (opR2 (der x ρ2) (der y ρ2) g ρ2).bind fun z ρ3 => (tbR (der z ρ3) ρ3).bind fun k ρ4 =>
    if k = true then (c ρ4).bind fun w ρ5 => opR2 (der y ρ5) (der w ρ5) g' ρ5 else .val (.d (.bl false)) ρ4 := by
  unfold eChain
  simp only [op2_r, tb_r]
@[simp] theorem eL0_r : eL0 ρ = .val [] ρ := rfl
@[simp] theorem eL1_r {l : M (List AV)} : eL1 a l ρ = (a ρ).bind fun x ρ1 => (l ρ1).bind fun xs ρ2 => .val (x :: xs) ρ2 := rfl
@[simp] theorem eSt_r : eSt a ρ = (a.st ρ).bind fun d ρ1 => .val (.d d) ρ1 := rfl
@[simp] theorem eNew_r {a : M D} : eNew a ρ = (a ρ).bind fun d ρ1 => .val (.d d) ρ1 := rfl
@[simp] theorem frzL_nil : frzL [] ρ = some ([], ρ) := rfl
def frzC (o : Option (D × En)) (k : En → Option (List D × En)) : Option (List D × En) := match o with
  | some (d, ρ1) => (match k ρ1 with
    | some (ds, ρ2) => some (d :: ds, ρ2)
    | none => none)
  | none => none
@[simp] theorem frzC_some {k : En → Option (List D × En)} : frzC (some (d, ρ)) k = match k ρ with
    | some (ds, ρ2) => some (d :: ds, ρ2)
    | none => none := rfl
@[simp] theorem frzL_cons {xs : List AV} : frzL (x :: xs) ρ = frzC (frz x ρ) (frzL xs) := by
  show (match frz x ρ with
    | none => none
    | some (d, ρ1) => match frzL xs ρ1 with
      | none => none
      | some (ds, ρ2) => some (d :: ds, ρ2)) = _
  unfold frzC
  cases frz x ρ with
  | none => rfl
  | some q =>
    obtain ⟨d, ρ1⟩ := q
    cases c : frzL xs ρ1 <;> simp only [c]
def frzLR (o : Option (List D × En)) : Res (List D) := match o with
  | some (ds, ρ) => .val ds ρ
  | none => .bad
@[simp] theorem frzLR_some {ds : List D} : frzLR (some (ds, ρ)) = .val ds ρ := rfl
@[simp] theorem sts_r {l : M (List AV)} : M.sts l ρ = (l ρ).bind fun xs ρ1 => frzLR (frzL xs ρ1) := by
  unfold M.sts frzLR
  rfl
@[simp] theorem eTup_r {l : M (List AV)} : eTup l ρ = (l.sts ρ).bind fun ds ρ1 => if ds.length ≤ sizeLine then .val (.d (.tup ds)) ρ1 else .bad := rfl
@[simp] theorem nLst_r {l : M (List AV)} : nLst l ρ = (l.sts ρ).bind fun ds ρ1 => if ds.length ≤ sizeLine then .val (.lst ds) ρ1 else .bad := rfl
@[simp] theorem nDic0_r : nDic0 ρ = .val (.dic []) ρ := rfl
@[simp] theorem derL_nil : derL [] ρ = some [] := rfl
def derC (o : Option D) (p : Option (List D)) : Option (List D) := match o, p with
  | some d, some ds => some (d :: ds)
  | _, _ => none
@[simp] theorem derC_some {ds : List D} : derC (some d) (some ds) = some (d :: ds) := rfl
@[simp] theorem derL_cons {xs : List AV} : derL (x :: xs) ρ = derC (der x ρ) (derL xs ρ) := rfl
def lisR (o : Option (List D)) (g : GL) (ρ : En) : Res AV := match o with
  | some ds => valR (g ds) ρ
  | none => .bad
@[simp] theorem lisR_some {ds : List D} {g : GL} : lisR (some ds) g ρ = valR (g ds) ρ := rfl
@[simp] theorem eB_r {g : GL} {l : M (List AV)} : eB g l ρ = (l ρ).bind fun xs ρ1 => lisR (derL xs ρ1) g ρ1 := by
  unfold eB opL lisR valR
  rfl
def valN (o : Option (List D)) (ρ : En) : Res D := match o with
  | some z => .val (.lst z) ρ
  | none => .bad
@[simp] theorem valN_some {ds : List D} : valN (some ds) ρ = .val (.lst ds) ρ := rfl
def lisN (o : Option (List D)) (g : GN) (ρ : En) : Res D := match o with
  | some ds => valN (g ds) ρ
  | none => .bad
@[simp] theorem lisN_some {ds : List D} {g : GN} : lisN (some ds) g ρ = valN (g ds) ρ := rfl
@[simp] theorem nB_r {g : GN} {l : M (List AV)} : nB g l ρ = (l ρ).bind fun xs ρ1 => lisN (derL xs ρ1) g ρ1 := by
  unfold nB opN lisN valN
  rfl
def opN2 (o p : Option D) (g : G2N) (ρ : En) : Res D := match o, p with
  | some d, some e => valN (g d e) ρ
  | _, _ => .bad
@[simp] theorem opN2_some {g : G2N} : opN2 (some d) (some e) g ρ = valN (g d e) ρ := rfl
@[simp] theorem nOp_r {g : G2N} : nOp g a b ρ = (a ρ).bind fun x ρ1 => (b ρ1).bind fun y ρ2 => opN2 (der x ρ2) (der y ρ2) g ρ2 := by
  unfold nOp opN2 valN
  rfl
@[simp] theorem pNo_r : pNo ρ = .val none ρ := rfl
def pinR (o : Option D) (ρ : En) : Res (Option Int) := match o with
  | some (.int i) => .val (some i) ρ
  | _ => .bad
@[simp] theorem pinR_int {i : Int} : pinR (some (.int i)) ρ = .val (some i) ρ := rfl
@[simp] theorem pIn_r : pIn a ρ = (a ρ).bind fun x ρ1 => pinR (der x ρ1) ρ1 := by
  unfold pIn pinR
  rfl
def slR (o : Option D) (g : G3) (p q : Option Int) (ρ : En) : Res AV := match o with
  | some d => valR (g d p q) ρ
  | none => .bad
@[simp] theorem slR_some {g : G3} {p q : Option Int} : slR (some d) g p q ρ = valR (g d p q) ρ := rfl
@[simp] theorem eSl_r {g : G3} {l m : M (Option Int)} : eSl g a l m ρ = (a ρ).bind fun x ρ1 => (l ρ1).bind fun p ρ2 => (m ρ2).bind fun q ρ3 => slR (der x ρ3) g p q ρ3 := by
  unfold eSl slR valR
  rfl
def slN (o : Option D) (g : G3N) (p q : Option Int) (ρ : En) : Res D := match o with
  | some d => valN (g d p q) ρ
  | none => .bad
@[simp] theorem slN_some {g : G3N} {p q : Option Int} : slN (some d) g p q ρ = valN (g d p q) ρ := rfl
@[simp] theorem nSl_r {g : G3N} {l m : M (Option Int)} : nSl g a l m ρ = (a ρ).bind fun x ρ1 => (l ρ1).bind fun p ρ2 => (m ρ2).bind fun q ρ3 => slN (der x ρ3) g p q ρ3 := by
  unfold nSl slN valN
  rfl
/-! changes -/
def reR (o : Option Sl) (k : Sl → Res AV) : Res AV := match o with
  | some s => k s
  | none => .bad
@[simp] theorem reR_some {k : Sl → Res AV} : reR (some s) k = k s := rfl
@[simp] theorem re_own : Sl.re (.own d) e = some (.own e) := rfl
@[simp] theorem re_pin : Sl.re (.pin d) e = some (.pin e) := rfl
@[simp] theorem mu_own : Sl.mu (.own d) = some d := rfl
@[simp] theorem mu_pin : Sl.mu (.pin d) = some d := rfl
def mutR (o : Option (D × D)) (i : Nat) (ρ : En) : Res AV := match o with
  | some (z, c') => reR ((ρ.at i).re c') fun s => .val (.d z) (ρ.set i s)
  | none => .bad
@[simp] theorem mutR_some : mutR (some (z, d)) i ρ = reR ((ρ.at i).re d) fun s => .val (.d z) (ρ.set i s) := rfl
def mutC (o : Option D) (g : GM) (i : Nat) (ds : List D) (ρ : En) : Res AV := match o with
  | some c => mutR (g c ds) i ρ
  | none => .bad
@[simp] theorem mutC_some {g : GM} {ds : List D} : mutC (some d) g i ds ρ = mutR (g d ds) i ρ := rfl
theorem mutI_r {g : GM} {ds : List D} : mutI g i ds ρ = mutC (ρ.at i).mu g i ds ρ := by
  unfold mutI mutC mutR reR
  cases (ρ.at i).mu with
  | none => rfl
  | some c =>
    cases h : g c ds with
    | none => simp only [h]
    | some q =>
      obtain ⟨z, c'⟩ := q
      simp only [h]
      cases (ρ.at i).re c' <;> rfl
@[simp] theorem eMt_r {T : String} {g : GM} {l : M (List AV)} : eMt T i g l ρ = if kindOk T (ρ.at i).mu = true then (l.sts ρ).bind fun ds ρ1 => mutC (ρ1.at i).mu g i ds ρ1 else .bad := by
  unfold eMt eMut
  simp only [mutI_r]
@[simp] theorem eMt0_r {T : String} {g : GM} : eMt0 T i g ρ = if kindOk T (ρ.at i).mu = true then mutC (ρ.at i).mu g i [] ρ else .bad := by
  unfold eMt0 eMut0
  simp only [mutI_r]
@[simp] theorem kindOk_lst {ds : List D} : kindOk "list" (some (.lst ds)) = true := rfl
@[simp] theorem kindOk_dic {ds : List (D × D)} : kindOk "dict" (some (.dic ds)) = true := rfl
/-- xs[k] = d -/
def stoR (i : Nat) (m : Option D) (k d : D) (ρ : En) : Res Fl := match m, k with
  | some (.lst xs), .int j => (match ixN xs.length j with
    | some n => (match (ρ.at i).re (.lst (xs.set n d)) with
      | some s => .val .nx (ρ.set i s)
      | none => .bad)
    | none => .bad)
  | _, _ => .bad
def stoP (o : Option En) : Res Fl := match o with
  | some ρ3 => .val .nx ρ3
  | none => .bad
theorem sto_r {k d : D} : stoP (stoI i k d ρ) = stoR i (ρ.at i).mu k d ρ := by
  unfold stoI stoR
  cases (ρ.at i).mu with
  | none => rfl
  | some c =>
    cases c <;> try rfl
    rename_i xs
    cases k <;> try rfl
    rename_i j
    dsimp only
    cases ixN xs.length j with
    | none => rfl
    | some n =>
      dsimp only
      cases (ρ.at i).re (.lst (xs.set n d)) <;> rfl
def stoM (m : Option D) (fi : M AV) (i : Nat) (d : D) (ρ : En) : Res Fl := match m with
  | none => .bad
  | some _ => (fi.st ρ).bind fun k ρ2 => stoR i (ρ2.at i).mu k d ρ2
@[simp] theorem stoM_some {fi : M AV} : stoM (some e) fi i d ρ = (fi.st ρ).bind fun k ρ2 => stoR i (ρ2.at i).mu k d ρ2 := rfl
@[simp] theorem sSto_r {fi fe : M AV} : sSto i fi fe ρ = (fe.st ρ).bind fun d ρ1 => stoM (ρ1.at i).mu fi i d ρ1 := by
  show (fe.st ρ).bind (fun d ρ1 => match (ρ1.at i).mu with
    | none => .bad
    | some _ => (fi.st ρ1).bind fun k ρ2 => stoP (stoI i k d ρ2)) = _
  refine congrArg (Res.bind _) (funext fun d => funext fun ρ1 => ?_)
  unfold stoM
  cases (ρ1.at i).mu with
  | none => rfl
  | some c => exact congrArg (Res.bind _) (funext fun k => funext fun ρ2 => sto_r)
/-! calls -/
@[simp] theorem prep1_nil : prep1 [] [] ρ = some ([], ρ) := rfl
def prepC (o : Option (D × En)) (k : En → Option (List AV × En)) : Option (List AV × En) := match o with
  | some (d, ρ1) => (match k ρ1 with
    | some (ys, ρ2) => some (AV.d d :: ys, ρ2)
    | none => none)
  | none => none
@[simp] theorem prepC_some {k : En → Option (List AV × En)} : prepC (some (d, ρ)) k = match k ρ with
    | some (ys, ρ2) => some (AV.d d :: ys, ρ2)
    | none => none := rfl
@[simp] theorem prep1_sh {ms : List Bool} {xs : List AV} : prep1 (false :: ms) (x :: xs) ρ = prepC (frz x ρ) (prep1 ms xs) := by
  show (match frz x ρ with
    | none => none
    | some (d, ρ1) => match prep1 ms xs ρ1 with
      | none => none
      | some (ys, ρ2) => some (AV.d d :: ys, ρ2)) = _
  unfold prepC
  cases frz x ρ with
  | none => rfl
  | some q =>
    obtain ⟨d, ρ1⟩ := q
    dsimp only
    cases prep1 ms xs ρ1 <;> rfl
@[simp] theorem prep1_io {ms : List Bool} {xs : List AV} : prep1 (true :: ms) (.io i :: xs) ρ = match prep1 ms xs ρ with
    | some (ys, ρ2) => some (AV.io i :: ys, ρ2)
    | none => none := by
  show (match prep1 ms xs ρ with
    | none => none
    | some (ys, ρ2) => some (AV.io i :: ys, ρ2)) = _
  cases prep1 ms xs ρ <;> rfl
@[simp] theorem slotsOf_nil : slotsOf [] = [] := rfl
@[simp] theorem slotsOf_d {xs : List AV} : slotsOf (.d d :: xs) = slotsOf xs := rfl
@[simp] theorem slotsOf_io {xs : List AV} : slotsOf (.io i :: xs) = i :: slotsOf xs := rfl
@[simp] theorem conts_nil : conts [] ρ = some [] := rfl
@[simp] theorem conts_d {xs : List AV} : conts (.d d :: xs) ρ = derC (some d) (conts xs ρ) := by
  show (match conts xs ρ with
    | some ds => some (d :: ds)
    | none => none) = _
  cases conts xs ρ <;> rfl
@[simp] theorem conts_io {xs : List AV} : conts (.io i :: xs) ρ = derC (ρ.at i).mu (conts xs ρ) := by
  show (match (ρ.at i).mu, conts xs ρ with
    | some c, some ds => some (c :: ds)
    | _, _ => none) = _
  cases (ρ.at i).mu <;> cases conts xs ρ <;> rfl
@[simp] theorem back_nil : back [] [] ρ = some ρ := rfl
def backC (o : Option Sl) (i : Nat) (is : List Nat) (cs : List D) (ρ : En) : Option En := match o with
  | some s => back is cs (ρ.set i s)
  | none => none
@[simp] theorem backC_some {is : List Nat} {cs : List D} : backC (some s) i is cs ρ = back is cs (ρ.set i s) := rfl
@[simp] theorem back_cons {is : List Nat} {cs : List D} : back (i :: is) (d :: cs) ρ = backC ((ρ.at i).re d) i is cs ρ := rfl
def valB (o : Option En) (d : D) : Res AV := match o with
  | some ρ => .val (.d d) ρ
  | none => .bad
@[simp] theorem valB_some : valB (some ρ) d = .val (.d d) ρ := rfl
def excB (o : Option En) (c : Str) (fs : List (Str × D)) : Res AV := match o with
  | some ρ => .exc c fs ρ
  | none => .bad
@[simp] theorem excB_some {c : Str} {fs : List (Str × D)} : excB (some ρ) c fs = .exc c fs ρ := rfl
def callR (r : MR) (is : List Nat) (ρ : En) : Res AV := match r with
  | .bad => .bad
  | .val d cs => valB (back is cs ρ) d
  | .exc c fs cs => excB (back is cs ρ) c fs
@[simp] theorem callR_val {is : List Nat} {cs : List D} : callR (.val d cs) is ρ = valB (back is cs ρ) d := rfl
@[simp] theorem callR_exc {is : List Nat} {cs : List D} {c : Str} {fs : List (Str × D)} : callR (.exc c fs cs) is ρ = excB (back is cs ρ) c fs := rfl
def callP (o : Option (List AV × En)) (Mf : Md) : Res AV := match o with
  | none => .bad
  | some (ys, ρ) => if (slotsOf ys).Nodup then (match conts ys ρ with
    | none => .bad
    | some ds => callR (Mf ds) (slotsOf ys) ρ) else .bad
@[simp] theorem callP_some {ys : List AV} {Mf : Md} : callP (some (ys, ρ)) Mf = if (slotsOf ys).Nodup then (match conts ys ρ with
    | none => .bad
    | some ds => callR (Mf ds) (slotsOf ys) ρ) else .bad := rfl
theorem callM_r {ms : List Bool} {Mf : Md} {xs : List AV} : callM ms Mf xs ρ = callP (prep1 ms xs ρ) Mf := by
  unfold callM callP
  cases prep1 ms xs ρ with
  | none => rfl
  | some q =>
    obtain ⟨ys, ρ2⟩ := q
    dsimp only
    by_cases h : (slotsOf ys).Nodup
    · rw [if_pos h, if_pos h]
      cases conts ys ρ2 with
      | none => rfl
      | some ds =>
        dsimp only
        unfold callR valB excB
        cases Mf ds with
        | bad => rfl
        | val d cs => cases back (slotsOf ys) cs ρ2 <;> rfl
        | exc c fs cs => cases back (slotsOf ys) cs ρ2 <;> rfl
    · rw [if_neg h, if_neg h]
@[simp] theorem eCall_r {ms : List Bool} {Mf : Md} {l : M (List AV)} : eCall ms Mf l ρ = (l ρ).bind fun xs ρ1 => callP (prep1 ms xs ρ1) Mf := by
  unfold eCall
  simp only [callM_r]
@[simp] theorem eCallK_r {n m : Nat} {ms : List Bool} {Mf : Md} {dds : List D} {perm : List Nat} {l l' : M (List AV)} : eCallK n m ms Mf dds perm l l' ρ = (l ρ).bind fun xs ρ1 => (l' ρ1).bind fun zs ρ2 => if xs.length = n ∧ zs.length = m then callP (prep1 ms (pick perm (xs ++ zs ++ dds.map .d)) ρ2) Mf else .bad := by
  unfold eCallK
  simp only [callM_r]
def newR (o : Option D) (ρ : En) : Res D := match o with
  | some d => .val d ρ
  | none => .bad
@[simp] theorem newR_some : newR (some d) ρ = .val d ρ := rfl
@[simp] theorem nCall_r {Mf : List D → Option D} {l : M (List AV)} : nCall Mf l ρ = (l.sts ρ).bind fun ds ρ1 => newR (Mf ds) ρ1 := by
  unfold nCall newR
  rfl
@[simp] theorem pick_nil {xs : List α} : pick [] xs = [] := rfl
@[simp] theorem pick_cons {xs : List α} {is : List Nat} : pick (i :: is) xs = (match xs[i]? with
    | some y => [y]
    | none => []) ++ pick is xs := by
  unfold pick
  rw [List.filterMap_cons]
  cases xs[i]? <;> rfl
/-! assignments and loops -/
def asgR (o : Option En) : Res Fl := match o with
  | some ρ => .val .nx ρ
  | none => .bad
@[simp] theorem asgR_some : asgR (some ρ) = .val .nx ρ := rfl
@[simp] theorem sAsg_r {t : Tg} : sAsg a t ρ = (a.st ρ).bind fun d ρ1 => asgR (t.to d ρ1) := by
  unfold sAsg asgR
  rfl
@[simp] theorem to_nm : (gNm i).to d ρ = some (ρ.set i (.sh d)) := rfl
@[simp] theorem to_tu2 {d1 d2 : D} : (gTu [gNm i, gNm j]).to (.tup [d1, d2]) ρ = some ((ρ.set i (.sh d1)).set j (.sh d2)) := rfl
@[simp] theorem to_ls2 {d1 d2 : D} : (gTu [gNm i, gNm j]).to (.lst [d1, d2]) ρ = some ((ρ.set i (.sh d1)).set j (.sh d2)) := rfl
@[simp] theorem to_tu3 {d1 d2 d3 : D} : (gTu [gNm i, gNm j, gNm k]).to (.tup [d1, d2, d3]) ρ = some (((ρ.set i (.sh d1)).set j (.sh d2)).set k (.sh d3)) := rfl
@[simp] theorem to_tu4 {d1 d2 d3 d4 : D} : (gTu [gNm i, gNm j, gNm k, gNm n]).to (.tup [d1, d2, d3, d4]) ρ = some ((((ρ.set i (.sh d1)).set j (.sh d2)).set k (.sh d3)).set n (.sh d4)) := rfl
theorem sFor_r {it : M (List D)} {t : Tg} : sFor it t f ρ = (it ρ).bind fun ds ρ1 => forL t f ds ρ1 := rfl
def seqR (o : D) (ρ : En) : Res (List D) := match o with
  | .lst xs => .val xs ρ
  | .tup xs => .val xs ρ
  | _ => .bad
def rngR (o : Option (List D)) (ρ : En) : Res (List D) := match o with
  | some [.int j] => if -(2 ^ 62) ≤ j ∧ j < 2 ^ 62 then .val (rng 0 j.toNat) ρ else .bad
  | _ => .bad
theorem rngR_r {m : Int} (h0 : 0 ≤ m) (h1 : m < 1000000000) : rngR (some [.int m]) ρ = .val (rng 0 m.toNat) ρ := if_pos (by omega)
@[simp] theorem iR1_r {l : M (List AV)} : iR1 l ρ = (l ρ).bind fun xs ρ1 => rngR (derL xs ρ1) ρ1 := by
  unfold iR1 rngR
  rfl
def rngR2 (o : Option (List D)) (ρ : En) : Res (List D) := match o with
  | some [.int i, .int j] => if -(2 ^ 62) ≤ i ∧ i < 2 ^ 62 ∧ -(2 ^ 62) ≤ j ∧ j < 2 ^ 62 then .val (rng i (j - i).toNat) ρ else .bad
  | _ => .bad
theorem rngR2_r {m n : Int} (h0 : 0 ≤ m) (h1 : m < 1000000000) (h2 : 0 ≤ n) (h3 : n < 1000000000) : rngR2 (some [.int m, .int n]) ρ = .val (rng m (n - m).toNat) ρ := if_pos (by omega)
@[simp] theorem iR2_r {l : M (List AV)} : iR2 l ρ = (l ρ).bind fun xs ρ1 => rngR2 (derL xs ρ1) ρ1 := by
  unfold iR2 rngR2
  rfl
def enR (xs : List D) (ρ : En) : Res (List D) := match xs with
  | [.lst ds] => .val (enumL 0 ds) ρ
  | _ => .bad
@[simp] theorem enR_lst {ds : List D} : enR [.lst ds] ρ = .val (enumL 0 ds) ρ := rfl
@[simp] theorem iEn_r {l : M (List AV)} : iEn l ρ = (l.sts ρ).bind fun xs ρ1 => enR xs ρ1 := by
  unfold iEn enR
  rfl
@[simp] theorem seqR_lst {xs : List D} : seqR (.lst xs) ρ = .val xs ρ := rfl
@[simp] theorem seqR_tup {xs : List D} : seqR (.tup xs) ρ = .val xs ρ := rfl
@[simp] theorem iSq_r : iSq a ρ = (a.st ρ).bind fun d ρ1 => seqR d ρ1 := by
  unfold iSq seqR
  rfl
@[simp] theorem forL_nil {t : Tg} : forL t f [] ρ = .val .nx ρ := rfl
def forC (o : Option En) (k : En → Res Fl) : Res Fl := match o with
  | none => .bad
  | some ρ => k ρ
@[simp] theorem forC_some {k : En → Res Fl} : forC (some ρ) k = k ρ := rfl
def loopK (t : Tg) (f : M Fl) (r : List D) (x : Fl) (ρ : En) : Res Fl := match x with
  | .nx => forL t f r ρ
  | .ct => forL t f r ρ
  | .bk => .val .nx ρ
  | .rt d => .val (.rt d) ρ
@[simp] theorem loopK_nx {t : Tg} {ds : List D} : loopK t f ds .nx ρ = forL t f ds ρ := rfl
@[simp] theorem loopK_ct {t : Tg} {ds : List D} : loopK t f ds .ct ρ = forL t f ds ρ := rfl
@[simp] theorem loopK_bk {t : Tg} {ds : List D} : loopK t f ds .bk ρ = .val .nx ρ := rfl
@[simp] theorem loopK_rt {t : Tg} {ds : List D} : loopK t f ds (.rt d) ρ = .val (.rt d) ρ := rfl
theorem forL_cons {t : Tg} {ds : List D} : forL t f (d :: ds) ρ = forC (t.to d ρ) fun ρ1 => (f ρ1).bind (loopK t f ds) := by
  conv => lhs; unfold forL
  cases t.to d ρ with
  | none => rfl
  | some ρ1 =>
    refine congrArg (Res.bind _) (funext fun x => funext fun ρ2 => ?_)
    cases x <;> rfl
/-- a walk by what holds before each turn -/
theorem forL_inv {t : Tg} (I : Nat → En → Prop) (ds : List D) (h0 : I 0 ρ) (step : ∀ (i : Nat) (d : D) (ρ : En), ds[i]? = some d → I i ρ → ∃ ρ1 ρ2, t.to d ρ = some ρ1 ∧ (f ρ1 = .val .nx ρ2 ∨ f ρ1 = .val .ct ρ2) ∧ I (i + 1) ρ2) :
    ∃ ρ', forL t f ds ρ = .val .nx ρ' ∧ I ds.length ρ' := by
  induction ds generalizing I ρ with
  | nil => exact ⟨ρ, rfl, h0⟩
  | cons d r ih =>
    obtain ⟨ρ1, ρ2, h1, h2, h3⟩ := step 0 d ρ rfl h0
    obtain ⟨ρ', h4, h5⟩ := ih (fun i => I (i + 1)) h3 fun i d' ρ' hd hI => step (i + 1) d' ρ' (by rw [List.getElem?_cons_succ]; exact hd) hI
    refine ⟨ρ', ?_, h5⟩
    unfold forL
    rw [h1]
    dsimp only
    rcases h2 with h2 | h2 <;> rw [h2] <;> exact h4
/-- a walk that may end with an answer -/
theorem forL_ret {t : Tg} {R : Res Fl → Prop} (I : Nat → En → Prop) (ds : List D) (h0 : I 0 ρ) (step : ∀ (i : Nat) (d : D) (ρ : En), ds[i]? = some d → I i ρ → ∃ ρ1, t.to d ρ = some ρ1 ∧ ((∃ ρ2, (f ρ1 = .val .nx ρ2 ∨ f ρ1 = .val .ct ρ2) ∧ I (i + 1) ρ2) ∨ (∃ d' ρ2, f ρ1 = .val (.rt d') ρ2 ∧ R (.val (.rt d') ρ2)) ∨ ∃ ρ2, f ρ1 = .val .bk ρ2 ∧ R (.val .nx ρ2)))
    (hd : ∀ ρ', I ds.length ρ' → R (.val .nx ρ')) : R (forL t f ds ρ) := by
  induction ds generalizing I ρ with
  | nil => exact hd _ h0
  | cons d r ih =>
    obtain ⟨ρ1, h1, h2⟩ := step 0 d ρ rfl h0
    unfold forL
    rw [h1]
    dsimp only
    rcases h2 with ⟨ρ2, h2, h3⟩ | ⟨d', ρ2, h2, h3⟩ | ⟨ρ2, h2, h3⟩
    · have := ih (fun i => I (i + 1)) h3 (fun i d' ρ' hd hI => step (i + 1) d' ρ' (by rw [List.getElem?_cons_succ]; exact hd) hI) hd
      rcases h2 with h2 | h2 <;> rw [h2] <;> exact this
    · rw [h2]
      exact h3
    · rw [h2]
      exact h3
/-! comprehensions -/
def noxN (r : Res (List D)) (vs : List Nat) (ρ : En) : Res D := match r with
  | .val acc ρ2 => .val (.lst acc) (unwipe ρ ρ2 vs)
  | _ => .bad
@[simp] theorem noxN_val {vs : List Nat} {acc : List D} : noxN (.val acc ρ') vs ρ = .val (.lst acc) (unwipe ρ ρ' vs) := rfl
@[simp] theorem nLc_r {vs : List Nat} {it : M (List D)} {t : Tg} {ft : M Bool} {fe : M AV} : nLc vs it t ft fe ρ = (it ρ).bind fun ds ρ1 => noxN (lcL vs t ft fe ds [] (wipeE ρ1 vs)) vs ρ1 := by
  unfold nLc noxN
  refine congrArg (Res.bind _) (funext fun ds => funext fun ρ1 => ?_)
  cases lcL vs t ft fe ds [] (wipeE ρ1 vs) <;> rfl
/-- one turn -/
def lcK (b : Bool) (vs : List Nat) (t : Tg) (ft : M Bool) (fe : M AV) (r acc : List D) (ρ : En) : Res (List D) := if b = true then (fe.st ρ).bind fun e ρ3 => (if acc.length < sizeLine then lcL vs t ft fe r (acc ++ [e]) (wipeE ρ3 vs) else .bad) else lcL vs t ft fe r acc (wipeE ρ vs)
@[simp] theorem lcK_t {vs : List Nat} {t : Tg} {ft : M Bool} {fe : M AV} {r acc : List D} : lcK true vs t ft fe r acc ρ = (fe.st ρ).bind fun e ρ3 => (if acc.length < sizeLine then lcL vs t ft fe r (acc ++ [e]) (wipeE ρ3 vs) else .bad) := if_pos rfl
@[simp] theorem lcK_f {vs : List Nat} {t : Tg} {ft : M Bool} {fe : M AV} {r acc : List D} : lcK false vs t ft fe r acc ρ = lcL vs t ft fe r acc (wipeE ρ vs) := if_neg (by decide)
def lcC (o : Option En) (k : En → Res (List D)) : Res (List D) := match o with
  | none => .bad
  | some ρ => k ρ
@[simp] theorem lcC_some {k : En → Res (List D)} : lcC (some ρ) k = k ρ := rfl
@[simp] theorem lcL_nil {vs : List Nat} {t : Tg} {ft : M Bool} {fe : M AV} {acc : List D} : lcL vs t ft fe [] acc ρ = .val acc ρ := rfl
theorem lcL_cons {vs : List Nat} {t : Tg} {ft : M Bool} {fe : M AV} {r acc : List D} : lcL vs t ft fe (d :: r) acc ρ = lcC (t.to d ρ) fun ρ1 => (ft ρ1).bind fun b ρ2 => lcK b vs t ft fe r acc ρ2 := by
  conv => lhs; unfold lcL
  cases t.to d ρ <;> rfl
@[simp] theorem wipeE_nil : wipeE ρ [] = ρ := rfl
@[simp] theorem wipeE_cons {vs : List Nat} : wipeE ρ (i :: vs) = (wipeE ρ vs).set i .no := rfl
@[simp] theorem unwipe_nil : unwipe ρ ρ' [] = ρ' := rfl
@[simp] theorem unwipe_cons {vs : List Nat} : unwipe ρ ρ' (i :: vs) = (unwipe ρ ρ' vs).set i (keepS (ρ.at i)) := rfl
@[simp] theorem keepS_sh : keepS (.sh d) = .sh d := rfl
@[simp] theorem keepS_no : keepS .no = .no := rfl
@[simp] theorem keepS_own : keepS (.own d) = .no := rfl
@[simp] theorem keepS_pin : keepS (.pin d) = .no := rfl
/-- when each turn changes nothing and makes an item -/
theorem lcL_map {vs : List Nat} {t : Tg} {ft : M Bool} {fe : M AV} {p : D → Bool} {q : D → D} (hw : wipeE ρ vs = ρ) : ∀ (ds acc : List D), (∀ d ∈ ds, ∃ ρ1 ρ2, t.to d ρ = some ρ1 ∧ ft ρ1 = .val (p d) ρ2 ∧ wipeE ρ2 vs = ρ ∧ (p d = true → ∃ ρ3, fe.st ρ2 = .val (q d) ρ3 ∧ wipeE ρ3 vs = ρ)) → acc.length + ds.length ≤ sizeLine →
    lcL vs t ft fe ds acc ρ = .val (acc ++ (ds.filter p).map q) ρ
  | [], acc, _, _ => by
    show Res.val acc ρ = _
    rw [List.filter_nil, List.map_nil, List.append_nil]
  | d :: r, acc, h, hz => by
    obtain ⟨ρ1, ρ2, h1, h2, h3, h4⟩ := h d List.mem_cons_self
    have h' : ∀ e ∈ r, _ := fun e he => h e (List.mem_cons_of_mem _ he)
    unfold lcL
    rw [h1]
    dsimp only
    rw [h2]
    dsimp only [Res.bind]
    rw [List.length_cons] at hz
    cases c : p d with
    | true =>
      obtain ⟨ρ3, h5, h6⟩ := h4 c
      rw [if_pos rfl, h5]
      dsimp only
      rw [if_pos (by omega), h6, lcL_map hw r (acc ++ [q d]) h' (by rw [List.length_append, List.length_singleton]; omega), List.filter_cons_of_pos c, List.map_cons, List.append_assoc]
      rfl
    | false =>
      rw [if_neg (by decide), h3, lcL_map hw r acc h' (by omega), List.filter_cons_of_neg (by rw [c]; decide)]
end
end PV
namespace PV
open PySem PySem.Spec PyProof.Rows L2 VK
/-! ### classes by their names -/
/-- who is an instance of whom: by the names of the classes -/
abbrev Tab := List (Str × List (Str × Bool))
def clsT (tab : Tab) (c x : Str) : Option Bool := match tab.lookup c with
  | some l => l.lookup x
  | none => none
def anyT (tab : Tab) (c : Str) : List Str → Option Bool
  | [] => some false
  | x :: r => match clsT tab c x, anyT tab c r with
    | some b, some d => some (b || d)
    | _, _ => none
def isaV (mg : Str → Option Value) (x : Str) (cv : Value) : Prop := (∃ C, mg x = some (.ref C) ∧ cv = .ref C) ∨ (∃ n, x = Str.ofString n ∧ mg x = none ∧ bootBuiltins x = some (.type n) ∧ cv = .type n ∧ x ≠ "__name__")
def dataTys : List String := ["NoneType", "bool", "int", "str", "list", "tuple", "dict"]
def tyNames : List String := dataTys ++ ["ValueError", "KeyError", "IndexError", "LookupError", "OverflowError", "Exception", "ArithmeticError"]
inductive RowOk (K : PySem.W.Frag) (mg : Str → Option Value) (t : Value) (e : Bool) : List (Str × Bool) → Prop
  | nil : RowOk K mg t e []
  | cons {x : Str} {b : Bool} {l : List (Str × Bool)} (cv : Value) : isaV mg x cv → (e = true → PySem.W.exmOne K t cv = some b) → PySem.W.kitOne K t cv = some b → RowOk K mg t e l → RowOk K mg t e ((x, b) :: l)
structure InC (K : PySem.W.Frag) (C : Addr) : Prop where
  cl : Cls K C
  ha : PySem.W.findIn K (.ref C) "__class__" = some (some (.builtin "object.__class__"))
  hn : PySem.W.specialIn K (.builtin "object.__class__") "__get__" = some (some (.builtin "getset_descriptor.__get__"))
  ht : PySem.W.takesIn K (.builtin "object.__class__") = some true
  hm : PySem.W.mroIn K C (.type "object") = some true
/-- exceptions, instances, data -/
inductive TabE (K : PySem.W.Frag) (mg : Str → Option Value) : Tab → Prop
  | nil : TabE K mg []
  | cons {c : Str} {l : List (Str × Bool)} {t : Tab} {C : Addr} : mg c = some (.ref C) → ExK K C → RowOk K mg (.ref C) true l → TabE K mg t → TabE K mg ((c, l) :: t)
inductive TabI (K : PySem.W.Frag) (mg : Str → Option Value) : Tab → Prop
  | nil : TabI K mg []
  | cons {c : Str} {l : List (Str × Bool)} {t : Tab} {C : Addr} : mg c = some (.ref C) → InC K C → RowOk K mg (.ref C) false l → TabI K mg t → TabI K mg ((c, l) :: t)
inductive TabD (K : PySem.W.Frag) (mg : Str → Option Value) : Tab → Prop
  | nil : TabD K mg []
  | cons {n : String} {l : List (Str × Bool)} {t : Tab} : RowOk K mg (.type n) false l → TabD K mg t → TabD K mg ((Str.ofString n, l) :: t)
structure Tabs where
  e : Tab
  i : Tab
  d : Tab
structure TabsOk (K : PySem.W.Frag) (mg : Str → Option Value) (T : Tabs) : Prop where
  e : TabE K mg T.e
  i : TabI K mg T.i
  d : TabD K mg T.d
  z : ∀ n ∈ tyNames, mg (Str.ofString n) = none
section
variable {K : PySem.W.Frag} {mg : Str → Option Value}
theorem RowOk.look {t : Value} {e : Bool} : ∀ {l : List (Str × Bool)}, RowOk K mg t e l → ∀ {x : Str} {b : Bool}, l.lookup x = some b → ∃ cv, isaV mg x cv ∧ (e = true → PySem.W.exmOne K t cv = some b) ∧ PySem.W.kitOne K t cv = some b
  | _, @RowOk.cons _ _ _ _ y c l cv h1 h2 h3 r, x, b, q => by
    rw [List.lookup_cons] at q
    cases z : x == y with
    | true =>
      rw [z] at q
      cases q
      rw [beq_iff_eq.mp z]
      exact ⟨cv, h1, h2, h3⟩
    | false =>
      rw [z] at q
      exact r.look q
theorem TabE.own : ∀ {tab : Tab}, TabE K mg tab → ∀ {c : Str} {l : List (Str × Bool)} {C : Addr}, mg c = some (.ref C) → tab.lookup c = some l → ExK K C ∧ RowOk K mg (.ref C) true l
  | _, @TabE.cons _ _ d l t D h1 h2 h3 r, c, m, C, hm, q => by
    rw [List.lookup_cons] at q
    cases z : c == d with
    | true =>
      rw [z] at q
      cases q
      rw [beq_iff_eq.mp z, h1] at hm
      cases hm
      exact ⟨h2, h3⟩
    | false =>
      rw [z] at q
      exact r.own hm q
theorem TabI.own : ∀ {tab : Tab}, TabI K mg tab → ∀ {c : Str} {l : List (Str × Bool)} {C : Addr}, mg c = some (.ref C) → tab.lookup c = some l → InC K C ∧ RowOk K mg (.ref C) false l
  | _, @TabI.cons _ _ d l t D h1 h2 h3 r, c, m, C, hm, q => by
    rw [List.lookup_cons] at q
    cases z : c == d with
    | true =>
      rw [z] at q
      cases q
      rw [beq_iff_eq.mp z, h1] at hm
      cases hm
      exact ⟨h2, h3⟩
    | false =>
      rw [z] at q
      exact r.own hm q
theorem toNat_inj : ∀ {xs ys : List Char}, xs.map Char.toNat = ys.map Char.toNat → xs = ys
  | [], [], _ => rfl
  | [], _ :: _, h => by cases h
  | _ :: _, [], h => by cases h
  | x :: xs, y :: ys, h => by
    rw [List.map_cons, List.map_cons] at h
    obtain ⟨h1, h2⟩ := List.cons.inj h
    rw [toNat_inj h2]
    congr 1
    exact Char.ext (UInt32.toNat_inj.mp h1)
theorem ofS_inj {s t : String} (h : Str.ofString s = Str.ofString t) : s = t := by
  rw [Str.ofString_eq_toList, Str.ofString_eq_toList] at h
  have h1 : (s.toList.map Char.toNat).toArray = (t.toList.map Char.toNat).toArray := Str.mk.inj h
  have h2 : s.toList.map Char.toNat = t.toList.map Char.toNat := by simpa using h1
  exact String.toList_inj.mp (toNat_inj h2)
theorem TabD.row : ∀ {tab : Tab}, TabD K mg tab → ∀ {n : String} {l : List (Str × Bool)}, tab.lookup (Str.ofString n) = some l → RowOk K mg (.type n) false l
  | _, @TabD.cons _ _ m l t h3 r, n, l', q => by
    rw [List.lookup_cons] at q
    cases z : Str.ofString n == Str.ofString m with
    | true =>
      rw [z] at q
      cases q
      rw [ofS_inj (beq_iff_eq.mp z)]
      exact h3
    | false =>
      rw [z] at q
      exact r.row q
/-- the type of a value, by its name; the table where it stands -/
def kindD (T : Tabs) : D → Option (Tab × Str)
  | .non => some (T.d, Str.ofString "NoneType")
  | .bl _ => some (T.d, Str.ofString "bool")
  | .int _ => some (T.d, Str.ofString "int")
  | .str _ => some (T.d, Str.ofString "str")
  | .lst _ => some (T.d, Str.ofString "list")
  | .tup _ => some (T.d, Str.ofString "tuple")
  | .dic _ => some (T.d, Str.ofString "dict")
  | .ins c _ => some (T.i, c)
  | .exn c _ => some (T.e, c)
  | _ => none
/-- the names of the classes that isinstance's second argument holds -/
def namesC : D → Option (List Str)
  | .gl x => some [x]
  | .ty n => if n ∈ tyNames then some [Str.ofString n] else none
  | _ => none
def namesL : List D → Option (List Str)
  | [] => some []
  | d :: r => match namesC d, namesL r with
    | some a, some b => some (a ++ b)
    | _, _ => none
def gIsi2 (T : Tabs) (d c : D) : Option D := match c with
  | .tup (c0 :: cs) => (match kindD T d, namesL (c0 :: cs) with
    | some (tab, k), some l => (anyT tab k l).map .bl
    | _, _ => none)
  | c => (match kindD T d, namesC c with
    | some (tab, k), some l => (anyT tab k l).map .bl
    | _, _ => none)
def gIsiT (T : Tabs) : GL
  | [d, c] => gIsi2 T d c
  | _ => none
/-- the class values behind names -/
theorem cls_names {tab : Tab} {t : Value} {e : Bool} {l : List (Str × Bool)} {k : Str} (Ro : RowOk K mg t e l) (hk : tab.lookup k = some l) (hz : ∀ n ∈ tyNames, mg (Str.ofString n) = none) {F : Hp} {v : V} {d : D} (hr : R K mg F v d) {ns : List Str} (hn : namesC d = some ns) {b : Bool} (hb : anyT tab k ns = some b) :
    ∃ u, ClsV v u ∧ PySem.W.kitOne K t u = some b := by
  have one : ∀ x : Str, anyT tab k [x] = some b → ∃ cv, isaV mg x cv ∧ PySem.W.kitOne K t cv = some b := by
    intro x hx
    simp only [anyT, clsT, hk] at hx
    cases hl : l.lookup x with
    | none =>
      rw [hl] at hx
      cases hx
    | some c =>
      rw [hl] at hx
      simp only [Bool.or_false] at hx
      cases hx
      obtain ⟨cv, h1, _, h3⟩ := Ro.look hl
      exact ⟨cv, h1, h3⟩
  cases hr with
  | @gl f x hm =>
    cases hn
    obtain ⟨cv, ⟨C, h1, rfl⟩ | ⟨n, _, h1, _⟩, h3⟩ := one x hb
    · rw [hm] at h1
      cases h1
      exact ⟨_, .own _, h3⟩
    · rw [hm] at h1
      cases h1
  | ty n =>
    simp only [namesC] at hn
    by_cases c : n ∈ tyNames
    · rw [if_pos c] at hn
      cases hn
      obtain ⟨cv, ⟨C, h1, rfl⟩ | ⟨m, e1, _, e3, rfl, _⟩, h3⟩ := one _ hb
      · rw [hz n c] at h1
        cases h1
      · rw [ofS_inj e1]
        exact ⟨_, .ty _, h3⟩
    · rw [if_neg c] at hn
      cases hn
  | non => cases hn
  | bl _ => cases hn
  | int _ => cases hn
  | str _ => cases hn
  | lst _ _ => cases hn
  | tup _ _ => cases hn
  | dic _ _ => cases hn
  | ins _ _ _ => cases hn
  | exc0 _ _ => cases hn
  | exc1 _ _ _ _ => cases hn
  | scr _ => cases hn
end
end PV
namespace PV
open PySem PySem.Spec PyProof.Rows L2 VK
section
variable {K : PySem.W.Frag} {mg : Str → Option Value}
theorem cls_list {tab : Tab} {t : Value} {e : Bool} {l : List (Str × Bool)} {k : Str} (Ro : RowOk K mg t e l) (hk : tab.lookup k = some l) (hz : ∀ n ∈ tyNames, mg (Str.ofString n) = none) {F : Hp} : ∀ {vs : List V} {ds : List D}, RL K mg F vs ds → ∀ {ns : List Str}, namesL ds = some ns → ∀ {b : Bool}, anyT tab k ns = some b →
    ∃ us, Paired ClsV vs us ∧ PySem.W.kitAny K t us = some b
  | _, _, .nil, ns, hn, b, hb => by
    cases hn
    cases hb
    exact ⟨[], .nil, rfl⟩
  | _, _, @RL.cons _ _ _ v vs d ds h r, ns, hn, b, hb => by
    simp only [namesL] at hn
    cases h1 : namesC d with
    | none =>
      rw [h1] at hn
      cases hn
    | some a =>
      cases h2 : namesL ds with
      | none =>
        rw [h1, h2] at hn
        cases hn
      | some a2 =>
        rw [h1, h2] at hn
        cases hn
        have sing : ∃ x, a = [x] := by
          cases d <;> simp only [namesC] at h1 <;> first | (cases h1; exact ⟨_, rfl⟩) | (cases h1; done) | skip
          split at h1
          · cases h1
            exact ⟨_, rfl⟩
          · cases h1
        obtain ⟨x, rfl⟩ := sing
        simp only [List.cons_append, List.nil_append, anyT] at hb
        cases c1 : clsT tab k x with
        | none =>
          rw [c1] at hb
          cases hb
        | some b1 =>
          cases c2 : anyT tab k a2 with
          | none =>
            rw [c1, c2] at hb
            cases hb
          | some b2 =>
            rw [c1, c2] at hb
            cases hb
            obtain ⟨u, k1, k2⟩ := cls_names Ro hk hz h h1 (b := b1) (by simp only [anyT, c1, Bool.or_false])
            obtain ⟨us, k3, k4⟩ := cls_list Ro hk hz r h2 c2
            refine ⟨u :: us, .cons k1 k3, ?_⟩
            simp only [PySem.W.kitAny, k2]
            cases b1 with
            | true => rfl
            | false => exact k4
/-- the type of a value, its row -/
theorem ty_row {T : Tabs} (ok : TabsOk K mg T) {H : Hp} {v : V} {d : D} (h : R K mg H v d) {k : Str} {tab : Tab} (hk : kindD T d = some (tab, k)) {l : List (Str × Bool)} (q : tab.lookup k = some l) : ∃ t e, TyY K H v t ∧ RowOk K mg t e l := by
  have bas : ∀ {v : V} {n : String}, TyX K H v (.type n) → T.d.lookup (Str.ofString n) = some l → ∃ t e, TyY K H v t ∧ RowOk K mg t e l := fun ty q => ⟨_, _, .base ty, ok.d.row q⟩
  cases h with
  | non => cases hk; exact bas (n := "NoneType") (.base .non) q
  | bl b => cases hk; exact bas (n := "bool") (.base (.bl b)) q
  | int i => cases hk; exact bas (n := "int") (.base (.int i)) q
  | str z => cases hk; exact bas (n := "str") (.base (.str z)) q
  | lst h _ => cases hk; exact bas (n := "list") (.base (.lst h)) q
  | tup h _ =>
    cases hk
    rcases h with (h | ⟨o, h⟩) | ⟨o, its, n, h1, h2, _⟩
    · exact bas (n := "tuple") (.base (.tup h)) q
    · exact bas (n := "tuple") (.fTuple h) q
    · exact bas (n := "tuple") (.kTuple h1 h2) q
  | dic h _ => cases hk; exact bas (n := "dict") (.base (.dK h)) q
  | @ins a C dx c fs ds h m _ =>
    cases hk
    obtain ⟨h1, h2⟩ := ok.i.own m q
    exact ⟨_, _, .base (.base (.ins h h1.cl h1.ha h1.hn h1.ht h1.hm)), h2⟩
  | @exc0 a C c h m =>
    cases hk
    obtain ⟨h1, h2⟩ := ok.e.own m q
    exact ⟨_, _, .exc0 h h1, h2⟩
  | @exc1 a C dx c fs ds h hd m _ =>
    cases hk
    obtain ⟨h1, h2⟩ := ok.e.own m q
    exact ⟨_, _, .exc1 h hd h1, h2⟩
  | gl _ => cases hk
  | ty _ => cases hk
  | scr _ => cases hk
theorem anyT_row {tab : Tab} {k : Str} {l : List Str} {b : Bool} (h : anyT tab k l = some b) : l = [] ∨ ∃ r, tab.lookup k = some r := by
  cases l with
  | nil => exact .inl rfl
  | cons x l =>
    simp only [anyT, clsT] at h
    cases hl : tab.lookup k with
    | none =>
      rw [hl] at h
      cases h
    | some r => exact .inr ⟨r, rfl⟩
theorem namesC_ne {d : D} (h : namesC d = some []) : False := by
  cases d <;> simp only [namesC] at h <;> try (cases h; done)
  split at h <;> cases h
theorem namesL_nil : ∀ {cs : List D}, namesL cs = some [] → cs = []
  | [], _ => rfl
  | d :: cs, h => by
    simp only [namesL] at h
    cases h1 : namesC d with
    | none =>
      rw [h1] at h
      cases h
    | some a =>
      cases h2 : namesL cs with
      | none =>
        rw [h1, h2] at h
        cases h
      | some a2 =>
        rw [h1, h2] at h
        have h3 := Option.some.inj h
        obtain ⟨e1, e2⟩ := List.append_eq_nil_iff.mp h3
        rw [e1] at h1
        exact (namesC_ne h1).elim
theorem ok_isiT {T : Tabs} (ok : TabsOk K mg T) : OkL K mg (rIsY K) (gIsiT T) := by
  intro F H vs ds z Q s h hg q
  match ds, h with
  | [], .nil => cases hg
  | [d], .cons h1 .nil => cases hg
  | [d, c], .cons (v := v) h1 (.cons (v := w) h2 .nil) =>
    have hr1 := h1.r s
    have hr2 := h2.r s
    have key : ∀ (l : List Str) (tab : Tab) (k : Str) (b : Bool), kindD T d = some (tab, k) → anyT tab k l = some b → l ≠ [] → (∀ {t : Value} {e : Bool} {r : List (Str × Bool)}, RowOk K mg t e r → tab.lookup k = some r → TyY K H v t → Q (.bl b) H → rIsY K [v, w] H Q) → Q (.bl b) H → rIsY K [v, w] H Q := by
      intro l tab k b e1 e2 e3 f qb
      rcases anyT_row e2 with e | ⟨r, hr⟩
      · exact (e3 e).elim
      · obtain ⟨t, e, ty, Ro⟩ := ty_row ok hr1 e1 hr
        exact f Ro hr ty qb
    have one : ∀ (l : List Str), namesC c = some l → ∀ (tab : Tab) (k : Str) (b : Bool), kindD T d = some (tab, k) → anyT tab k l = some b → Q (.bl b) H → rIsY K [v, w] H Q := by
      intro l hn tab k b e1 e2 qb
      refine key l tab k b e1 e2 (fun e => by rw [e] at hn; exact namesC_ne hn) (fun {t e r} Ro hr ty qb => ?_) qb
      obtain ⟨u, k1, k2⟩ := cls_names Ro hr ok.z hr2 hn e2
      exact ⟨v, t, [u], b, ty, .inl ⟨w, u, rfl, k1, rfl, k2⟩, qb⟩
    have gen : (∀ c0 cs, c ≠ .tup (c0 :: cs)) → gIsiT T [d, c] = (match kindD T d, namesC c with
        | some (tab, k), some l => (anyT tab k l).map .bl
        | _, _ => none) := by
      intro hc
      show gIsi2 T d c = _
      unfold gIsi2
      cases c with
      | tup cs => cases cs with
        | nil => rfl
        | cons c0 cs => exact (hc _ _ rfl).elim
      | _ => rfl
    by_cases hc : ∃ c0 cs, c = .tup (c0 :: cs)
    · obtain ⟨c0, cs, rfl⟩ := hc
      simp only [gIsiT, gIsi2] at hg
      cases e1 : kindD T d with
      | none =>
        rw [e1] at hg
        cases hg
      | some tk =>
        obtain ⟨tab, k⟩ := tk
        cases e2 : namesL (c0 :: cs) with
        | none =>
          rw [e1, e2] at hg
          cases hg
        | some l =>
          rw [e1, e2] at hg
          cases e3 : anyT tab k l with
          | none =>
            simp only [e3] at hg
            cases hg
          | some b =>
            simp only [e3] at hg
            cases hg
            have qb := okQ s q (.bl b)
            by_cases hl : l = []
            · subst hl
              have := namesL_nil e2
              cases this
            · refine key l tab k b e1 e3 hl (fun {t e r} Ro hr ty qb => ?_) qb
              cases hr2 with
              | @tup a ws _ hs hrl =>
                obtain ⟨us, k1, k2⟩ := cls_list Ro hr ok.z hrl e2 e3
                exact ⟨v, t, us, b, ty, .inr ⟨a, ws, rfl, hs, k1, k2⟩, qb⟩
    · rw [gen (fun c0 cs e => hc ⟨c0, cs, e⟩)] at hg
      cases e1 : kindD T d with
      | none =>
        rw [e1] at hg
        cases hg
      | some tk =>
        obtain ⟨tab, k⟩ := tk
        cases e2 : namesC c with
        | none =>
          rw [e1, e2] at hg
          cases hg
        | some l =>
          rw [e1, e2] at hg
          cases e3 : anyT tab k l with
          | none =>
            simp only [e3] at hg
            cases hg
          | some b =>
            simp only [e3] at hg
            cases hg
            exact one l e2 tab k b e1 e3 (okQ s q (.bl b))
  | d :: c :: y :: r, _ => cases hg
end
/-! ### fields of a caught exception -/
/-- the classes cs have no attribute f of their own -/
def NoF (K : PySem.W.Frag) (mg : Str → Option Value) (cs : List Str) (f : Str) : Prop := ∀ c ∈ cs, ∃ C, mg c = some (.ref C) ∧ ExK K C ∧ PySem.W.findIn K (.ref C) f = some none
def gFldX (cs : List Str) (f : Str) : D → Option D
  | .exn c fs => if c ∈ cs then fs.lookup f else none
  | _ => none
section
variable {X : Cx} {Z : Zone} {W : WX} {e : Expr} {fa : M AV} {cs : List Str} {f : Str} {pos : Pos}
theorem ev_fldX (no : NoF X.K X.mg cs f) (h : PV X Z W e fa) (hb : attributeBase e f X.env (eval e X.env) = eval e X.env := by rfl) : PV X Z W (.Attribute e f pos) (eUn (gFldX cs f) fa) :=
  PE.weak (pe_xfC h hb) fun σ H Q q => un_le (r := fun x H1 Q => ∃ (a C dd : Addr) (fs : List (Str × V)) (v : V), x = .ref a ∧ H1 a = some (CxO (.ref C) (some dd) a) ∧ ExK X.K C ∧ PySem.W.findIn X.K (.ref C) f = some none ∧ H1 dd = some (.xd fs) ∧ fs.lookup f = some v ∧ Q v H1) (fun {F H v d z Q} s hv hg q => by
    cases d <;> simp only [gFldX] at hg <;> try (cases hg; done)
    rename_i c fs
    by_cases hc : c ∈ cs
    · rw [if_pos hc] at hg
      obtain ⟨C, hm, T, hn⟩ := no c hc
      rcases hv with hv | ⟨a, _, _, h3⟩
      · cases hv with
        | exc0 _ _ => cases hg
        | exc1 h1 h2 m hr =>
          rw [m] at hm
          cases hm
          obtain ⟨v, l, rv⟩ := hr.look hg
          exact ⟨_, _, _, _, v, rfl, s _ _ h1, T, hn, s _ _ h2, l, okQ s q rv⟩
      · exact h3.elim
    · rw [if_neg hc] at hg
      cases hg) σ H Q q
end
/-! ### try: body, except C as n: y = n -/
def sTry (tab : Tab) (cl : List Str) (i j : Nat) (body : M Fl) : M Fl := fun ρ => match body ρ with
  | .exc c fs ρ1 => match anyT tab c cl with
    | some true => .val .nx (((ρ1.set i (.sh (.exn c fs))).set j (.sh (.exn c fs))).set i .no)
    | some false => .exc c fs ρ1
    | none => .bad
  | r => r
theorem Rel.unset {K : PySem.W.Frag} {mg : Str → Option Value} {Z : Zone} {σ : L2.St} {H F : Hp} {ρ : En} {i : Nat} (h : Rel K mg Z σ H ρ F) : Rel K mg Z (σ.set i none) H (ρ.set i .no) F := by
  have at_ : ∀ {j : Nat} {P : Sl → Prop}, (¬ P .no) → P (En.at (ρ.set i .no) j) → i ≠ j := fun {j P} n q z => by
    subst z
    rw [En.at_set] at q
    split at q
    · exact n q
    · rename_i c
      have : ρ.at i = .no := by
        cases hq : ρ.at i with
        | no => rfl
        | _ => exact absurd ⟨rfl, En.at_lt (by rw [hq]; intro z; cases z)⟩ c
      rw [this] at q
      exact n q
  have mu_ : ∀ j e, (En.at (ρ.set i .no) j).mu = some e → i ≠ j := fun j e => at_ (P := fun s => s.mu = some e) (fun z => nomatch z)
  have no_ : ∀ {j : Nat}, i ≠ j → En.at (ρ.set i .no) j = ρ.at j := fun n => En.at_ne n
  have g_ : ∀ {j : Nat}, i ≠ j → (σ.set i none)[j]? = σ[j]? := fun n => List.getElem?_set_ne n
  refine ⟨by rw [List.length_set, List.length_set, h.len], h.same, fun j d q => ?_, fun j d q => ?_, fun j d q a hb => ?_, fun j d q a hb => ?_, fun j k d e a q1 q2 b1 b2 => ?_, h.off, h.live, h.fr0, h.new⟩
  · have n := at_ (P := fun s => s = .sh d) (fun z => nomatch z) q
    rw [no_ n] at q
    rw [g_ n]
    exact h.sh j d q
  · have n := mu_ j d q
    rw [no_ n] at q
    rw [g_ n]
    exact h.mu j d q
  · have n := at_ (P := fun s => s = .own d) (fun z => nomatch z) q
    rw [no_ n] at q
    rw [g_ n] at hb
    exact h.own j d q a hb
  · have n := at_ (P := fun s => s = .pin d) (fun z => nomatch z) q
    rw [no_ n] at q
    rw [g_ n] at hb
    exact h.pin j d q a hb
  · have n1 := mu_ j d q1
    have n2 := mu_ k e q2
    rw [no_ n1] at q1
    rw [no_ n2] at q2
    rw [g_ n1] at b1
    rw [g_ n2] at b2
    exact h.dist j k d e a q1 q2 b1 b2
inductive ClsL (mg : Str → Option Value) : List Str → List Value → Prop
  | nil : ClsL mg [] []
  | cons {x : Str} {cv : Value} {l : List Str} {cs : List Value} : isaV mg x cv → ClsL mg l cs → ClsL mg (x :: l) (cv :: cs)
theorem exm_all {K : PySem.W.Frag} {mg : Str → Option Value} {tab : Tab} {c : Str} {C : Addr} {r : List (Str × Bool)} (Ro : RowOk K mg (.ref C) true r) (hr : tab.lookup c = some r) : ∀ {l : List Str} {cs : List Value}, ClsL mg l cs → ∀ {b : Bool}, anyT tab c l = some b → PySem.W.exmAny K (.ref C) cs = some b
  | _, _, .nil, b, h => h
  | _, _, @ClsL.cons _ x cv l cs hv t, b, h => by
    simp only [anyT, clsT, hr] at h
    cases hl : r.lookup x with
    | none =>
      rw [hl] at h
      cases h
    | some b1 =>
      cases h2 : anyT tab c l with
      | none =>
        rw [hl, h2] at h
        cases h
      | some b2 =>
        rw [hl, h2] at h
        cases h
        obtain ⟨cv', k1, k2, _⟩ := Ro.look hl
        have : cv' = cv := by
          rcases hv with ⟨D, m1, e1⟩ | ⟨n, m1, m2, m3, e1, _⟩ <;> rcases k1 with ⟨D', m1', e1'⟩ | ⟨n', m1', m2', m3', e1', _⟩
          · rw [m1] at m1'
            cases m1'
            rw [e1, e1']
          · rw [m1] at m2'
            cases m2'
          · rw [m1'] at m2
            cases m2
          · rw [m3] at m3'
            cases m3'
            rw [e1, e1']
        subst this
        simp only [PySem.W.exmAny, k2 rfl, exm_all Ro hr t h2]
section
variable {X : Cx} {Z : Zone} {W : WX} {t : Expr} {n y : Str} {i j : Nat} {body : List Stmt} {q1 q2 q3 pos pos' : Pos} {fb : M Fl} {T : Tabs} {cl : List Str} {cs : List Value}
theorem cs_try (ok : TabsOk X.K X.mg T) (hs : X.stack = X.env :: X.outer) (hf : X.env.frame = some X.env.locals) (hex : X.ex = []) (hN : X.N.Nodup) (hi : X.N[i]? = some n) (hln : X.env.kindOf n = some .local) (hj : X.N[j]? = some y) (hly : X.env.kindOf y = some .local)
    (hc : ClsL X.mg cl cs) (hct : CTest X t cs) (tk : Takes X W)
    (hb : ∀ (W : WX) (pn : List (Addr × Obj)) (xe : Value → Shared → Prop), Takes (X.tr pn xe) W → PassesOwn (model X.prog X.w) X.A X.env xe → PCs (X.tr pn xe) Z W body fb)
    (dn : (n == ("__debug__" : Str)) = false := by decide) (dc : (n == ("__classdict__" : Str)) = false := by decide) :
    PC1 X Z W (.Try body [.ExceptHandler (some t) (some n) [.Assign [.Name y q1] (.Name n q2) q3] pos'] [] [] pos) (sTry T.e cl i j fb) := by
  refine PS.weak (ps_try_keep hs hf hex hN hi hln hj hly dn dc hct tk (tb := fun W => tS X.K X.mg Z W fb) hb) fun D σ H ⟨ρ, F, r, q⟩ => ⟨ρ, F, r, ?_⟩
  unfold sTry at q
  cases hr : fb ρ with
  | bad =>
    simp only [hr] at q
    exact q
  | val x ρ1 =>
    simp only [hr] at q
    exact q
  | exc c fs ρ1 =>
    simp only [hr] at q
    intro cls dx σ' H' F' r' s' x
    obtain ⟨C, hm, rfl, hd⟩ := id x
    cases ha : anyT T.e c cl with
    | none =>
      simp only [ha] at q
      exact q.elim
    | some b =>
      have hx : PySem.W.exmAny X.K (.ref C) cs = some b := by
        rcases anyT_row ha with e | ⟨r, hr⟩
        · subst e
          cases hc
          cases ha
          rfl
        · obtain ⟨_, Ro⟩ := ok.e.own hm hr
          exact exm_all Ro hr hc ha
      refine ⟨b, hx, fun hb1 a na => ?_, fun hb1 => ?_⟩
      · subst hb1
        simp only [ha] at q
        have r1 := r'.lay (o := CxO (.ref C) dx a) na
        have re : R X.K X.mg (upd F' a (CxO (.ref C) dx a)) (.ref a) (.exn c fs) := by
          rcases hd with ⟨rfl, rfl⟩ | ⟨d, vs, rfl, ed, hrf⟩
          · exact .exc0 upd_same hm
          · have s1 := r'.layF (o := CxO (.ref C) (some d) a) na
            exact .exc1 upd_same (s1 _ _ ed) hm (hrf.mono s1)
        exact q _ _ _ (((r1.put (i := i) re).put (i := j) re).unset) (s'.trans (r'.layF na))
      · subst hb1
        simp only [ha] at q
        exact q (.ref C) dx σ' H' F' r' s' x
end
end PV
namespace PV
open PySem PySem.Spec PyProof.Rows L2 VK
/-! ### binding, whatever the def's parameters -/
/-- t looks the names up in the dict at D, one behind another, and ends as e -/
def KwC {α : Type} (D : Addr) : List (Str × Value) → Sem α → Sem α → Prop
  | [], t, e => t = e
  | q :: l, t, e => ∃ (β γ : Type) (k1 : Option Value → Sem β) (k2 : β → Sem γ) (k3 : γ → Sem α) (a : β), t = ((nsGet D q.1 >>= k1) >>= k2) >>= k3 ∧ k1 (some q.2) = pure a ∧ KwC D l (k2 a >>= k3) e
theorem KwC.wp {α : Type} {K : PySem.W.Frag} {M : Model} {A : Around} {E : Value → Shared → Prop} {D : Addr} {s : Shared} {Q : α → Shared → Prop} (X : K.In s.heap) : ∀ {l : List (Str × Value)} {t e : Sem α}, (∀ q ∈ l, PySem.W.nsIn K D q.1 = some (some q.2)) → KwC D l t e → wpAny M A e Q E s → wpAny M A t Q E s
  | [], t, e, _, h, q => by
    rw [show t = e from h]
    exact q
  | p :: l, t, e, hl, h, q => by
    obtain ⟨β, γ, k1, k2, k3, a, e1, e2, e3⟩ := h
    have l1 : PySem.W.Looks M s.heap (nsGet D p.1 >>= k1) a := (PySem.W.looks_nsIn X (hl p (List.mem_cons_self ..))).andThen (PySem.W.Looks.of_pure e2)
    rw [e1, bind_assoc]
    exact wpAny_bind (l1.here (KwC.wp X (fun p hp => hl p (List.mem_cons_of_mem _ hp)) e3 q))
/-- .. ahead of it, perhaps, the positional defaults -/
def ChainA {α : Type} (b : Bool) (T D : Addr) (l : List (Str × Value)) (t : Sem α) (its : List Value) (e : Sem α) : Prop := match b with
  | true => ∃ kk, t = seqItems? (.ref T) >>= kk ∧ KwC D l (kk (some its.toArray)) e
  | false => KwC D l t e
def endA (star : Bool) (ps : List Str) (pv : Str) (perm : List Nat) (us rest ws mv : List Value) : Sem (List (Str × Value)) := match star with
  | true => newTuple rest >>= fun t => pure (ps.zip (us ++ pick perm (ws ++ mv)) ++ [(pv, t)])
  | false => pure (ps.zip (us ++ pick perm (ws ++ mv)))
def BindA (K : PySem.W.Frag) (fd : FuncData) (n : Nat) (star : Bool) (ks ps : List Str) (pv : Str) (perm : List Nat) (dvs : List V) : Prop := ∀ (M : Model) (A : Around) (E : Value → Shared → Prop) (s : Shared) (us rest ws : List Value) (Q : List (Str × Value) → Shared → Prop),
  K.In s.heap → us.length = n → ws.length = ks.length → (star = false → rest = []) → (∀ mv, Vals dvs mv → wpAny M A (endA star ps pv perm us rest ws mv) Q E s) → wpAny M A (bindArgs fd ⟨us ++ rest, ks.zip ws⟩) Q E s
theorem BindA.mk {K : PySem.W.Frag} {x qual : Str} {params : Arguments} {body : List Stmt} {scope : Scope} {dvs : List V} {kws : List (Str × V)} {f : Addr} {fd : FuncData} (F : FunD K x qual params body scope dvs kws f fd) {n : Nat} {star : Bool} {ks ps : List Str} {pv : Str} {perm : List Nat} (j : Nat) (dms : List (Str × V)) (hm : ∀ q ∈ dms, q ∈ kws)
    (h : ∀ (T D : Addr) (dV kV doc pm : Value) (an : Option Addr) (cdv ct : Value) (us rest ws its mv : List Value), (dvs = [] → dV = .none) → (dvs ≠ [] → dV = .ref T) → (kws ≠ [] → kV = .ref D) → us.length = n → ws.length = ks.length → its.length = dvs.length → mv.length = dms.length → (star = false → rest = []) →
      ChainA (!dvs.isEmpty) T D ((dms.map (·.1)).zip mv) (bindArgs (PySem.W.fnOf x qual params body scope dV kV doc pm an cdv ct) ⟨us ++ rest, ks.zip ws⟩) its (endA star ps pv perm us rest ws (its.drop j ++ mv))) :
    BindA K fd n star ks ps pv perm (dvs.drop j ++ dms.map (·.2)) := by
  intro M A E s us rest ws Q X h1 h2 h3 q
  obtain ⟨oc, od, dV, kV, doc, pm, an, cdv, ct, osl, rfl, lk, hcd, hD, hK⟩ := F.ex
  have kk : ∃ D mv, (kws ≠ [] → kV = .ref D) ∧ mv.length = dms.length ∧ Vals (dms.map (·.2)) mv ∧ ∀ p ∈ (dms.map (·.1)).zip mv, PySem.W.nsIn K D p.1 = some (some p.2) := by
    rcases hK with e | ⟨D, rfl, hq⟩
    · subst e
      cases dms with
      | nil => exact ⟨0, [], fun z => (z rfl).elim, rfl, .nil, fun p hp => nomatch hp⟩
      | cons m r => exact nomatch hm m (List.Mem.head _)
    · obtain ⟨mv, hl, rk, hks⟩ := kwd_vals (ms := dms) fun p hp => hq p (hm p hp)
      exact ⟨D, mv, fun _ => rfl, hl, rk, hks⟩
  obtain ⟨D, mv, k1, k2, k3, k4⟩ := kk
  rcases hD with ⟨rfl, rfl⟩ | ⟨hne, T, o, its, m, rfl, lT, oT, rT⟩
  · have c := h 0 D .none kV doc pm an cdv ct us rest ws [] mv (fun _ => rfl) (fun z => (z rfl).elim) k1 h1 h2 rfl k2 h3
    exact KwC.wp X k4 c (q _ (by rw [List.drop_nil, List.drop_nil]; exact k3))
  · have c := h T D (.ref T) kV doc pm an cdv ct us rest ws its mv (fun z => (hne z).elim) (fun _ => rfl) k1 h1 h2 rT.length.symm k2 h3
    have eb : (!dvs.isEmpty) = true := by
      cases dvs with
      | nil => exact (hne rfl).elim
      | cons _ _ => rfl
    rw [eb] at c
    obtain ⟨kk, e1, e2⟩ := c
    rw [e1]
    exact wpAny_bind (wpAny_seqItems (X _ _ lT) oT (KwC.wp X k4 e2 (q _ ((rT.drop j).append k3))))
/-! ### a def, called by place, with a star, by keywords -/
def msA (ms : List Bool) (n m : Nat) : List Bool := ms ++ List.replicate (n - ms.length + m) false
structure FnA (P : Program) (w : World) (K : PySem.W.Frag) (mg : Str → Option Value) (base : Heap) (k : Nat) (f : Addr) (ks : List Str) (ms : List Bool) (Mf : Nat → Md) : Prop where
  run : ∀ (A : Around) (outer : List Env) (s : Shared) (H : Hp) (us ws : List Value) (vs zs : List V) (Q : VK) (E : XK), Room k A → A.guards = some [] → Env0 P w K mg base A outer s H → Vals vs us → Vals zs ws → zs.length = ks.length →
    spD K mg (msA ms vs.length zs.length) (Mf vs.length) (vs ++ zs) H Q E → codeAny (model P w) A (.call (.ref f) ⟨us, ks.zip ws⟩) (CR (L2.CX P w) outer P w H s Q E) s
/-- what the def does with np values by place, then those of the keywords -/
def mdA (star : Bool) (ms : List Bool) (perm : List Nat) (dds : List D) (N : Nat) (fM : M Fl) : Nat → Md := fun np ds => match star with
  | true => if ((ds.take np).drop ms.length).length ≤ sizeLine then runM (ms ++ List.replicate (perm.length + 1) false) N fM (ds.take ms.length ++ pick perm (ds.drop np ++ dds) ++ [.tup ((ds.take np).drop ms.length)]) else .bad
  | false => if np = ms.length then runM (ms ++ List.replicate perm.length false) N fM (ds.take ms.length ++ pick perm (ds.drop np ++ dds)) else .bad
section
variable {K : PySem.W.Frag} {mg : Str → Option Value} {G H : Hp}
theorem RA.split {r : Nat} : ∀ {ms : List Bool} {us : List V} {ds : List D} {as : List Addr}, RA K mg G H (ms ++ List.replicate r false) us ds as → ∃ vs1 vs2 ds1 ds2, us = vs1 ++ vs2 ∧ ds = ds1 ++ ds2 ∧ vs1.length = ms.length ∧ ds1.length = ms.length ∧ RA K mg G H ms vs1 ds1 as ∧ RL K mg G vs2 ds2 ∧ vs2.length = r
  | [], us, ds, as, h => by
    have key : ∀ {r : Nat} {us : List V} {ds : List D} {as : List Addr}, RA K mg G H (List.replicate r false) us ds as → as = [] ∧ RL K mg G us ds ∧ us.length = r := by
      intro r
      induction r with
      | zero =>
        intro us ds as h
        cases h
        exact ⟨rfl, .nil, rfl⟩
      | succ r ih =>
        intro us ds as h
        rw [List.replicate_succ] at h
        cases h with
        | sh h1 h2 =>
          obtain ⟨e1, e2, e3⟩ := ih h2
          exact ⟨e1, .cons h1 e2, congrArg Nat.succ e3⟩
    obtain ⟨e1, e2, e3⟩ := key h
    subst e1
    exact ⟨[], us, [], ds, rfl, rfl, rfl, rfl, .nil, e2, e3⟩
  | false :: ms, _, _, _, .sh h t => by
    obtain ⟨vs1, vs2, ds1, ds2, rfl, rfl, e3, e4, e5, e6, e7⟩ := RA.split t
    exact ⟨_ :: vs1, vs2, _ :: ds1, ds2, rfl, rfl, congrArg Nat.succ e3, congrArg Nat.succ e4, .sh h e5, e6, e7⟩
  | true :: ms, _, _, _, .io h1 h2 t => by
    obtain ⟨vs1, vs2, ds1, ds2, rfl, rfl, e3, e4, e5, e6, e7⟩ := RA.split t
    exact ⟨_ :: vs1, vs2, _ :: ds1, ds2, rfl, rfl, congrArg Nat.succ e3, congrArg Nat.succ e4, .io h1 h2 e5, e6, e7⟩
theorem RA.join : ∀ {ms : List Bool} {vs1 vs2 : List V} {ds1 ds2 : List D} {as : List Addr}, RA K mg G H ms vs1 ds1 as → RL K mg G vs2 ds2 → RA K mg G H (ms ++ List.replicate vs2.length false) (vs1 ++ vs2) (ds1 ++ ds2) as
  | _, _, vs2, _, ds2, _, .nil, t => by
    have key : ∀ {vs2 : List V} {ds2 : List D}, RL K mg G vs2 ds2 → RA K mg G H (List.replicate vs2.length false) vs2 ds2 [] := by
      intro vs2 ds2 h
      induction vs2 generalizing ds2 with
      | nil =>
        cases h
        exact .nil
      | cons v vs ih =>
        cases h with
        | cons h t => exact .sh h (ih t)
    exact key t
  | _, _, _, _, _, _, .sh h r, t => .sh h (RA.join r t)
  | _, _, _, _, _, _, .io h1 h2 r, t => .io h1 h2 (RA.join r t)
/-- by something new -/
theorem RA.grow {G' H' : Hp} (s : Same G G') (hs : Same H H') (n : ∀ b o, H b = some o → G' b = G b) : ∀ {ms : List Bool} {vs : List V} {ds : List D} {as : List Addr}, RA K mg G H ms vs ds as → RA K mg G' H' ms vs ds as
  | _, _, _, _, .nil => .nil
  | _, _, _, _, .sh h r => .sh (h.mono s) (RA.grow s hs n r)
  | _, _, _, _, .io h1 h2 r => by
    obtain ⟨o, ho⟩ := h2.ex
    exact .io ((n _ o ho).trans h1) (h2.mono s ((hs _ _ ho).trans ho.symm)) (RA.grow s hs n r)
theorem RL.split : ∀ {vs us : List V} {ds : List D}, RL K mg G (vs ++ us) ds → ∃ d1 d2, ds = d1 ++ d2 ∧ RL K mg G vs d1 ∧ RL K mg G us d2
  | [], _, ds, h => ⟨[], ds, rfl, .nil, h⟩
  | v :: vs, us, _, .cons h t => by
    obtain ⟨d1, d2, rfl, h1, h2⟩ := RL.split t
    exact ⟨_ :: d1, d2, rfl, .cons h h1, h2⟩
theorem RL.pick {vs : List V} {ds : List D} (h : RL K mg G vs ds) : ∀ is : List Nat, RL K mg G (PV.pick is vs) (PV.pick is ds)
  | [] => .nil
  | i :: is => by
    unfold PV.pick
    rw [List.filterMap_cons, List.filterMap_cons]
    cases e : vs[i]? with
    | none =>
      have : ds[i]? = none := by
        rw [List.getElem?_eq_none_iff] at e ⊢
        rw [← h.length]
        exact e
      rw [this]
      exact RL.pick h is
    | some v =>
      obtain ⟨d, e2, r⟩ := h.gets e
      rw [e2]
      exact .cons r (RL.pick h is)
theorem pick_len {α : Type} {xs : List α} : ∀ {is : List Nat}, (∀ i ∈ is, i < xs.length) → (PV.pick is xs).length = is.length
  | [], _ => rfl
  | i :: is, h => by
    unfold PV.pick
    rw [List.filterMap_cons, List.getElem?_eq_getElem (h i (List.Mem.head _))]
    exact congrArg Nat.succ (pick_len fun j hj => h j (List.Mem.tail _ hj))
end
end PV
namespace PV
open PySem PySem.Spec PyProof.Rows L2 VK
section
variable {P : Program} {w : World} {K : PySem.W.Frag} {mg : Str → Option Value} {base : Heap}
theorem EndM.grow {G H G' H' : Hp} {as : List Addr} {Q : VK} {E : XK} (s : Same G G') (hs : Same H H') (n : ∀ b, G' b ≠ none → G b ≠ none ∨ H b = none) (n2 : ∀ b, H' b = none → H b = none) (lv : ∀ b, H b ≠ none → H' b ≠ none) : ∀ {r : MR}, EndM K mg G H as Q E r → EndM K mg G' H' as Q E r := by
  intro r q
  have up : ∀ {G2 H2 : Hp}, Aft G' H' as G2 H2 → Aft G H as G2 H2 := fun A => ⟨fun b o m e => A.off b o m (hs b o e), fun b m => A.live b (lv b m), s.trans A.fr, A.same, fun b m => by
    rcases A.new b m with z | z
    · exact n b z
    · exact .inr (n2 b z)⟩
  cases r with
  | val d cs => exact fun v H2 G2 A c hr => q v H2 G2 (up A) c hr
  | exc c fs cs => exact fun cls dx H2 G2 A cc x => q cls dx H2 G2 (up A) cc x
  | bad => exact q
theorem fnA_star {x qual : Str} {st : Stmt} {f : Addr} {fd : FuncData} {dvs : List V} {kws : List (Str × V)} {N ps ks : List Str} {pv : Str} {k : Nat} {ms : List Bool} {fM : M Fl} {perm : List Nat} {dds : List V} {dd : List D} (F : FunD K x qual (defArgs st) (defBody st) (defScope st) dvs kws f fd) (S : FnScope N (ps ++ [pv]) (defScope st))
    (hb : BindA K fd ms.length true ks ps pv perm dds) (hd : ∀ G, RL K mg G dds dd) (hp : ∀ i ∈ perm, i < ks.length + dds.length) (hl : ps.length = ms.length + perm.length)
    (hbody : ∀ (cdv : Value) (A : Around) (outer : List Env) (s : Shared) (H : Hp) (E : XK) (Z : Zone), Room k (A.deeper (envOfC qual (defScope st) s.heap.objs.size f cdv)) → (A.deeper (envOfC qual (defScope st) s.heap.objs.size f cdv)).guards = some [] →
      PCs (cxOf (L2.CX P w) P w K mg base N qual (defScope st) f cdv A outer s H E) Z (WE E) (defBody st) fM) : FnA P w K mg base (k + 1) f ks ms (mdA true ms perm dd N.length fM) := by
  constructor
  intro A outer s H us ws vs zs Q E hr hgd e0 r1 r2 hz ⟨G, ds, as, sm, ra, nd, q⟩
  obtain ⟨oc, od, dV, kV, doc, pm, an, cdv, ct, osl, rfl, lk, hcd, hD, hK⟩ := F.ex
  obtain ⟨vs1, vs2, ds1, ds2, e1, rfl, l1, l2, ra1, rl2, l3⟩ := RA.split ra
  have hle : vs1.length ≤ vs.length := by
    have := congrArg List.length e1
    rw [List.length_append, List.length_append] at this
    omega
  obtain ⟨rest, rfl, e2⟩ : ∃ rest, vs = vs1 ++ rest ∧ vs2 = rest ++ zs := by
    have e3 : vs = vs1 ++ vs.drop vs1.length := by
      have h1 := congrArg (List.take vs1.length) e1
      rw [List.take_append_of_le_length hle, List.take_left'] at h1
      · have h2 := List.take_append_drop vs1.length vs
        rw [h1] at h2
        exact h2.symm
      · rfl
    refine ⟨vs.drop vs1.length, e3, ?_⟩
    have h2 := congrArg (List.drop vs1.length) e1
    rw [List.drop_append_of_le_length hle, List.drop_left'] at h2
    · exact h2.symm
    · rfl
  subst e2
  obtain ⟨dr, dz, rfl, rlr, rlz⟩ := RL.split rl2
  obtain ⟨u1, u2, rfl, ru1, ru2⟩ := StX.vals_split r1
  have lr : rest.length = dr.length := rlr.length
  -- the model
  have t1 : (ds1 ++ (dr ++ dz)).take (vs1 ++ rest).length = ds1 ++ dr := by
    rw [← List.append_assoc, List.take_left']
    rw [List.length_append, List.length_append, l1, l2, lr]
  have t2 : (ds1 ++ (dr ++ dz)).drop (vs1 ++ rest).length = dz := by
    rw [← List.append_assoc, List.drop_left']
    rw [List.length_append, List.length_append, l1, l2, lr]
  have t3 : (ds1 ++ dr).drop ms.length = dr := List.drop_left' l2
  have t4 : (ds1 ++ (dr ++ dz)).take ms.length = ds1 := List.take_left' l2
  simp only [mdA, t1, t2, t3, t4] at q
  by_cases hsz : dr.length ≤ sizeLine
  · rw [if_pos hsz] at q
    have hn : H s.heap.objs.size = none := e0.hok.fresh (Nat.le_refl _)
    have hl1 : u1.length = ms.length := by rw [← ru1.length]; exact l1
    have hl2 : u2.length ≤ sizeLine := by rw [← ru2.length, lr]; exact hsz
    have hok : K.In s.heap := e0.mod.kin.keeps fun b o e => (e0.bs b o e).1
    refine StX.run_bnd (k := k) lk hcd S hr e0 (G := fun xs H2 => ∃ p mvV, H p = none ∧ mvV = dds ∧ xs = vs1 ++ PV.pick perm (zs ++ mvV) ++ [V.ref p] ∧ H2 = upd H p (.tup rest)) (fun A' Ex Q' h => ?_) fun s2 H2 xs ⟨p, mvV, hp0, emv, ex, eH⟩ hr' => ?_
    · refine hb (model P w) A' Ex s u1 u2 ws Q' hok hl1 (r2.length.symm.trans hz) (fun z => nomatch z) fun mv rmv => ?_
      refine wpAny_bind (wpAny_newTuple (wpAny_pure ?_) hl2)
      have new : ObjOk P w (upd H s.heap.objs.size (.tup rest)) (s.heap.push ({ cls := .type "tuple", data := .seq u2.toArray } : Obj)) s.heap.objs.size (.tup rest) := ⟨by rw [lr]; exact hsz, u2, ru2, ⟨_, Heap.get?_push_size _ rfl, rfl, _, rfl⟩⟩
      have un := StX.un_laid (fs := frs outer) (s := s) (o := ({ cls := .type "tuple", data := .seq u2.toArray } : Obj)) (u := .tup rest) hn
      have rp : Vals (PV.pick perm (zs ++ dds)) (PV.pick perm (ws ++ mv)) := Vals.pick (r2.append rmv) perm
      have z := h _ _ (vs1 ++ PV.pick perm (zs ++ dds) ++ [V.ref s.heap.objs.size]) (u1 ++ PV.pick perm (ws ++ mv) ++ [Value.ref s.heap.objs.size]) (StX.env0_laid e0 new) un rfl (fun e s' => StX.cxUp outer s H _ _ E e s' un (fun b o q => Heap.get?_push_of_some _ q) rfl) ((ru1.append rp).append (.cons rfl .nil))
        (by rw [List.length_append, List.length_append, List.length_append, l1, pick_len (fun i hi => by rw [List.length_append, hz]; exact hp i hi), hl] <;> rfl) ⟨_, _, hn, rfl, rfl, rfl⟩
      have hpl : ps.length = (u1 ++ PV.pick perm (ws ++ mv)).length := by
        rw [List.length_append, hl1, pick_len (fun i hi => by rw [List.length_append, ← r2.length, hz, ← rmv.length]; exact hp i hi), hl]
      rw [List.zip_append hpl] at z
      exact z
    · subst emv ex eH
      have s1 : Same H (upd H p (.tup rest)) := same_new hp0
      have np : G p = none := sm.free hp0
      have s2' : Same G (upd G p (.tup rest)) := same_new np
      have grow := ra1.grow (G' := upd G p (.tup rest)) (H' := upd H p (.tup rest)) s2' s1 (fun b o e => upd_ne (fun z => by rw [z, hp0] at e; cases e))
      have rt : R K mg (upd G p (.tup rest)) (.ref p) (.tup dr) := .tup (.inl (.inl upd_same)) (rlr.mono s2')
      have rtail : RL K mg (upd G p (.tup rest)) (PV.pick perm (zs ++ mvV) ++ [V.ref p]) (PV.pick perm (dz ++ dd) ++ [.tup dr]) := .append (.pick (.append (rlz.mono s2') (hd _)) perm) (.one rt)
      have rall := grow.join rtail
      have hpk : (PV.pick perm (zs ++ mvV) ++ [V.ref p]).length = perm.length + 1 := by
        rw [List.length_append, pick_len (fun i hi => by rw [List.length_append, hz]; exact hp i hi)]
        rfl
      rw [hpk, ← List.append_assoc, ← List.append_assoc] at rall
      have q2 := EndM.grow (G' := upd G p (.tup rest)) (H' := upd H p (.tup rest)) s2' s1 (fun b m => by
        by_cases hb : b = p
        · exact .inr (by rw [hb]; exact hp0)
        · rw [upd_ne hb] at m
          exact .inl m) (fun b m => by
        by_cases hb : b = p
        · rw [hb, upd_same] at m
          cases m
        · rw [upd_ne hb] at m
          exact m) (fun b m => by
        by_cases hb : b = p
        · rw [hb, upd_same]
          intro z
          cases z
        · rw [upd_ne hb]
          exact m) q
      have sm2 : Same (upd G p (.tup rest)) (upd H p (.tup rest)) := fun b o e => by
        by_cases hb : b = p
        · rw [hb, upd_same] at e ⊢
          exact e
        · rw [upd_ne hb] at e ⊢
          exact sm b o e
      have hlen : (vs1 ++ PV.pick perm (zs ++ mvV) ++ [V.ref p]).length ≤ N.length := by
        have h2 := pre_len S
        rw [List.length_append] at h2
        rw [List.length_append, List.length_append, pick_len (fun i hi => by rw [List.length_append, hz]; exact hp i hi), l1]
        have h3 : ([V.ref p] : List V).length = 1 := rfl
        have h4 : [pv].length = 1 := rfl
        omega
      refine ⟨_, hbody cdv A outer s2 (upd H p (.tup rest)) E (zoneOf (ms ++ List.replicate (perm.length + 1) false) (vs1 ++ PV.pick perm (zs ++ mvV) ++ [V.ref p]) (upd G p (.tup rest)) (upd H p (.tup rest))) hr' hgd, _, _, rel_start rall nd sm2 hlen, run_post (P := P) (w := w) rall (fun _ _ _ _ h => h) q2⟩
  · rw [if_neg hsz] at q
    exact q.elim
theorem fnA_plain {x qual : Str} {st : Stmt} {f : Addr} {fd : FuncData} {dvs : List V} {kws : List (Str × V)} {N ps ks : List Str} {pv : Str} {k : Nat} {ms : List Bool} {fM : M Fl} {perm : List Nat} {dds : List V} {dd : List D} (F : FunD K x qual (defArgs st) (defBody st) (defScope st) dvs kws f fd) (S : FnScope N ps (defScope st))
    (hb : BindA K fd ms.length false ks ps pv perm dds) (hd : ∀ G, RL K mg G dds dd) (hp : ∀ i ∈ perm, i < ks.length + dds.length) (hl : ps.length = ms.length + perm.length)
    (hbody : ∀ (cdv : Value) (A : Around) (outer : List Env) (s : Shared) (H : Hp) (E : XK) (Z : Zone), Room k (A.deeper (envOfC qual (defScope st) s.heap.objs.size f cdv)) → (A.deeper (envOfC qual (defScope st) s.heap.objs.size f cdv)).guards = some [] →
      PCs (cxOf (L2.CX P w) P w K mg base N qual (defScope st) f cdv A outer s H E) Z (WE E) (defBody st) fM) : FnA P w K mg base (k + 1) f ks ms (mdA false ms perm dd N.length fM) := by
  constructor
  intro A outer s H us ws vs zs Q E hr hgd e0 r1 r2 hz ⟨G, ds, as, sm, ra, nd, q⟩
  obtain ⟨oc, od, dV, kV, doc, pm, an, cdv, ct, osl, rfl, lk, hcd, hD, hK⟩ := F.ex
  simp only [mdA] at q
  by_cases hnp : vs.length = ms.length
  · rw [if_pos hnp] at q
    have e0' : msA ms vs.length zs.length = ms ++ List.replicate zs.length false := by
      unfold msA
      rw [hnp, Nat.sub_self, Nat.zero_add]
    rw [e0'] at ra
    obtain ⟨vs1, vs2, ds1, ds2, e1, rfl, l1, l2, ra1, rl2, l3⟩ := RA.split ra
    obtain ⟨rfl, rfl⟩ := List.append_inj e1 (hnp.trans l1.symm)
    have t2 : (ds1 ++ ds2).drop vs.length = ds2 := List.drop_left' (l2.trans l1.symm)
    have t4 : (ds1 ++ ds2).take ms.length = ds1 := List.take_left' l2
    rw [t2, t4] at q
    have hl1 : us.length = ms.length := by rw [← r1.length]; exact l1
    have hok : K.In s.heap := e0.mod.kin.keeps fun b o e => (e0.bs b o e).1
    refine StX.run_bnd (k := k) lk hcd S hr e0 (G := fun xs H2 => xs = vs ++ PV.pick perm (zs ++ dds) ∧ H2 = H) (fun A' Ex Q' h => ?_) fun s2 H2 xs ⟨ex, eH⟩ hr' => ?_
    · have := hb (model P w) A' Ex s us [] ws Q' hok hl1 (r2.length.symm.trans hz) (fun _ => rfl) fun mv rmv => ?_
      · rw [List.append_nil] at this
        exact this
      · have rp : Vals (PV.pick perm (zs ++ dds)) (PV.pick perm (ws ++ mv)) := Vals.pick (r2.append rmv) perm
        exact wpAny_pure (h s H (vs ++ PV.pick perm (zs ++ dds)) (us ++ PV.pick perm (ws ++ mv)) e0 (Un.refl ..) rfl (fun _ _ z => z) (r1.append rp) (by rw [List.length_append, l1, pick_len (fun i hi => by rw [List.length_append, hz]; exact hp i hi), hl]) ⟨rfl, rfl⟩)
    · subst ex eH
      have rall := ra1.join (RL.pick (RL.append rl2 (hd G)) perm)
      have hpk : (PV.pick perm (zs ++ dds)).length = perm.length := pick_len (fun i hi => by rw [List.length_append, hz]; exact hp i hi)
      rw [hpk] at rall
      have hlen : (vs ++ PV.pick perm (zs ++ dds)).length ≤ N.length := by
        rw [List.length_append, hpk, l1, ← hl]
        exact pre_len S
      exact ⟨_, hbody cdv A outer s2 H2 E (zoneOf (ms ++ List.replicate perm.length false) (vs ++ PV.pick perm (zs ++ dds)) G H2) hr' hgd, _, _, rel_start rall nd sm hlen, run_post (P := P) (w := w) rall (fun _ _ _ _ h => h) q⟩
  · rw [if_neg hnp] at q
    exact q.elim
end
end PV
namespace PV
open PySem PySem.Spec PyProof.Rows L2 VK
/-! ### arguments of all kinds -/
section
variable {M : Model} {A : Around} {E : Value → Shared → Prop} {s : Shared}
theorem evalArgs_gen {f : Value} {args : List (Bool × Sem Value)} {keywords : List (Option Str × Sem Value)} {Q : Args → Shared → Prop} (hn : ∀ x, args ≠ [(true, x)]) (hall : keywords.all (·.1.isSome) = true)
    (h : wpAny M A (spliced args) (fun vs s₁ => wpAny M A (evalAll (keywords.map (·.2))) (fun ks s₂ => Q ⟨vs, (keywords.filterMap (·.1)).zip ks⟩ s₂) E s₁) E s) :
    wpAny M A (evalArgs f true args keywords) Q E s := by
  match args, hn, h with
  | [], _, h =>
    unfold evalArgs
    show wpAny M A (spliced [] >>= _) Q E s
    refine wpAny_bind (wpAny_mono h (fun vs s₁ h₁ => ?_) fun _ _ x => x)
    refine wpAny_bind (wpAny_pure ?_)
    refine wpAny_holding ?_
    simp only [hall, if_true]
    refine wpAny_bind (wpAny_mono h₁ (fun ks s₂ h₂ => ?_) fun _ _ x => x)
    exact wpAny_bind (wpAny_pure (wpAny_pure h₂))
  | (false, x) :: r, _, h => exact evalArgs_kw hall h
  | [(true, x)], hn, _ => exact (hn x rfl).elim
  | (true, x) :: y :: r, _, h =>
    unfold evalArgs
    show wpAny M A (spliced ((true, x) :: y :: r) >>= _) Q E s
    refine wpAny_bind (wpAny_mono h (fun vs s₁ h₁ => ?_) fun _ _ x => x)
    refine wpAny_holding ?_
    simp only [hall, if_true]
    refine wpAny_bind (wpAny_mono h₁ (fun ks s₂ h₂ => ?_) fun _ _ x => x)
    exact wpAny_bind (wpAny_pure (wpAny_pure h₂))
theorem evalArgs_lone {f : Value} {x : Sem Value} {pos : Pos} {keywords : List (Option Str × Sem Value)} {Q : Args → Shared → Prop} (hall : keywords.all (·.1.isSome) = true)
    (h : wpAny M A x (fun v s₁ => wpAny M A (evalAll (keywords.map (·.2))) (fun ks s₂ => PySem.W.StarOf M A E v (fun vs s₃ => Q ⟨vs, (keywords.filterMap (·.1)).zip ks⟩ s₃) s₂) E s₁) E s) :
    wpAny M A (evalArgs f true [(true, (do let v ← x; standAt pos; pure v))] keywords) Q E s := by
  unfold evalArgs
  first
    | refine wpAny_bind (wpAny_bind (wpAny_mono h (fun v s₁ h₁ => wpAny_bind (wpAny_standAt (wpAny_pure ?_))) fun _ _ x => x))
    | refine wpAny_bind (wpAny_bind (wpAny_bind (wpAny_mono h (fun v s₁ h₁ => wpAny_bind (wpAny_standAt (wpAny_pure (wpAny_pure ?_)))) fun _ _ x => x)))
  refine wpAny_holding ?_
  simp only [hall, if_true]
  refine wpAny_bind (wpAny_mono h₁ (fun ks s₂ h₂ => ?_) fun _ _ x => x)
  unfold PySem.W.StarOf at h₂
  refine wpAny_bind (wpAny_bind (wpAny_mono h₂ (fun b s₃ h₃ => ?_) fun _ _ x => x))
  obtain ⟨rfl, h₃⟩ := h₃
  have z := wpAny_holding (vs := ((keywords.filterMap (·.1)).zip ks).map (·.2)) (wpAny_mono h₃ (fun vs s₄ h₄ => (wpAny_pure h₄ : wpAny M A (pure (⟨vs, (keywords.filterMap (·.1)).zip ks⟩ : Args)) Q E s₄)) fun _ _ x => x)
  try simp only [Bool.false_eq_true, if_false]
  first
    | exact z
    | exact wpAny_bind (wpAny_pure z)
theorem callWith_gen {pos : Pos} {f : Value} {first : List Value} {args : List (Bool × Sem Value)} {keywords : List (Option Str × Sem Value)} {Q : Value → Shared → Prop} (hall : keywords.any (·.1.isNone) = false)
    (h : wpAny M A (evalArgs f true args keywords) (fun a s₁ => (∃ k, (k = Keeper.frame ∨ k = Keeper.machine ∨ k = Keeper.boundFrame) ∧ PySem.W.Looks M s₁.heap (keeperOf f) k) ∧ wpAny M A (call f (first ++ a.pos) a.kw) Q E s₁) E s) : wpAny M A (callWith pos f first args keywords) Q E s := by
  cases hst : args.any (·.1) with
  | false =>
    unfold callWith
    refine wpAny_bind (wpAny_holding (wpAny_mono h (fun a s₁ h₁ => wpAny_bind (wpAny_standAt ?_)) fun _ _ x => x))
    obtain ⟨k, hk', L⟩ := h₁.1
    simp only [hst, hall, Bool.or_false]
    refine wpAny_bind (L.here ?_)
    have tail : ∀ {t : Sem Value}, wpAny M A t Q E s₁ → wpAny M A (t >>= fun r => holding [r] point >>= fun _ => pure r) Q E s₁ :=
      fun ht => wpAny_bind (wpAny_mono ht (fun r s₂ hr => wpAny_bind (wpAny_holding (wpAny_point (wpAny_pure hr)))) fun _ _ x => x)
    have marked (mk : Value) : wpAny M A (callMarked mk f (first ++ a.pos) a.kw) Q E s₁ := by unfold callMarked; exact Calls.wpAny_keep h₁.2
    rcases hk' with rfl | rfl | rfl <;> dsimp only <;> first | exact tail h₁.2 | (split <;> first | exact tail h₁.2 | exact tail (marked _))
  | true =>
    unfold callWith
    refine wpAny_bind (wpAny_holding (wpAny_mono h (fun a s₁ h₁ => wpAny_bind (wpAny_standAt ?_)) fun _ _ x => x))
    obtain ⟨k, hk', L⟩ := h₁.1
    simp only [hst, Bool.true_or]
    refine wpAny_bind (L.here ?_)
    have tail : ∀ {t : Sem Value}, wpAny M A t Q E s₁ → wpAny M A (t >>= fun r => holding [r] point >>= fun _ => pure r) Q E s₁ :=
      fun ht => wpAny_bind (wpAny_mono ht (fun r s₂ hr => wpAny_bind (wpAny_holding (wpAny_point (wpAny_pure hr)))) fun _ _ x => x)
    have marked (mk : Value) : wpAny M A (callMarked mk f (first ++ a.pos) a.kw) Q E s₁ := by unfold callMarked; exact Calls.wpAny_keep h₁.2
    rcases hk' with rfl | rfl | rfl <;> dsimp only <;> first | exact tail (marked _) | exact tail (wpAny_operating h₁.2)
theorem all_none {l : List (Option Str × Sem Value)} (h : l.all (·.1.isSome) = true) : l.any (·.1.isNone) = false := by
  induction l with
  | nil => rfl
  | cons a r ih =>
    rw [List.all_cons, Bool.and_eq_true] at h
    rw [List.any_cons, ih h.2, Bool.or_false]
    cases q : a.1 with
    | none =>
      rw [q] at h
      exact absurd h.1 (by decide)
    | some _ => rfl
end
abbrev A2 := List AV × List AV
def tArgs (K : PySem.W.Frag) (mg : Str → Option Value) (Z : Zone) (W : WX) (fa : M A2) : L2.St → Hp → (List V → List V → Hp → Prop) → Prop := fun σ H Qv => ∃ ρ F, Rel K mg Z σ H ρ F ∧ Post K mg Z W σ H ρ F (fa ρ) fun xz H' _ F' => ∀ vs zs, ARL K mg F' σ vs xz.1 → ARL K mg F' σ zs xz.2 → Qv vs zs H'
def KeepsF (X : Cx) (f : Value) (h : Heap) : Prop := ∃ k, (k = Keeper.frame ∨ k = Keeper.machine ∨ k = Keeper.boundFrame) ∧ PySem.W.Looks (model X.prog X.w) h (keeperOf f) k
/-- arguments, positional ones and keywords -/
def PArgs (X : Cx) (Z : Zone) (W : WX) (ks : List Str) (es : List Expr) (kws : List Keyword) (fa : M A2) : Prop := ∀ (pos : Pos) (pins : List (Addr × Obj)) (s : Shared) (σ : L2.St) (H : Hp) (Qv : List V → List V → Hp → Prop) (f : Value) (first : List Value) (R : Value → Shared → Prop),
  Inv X pins σ H s → tArgs X.K X.mg Z W fa σ H Qv →
  (∀ us ws vs zs s2 H2, Inv X pins σ H2 s2 → Vals vs us → Vals zs ws → Qv vs zs H2 → KeepsF X f s2.heap ∧ wpAny (model X.prog X.w) X.A (call f (first ++ us) (ks.zip ws)) R X.xe s2) →
  wpAny (model X.prog X.w) X.A (callWith pos f first (backTo pos (starEach es X.env)) (backToKw pos (keywordEach kws X.env))) R X.xe s
def aGen (nk : Nat) (fs gs : M (List AV)) : M A2 := fun ρ => (fs ρ).bind fun xs ρ1 => (gs ρ1).bind fun zs ρ2 => if zs.length = nk then .val (xs, zs) ρ2 else .bad
/-- *e, .. -/
def eLs (f : M AV) (g : M (List AV)) : M (List AV) := fun ρ => (f.st ρ).bind fun d ρ1 => match seqOf d with
  | some xs => (g ρ1).bind fun ys ρ2 => .val (xs.map .d ++ ys) ρ2
  | none => .bad
section
variable {X : Cx} {Z : Zone} {W : WX} {ks : List Str} {e : Expr} {es : List Expr} {kws : List Keyword} {f : M AV} {fs gs : M (List AV)} {p : Pos}
theorem ARL.ofR {K : PySem.W.Frag} {mg : Str → Option Value} {F : Hp} {σ : L2.St} : ∀ {vs : List V} {ds : List D}, RL K mg F vs ds → ARL K mg F σ vs (ds.map .d)
  | _, _, .nil => .nil
  | _, _, .cons h t => .cons h (ARL.ofR t)
theorem ARL.append {K : PySem.W.Frag} {mg : Str → Option Value} {F : Hp} {σ : L2.St} : ∀ {vs us : List V} {xs ys : List AV}, ARL K mg F σ vs xs → ARL K mg F σ us ys → ARL K mg F σ (vs ++ us) (xs ++ ys)
  | _, _, _, _, .nil, s => s
  | _, _, _, _, .cons h t, s => .cons h (ARL.append t s)
theorem seq_R {K : PySem.W.Frag} {mg : Str → Option Value} {F : Hp} {v : V} {d : D} {xs : List D} (h : R K mg F v d) (e : seqOf d = some xs) : ∃ a vs, v = .ref a ∧ (SqT K F a vs ∨ SqL K F a vs) ∧ RL K mg F vs xs := by
  cases h with
  | lst h1 h2 =>
    cases e
    exact ⟨_, _, rfl, .inr (.inl (.inl h1)), h2⟩
  | tup h1 h2 =>
    cases e
    exact ⟨_, _, rfl, .inl h1, h2⟩
  | _ => cases e
theorem el_star (h : PV X Z W e f) (t : PL X Z W es fs) (hs : starEach (.Starred e p :: es) X.env = (true, eval e X.env) :: starEach es X.env := by rfl) : PL X Z W (.Starred e p :: es) (eLs f fs) :=
  PA.weak (StX.pa_star (PV.st h) t hs) fun σ H Q ⟨ρ, F, r, q⟩ => ⟨ρ, F, r, (Post.bind q).imp fun d H1 ρ1 F1 g1 q1 v hv => by
    cases hd : seqOf d with
    | none =>
      simp only [hd] at q1
      exact q1.elim
    | some xs =>
      simp only [hd] at q1
      obtain ⟨a, vs, rfl, hsq, hrl⟩ := seq_R hv hd
      refine ⟨a, vs, rfl, ?_, ρ1, F1, g1.rel, (Post.bind q1).imp fun ys H2 ρ2 F2 g2 q2 us hus => ?_⟩
      · rcases hsq with h | h
        · exact .inl (same_seqT g1.rel.same h)
        · exact .inr (g1.rel.same.seq h)
      · exact q2 H2 F2 (.refl g2.rel) _ (.append (.ofR (hrl.mono g2.fr)) hus)⟩
theorem pargs_gen (ha : PL X Z W es fs) (hk : PLK X Z W kws gs) (hlone : ∀ x, starEach es X.env ≠ [(true, x)]) (hall : ∀ pos, (backToKw pos (keywordEach kws X.env)).all (·.1.isSome) = true := by intro _; rfl) (hks : ∀ pos, (backToKw pos (keywordEach kws X.env)).filterMap (·.1) = ks := by intro _; rfl) :
    PArgs X Z W ks es kws (aGen ks.length fs gs) := by
  intro pos pins s σ H Qv f first Rr I ⟨ρ, F, r, q⟩ hc
  refine callWith_gen (all_none (hall pos)) (evalArgs_gen (fun x hx => ?_) (hall pos) ?_)
  · cases hq : starEach es X.env with
    | nil =>
      rw [hq] at hx
      cases hx
    | cons a l =>
      rw [hq] at hx
      cases l with
      | cons b l => simp [backTo] at hx
      | nil =>
        obtain ⟨b, y⟩ := a
        cases b with
        | true => exact hlone y hq
        | false => simp [backTo] at hx
  · refine thn (ha.run pos pins s σ H (fun vs H1 => ∃ ρ1 xs F1, Rel X.K X.mg Z σ H1 ρ1 F1 ∧ ARL X.K X.mg F1 σ vs xs ∧ Post X.K X.mg Z W σ H1 ρ1 F1 ((gs ρ1).bind fun zs ρ2 => if zs.length = ks.length then .val (xs, zs) ρ2 else .bad) fun xz H' _ F' => ∀ vs zs, ARL X.K X.mg F' σ vs xz.1 → ARL X.K X.mg F' σ zs xz.2 → Qv vs zs H') I ⟨ρ, F, r, (Post.bind q).imp fun xs H1 ρ1 F1 g1 q1 vs hv => ⟨ρ1, xs, F1, g1.rel, hv, q1⟩⟩) fun us s1 ⟨vs, H1, I1, rv, ρ1, xs, F1, r1, hv, q1⟩ => ?_
    refine thn (hk.run pos pins s1 σ H1 (fun zs H2 => Qv vs zs H2) I1 ⟨ρ1, F1, r1, (Post.bind q1).imp fun zs H2 ρ2 F2 g2 q2 zv hz => ?_⟩) fun ws s2 ⟨zv, H2, I2, rz, q3⟩ => ?_
    · by_cases c : zs.length = ks.length
      · rw [if_pos c] at q2
        exact q2 H2 F2 (.refl g2.rel) vs zv (hv.go g2.fr) hz
      · rw [if_neg c] at q2
        exact q2.elim
    · rw [hks pos]
      exact hc us ws vs zv s2 H2 I2 rv rz q3
theorem pargs_lone (he : PV X Z W e f) (hk : PLK X Z W kws gs) (hst : starEach [.Starred e p] X.env = [(true, eval e X.env)] := by rfl) (hall : ∀ pos, (backToKw pos (keywordEach kws X.env)).all (·.1.isSome) = true := by intro _; rfl) (hks : ∀ pos, (backToKw pos (keywordEach kws X.env)).filterMap (·.1) = ks := by intro _; rfl) :
    PArgs X Z W ks [.Starred e p] kws (aGen ks.length (eLs f eL0) gs) := by
  intro pos pins s σ H Qv fv first Rr I ⟨ρ, F, r, q⟩ hc
  rw [hst]
  refine callWith_gen (all_none (hall pos)) (evalArgs_lone (hall pos) ?_)
  have q' : Post X.K X.mg Z W σ H ρ F ((f.st ρ).bind fun d ρ1 => match seqOf d with
      | some xs => (gs ρ1).bind fun zs ρ2 => if zs.length = ks.length then .val (xs.map .d ++ [], zs) ρ2 else .bad
      | none => .bad) fun xz H' _ F' => ∀ vs zs, ARL X.K X.mg F' σ vs xz.1 → ARL X.K X.mg F' σ zs xz.2 → Qv vs zs H' := by
    have e1 : aGen ks.length (eLs f eL0) gs ρ = ((f.st ρ).bind fun d ρ1 => match seqOf d with
      | some xs => (gs ρ1).bind fun zs ρ2 => if zs.length = ks.length then .val (xs.map .d ++ [], zs) ρ2 else .bad
      | none => .bad) := by
      unfold aGen eLs
      cases f.st ρ with
      | bad => rfl
      | exc _ _ _ => rfl
      | val d ρ1 =>
        simp only [Res.bind_val]
        cases hd : seqOf d with
        | none => rfl
        | some xs => rfl
    rw [← e1]
    exact q
  refine thn ((PV.st he).run pins s σ H (fun v H1 => ∃ ρ1 xs F1 a vs, v = .ref a ∧ Rel X.K X.mg Z σ H1 ρ1 F1 ∧ (SqT X.K F1 a vs ∨ SqL X.K F1 a vs) ∧ RL X.K X.mg F1 vs xs ∧ Post X.K X.mg Z W σ H1 ρ1 F1 ((gs ρ1).bind fun zs ρ2 => if zs.length = ks.length then .val (xs.map .d ++ [], zs) ρ2 else .bad) fun xz H' _ F' => ∀ vs zs, ARL X.K X.mg F' σ vs xz.1 → ARL X.K X.mg F' σ zs xz.2 → Qv vs zs H') I ⟨ρ, F, r, (Post.bind q').imp fun d H1 ρ1 F1 g1 q1 v hv => ?_⟩) fun u s1 ⟨v, H1, I1, rv, ρ1, xs, F1, a, vs, ev, r1, hsq, hrl, q1⟩ => ?_
  · cases hd : seqOf d with
    | none =>
      simp only [hd] at q1
      exact q1.elim
    | some xs =>
      simp only [hd] at q1
      obtain ⟨a, vs, rfl, hsq, hrl⟩ := seq_R hv hd
      exact ⟨ρ1, xs, F1, a, vs, rfl, g1.rel, hsq, hrl, q1⟩
  · subst ev
    obtain rfl : u = Value.ref a := rv
    refine thn (hk.run pos pins s1 σ H1 (fun zs H2 => (SqT X.K H2 a vs ∨ SqL X.K H2 a vs) ∧ Qv vs zs H2) I1 ⟨ρ1, F1, r1, (Post.bind q1).imp fun zs H2 ρ2 F2 g2 q2 zv hz => ?_⟩) fun ws s2 ⟨zv, H2, I2, rz, hs2, q3⟩ => ?_
    · by_cases c : zs.length = ks.length
      · rw [if_pos c] at q2
        refine ⟨?_, q2 H2 F2 (.refl g2.rel) vs zv (by rw [List.append_nil]; exact .ofR (hrl.mono g2.fr)) hz⟩
        rcases hsq with h | h
        · exact .inl (same_seqT g2.rel.same (same_seqT g2.fr h))
        · exact .inr (g2.rel.same.seq (g2.fr.seq h))
      · rw [if_neg c] at q2
        exact q2.elim
    · refine StX.star_any I2 hs2 fun us s3 I3 rv3 => ?_
      rw [hks pos]
      exact hc us ws vs zv s3 H2 I3 rv3 rz q3
end
end PV
namespace PV
open PySem PySem.Spec PyProof.Rows L2 VK
section
variable {X : Cx} {Z : Zone} {W : WX} {k j : Nat} {f : Addr} {ks : List Str} {ms : List Bool} {Mf : Nat → Md}
theorem run_fnA {pins : List (Addr × Obj)} {σ : L2.St} {H : Hp} {s : Shared} {Q : VK} {us ws : List Value} {vs zs : List V} (F : FnA X.prog X.w X.K X.mg X.base k f ks ms Mf) (hr : Room k X.A) (hgd : X.A.guards = some []) (tk : Takes X W)
    (I : Inv X pins σ H s) (r : Vals vs us) (rz : Vals zs ws) (hz : zs.length = ks.length) (h : spD X.K X.mg (msA ms vs.length zs.length) (Mf vs.length) (vs ++ zs) H Q (fun cls d H' => W cls d σ H')) : wpAny (model X.prog X.w) X.A (call (.ref f) us (ks.zip ws)) (EP X pins σ Q) X.xe s := by
  refine wpAny_call (codeAny_mono (F.run X.A X.stack s H us ws vs zs Q _ hr hgd I.env0 r rz hz h) fun r s' hq => ?_)
  cases r with
  | error e => exact passAt tk σ pins H s e s' I hq
  | ok fl =>
    cases fl with
    | ret u => exact I.after hq
    | next => exact False.elim hq
    | brk => exact False.elim hq
    | cont => exact False.elim hq
end
def callA (ms : List Bool) (nk : Nat) (Mf : Nat → Md) (xz : A2) (ρ : En) : Res AV := if xz.2.length = nk then callM (msA ms xz.1.length xz.2.length) (Mf xz.1.length) (xz.1 ++ xz.2) ρ else .bad
def eCallA (ms : List Bool) (nk : Nat) (Mf : Nat → Md) (fa : M A2) : M AV := fun ρ => (fa ρ).bind fun xz ρ1 => callA ms nk Mf xz ρ1
section
variable {K : PySem.W.Frag} {mg : Str → Option Value} {Z : Zone} {σ : L2.St} {H F : Hp}
theorem callA_core {ms : List Bool} {nk : Nat} {Mf : Nat → Md} {W : WX} {ρ : En} {xz : A2} {vs zs : List V} {Q : VK} (r : Rel K mg Z σ H ρ F) (hv : ARL K mg F σ vs xz.1) (hz : ARL K mg F σ zs xz.2) (q : Post K mg Z W σ H ρ F (callA ms nk Mf xz ρ) fun x H' _ F' => ∀ v, AR K mg F' σ v x → Q v H') :
    zs.length = nk ∧ spD K mg (msA ms vs.length zs.length) (Mf vs.length) (vs ++ zs) H Q (fun cls d H' => W cls d σ H') := by
  unfold callA at q
  have l1 := hv.length
  have l2 := hz.length
  by_cases c : xz.2.length = nk
  · rw [if_pos c] at q
    rw [l1, l2]
    exact ⟨c, call_core r (hv.append hz) q⟩
  · rw [if_neg c] at q
    exact q.elim
end
theorem keepsF {X : Cx} {f : Value} (hk : PySem.W.keepIn X.K f = true) {pins : List (Addr × Obj)} {σ : L2.St} {H : Hp} {s : Shared} (I : Inv X pins σ H s) : KeepsF X f s.heap := PySem.W.keeps_K hk s.heap I.kIn
/-- a def of the module, called with the keywords ks -/
structure CalA (P : Program) (w : World) (K : PySem.W.Frag) (mg : Str → Option Value) (base : Heap) (k : Nat) (x : Str) (ks : List Str) (ms : List Bool) (Mf : Nat → Md) : Prop where
  ex : ∃ f, FnA P w K mg base k f ks ms Mf ∧ mg x = some (.ref f) ∧ PySem.W.keepIn K (.ref f) = true
section
variable {X : Cx} {Z : Zone} {W : WX} {k j : Nat} {x : Str} {ks : List Str} {ms : List Bool} {Mf : Nat → Md} {es : List Expr} {kws : List Keyword} {fa : M A2} {p pos : Pos}
theorem ev_callA (c : CalA X.prog X.w X.K X.mg X.base k x ks ms Mf) (hr : Room j X.A) (hgd : X.A.guards = some []) (hk : k ≤ j) (tk : Takes X W) (hg : Gl X x) (ha : PArgs X Z W ks es kws fa) (hdb : (x == ("__debug__" : Str)) = false := by decide) :
    PV X Z W (.Call (.Name x p) es kws pos) (eCallA ms ks.length Mf fa) := by
  obtain ⟨f, F, hm, kp⟩ := c.ex
  constructor
  intro pins s σ H Q I ⟨ρ, Fr, r, q⟩
  refine wpAny_Call_Name_kw (ld_glob I hg hm ?_ hdb)
  refine ha pos pins s σ H (fun vs zs H2 => zs.length = ks.length ∧ spD X.K X.mg (msA ms vs.length zs.length) (Mf vs.length) (vs ++ zs) H2 Q (fun cls d H' => W cls d σ H')) (.ref f) [] _ I ⟨ρ, Fr, r, (Post.bind q).imp fun xz H1 ρ1 F1 g1 q1 vs zs hv hz => callA_core g1.rel hv hz q1⟩ fun us ws vs zs s2 H2 I2 rv rz ⟨hl, hs⟩ => ⟨keepsF kp I2, ?_⟩
  exact run_fnA F (hr.mono hk) hgd tk I2 rv rz hl hs
end
/-! ### instances made -/
def madeR (r : MR) (ρ : En) : Res D := match r with
  | .val .non [o] => .val o ρ
  | .exc c fs [_] => .exc c fs ρ
  | _ => .bad
def makeA (c : Str) (ms : List Bool) (nk : Nat) (Mf : Nat → Md) (xz : A2) (ρ : En) : Res D := if xz.2.length = nk ∧ ms = [true] then (match frzL (xz.1 ++ xz.2) ρ with
  | some (ds, ρ2) => madeR (Mf (xz.1.length + 1) (.ins c [] :: ds)) ρ2
  | none => .bad) else .bad
def nMakeA (c : Str) (ms : List Bool) (nk : Nat) (Mf : Nat → Md) (fa : M A2) : M D := fun ρ => (fa ρ).bind fun xz ρ1 => makeA c ms nk Mf xz ρ1
/-- a class whose instances are made by this __init__ -/
structure MkA (P : Program) (w : World) (K : PySem.W.Frag) (mg : Str → Option Value) (base : Heap) (k : Nat) (c : Str) (ks : List Str) (ms : List Bool) (Mf : Nat → Md) : Prop where
  ex : ∃ C f, mg c = some (.ref C) ∧ Mk K C f ∧ FnA P w K mg base k f ks ms Mf
section
variable {X : Cx} {Z : Zone} {W : WX} {k j : Nat} {c x : Str} {ks : List Str} {ms : List Bool} {Mf : Nat → Md} {es : List Expr} {kws : List Keyword} {fa : M A2} {p pos : Pos}
theorem make_run {C f : Addr} {pins : List (Addr × Obj)} {σ : L2.St} {H : Hp} {s : Shared} {Q : VK} {us ws : List Value} {vs zs : List V} {ρ : En} {F : Hp} {xz : A2} (hm : X.mg c = some (.ref C)) (M : Mk X.K C f) (FA : FnA X.prog X.w X.K X.mg X.base k f ks ms Mf) (hr : Room (k + 1) X.A) (hgd : X.A.guards = some []) (tk : Takes X W) (I : Inv X pins σ H s) (rv : Vals vs us) (rz : Vals zs ws)
    (r : Rel X.K X.mg Z σ H ρ F) (hv : ARL X.K X.mg F σ vs xz.1) (hz : ARL X.K X.mg F σ zs xz.2)
    (q : Post X.K X.mg Z W σ H ρ F (makeA c ms ks.length Mf xz ρ) fun d H' ρ' F' => ∀ a, H a = none → Z.H0 a = none → F' a = none → Ct X.K X.mg F' H' a d → (∀ j e, (ρ'.at j).mu = some e → σ[j]? ≠ some (some (.ref a))) → Q (.ref a) H') :
    wpAny (model X.prog X.w) X.A (call (.ref C) us (ks.zip ws)) (EP X pins σ Q) X.xe s := by
  unfold makeA at q
  by_cases cc : xz.2.length = ks.length ∧ ms = [true]
  · obtain ⟨c1, rfl⟩ := cc
    rw [if_pos ⟨c1, rfl⟩] at q
    cases hf : frzL (xz.1 ++ xz.2) ρ with
    | none =>
      simp only [hf] at q
      exact q.elim
    | some z =>
      obtain ⟨ds, ρ2⟩ := z
      simp only [hf] at q
      obtain ⟨F1, g1, hrl⟩ := frzL_ok r (hv.append hz) hf
      have hx0 : H (s.heap.objs.size + 1) = none := I.hok.fresh (Nat.le_succ _)
      have hd0 : H s.heap.objs.size = none := I.hok.fresh (Nat.le_refl _)
      have hne : s.heap.objs.size ≠ s.heap.objs.size + 1 := Nat.ne_of_lt (Nat.lt_succ_self _)
      have I2 := Inv.made (C := C) I
      have l1 := hv.length
      have l2 := hz.length
      have fx : F1 (s.heap.objs.size + 1) = none := g1.rel.same.free hx0
      have sH : Same H (upd (upd H s.heap.objs.size (.own (s.heap.objs.size + 1))) (s.heap.objs.size + 1) (.ins C s.heap.objs.size [])) := fun b o e => by
        rw [upd_ne (ne_of_none e hx0), upd_ne (ne_of_none e hd0)]
        exact e
      have hsp : spD X.K X.mg (msA [true] (V.ref (s.heap.objs.size + 1) :: vs).length zs.length) (Mf (V.ref (s.heap.objs.size + 1) :: vs).length) ((V.ref (s.heap.objs.size + 1) :: vs) ++ zs) (upd (upd H s.heap.objs.size (.own (s.heap.objs.size + 1))) (s.heap.objs.size + 1) (.ins C s.heap.objs.size [])) (fun v H2 => v = .non ∧ Q (.ref (s.heap.objs.size + 1)) H2) (fun cls d H' => W cls d σ H') := by
        refine ⟨F1, .ins c [] :: ds, [s.heap.objs.size + 1], fun b o e => sH b o (g1.rel.same b o e), ?_, by simp, ?_⟩
        · have ra : RA X.K X.mg F1 (upd (upd H s.heap.objs.size (.own (s.heap.objs.size + 1))) (s.heap.objs.size + 1) (.ins C s.heap.objs.size [])) [true] [V.ref (s.heap.objs.size + 1)] [.ins c []] [s.heap.objs.size + 1] := .io fx ⟨C, _, [], upd_same, hm, .nil⟩ .nil
          have rj := ra.join hrl
          have el : (vs ++ zs).length = (V.ref (s.heap.objs.size + 1) :: vs).length - [true].length + zs.length := by
            rw [List.length_append, List.length_cons]
            rfl
          rw [el] at rj
          exact rj
        · have el : (V.ref (s.heap.objs.size + 1) :: vs).length = xz.1.length + 1 := by rw [List.length_cons, l1]
          rw [el]
          have old : ∀ {G2 H2 : Hp}, Aft F1 (upd (upd H s.heap.objs.size (.own (s.heap.objs.size + 1))) (s.heap.objs.size + 1) (.ins C s.heap.objs.size [])) [s.heap.objs.size + 1] G2 H2 → Same H H2 ∧ (∀ b, G2 b ≠ none → F1 b ≠ none ∨ H b = none) := fun A =>
            ⟨fun b o e => A.off b o (fun m => by rw [List.mem_singleton.mp m, hx0] at e; cases e) (sH b o e), fun b m => by
              rcases A.new b m with z | z
              · exact .inl z
              · refine .inr ?_
                by_cases h1 : b = s.heap.objs.size + 1
                · rw [h1]
                  exact hx0
                · rw [upd_ne h1] at z
                  by_cases h2 : b = s.heap.objs.size
                  · rw [h2]
                    exact hd0
                  · rw [upd_ne h2] at z
                    exact z⟩
          cases hM : Mf (xz.1.length + 1) (.ins c [] :: ds) with
          | bad =>
            rw [hM] at q
            exact q.elim
          | exc c' fs cs =>
            rw [hM] at q
            match cs, q with
            | [o], q =>
              intro cls dx H2 G2 A _ xr
              obtain ⟨s1, n1⟩ := old A
              exact q cls dx H2 G2 (g1.trans (.more g1.rel s1 A.fr A.same n1)) xr
            | [], q => exact q.elim
            | _ :: _ :: _, q => exact q.elim
          | val d cs =>
            rw [hM] at q
            match d, cs, q with
            | .non, [o], q =>
              intro v H2 G2 A ct hv2
              obtain ⟨s1, n1⟩ := old A
              have hv3 : v = .non := by cases hv2; rfl
              refine ⟨hv3, ?_⟩
              have gx : G2 (s.heap.objs.size + 1) = none := by
                cases hq : G2 (s.heap.objs.size + 1) with
                | none => rfl
                | some o' =>
                  rcases A.new _ (by rw [hq]; intro z; cases z) with z | z
                  · exact (z fx).elim
                  · rw [upd_same] at z
                    cases z
              exact q H2 G2 (g1.trans (.more g1.rel s1 A.fr A.same n1)) _ hx0 (g1.rel.h0 hx0) gx (ct.2 0 _ o rfl rfl) (new_ne g1.rel hx0)
            | .non, [], q => exact q.elim
            | .non, _ :: _ :: _, q => exact q.elim
            | .bl _, _, q => exact q.elim
            | .int _, _, q => exact q.elim
            | .str _, _, q => exact q.elim
            | .lst _, _, q => exact q.elim
            | .tup _, _, q => exact q.elim
            | .dic _, _, q => exact q.elim
            | .ins _ _, _, q => exact q.elim
            | .exn _ _, _, q => exact q.elim
            | .gl _, _, q => exact q.elim
            | .ty _, _, q => exact q.elim
            | .scr _, _, q => exact q.elim
      have r1 : Vals (V.ref (s.heap.objs.size + 1) :: vs) (Value.ref (s.heap.objs.size + 1) :: us) := .cons rfl rv
      refine wpAny_call (make_map (f := f) I.kIn M.makes M.init (beq_iff_eq.mp M.fn) (codeAny_mono (FA.run _ X.stack _ _ (Value.ref (s.heap.objs.size + 1) :: us) ws _ zs _ (fun cls d H' => W cls d σ H') ((hr.make C us (ks.zip ws)).mono (Nat.le_refl _)) hgd
        (I2.env0.make C us (ks.zip ws)) r1 rz (l2.trans c1) hsp) fun r s' hq' => ?_))
      cases r with
      | error e => exact passAt tk σ _ _ _ e s' I2 hq'
      | ok fl =>
        cases fl with
        | ret u =>
          obtain ⟨v, H', I3, rv3, ev, q3⟩ := I2.after hq'
          subst ev
          exact ⟨rv3, ⟨V.ref (s.heap.objs.size + 1), H', I3, rfl, q3⟩⟩
        | next => exact False.elim hq'
        | brk => exact False.elim hq'
        | cont => exact False.elim hq'
  · rw [if_neg cc] at q
    exact q.elim
/-- C(..) -/
theorem en_make (c0 : MkA X.prog X.w X.K X.mg X.base k x ks ms Mf) (hr : Room j X.A) (hgd : X.A.guards = some []) (hk : k + 1 ≤ j) (tk : Takes X W) (hg : Gl X x) (ha : PArgs X Z W ks es kws fa) (hdb : (x == ("__debug__" : Str)) = false := by decide) :
    PN X Z W (.Call (.Name x p) es kws pos) (nMakeA x ms ks.length Mf fa) := by
  obtain ⟨C, f, hm, M, FA⟩ := c0.ex
  constructor
  intro pins s σ H Q I ⟨ρ, Fr, r, q⟩
  refine wpAny_Call_Name_kw (ld_glob I hg hm ?_ hdb)
  refine ha pos pins s σ H (fun vs zs H2 => ∃ ρ2 F2 xz, Rel X.K X.mg Z σ H2 ρ2 F2 ∧ ARL X.K X.mg F2 σ vs xz.1 ∧ ARL X.K X.mg F2 σ zs xz.2 ∧ Post X.K X.mg Z W σ H2 ρ2 F2 (makeA x ms ks.length Mf xz ρ2) fun d H' ρ' F' => ∀ a, H2 a = none → Z.H0 a = none → F' a = none → Ct X.K X.mg F' H' a d → (∀ j e, (ρ'.at j).mu = some e → σ[j]? ≠ some (some (.ref a))) → Q (.ref a) H') (.ref C) [] _ I
    ⟨ρ, Fr, r, (Post.bind q).imp fun xz H1 ρ1 F1 g1 q1 vs zs hv hz => ⟨ρ1, F1, xz, g1.rel, hv, hz, q1.imp fun d H2 ρ2 F2 g2 q2 a n1 n2 n3 ct ne => q2 a (g1.free n1) n2 n3 ct ne⟩⟩ fun us ws vs zs s2 H2 I2 rv rz ⟨ρ2, F2, xz, r2, hv, hz, q2⟩ => ⟨keepsF M.kp I2, ?_⟩
  exact make_run hm M FA (hr.mono hk) hgd tk I2 rv rz r2 hv hz q2
end
end PV
namespace PV
open PySem PySem.Spec PyProof.Rows L2 VK
/-! ### instances: their fields -/
/-- the classes cs, read plainly, have no f -/
def NoFI (K : PySem.W.Frag) (mg : Str → Option Value) (cs : List Str) (f : Str) : Prop := ∀ c ∈ cs, ∃ C, mg c = some (.ref C) ∧ Cls K C ∧ NoAttr K C f
def gFldI (cs : List Str) (f : Str) : D → Option D
  | .ins c fs => if c ∈ cs then fs.lookup f else none
  | _ => none
section
variable {K : PySem.W.Frag} {mg : Str → Option Value} {F H : Hp} {v : V} {c : Str} {fs : List (Str × D)}
/-- an instance, whoever holds it -/
theorem Rp.ins (s : Same F H) (h : Rp K mg F H v (.ins c fs)) : ∃ a C dx vs, v = .ref a ∧ H a = some (.ins C dx vs) ∧ mg c = some (.ref C) ∧ RF K mg F vs fs := by
  rcases h with h | ⟨a, rfl, n, C, dx, vs, h1, h2, h3⟩
  · cases h with
    | ins h1 h2 h3 => exact ⟨_, _, _, _, rfl, s _ _ h1, h2, h3⟩
  · exact ⟨a, C, dx, vs, rfl, h1, h2, h3⟩
end
section
variable {X : Cx} {Z : Zone} {W : WX} {e : Expr} {fa : M AV} {cs : List Str} {f : Str} {pos : Pos}
theorem ev_fldI (no : NoFI X.K X.mg cs f) (h : PV X Z W e fa) (hb : attributeBase e f X.env (eval e X.env) = eval e X.env := by rfl) : PV X Z W (.Attribute e f pos) (eUn (gFldI cs f) fa) :=
  PE.weak (pe_fld h hb) fun σ H Q q => un_le (r := fun x H1 Q => ∃ a C dx fs v, x = .ref a ∧ H1 a = some (.ins C dx fs) ∧ Cls X.K C ∧ NoAttr X.K C f ∧ fs.lookup f = some v ∧ Q v H1) (fun {F H v d z Q} s hv hg q => by
    cases d <;> simp only [gFldI] at hg <;> try (cases hg; done)
    rename_i c fs
    by_cases hc : c ∈ cs
    · rw [if_pos hc] at hg
      obtain ⟨C, hm, cl, na⟩ := no c hc
      obtain ⟨a, C', dx, vs, rfl, h1, h2, h3⟩ := hv.ins s
      rw [hm] at h2
      cases h2
      obtain ⟨v, l, rv⟩ := h3.look hg
      exact ⟨a, C, dx, vs, v, rfl, h1, cl, na, l, okQ s q rv⟩
    · rw [if_neg hc] at hg
      cases hg) σ H Q q
/-- a constant of the class, read off an instance -/
def ConI (K : PySem.W.Frag) (mg : Str → Option Value) (tb : List (Str × D)) (f : Str) : Prop := ∀ c d, tb.lookup c = some d → ∃ C v u, mg c = some (.ref C) ∧ Cls K C ∧ Con K C f v u ∧ ∀ F, R K mg F v d
def gConI (tb : List (Str × D)) (f : Str) : D → Option D
  | .ins c fs => if fs.lookup f = none then tb.lookup c else none
  | _ => none
theorem RF.noneL {K : PySem.W.Frag} {mg : Str → Option Value} {G : Hp} {vs : List (Str × V)} {ds : List (Str × D)} (h : RF K mg G vs ds) {x : Str} (e : ds.lookup x = none) : vs.lookup x = none := h.lookN e
theorem ev_conI {tb : List (Str × D)} (no : ConI X.K X.mg tb f) (h : PV X Z W e fa) (hb : attributeBase e f X.env (eval e X.env) = eval e X.env := by rfl) : PV X Z W (.Attribute e f pos) (eUn (gConI tb f) fa) :=
  PE.weak (pe_con h hb) fun σ H Q q => un_le (r := fun x H1 Q => ∃ a C dx fs v u, x = .ref a ∧ H1 a = some (.ins C dx fs) ∧ Cls X.K C ∧ Con X.K C f v u ∧ fs.lookup f = none ∧ Q v H1) (fun {F H v d z Q} s hv hg q => by
    cases d <;> simp only [gConI] at hg <;> try (cases hg; done)
    rename_i c fs
    by_cases hc : fs.lookup f = none
    · rw [if_pos hc] at hg
      obtain ⟨C, v0, u, hm, cl, co, rv⟩ := no c z hg
      obtain ⟨a, C', dx, vs, rfl, h1, h2, h3⟩ := hv.ins s
      rw [hm] at h2
      cases h2
      exact ⟨a, C, dx, vs, v0, u, rfl, h1, cl, co, h3.noneL hc, okQ s q (rv F)⟩
    · rw [if_neg hc] at hg
      cases hg) σ H Q q
/-! ### o.f = e -/
def putD (f : Str) (d : D) : List (Str × D) → List (Str × D)
  | [] => [(f, d)]
  | (g, x) :: r => if g = f then (g, d) :: r else (g, x) :: putD f d r
theorem RF.put {K : PySem.W.Frag} {mg : Str → Option Value} {G : Hp} {y : V} {d : D} (h : R K mg G y d) : ∀ {vs : List (Str × V)} {ds : List (Str × D)}, RF K mg G vs ds → RF K mg G (putF f y vs) (putD f d ds)
  | _, _, .nil => .cons h .nil
  | _, _, @RF.cons _ _ _ g v vs d' ds h1 t => by
    unfold putF putD
    by_cases e : g = f
    · rw [if_pos e, if_pos e]
      exact .cons h t
    · rw [if_neg e, if_neg e]
      exact .cons h1 (RF.put h t)
def fldI (cs : List Str) (f : Str) (i : Nat) (d : D) (ρ : En) : Res Fl := match (ρ.at i).mu with
  | some (.ins c fs) => if c ∈ cs ∧ fs.length < 1000 then (match (ρ.at i).re (.ins c (putD f d fs)) with
    | some s => .val .nx (ρ.set i s)
    | none => .bad) else .bad
  | _ => .bad
def sFldI (cs : List Str) (f : Str) (i : Nat) (fe : M AV) : M Fl := fun ρ => (fe.st ρ).bind fun d ρ1 => fldI cs f i d ρ1
theorem Go.toS {K : PySem.W.Frag} {mg : Str → Option Value} {Z : Zone} {W : WX} {σ : L2.St} {H F H1 F1 : Hp} {ρ ρ1 : En} {De : Ends} {x : Fl} (g : Go K mg Z σ H ρ F H1 ρ1 F1) (q : PostS K mg Z W F (.val x ρ1) De) : x.ends K mg De σ H1 F1 := q σ H1 F1 g.rel g.fr
theorem len_RF {K : PySem.W.Frag} {mg : Str → Option Value} {G : Hp} {vs : List (Str × V)} {ds : List (Str × D)} (h : RF K mg G vs ds) : vs.length = ds.length := h.length
theorem cs_fldI {n : Str} {i : Nat} {o : Expr} {p' pos : Pos} {fe : M AV} {ev : Expr} (no : NoFI X.K X.mg cs f) (ho : PE X o (tVar i)) (he : PV X Z W ev fe) (hs : swapsWith ev (some (.Attribute o f p')) pos.line X.env = pure false := by rfl) :
    PC1 X Z W (.Assign [.Attribute o f p'] ev pos) (sFldI cs f i fe) := by
  refine PS.weak (ps_fld ho (PV.st he) hs) fun D σ H ⟨ρ, F, r, q⟩ => ⟨ρ, F, r, (PostS.bind q).imp fun d H1 ρ1 F1 g1 q1 y hy => ?_⟩
  unfold fldI at q1
  cases hm : (ρ1.at i).mu with
  | none =>
    simp only [hm] at q1
    exact q1.elim
  | some c =>
    obtain ⟨a, h1, h2, h3⟩ := g1.rel.mu i c hm
    refine ⟨.ref a, h1, ?_⟩
    cases c <;> simp only [hm] at q1 <;> try (exact q1.elim; done)
    rename_i c fs
    by_cases cc : c ∈ cs ∧ fs.length < 1000
    · rw [if_pos cc] at q1
      obtain ⟨C, dx, vs, e1, e2, e3⟩ := h3
      obtain ⟨C', hmg, cl, na⟩ := no c cc.1
      rw [hmg] at e2
      cases e2
      refine ⟨a, C, dx, vs, rfl, e1, cl, na, by rw [len_RF e3]; exact cc.2, ?_⟩
      cases hr : (ρ1.at i).re (.ins c (putD f d fs)) with
      | none =>
        simp only [hr] at q1
        exact q1.elim
      | some s =>
        simp only [hr] at q1
        have g2 := g1.rel.change (o := .ins C dx (putF f y vs)) hm h1 hr ⟨C, dx, _, upd_same, hmg, RF.put hy e3⟩
        exact g2.toS q1
    · rw [if_neg cc] at q1
      exact q1.elim
/-! ### methods -/
def recv (cs : List Str) (m : Str) (x : AV) (ρ : En) : Bool := match der x ρ with
  | some (.ins c fs) => cs.contains c && (fs.lookup m).isNone
  | _ => false
theorem recv_ok {K : PySem.W.Frag} {mg : Str → Option Value} {σ : L2.St} {H F : Hp} {ρ : En} {Z : Zone} {v : V} {x : AV} {m : Str} (r : Rel K mg Z σ H ρ F) (h : AR K mg F σ v x) (q : recv cs m x ρ = true) : ∃ c ∈ cs, ∃ a C dx vs, v = .ref a ∧ H a = some (.ins C dx vs) ∧ mg c = some (.ref C) ∧ vs.lookup m = none := by
  unfold recv at q
  cases hd : der x ρ with
  | none =>
    rw [hd] at q
    cases q
  | some d =>
    rw [hd] at q
    cases d <;> simp only [] at q <;> try (cases q; done)
    rename_i c fs
    rw [Bool.and_eq_true] at q
    obtain ⟨a, C, dx, vs, e1, e2, e3, e4⟩ := (der_ok r h hd).ins r.same
    refine ⟨c, by simpa using q.1, a, C, dx, vs, e1, e2, e3, e4.noneL ?_⟩
    cases hl : fs.lookup m with
    | none => rfl
    | some _ =>
      rw [hl] at q
      cases q.2
/-- a method of the classes cs -/
def MethA (P : Program) (w : World) (K : PySem.W.Frag) (mg : Str → Option Value) (base : Heap) (k : Nat) (cs : List Str) (m : Str) (ks : List Str) (ms : List Bool) (Mf : Nat → Md) : Prop := ∀ c ∈ cs, ∃ C g, mg c = some (.ref C) ∧ Cls K C ∧ Meth K C m g ∧ FnA P w K mg base k g ks ms Mf
def eMeth (cs : List Str) (m : Str) (ms : List Bool) (nk : Nat) (Mf : Nat → Md) (fo : M AV) (fa : M A2) : M AV := fun ρ => (fo ρ).bind fun x ρ1 => if recv cs m x ρ1 = true then (fa ρ1).bind fun xz ρ2 => callA ms nk Mf (x :: xz.1, xz.2) ρ2 else .bad
theorem ev_meth {k j : Nat} {m : Str} {ks : List Str} {ms : List Bool} {Mf : Nat → Md} {o : Expr} {es : List Expr} {kws : List Keyword} {fo : M AV} {fs : M A2} {apos pos : Pos} {pl : Sem Bool} (c0 : MethA X.prog X.w X.K X.mg X.base k cs m ks ms Mf) (hr : Room j X.A) (hgd : X.A.guards = some []) (hk : k ≤ j) (tk : Takes X W) (ho : PV X Z W o fo) (ha : PArgs X Z W ks es kws fs)
    (ht : eval (.Call (.Attribute o m apos) es kws pos) X.env = (do
      let ov ← eval o X.env
      standAt apos.atName
      let (f, first) ← holding [ov] (getMethod ov m pl)
      callWith pos f first (backTo pos (starEach es X.env)) (backToKw pos (keywordEach kws X.env))) := by rfl) :
    PV X Z W (.Call (.Attribute o m apos) es kws pos) (eMeth cs m ms ks.length Mf fo fs) := by
  constructor
  intro pins s σ H Q I ⟨ρ, F, r, q⟩
  refine PySem.W.methodCall_KW (pl := pl) (thn (ho.run pins s σ H (fun v H1 => ∃ ρ1 F1 x, Rel X.K X.mg Z σ H1 ρ1 F1 ∧ AR X.K X.mg F1 σ v x ∧ Post X.K X.mg Z W σ H1 ρ1 F1 (if recv cs m x ρ1 = true then (fs ρ1).bind fun xz ρ2 => callA ms ks.length Mf (x :: xz.1, xz.2) ρ2 else .bad) fun y H' _ F' => ∀ v, AR X.K X.mg F' σ v y → Q v H') I
    ⟨ρ, F, r, (Post.bind q).imp fun x H1 ρ1 F1 g1 q1 v hv => ⟨ρ1, F1, x, g1.rel, hv, q1⟩⟩) fun u s1 ⟨v, H1, I1, rv, ρ1, F1, x, r1, hv, q1⟩ => ?_) ht
  by_cases hc : recv cs m x ρ1 = true
  · rw [if_pos hc] at q1
    obtain ⟨c, hcm, a, C, dx, vs, rfl, ea, hmg, l⟩ := recv_ok r1 hv hc
    obtain ⟨C', g, hmg', cl, hm, FA⟩ := c0 c hcm
    rw [hmg'] at hmg
    cases hmg
    obtain rfl : u = Value.ref a := rv
    refine getmeth_ok I1 ea cl hm l ?_
    refine ha pos pins s1 σ H1 (fun vs zs H2 => zs.length = ks.length ∧ spD X.K X.mg (msA ms (V.ref a :: vs).length zs.length) (Mf (V.ref a :: vs).length) ((V.ref a :: vs) ++ zs) H2 Q (fun cls d H' => W cls d σ H')) (.ref g) [.ref a] _ I1 ⟨ρ1, F1, r1, (Post.bind q1).imp fun xz H2 ρ2 F2 g2 q2 vs zs hvs hz => callA_core (xz := (x :: xz.1, xz.2)) g2.rel (.cons (hv.go g2.fr) hvs) hz q2⟩ fun us ws vs zs s2 H2 I2 rv2 rz ⟨hl, hs⟩ => ⟨keepsF hm.kp I2, ?_⟩
    exact run_fnA (us := Value.ref a :: us) (vs := V.ref a :: vs) FA (hr.mono hk) hgd tk I2 (.cons rfl rv2) rz hl hs
  · rw [if_neg hc] at q1
    exact q1.elim
/-! ### properties -/
def PropA (P : Program) (w : World) (K : PySem.W.Frag) (mg : Str → Option Value) (base : Heap) (k : Nat) (cs : List Str) (f : Str) (ms : List Bool) (Mf : Nat → Md) : Prop := ∀ c ∈ cs, ∃ C p g, mg c = some (.ref C) ∧ Cls K C ∧ PropOf K C f p g ∧ FnA P w K mg base k g [] ms Mf
def eProp (cs : List Str) (ms : List Bool) (Mf : Nat → Md) (fo : M AV) : M AV := fun ρ => (fo ρ).bind fun x ρ1 => match der x ρ1 with
  | some (.ins c _) => if c ∈ cs then (callA ms 0 Mf ([x], []) ρ1).nox else .bad
  | _ => .bad
theorem nox_W {α : Type} {K : PySem.W.Frag} {mg : Str → Option Value} {Z : Zone} {σ : L2.St} {H F : Hp} {ρ : En} {r : Res α} {Q : α → Hp → En → Hp → Prop} (h : Post K mg Z W σ H ρ F r.nox Q) : Post K mg Z W0 σ H ρ F r Q := by
  cases r with
  | val x ρ' => exact h
  | exc c fs ρ' => exact h.elim
  | bad => exact h
theorem getpropA_ok {k : Nat} {C p g a dx : Addr} {vs : List (Str × V)} {ms : List Bool} {Mf : Nat → Md} {pins : List (Addr × Obj)} {σ : L2.St} {H : Hp} {s : Shared} {Q : VK} {b : Bool} {E' : Value → Shared → Prop} (I : Inv X pins σ H s) (ea : H a = some (.ins C dx vs)) (c : Cls X.K C) (hp : PropOf X.K C f p g)
    (FA : FnA X.prog X.w X.K X.mg X.base k g [] ms Mf) (hr : Room (k + 1) X.A) (hgd : X.A.guards = some []) (h : spD X.K X.mg (msA ms [V.ref a].length 0) (Mf [V.ref a].length) ([V.ref a] ++ []) H Q (fun _ _ _ => False)) :
    wpAny (model X.prog X.w) X.A (getAttr (.ref a) f b) (EP X pins σ Q) E' s := by
  obtain ⟨mA, O, _, _, _, _⟩ := ins_get I.hok ea
  obtain ⟨od, J, _⟩ := O.look
  obtain ⟨rest, hrec⟩ := hp.rec_
  have I1 := I.tok (s.toks + 1)
  have hc : (PySem.W.clsIn X.K C).isSome = true := by
    obtain ⟨cd, hc, _⟩ := PySem.W.any_some c.hd
    rw [hc]
    rfl
  refine PySem.W.get_bind I.kIn J (PySem.W.plainGet_of (c.get f)).1 (PySem.W.findObj_data hc hp.at_ hp.get hp.tak) (PySem.W.plainGet_of (c.get f)).2 (wpAny_call (PySem.W.prop_get (s := { s with toks := s.toks + 1 }) I.kIn hrec ?_))
  refine codeAny_mono (FA.run X.A.in1 X.stack { s with toks := s.toks + 1 } H [.ref a] [] [.ref a] [] Q _ hr.in1 hgd I1.env0.in1 (.cons rfl .nil) .nil rfl h) fun r s' hq => ?_
  cases r with
  | error er =>
    obtain ⟨_, _, _, _, _, _, _, _, _, _, _, _, z⟩ := hq
    exact z.elim
  | ok fl =>
    cases fl with
    | ret u =>
      obtain ⟨v, H', I3, rv, q3⟩ := I1.after hq
      show wpAny _ _ (handedOut u) _ _ _
      rw [PySem.W.handedOut_of (handed_of rv)]
      exact wpAny_pure ⟨v, H', I3, rv, q3⟩
    | next => exact False.elim hq
    | brk => exact False.elim hq
    | cont => exact False.elim hq
theorem ev_prop {k j : Nat} {ms : List Bool} {Mf : Nat → Md} (c0 : PropA X.prog X.w X.K X.mg X.base k cs f ms Mf) (hr : Room j X.A) (hgd : X.A.guards = some []) (hk : k + 1 ≤ j) (ho : PV X Z W e fa) (hab : attributeBase e f X.env (eval e X.env) = eval e X.env := by rfl) :
    PV X Z W (.Attribute e f pos) (eProp cs ms Mf fa) := by
  constructor
  intro pins s σ H Q I ⟨ρ, F, r, q⟩
  refine attr_of hab (thn (ho.run pins s σ H (fun v H1 => ∃ ρ1 F1 x, Rel X.K X.mg Z σ H1 ρ1 F1 ∧ AR X.K X.mg F1 σ v x ∧ Post X.K X.mg Z W σ H1 ρ1 F1 (match der x ρ1 with
    | some (.ins c _) => if c ∈ cs then (callA ms 0 Mf ([x], []) ρ1).nox else .bad
    | _ => .bad) fun y H' _ F' => ∀ v, AR X.K X.mg F' σ v y → Q v H') I ⟨ρ, F, r, (Post.bind q).imp fun x H1 ρ1 F1 g1 q1 v hv => ⟨ρ1, F1, x, g1.rel, hv, q1⟩⟩) fun u s1 ⟨v, H1, I1, rv, ρ1, F1, x, r1, hv, q1⟩ => ?_)
  cases hd : der x ρ1 with
  | none =>
    simp only [hd] at q1
    exact q1.elim
  | some d =>
    cases d <;> simp only [hd] at q1 <;> try (exact q1.elim; done)
    rename_i c fs
    by_cases hc : c ∈ cs
    · rw [if_pos hc] at q1
      obtain ⟨a, C, dx, vs, rfl, ea, hmg, _⟩ := (der_ok r1 hv hd).ins r1.same
      obtain ⟨C', p, g, hmg', cl, hp, FA⟩ := c0 c hc
      rw [hmg'] at hmg
      cases hmg
      obtain rfl : u = Value.ref a := rv
      exact getpropA_ok I1 ea cl hp FA (hr.mono hk) hgd (callA_core (xz := ([x], [])) r1 (.cons hv .nil) .nil (nox_W q1)).2
    · rw [if_neg hc] at q1
      exact q1.elim
end
end PV
namespace PySem.F
theorem pass_IndexError (self : Value) : refuseLoop self "__setattr__" [.type "IndexError", .type "LookupError", .type "Exception", .type "BaseException", .type "object"] = pure () := by kernel_rfl
theorem pass_LookupError (self : Value) : refuseLoop self "__setattr__" [.type "LookupError", .type "Exception", .type "BaseException", .type "object"] = pure () := by kernel_rfl
theorem pass_OverflowError (self : Value) : refuseLoop self "__setattr__" [.type "OverflowError", .type "ArithmeticError", .type "Exception", .type "BaseException", .type "object"] = pure () := by kernel_rfl
theorem pass_ValueError (self : Value) : refuseLoop self "__setattr__" [.type "ValueError", .type "Exception", .type "BaseException", .type "object"] = pure () := store_ValueError.passes self
end PySem.F
namespace PV
open PySem PySem.Spec PyProof.Rows L2 VK
/-- the j-th statement of a class's body -/
def clsS (s : Stmt) (j : Nat) : Stmt := match s with
  | .ClassDef _ _ _ body _ _ _ _ _ _ _ => body.getD j (.Pass ⟨0, 0, 0, 0⟩)
  | _ => .Pass ⟨0, 0, 0, 0⟩
section
variable {K : PySem.W.Frag} {mg : Str → Option Value} {C fI : Addr} {c : Str}
theorem exi_mk1 {st : Stmt} {qual p f : Str} {q1 q2 q3 q4 : Pos} {oc : Value} {od an : Option Addr} {osl : Array (Option Value)} {kV doc pm cdv ct : Value} (gC : mg c = some (.ref C)) (T : ExK K C) (iC : PySem.W.findIn K (.ref C) "__init__" = some (some (.ref fI))) (tI : PySem.W.typeIn K (.ref fI) = some (.type "function"))
    (hno : PySem.W.findIn K (.ref C) f = some none) (lk : K.lookup fI = some ⟨oc, od, .func (PySem.W.fnOf "__init__" qual (defArgs st) (defBody st) (defScope st) .none kV doc pm an cdv ct), osl⟩) (hcd : PySem.W.codeIn K cdv qual = true) (S : FnScope ["self", p] ["self", p] (defScope st))
    (d1 : (p == ("__debug__" : Str)) = false) (d2 : (p == ("__classdict__" : Str)) = false) (hb : defBody st = [.Assign [.Attribute (.Name "self" q1) f q2] (.Name p q3) q4])
    (hbi : ∀ (kV doc pm : Value) (an : Option Addr) (cdv ct : Value) (us : List Value), us.length = 2 → bindArgs (PySem.W.fnOf "__init__" qual (defArgs st) (defBody st) (defScope st) .none kV doc pm an cdv ct) ⟨us, []⟩ = pure ((["self", p] : List Str).zip us)) : ExI K mg c [f] :=
  ⟨C, fI, gC, T, iC, tI, fun q hq => by rw [List.mem_singleton.mp hq]; exact hno, by show 1 ≤ 900; decide, fun P w base => ⟨_, ["self", p], fn_x1 lk hcd S d1 d2 hb, fun s us X hl => .of_eq (by rw [List.append_nil] at hl ⊢; exact hbi kV doc pm an cdv ct us hl)⟩⟩
theorem exi_mk2 {st : Stmt} {qual p p' f f' : Str} {q1 q2 q3 q4 r1 r2 r3 r4 : Pos} {oc : Value} {od an : Option Addr} {osl : Array (Option Value)} {kV doc pm cdv ct : Value} (gC : mg c = some (.ref C)) (T : ExK K C) (iC : PySem.W.findIn K (.ref C) "__init__" = some (some (.ref fI))) (tI : PySem.W.typeIn K (.ref fI) = some (.type "function"))
    (hno : PySem.W.findIn K (.ref C) f = some none) (hno' : PySem.W.findIn K (.ref C) f' = some none) (lk : K.lookup fI = some ⟨oc, od, .func (PySem.W.fnOf "__init__" qual (defArgs st) (defBody st) (defScope st) .none kV doc pm an cdv ct), osl⟩) (hcd : PySem.W.codeIn K cdv qual = true) (S : FnScope ["self", p, p'] ["self", p, p'] (defScope st))
    (d1 : (p == ("__debug__" : Str)) = false) (d2 : (p == ("__classdict__" : Str)) = false) (d3 : (p' == ("__debug__" : Str)) = false) (d4 : (p' == ("__classdict__" : Str)) = false) (hb : defBody st = [.Assign [.Attribute (.Name "self" q1) f q2] (.Name p q3) q4, .Assign [.Attribute (.Name "self" r1) f' r2] (.Name p' r3) r4])
    (hbi : ∀ (kV doc pm : Value) (an : Option Addr) (cdv ct : Value) (us : List Value), us.length = 3 → bindArgs (PySem.W.fnOf "__init__" qual (defArgs st) (defBody st) (defScope st) .none kV doc pm an cdv ct) ⟨us, []⟩ = pure ((["self", p, p'] : List Str).zip us)) : ExI K mg c [f, f'] :=
  ⟨C, fI, gC, T, iC, tI, fun q hq => by
    rcases List.mem_cons.mp hq with e | e
    · rw [e]
      exact hno
    · rw [List.mem_singleton.mp e]
      exact hno', by show 2 ≤ 900; decide, fun P w base => ⟨_, ["self", p, p'], fn_x2 lk hcd S d1 d2 d3 d4 hb, fun s us X hl => .of_eq (by rw [List.append_nil] at hl ⊢; exact hbi kV doc pm an cdv ct us hl)⟩⟩
theorem exk_mk {nm q : Str} {N : Addr} {bs bm : List Value} {sn : List Str} {sub : List Value} {ab : Bool} {col : Option Bool} {dd : Option Addr} {k0 k1 k2 k3 k5 : Option Value} {B newId initId : String} {bmB : List Value}
    (F : ExcBaseFacts B newId initId bmB) (hp : ∀ self, refuseLoop self "__setattr__" bmB = pure ()) (l : K.lookup C = some (excClassObj nm q C N bs bm true sn sub ab col dd k0 k1 k2 k3 k5 newId)) (h1 : PySem.HandSPX.refsT bmB bm = true) (h2 : bmB.contains (.type "object") = true)
    (sa : PySem.W.findIn K (.ref C) "__setattr__" = some (some (.builtin "object.__setattr__"))) (ga : PySem.W.findIn K (.ref C) "__getattribute__" = some (some (.builtin "BaseException.__getattribute__"))) (gg : PySem.W.findIn K (.ref C) "__getattr__" = some none) (exC : PySem.W.subIn K (.ref C) (.type "BaseException") = some true)
    (tyC : PySem.W.typeIn K (.ref C) = some (.type "type")) (kC : PySem.W.keepIn K (.ref C) = true) (hdC : PySem.W.hasDictIn K C = true) (ha : PySem.W.findIn K (.ref C) "__class__" = some (some (.builtin "object.__class__"))) (hn : PySem.W.specialIn K (.builtin "object.__class__") "__get__" = some (some (.builtin "getset_descriptor.__get__")))
    (ht : PySem.W.takesIn K (.builtin "object.__class__") = some true) (hm : PySem.W.mroIn K C (.type "object") = some true) : ExK K C :=
  ⟨⟨nm, q, N, bs, bm, sn, sub, ab, col, dd, k0, k1, k2, k3, k5, B, newId, initId, bmB, l, F, h1, hp, h2⟩, sa, ga, gg, exC, tyC, kC, hdC, ha, hn, ht, hm⟩
end
/-! ### bodies; defs of all kinds -/
def Bdy (P : Program) (w : World) (K : PySem.W.Frag) (mg : Str → Option Value) (base : Heap) (k : Nat) (qual : Str) (st : Stmt) (N : List Str) (fM : M Fl) : Prop := ∀ (f : Addr) (cdv : Value) (A : Around) (outer : List Env) (s : Shared) (H : Hp) (E : XK) (Z : Zone), Room k (A.deeper (envOfC qual (defScope st) s.heap.objs.size f cdv)) →
  (A.deeper (envOfC qual (defScope st) s.heap.objs.size f cdv)).guards = some [] → PCs (cxOf (L2.CX P w) P w K mg base N qual (defScope st) f cdv A outer s H E) Z (WE E) (defBody st) fM
/-- the def x stands, its defaults dvs, kws -/
structure DfF (K : PySem.W.Frag) (mg : Str → Option Value) (x : Str) (st : Stmt) (dvs : List V) (kws : List (Str × V)) : Prop where
  ex : ∃ (f : Addr) (fd : FuncData), FunD K x x (defArgs st) (defBody st) (defScope st) dvs kws f fd ∧ mg x = some (.ref f)
section
variable {P : Program} {w : World} {K : PySem.W.Frag} {mg : Str → Option Value} {base : Heap} {x : Str} {st : Stmt} {N ps ks : List Str} {pv : Str} {k : Nat} {ms : List Bool} {fM : M Fl} {Mf : Md} {dvs : List V} {kws : List (Str × V)} {perm : List Nat} {dd : List D}
theorem Bdy.dx (B : Bdy P w K mg base k x st N fM) (D : Df K mg x st) (S : FnScope N ps (defScope st)) (hms : ms.length = ps.length) (l : MLe (runM ms N.length fM) Mf := by exact fun _ _ => rfl) : DX P w K mg base (k + 1) x st ps ms Mf := PV.Df.dx D S hms B l
theorem DfF.ofDf (D : Df K mg x st) : DfF K mg x st [] [] := by
  obtain ⟨f, fd, F, hm⟩ := D.ex
  obtain ⟨oc, od, kV, doc, pm, an, cdv, ct, osl, e, lk, hcd⟩ := F.ex
  exact ⟨f, fd, ⟨⟨oc, od, .none, kV, doc, pm, an, cdv, ct, osl, e, lk, hcd, .inl ⟨rfl, rfl⟩, .inl rfl⟩, F.kp⟩, hm⟩
/-- what bindArgs does, the parts given -/
abbrev BindH (x qual : Str) (st : Stmt) (dvs : List V) (kws : List (Str × V)) (n : Nat) (star : Bool) (ks ps : List Str) (pv : Str) (perm : List Nat) (j : Nat) (dms : List (Str × V)) : Prop := ∀ (T D : Addr) (dV kV doc pm : Value) (an : Option Addr) (cdv ct : Value) (us rest ws its mv : List Value), (dvs = [] → dV = .none) → (dvs ≠ [] → dV = .ref T) → (kws ≠ [] → kV = .ref D) → us.length = n → ws.length = ks.length → its.length = dvs.length → mv.length = dms.length → (star = false → rest = []) →
      ChainA (!dvs.isEmpty) T D ((dms.map (·.1)).zip mv) (bindArgs (PySem.W.fnOf x qual (defArgs st) (defBody st) (defScope st) dV kV doc pm an cdv ct) ⟨us ++ rest, ks.zip ws⟩) its (endA star ps pv perm us rest ws (its.drop j ++ mv))
theorem DfF.star (D : DfF K mg x st dvs kws) (S : FnScope N (ps ++ [pv]) (defScope st)) (B : Bdy P w K mg base k x st N fM) (j : Nat) (dms : List (Str × V)) (hm : ∀ q ∈ dms, q ∈ kws) (h : BindH x x st dvs kws ms.length true ks ps pv perm j dms)
    (hd : ∀ G, RL K mg G (dvs.drop j ++ dms.map (·.2)) dd) (hp : ∀ i ∈ perm, i < ks.length + (dvs.drop j ++ dms.map (·.2)).length) (hl : ps.length = ms.length + perm.length) : CalA P w K mg base (k + 1) x ks ms (mdA true ms perm dd N.length fM) := by
  obtain ⟨f, fd, F, hmg⟩ := D.ex
  exact ⟨f, fnA_star F S (BindA.mk F j dms hm h) hd hp hl (B f), hmg, F.kp⟩
theorem DfF.plain (D : DfF K mg x st dvs kws) (S : FnScope N ps (defScope st)) (B : Bdy P w K mg base k x st N fM) (j : Nat) (dms : List (Str × V)) (hm : ∀ q ∈ dms, q ∈ kws) (h : BindH x x st dvs kws ms.length false ks ps "" perm j dms)
    (hd : ∀ G, RL K mg G (dvs.drop j ++ dms.map (·.2)) dd) (hp : ∀ i ∈ perm, i < ks.length + (dvs.drop j ++ dms.map (·.2)).length) (hl : ps.length = ms.length + perm.length) : CalA P w K mg base (k + 1) x ks ms (mdA false ms perm dd N.length fM) := by
  obtain ⟨f, fd, F, hmg⟩ := D.ex
  exact ⟨f, fnA_plain F S (BindA.mk F j dms hm h) hd hp hl (B f), hmg, F.kp⟩
theorem dff_mk {h : Heap} (X : K.In h) (G : h.Ns mainGlobals mg) {f D : Addr} {oc : Value} {od an : Option Addr} {osl : Array (Option Value)} {doc pm cdv ct : Value}
    (a : PySem.W.nsIn K mainGlobals x = some (some (.ref f))) (l : K.lookup f = some ⟨oc, od, .func (PySem.W.fnOf x x (defArgs st) (defBody st) (defScope st) .none (.ref D) doc pm an cdv ct), osl⟩) (c : PySem.W.codeIn K cdv x = true) (kp : PySem.W.keepIn K (.ref f) = true)
    (hk : ∀ q ∈ kws, ∃ u, PySem.W.nsIn K D q.1 = some (some u) ∧ RelV q.2 u) : DfF K mg x st [] kws :=
  ⟨f, _, ⟨⟨oc, od, .none, .ref D, doc, pm, an, cdv, ct, osl, rfl, l, c, .inl ⟨rfl, rfl⟩, .inr ⟨D, rfl, hk⟩⟩, kp⟩, PySem.W.mg_of X G a⟩
end
/-! ### names -/
theorem ev_gl {X : Cx} {Z : Zone} {W : WX} {x : Str} {C : Addr} {pos : Pos} (hg : Gl X x) (hm : X.mg x = some (.ref C)) (hdb : (x == ("__debug__" : Str)) = false := by decide) : PV X Z W (.Name x pos) (eC (.gl x)) :=
  ev_c (pe_glob (v := .ref C) hg hm rfl hdb) fun _ => .gl hm
end PV
namespace PV
open PySem PySem.Spec PyProof.Rows L2 VK
/-! ### beside an empty list, an empty tuple -/
section
variable {X : Cx}
def rEmp (K : PySem.W.Frag) (f : Bool → Bool) : R2 := fun x y H Q => ∃ a b xs, x = .ref a ∧ y = .ref b ∧ ((SqT K H a xs ∧ SqT K H b []) ∨ (SqL K H a xs ∧ SqL K H b [])) ∧ Q (.bl (f xs.isEmpty)) H
theorem op_eqZ (hu : X.A.units + 64 < cLine) : OpR X (compareOp .Eq) (rEmp X.K id) := by
  intro pins s σ H x y v u Q I rx ry h
  obtain ⟨a, b, xs, rfl, rfl, hq, q⟩ := h
  cases rx
  cases ry
  rcases hq with ⟨ha, hb⟩ | ⟨ha, hb⟩
  · obtain ⟨its, r1, p1, _⟩ := I.tuple ha
    obtain ⟨its2, r2, p2, _⟩ := I.tuple hb
    cases r2
    refine SeqAt.RcAt.tuples (A := X.A) (e := fun _ => true) p1 p2 (by omega) (fun j h1 h2 => absurd h2 (Nat.not_lt_zero j)) X.prog X.w _ _ ⟨.bl xs.isEmpty, H, I, ?_, q⟩
    cases r1 <;> rfl
  · obtain ⟨its, r1, p1, _⟩ := I.list ha
    obtain ⟨its2, r2, p2, _⟩ := I.list hb
    cases r2
    cases r1 with
    | nil => exact SeqAt.RcAt.lists (A := X.A) (e := fun _ => true) p1.isList p2.isList rfl (by omega) (fun j h1 h2 => nomatch h2) X.prog X.w _ _ ⟨.bl true, H, I, rfl, q⟩
    | cons _ _ => exact SeqAt.RcAt.lists_lengths (A := X.A) p1.isList p2.isList (by simp) (by omega) X.prog X.w _ _ ⟨.bl false, H, I, rfl, q⟩
theorem op_neZ (hu : X.A.units + 64 < cLine) : OpR X (compareOp .NotEq) (rEmp X.K not) := by
  intro pins s σ H x y v u Q I rx ry h
  obtain ⟨a, b, xs, rfl, rfl, hq, q⟩ := h
  cases rx
  cases ry
  rcases hq with ⟨ha, hb⟩ | ⟨ha, hb⟩
  · obtain ⟨its, r1, p1, _⟩ := I.tuple ha
    obtain ⟨its2, r2, p2, _⟩ := I.tuple hb
    cases r2
    refine SeqAt.RcNeAt.tuples (A := X.A) (e := fun _ => true) p1 p2 (by omega) (fun j h1 h2 => absurd h2 (Nat.not_lt_zero j)) X.prog X.w _ _ ⟨.bl (!xs.isEmpty), H, I, ?_, q⟩
    cases r1 <;> rfl
  · obtain ⟨its, r1, p1, _⟩ := I.list ha
    obtain ⟨its2, r2, p2, _⟩ := I.list hb
    cases r2
    cases r1 with
    | nil => exact SeqAt.RcNeAt.lists (A := X.A) (e := fun _ => true) p1.isList p2.isList rfl (by omega) (fun j h1 h2 => nomatch h2) X.prog X.w _ _ ⟨.bl false, H, I, rfl, q⟩
    | cons _ _ => exact SeqAt.RcNeAt.lists_lengths (A := X.A) p1.isList p2.isList (by simp) (by omega) X.prog X.w _ _ ⟨.bl true, H, I, rfl, q⟩
end
section
variable {K : PySem.W.Frag} {mg : Str → Option Value}
def gEmp (f : Bool → Bool) : G2
  | .lst xs, .lst [] => some (.bl (f xs.isEmpty))
  | .tup xs, .tup [] => some (.bl (f xs.isEmpty))
  | _, _ => none
theorem emp_len {K : PySem.W.Frag} {mg : Str → Option Value} {F : Hp} {vs : List V} {ds : List D} (h : RL K mg F vs ds) : vs.isEmpty = ds.isEmpty := by cases h <;> rfl
theorem ok_emp {f : Bool → Bool} : OkA K mg (rEmp K f) (gEmp f) := by
  intro F H v w d e z Q s hv hw hg q
  cases d <;> cases e <;> simp only [gEmp] at hg <;> try (cases hg; done)
  · rename_i xs ys
    cases ys with
    | cons _ _ => simp only [gEmp] at hg; cases hg
    | nil =>
      simp only [gEmp] at hg
      cases hg
      obtain ⟨a, vs, rfl, h1, h2⟩ := hv.lst s
      obtain ⟨b, ws, rfl, h3, h4⟩ := hw.lst s
      cases h4
      refine ⟨a, b, vs, rfl, rfl, .inr ⟨.inl (.inl h1), .inl (.inl h3)⟩, ?_⟩
      rw [emp_len h2]
      exact okQ s q (.bl _)
  · rename_i xs ys
    cases ys with
    | cons _ _ => simp only [gEmp] at hg; cases hg
    | nil =>
      simp only [gEmp] at hg
      cases hg
      obtain ⟨a, vs, rfl, h1, h2⟩ := hv.tup
      obtain ⟨b, ws, rfl, h3, h4⟩ := hw.tup
      cases h4
      refine ⟨a, b, vs, rfl, rfl, .inl ⟨same_seqT s h1, same_seqT s h3⟩, ?_⟩
      rw [emp_len h2]
      exact okQ s q (.bl _)
def gEqZ : G2 := orG (gEmp id) gEqG
def gNeZ : G2 := orG (gEmp not) gNeG
theorem op_eqZG {X : Cx} (hu : X.A.units + 64 < cLine) : OpR X (compareOp .Eq) (fun x y H Q => rEmp X.K id x y H Q ∨ (rEq x y H Q ∨ rEqD X.K x y H Q)) := opr_or (op_eqZ hu) (op_eqG hu)
theorem op_neZG {X : Cx} (hu : X.A.units + 64 < cLine) : OpR X (compareOp .NotEq) (fun x y H Q => rEmp X.K not x y H Q ∨ (rNe x y H Q ∨ rNeD X.K x y H Q)) := opr_or (op_neZ hu) (op_neG hu)
theorem ok_eqZG : OkA K mg (fun x y H Q => rEmp K id x y H Q ∨ (rEq x y H Q ∨ rEqD K x y H Q)) gEqZ := ok_or ok_emp ok_eqG
theorem ok_neZG : OkA K mg (fun x y H Q => rEmp K not x y H Q ∨ (rNe x y H Q ∨ rNeD K x y H Q)) gNeZ := ok_or ok_emp ok_neG
@[simp] theorem gEqZ_lst {xs : List D} : gEqZ (.lst xs) (.lst []) = some (.bl xs.isEmpty) := rfl
@[simp] theorem gEqZ_tup {xs : List D} : gEqZ (.tup xs) (.tup []) = some (.bl xs.isEmpty) := rfl
@[simp] theorem gNeZ_lst {xs : List D} : gNeZ (.lst xs) (.lst []) = some (.bl !xs.isEmpty) := rfl
@[simp] theorem gNeZ_tup {xs : List D} : gNeZ (.tup xs) (.tup []) = some (.bl !xs.isEmpty) := rfl
end
end PV
/-! a tuple counted: `for i, x in enumerate(t)` -/
namespace L2
open PySem PySem.Spec PyProof.Rows
theorem enumB {v : Value} {o : Obj} {J : Heap → Prop} (B : Begins v o J) : Meets (Builtin.«enumerate.__new__» ⟨[.type "enumerate", v], []⟩) (fun _ R s => J s.heap ∧
    R (.ok (.ret (.ref (s.heap.push o).objs.size))) { s with heap := (s.heap.push o).push { cls := .type "enumerate", data := .fields #[.none, .bool false, .ref s.heap.objs.size, rawInt 0, .none, .none] } }) := by
  refine .of_wp fun prog w A R s q => ?_
  obtain ⟨hp, g, d, tk, os⟩ := s
  obtain ⟨j, q⟩ := q
  have sub := sub_enumerate
  have it : ∀ {A' : Around} {E Q : Value → Shared → Prop}, Q (.ref hp.objs.size) ⟨hp.push o, g, d, tk, os⟩ → wpAny (model prog w) A' (pyIter v) Q E ⟨hp, g, d, tk, os⟩ := fun q => B.iter prog w _ _ ⟨hp, g, d, tk, os⟩ _ j q
  wp_walk using it
  refine wpAny_stack_any fun st => wpAny_pure ?_
  split
  · rename_i c _ _ _ _ _
    cases (c == Value.type "enumerate") <;> (wp_walk using it; exact ⟨_, rfl, q⟩)
  · wp_walk using it
    exact ⟨_, rfl, q⟩
theorem cnt_new {prog : Program} {w : World} {A : Around} {E Q : Value → Shared → Prop} {s : Shared} {v : Value} {o : Obj} {J : Heap → Prop} (B : Begins v o J) (j : J s.heap)
    (q : ∀ h', IsEnum h' (s.heap.objs.size + 1) s.heap.objs.size 0 .none → h'.get? s.heap.objs.size = some o → (∀ b x, s.heap.get? b = some x → h'.get? b = some x) → Q (.ref (s.heap.objs.size + 1)) { s with heap := h' }) :
    wpAny (model prog w) A (call (.type "enumerate") [v]) Q E s := by
  refine callType_new F.called_enumerate (by decide) (F.typeCall_enumerate_1 _) (F.newCall_enumerate_1 _) (fun x => F.args_object_init_2 x _) F.entry_enumerate_new (enumB B) ⟨j, ?_⟩
  have z : (s.heap.push o).objs.size = s.heap.objs.size + 1 := Heap.size_push ..
  have e := Heap.get?_push_size (s.heap.push o) (o := { cls := .type "enumerate", data := .fields #[.none, .bool false, .ref s.heap.objs.size, rawInt 0, .none, .none] }) rfl
  show _ ∧ _
  rw [z] at e ⊢
  exact ⟨⟨_, e, rfl⟩, q _ e (Heap.get?_push_of_some _ (Heap.get?_push_size _ B.free)) fun b x k => Heap.get?_push_of_some _ (Heap.get?_push_of_some _ k)⟩
/-- the tuple at a, each item in a new pair behind its place -/
def IteT (K : PySem.W.Frag) (a : Addr) : It :=
  ⟨fun i H => ∃ (xs : List V) (x : V), SqT K H a xs ∧ xs[i]? = some x, fun i H v H' => ∃ T x, v = .ref T ∧ H T = none ∧ H' = upd H T (.tup [.int (i : Nat), x]) ∧ ∀ xs, SqT K H a xs → xs[i]? = some x, fun i H => ∃ xs : List V, SqT K H a xs ∧ xs.length ≤ i⟩
theorem turn_cntT {P : Program} {w : World} {K : PySem.W.Frag} {elts : List Expr} {kk : Nat} {tpos : Pos} (a e it : Addr) :
    Turn P w K (.Tuple elts kk tpos) (IteT K a) [e, it] e (fun i h => (∃ u, IsEnum h e it ((i : Nat) : Int) u) ∧ h.IsTupleIter it a i ∧ e ≠ it ∧ a ≠ it ∧ a ≠ e) := by
  have two : ∀ {b : Addr}, b ∈ [e, it] → b = e ∨ b = it := fun hb => by simpa using hb
  refine ⟨by simp, ?_, ?_, ?_, ?_, fun A i s Q E st q => wpAny_pyIter_enum st.1.choose_spec q⟩
  · rintro i h ⟨⟨u, he⟩, ⟨o, ho, _, hd⟩, _⟩ b hb
    rcases two hb with rfl | rfl
    · exact ⟨_, he, fun v q => nomatch q⟩
    · exact ⟨o, ho, fun v q => by rw [hd] at q; cases q⟩
  · rintro i h h' ⟨⟨u, he⟩, ht, r⟩ k
    exact ⟨⟨u, k e (by simp) _ he⟩, ht.at fun o q => k it (by simp) o q, r⟩
  · intro X hP hw hK hc i pins s σ H E I hf st hg
    subst hP hw hK
    obtain ⟨⟨u0, he⟩, ht, n1, n2, n3⟩ := st
    obtain ⟨xs, x, hq, hx⟩ := hg
    obtain ⟨its, rv, p, hz⟩ := I.tuple hq
    obtain ⟨u, hu, ru⟩ := rv.get hx
    have le : e < s.heap.objs.size := Heap.lt_size he
    have li : it < s.heap.objs.size := by obtain ⟨_, q, _⟩ := ht; exact Heap.lt_size q
    have hA : X.A.in1.handled = none := I.ok.hd hc
    have il : i < its.toArray.size := by
      have := (List.getElem?_eq_some_iff.mp hu).1
      simpa using this
    have D1 : Draws X.prog X.w X.A.in1 it [it, a] its.toArray.size (fun i v => its.toArray[i]? = some v) (fun i h => h.IsTupleIter it a i ∧ h.IsTuple a its.toArray) := Draws.tuple hA it a n2 its.toArray
    refine wpAny_pyNext_enum_itemD D1 he ⟨ht, p⟩ il n1 (by simp [n1, Ne.symm n3]) fun y h' tk hy ho hs hT hz' hk => ?_
    have hyu : y = u := by
      have : its.toArray[i]? = some u := by simpa using hu
      rw [this] at hy; exact (Option.some.inj hy).symm
    subst hyu
    refine ⟨_, rfl, wpAny_letOwnedTupleGo_enum (s := { s with heap := h', toks := tk + 1 }) ho fun h2 he2 sb => ?_⟩
    have hT2 : h2.get? s.heap.objs.size = some { cls := .type "tuple", data := .seq #[.int i tk, y] } := (sb.2 _ (Nat.ne_of_gt le)).trans hT
    have new : ObjOk X.prog X.w (upd H s.heap.objs.size (.tup [.int (i : Nat), x])) h2 s.heap.objs.size (.tup [.int (i : Nat), x]) :=
      ⟨by show 2 ≤ sizeLine; decide, [.int i tk, y], .cons ⟨_, rfl⟩ (.cons ru .nil), ⟨_, hT2, rfl, _, rfl⟩⟩
    have I1 : Inv X pins σ (upd H s.heap.objs.size (.tup [.int (i : Nat), x])) { s with heap := h2, toks := tk + 1 } :=
      I.turnedNew (ch := [e, it]) (fun b o hb q => (sb.2 b fun z => hb (by simp [z])).trans (hk b o (fun z => hb (by simp [z])) (fun z => hb (by simp [z])) q)) hf (Nat.le_refl _) new
    refine ⟨.ref s.heap.objs.size, _, I1, rfl, ⟨_, x, rfl, I.hok.fresh (Nat.le_refl _), rfl, fun ys hy => by rw [I.tuple_inj hy hq]; exact hx⟩, ⟨⟨y, ?_⟩, hs.1.at fun o q => (sb.2 it (Ne.symm n1)).trans q, n1, n2, n3⟩, fun b hb => ?_⟩
    · rw [show ((i + 1 : Nat) : Int) = (i : Int) + 1 by omega]
      exact he2
    · have lb : b < s.heap.objs.size := by rcases two hb with rfl | rfl <;> assumption
      rw [upd_ne (Nat.ne_of_lt lb)]
      exact (hf b hb).1
  · intro X hP hw hK hc i pins s σ H E I hf st hg
    subst hP hw hK
    obtain ⟨⟨u0, he⟩, ht, n1, n2, n3⟩ := st
    obtain ⟨xs, hq, hx⟩ := hg
    obtain ⟨its, rv, p, hz⟩ := I.tuple hq
    obtain ⟨f0, f1, f2, f3, f4, f5⟩ := hf it (by simp)
    have hA : X.A.in1.handled = none := I.ok.hd hc
    have hn := rv.length
    have D1 : Draws X.prog X.w X.A.in1 it [it, a] i (fun _ _ => False) (fun k h => k = i ∧ h.IsTupleIter it a k ∧ h.IsTuple a its.toArray) :=
      ⟨fun k h st => let ⟨o, ho, _⟩ := st.2.1; ⟨o, ho⟩, fun k h h' st hk => ⟨st.1, st.2.1.at fun o e => hk it (by simp) o e, st.2.2.at fun o e => hk a (by simp) o e⟩, fun k s Q E hk st _ => absurd st.1 (Nat.ne_of_lt hk), fun s Q E st hE => wpAny_nextOf_tuple_end hA st.2.1 st.2.2 (by simp; omega) hE⟩
    exact wpAny_pyNext_enum_endD D1 he ⟨rfl, ht, p⟩ fun h' eb => ⟨rfl, I.turned (t' := s.toks) (fun b o hb q => eb b o hb q) f0 f1 f3 f4 f5⟩
def iEnumT (K : PySem.W.Frag) (ta : TA) : TI := fun σ H R => ta σ H fun vs H1 => ∃ a xs, vs = [.ref a] ∧ SqT K H1 a xs ∧ R (IteT K a) H1
theorem pi_enumT {X : Cx} {e : Expr} {ta : TA} {p pos tpos : Pos} {elts : List Expr} {kk : Nat} (hg : Gl X "enumerate") (hm : X.mg "enumerate" = none) (ha : PA X [e] ta) (hs : starEach [e] X.env = [(false, eval e X.env)] := by rfl) :
    PI X (.Tuple elts kk tpos) (.Call (.Name "enumerate" p) [e] [] pos) (iEnumT X.K ta) := by
  refine ⟨fun pins s σ H R I h => Call_ (ld_blt I hg hm boot_enumerate (PyProof.Rows.callWith_type1 (thn (ha.run pos pins s σ H _ I h) fun us s1 ⟨vs, H1, I1, r1, q1⟩ => ?_) hs rfl))⟩
  obtain ⟨a, xs, rfl, hq, q⟩ := q1
  cases r1 with
  | cons r rr =>
    cases rr
    cases r
    obtain ⟨its, rv, p', hz⟩ := I1.tuple hq
    have la : a < s1.heap.objs.size := by obtain ⟨o, ho, _⟩ := p'; exact Heap.lt_size ho
    refine cnt_new (begins_tuple a its.toArray) p' fun h' he hi hk => wpAny_pyIter_enum he ?_
    have I2 : Inv X pins σ H1 { s1 with heap := h' } := I1.kept (t' := s1.toks) hk
    refine ⟨s1.heap.objs.size + 1, [s1.heap.objs.size + 1, s1.heap.objs.size], _, _, H1, rfl, I2, turn_cntT a (s1.heap.objs.size + 1) s1.heap.objs.size, ⟨⟨.none, he⟩, ⟨_, hi, rfl, rfl⟩, Nat.succ_ne_self _, Nat.ne_of_lt la, Nat.ne_of_lt (Nat.lt_succ_of_lt la)⟩, fun b hb => ?_, q⟩
    have lb : s1.heap.objs.size ≤ b := by
      rcases (show b = s1.heap.objs.size + 1 ∨ b = s1.heap.objs.size by simpa using hb) with rfl | rfl <;> omega
    exact I1.fpOk lb (I1.hok.fresh lb)
end L2
namespace PV
open PySem PySem.Spec PyProof.Rows L2 VK
/-! ### enumerate of a list, of a tuple -/
def iEnT (f : M (List AV)) : M (List D) := fun ρ => (f.sts ρ).bind fun xs ρ1 => match xs with
  | [.tup ds] => .val (enumL 0 ds) ρ1
  | _ => .bad
def iEnA (f : M (List AV)) : M (List D) := orM (iEn f) (iEnT f)
section
variable {K : PySem.W.Frag} {mg : Str → Option Value} {F : Hp}
theorem wk_enumT {a : Addr} {vs : List V} {ds : List D} (h : SqT K F a vs) (r : RL K mg F vs ds) : Wk K mg F (IteT K a) (enumL 0 ds) := by
  have hl := r.length
  refine ⟨fun i H s hi => ?_, fun i H s hi => ?_, fun i H x H' d F2 s1 s2 hd y => ?_⟩
  · rw [enum_len] at hi
    exact ⟨vs, vs[i], same_seqT s h, List.getElem?_eq_getElem (by omega)⟩
  · rw [enum_len] at hi
    exact ⟨vs, same_seqT s h, by omega⟩
  · obtain ⟨T, u, rfl, nT, rfl, y⟩ := y
    have e := y vs (same_seqT s2 (same_seqT s1 h))
    obtain ⟨e', h1, h2⟩ := enum_get ds 0 i hd
    obtain ⟨v, hv, rv⟩ := r.get h1
    rw [e] at hv
    cases hv
    rw [h2, Nat.zero_add]
    have f := same_new (o := .tup [V.int (i : Nat), u]) (s2.free nT)
    exact ⟨upd F2 T (.tup [.int (i : Nat), u]), same_new nT, f, same_grow s2 nT, fun b q => by
      by_cases z : b = T
      · rw [z]
        exact .inr nT
      · rw [upd_ne z] at q
        exact .inl q, .tup (.inl (.inl upd_same)) (.cons (.int _) (.cons (rv.mono (s1.trans f)) .nil))⟩
end
section
variable {X : Cx} {Z : Zone} {W : WX} {tg e : Expr} {fs : M (List AV)}
theorem it_enumT {p pos tpos : Pos} {elts : List Expr} {kk : Nat} (hg : Gl X "enumerate") (hm : X.mg "enumerate" = none) (h : PL X Z W [e] fs) (hs : starEach [e] X.env = [(false, eval e X.env)] := by rfl) :
    PI1 X Z W (.Tuple elts kk tpos) (.Call (.Name "enumerate" p) [e] [] pos) (iEnT fs) := by
  refine PI.weak (pi_enumT hg hm (PL.sts h) hs) fun σ H Q ⟨ρ, F, r, q⟩ => ⟨ρ, F, r, (Post.bind q).imp fun xs H1 ρ1 F1 g q1 vs hv => ?_⟩
  split at q1
  case h_2 => exact q1.elim
  case h_1 ds =>
    cases hv with
    | cons h1 h2 =>
      cases h2
      cases h1 with
      | tup h1 h2 => exact ⟨_, _, rfl, same_seqT g.rel.same h1, q1.val_ g.rel _ (wk_enumT h1 h2)⟩
theorem it_enumA {p pos tpos : Pos} {elts : List Expr} {kk : Nat} (hg : Gl X "enumerate") (hm : X.mg "enumerate" = none) (h : PL X Z W [e] fs) (hs : starEach [e] X.env = [(false, eval e X.env)] := by rfl) :
    PI1 X Z W (.Tuple elts kk tpos) (.Call (.Name "enumerate" p) [e] [] pos) (iEnA fs) := it_orM (it_enum hg hm h hs) (it_enumT hg hm h hs)
end
def enA (xs : List D) (ρ : En) : Res (List D) := match xs with
  | [.lst ds] => .val (enumL 0 ds) ρ
  | [.tup ds] => .val (enumL 0 ds) ρ
  | _ => .bad
@[simp] theorem enA_lst {ds : List D} {ρ : En} : enA [.lst ds] ρ = .val (enumL 0 ds) ρ := rfl
@[simp] theorem enA_tup {ds : List D} {ρ : En} : enA [.tup ds] ρ = .val (enumL 0 ds) ρ := rfl
@[simp] theorem iEnA_r {l : M (List AV)} {ρ : En} : iEnA l ρ = (l.sts ρ).bind fun xs ρ1 => enA xs ρ1 := by
  unfold iEnA orM iEn iEnT
  cases l.sts ρ with
  | bad => rfl
  | exc a b c => rfl
  | val xs ρ1 =>
    match xs with
    | [] => rfl
    | [d] => cases d <;> rfl
    | d :: e :: r => cases d <;> rfl
end PV
namespace PV
open PySem PySem.Spec PyProof.Rows L2 VK

/-! ### the pen -/
def pen (cells : List Int) (a b : Int) : D := .lst [.lst (cells.map .int), .int a, .int b]
def PenD (p : D) (n : Int) : Prop := ∃ cells a b, p = pen cells a b ∧ cells.length ≤ 63 ∧ 0 ≤ a ∧ a ≤ n
def drawF (k1 k2 : Int) (gr : M AV) (mix : M Fl) : M Fl :=
  (sSeq (sIf (M.tb (eOp gGt (eOp gIx (eVar 0) (eC (.int 2))) (eC (.int 0)))) (sSeq (sSet 2 (eOp gMod (eOp gIx (eVar 0) (eC (.int 2))) (eVar 1)))
        (sSeq (sSto 0 (eC (.int 2)) (eOp gDiv (eOp gIx (eVar 0) (eC (.int 2))) (eVar 1)))
        (sRet (eVar 2)))) sNx)
      (sSeq (sSet 3 (eOp gIx (eVar 0) (eC (.int 1))))
      (sSeq (sSto 0 (eC (.int 1)) (eOp gPlus (eVar 3) (eC (.int 1))))
      (sSeq (sSet 4 (eOp gPlus (eOp gTimes (eC (.int k1)) (eVar 3)) (eC (.int k2))))
      (sSeq (sIf (M.tb (eOp gNeG (eOp gIx (eVar 0) (eC (.int 0))) (eNew (nLst eL0)))) (sSet 4 (eOp gIx (eOp gIx (eVar 0) (eC (.int 0))) (eOp gMod (eVar 3) (eB gLenA (eL1 (eOp gIx (eVar 0) (eC (.int 0))) eL0))))) sNx)
      (sSeq (sIf (bAnd (M.tb (eOp gLt (eVar 3) (eB gLenA (eL1 (eOp gIx (eVar 0) (eC (.int 0))) eL0)))) (M.tb (eOp gGe (eB gAbs (eL1 (eVar 4) eL0)) (eOp gPow (eC (.int 10)) (eC (.int 18)))))) (sSeq (sSet 5 gr)
        (sSeq (sSto 0 (eC (.int 2)) (eOp gDiv (eVar 5) (eVar 1)))
        (sRet (eOp gMod (eVar 5) (eVar 1))))) sNx)
      mix))))))
def abs' (i : Int) : Int := if i < 0 then -i else i
theorem ix_pen0 (c : List Int) (a b : Int) : gIx (pen c a b) (.int 0) = some (.lst (c.map .int)) := rfl
theorem ix_pen1 (c : List Int) (a b : Int) : gIx (pen c a b) (.int 1) = some (.int a) := rfl
theorem ix_pen2 (c : List Int) (a b : Int) : gIx (pen c a b) (.int 2) = some (.int b) := rfl
theorem datL_ints : ∀ c : List Int, datL (c.map .int) = true
  | [] => rfl
  | _ :: r => by
    show (true && datL (r.map .int)) = true
    rw [datL_ints r]
    rfl
theorem nodL_ints : ∀ c : List Int, nodL (c.map .int) = true
  | [] => rfl
  | _ :: r => by
    show (true && nodL (r.map .int)) = true
    rw [nodL_ints r]
    rfl
theorem depL_ints : ∀ c : List Int, depL (c.map .int) = 0
  | [] => rfl
  | _ :: r => by
    show max 0 (depL (r.map .int)) = 0
    rw [depL_ints r]
    rfl
theorem eqo_ints (c : List Int) : (D.lst (c.map .int)).eqo = true := by
  show (datL (c.map .int) && nodL (c.map .int) && decide (depL (c.map .int) + 1 ≤ 60)) = true
  rw [datL_ints, nodL_ints, depL_ints]
  rfl
theorem ne_ints (c : List Int) : gNeG (.lst (c.map .int)) (.lst []) = some (.bl (!c.isEmpty)) := by
  show (match gNeS (.lst (c.map .int)) (.lst []) with | some z => some z | none => gNe (.lst (c.map .int)) (.lst [])) = _
  show gNe (.lst (c.map .int)) (.lst []) = _
  unfold gNe
  rw [eqo_ints]
  show some (D.bl (!eqD (.lst (c.map .int)) (.lst []))) = _
  cases c <;> rfl
theorem abs'_nonneg (i : Int) : 0 ≤ abs' i := by
  unfold abs'
  split <;> omega
theorem at_ints {c : List Int} {i : Int} (h0 : 0 ≤ i) (h1 : i < c.length) : ∃ x, gIx (.lst (c.map .int)) (.int i) = some (.int x) := by
  have hl : i.toNat < c.length := by omega
  refine ⟨c[i.toNat], ?_⟩
  have : gIxL (.lst (c.map .int)) (.int i) = some (.int c[i.toNat]) := by
    show L2.atI (c.map D.int) i = _
    unfold L2.atI ixN
    rw [if_pos h0, if_pos (by rw [List.length_map]; exact h1)]
    show (c.map D.int)[i.toNat]? = _
    rw [List.getElem?_map, List.getElem?_eq_getElem hl]
    rfl
  unfold gIx orG
  rw [this]
theorem gMod_r {i j : Int} (h : 0 < j) : gMod (.int i) (.int j) = some (.int (i % j)) := if_pos h
theorem gDiv_r {i j : Int} (h : 0 < j) (h2 : j < 1073741824) : gDiv (.int i) (.int j) = some (.int (i / j)) := if_pos ⟨h, h2⟩
theorem gPow_r {i j : Int} (h : 0 ≤ j) (h2 : j ≤ 1000000) (h3 : i.natAbs < 2 ^ 64) : gPow (.int i) (.int j) = some (.int (i ^ j.toNat)) := if_pos ⟨h, h2, h3⟩
@[simp] theorem gPlus_int {i j : Int} : gPlus (.int i) (.int j) = some (.int (i + j)) := rfl
@[simp] theorem gSub_int {i j : Int} : gSub (.int i) (.int j) = some (.int (i - j)) := rfl
theorem gTimes_r {i j : Int} (h : i.natAbs < 2 ^ 60 ∨ j.natAbs < 2 ^ 60) : gTimes (.int i) (.int j) = some (.int (i * j)) := by
  show (match gMul (.int i) (.int j) with | some z => some z | none => _) = _
  have : gMul (.int i) (.int j) = some (.int (i * j)) := if_pos h
  rw [this]
@[simp] theorem gLt_int {i j : Int} : gLt (.int i) (.int j) = some (.bl (decide (i < j))) := rfl
@[simp] theorem gLe_int {i j : Int} : gLe (.int i) (.int j) = some (.bl (decide (i ≤ j))) := rfl
@[simp] theorem gGt_int {i j : Int} : gGt (.int i) (.int j) = some (.bl (decide (j < i))) := rfl
@[simp] theorem gGe_int {i j : Int} : gGe (.int i) (.int j) = some (.bl (decide (j ≤ i))) := rfl
@[simp] theorem gLenA_lst {ds : List D} : gLenA [.lst ds] = some (.int ds.length) := rfl
@[simp] theorem gLenA_tup {ds : List D} : gLenA [.tup ds] = some (.int ds.length) := rfl
@[simp] theorem gAbs_int {i : Int} : gAbs [.int i] = some (.int (abs' i)) := rfl
@[simp] theorem gInt1_int {i : Int} : gInt1 [.int i] = some (.int i) := rfl
@[simp] theorem gInt1_bl {b : Bool} : gInt1 [.bl b] = some (.int (if b then 1 else 0)) := rfl
theorem sto_pen1 {c : List Int} {a b x : Int} {ρ : En} : stoR 0 (some (pen c a b)) (.int 1) (.int x) (.pin (pen c a b) :: ρ) = .val .nx (.pin (pen c x b) :: ρ) := rfl
theorem sto_pen2 {c : List Int} {a b x : Int} {ρ : En} : stoR 0 (some (pen c a b)) (.int 2) (.int x) (.pin (pen c a b) :: ρ) = .val .nx (.pin (pen c a x) :: ρ) := rfl
/-- from a large cell -/
theorem draw1 {k1 k2 : Int} {gr : M AV} {mix : M Fl} {c : List Int} {a b u : Int} {x2 : Sl} {t : En} (hb : 0 < b) (u0 : 0 < u) (u1 : u < 1073741824) :
    drawF k1 k2 gr mix (.pin (pen c a b) :: .sh (.int u) :: x2 :: t) = .val (.rt (.int (b % u))) (.pin (pen c a (b / u)) :: .sh (.int u) :: .sh (.int (b % u)) :: t) := by
  simp [sSeq_r, sIf_r, sFor_r, drawF, ix_pen2, hb, gMod_r u0, gDiv_r u0 u1, sto_pen2]
/-- what a draw's last steps do -/
def MixOk (k : Nat) (mix : M Fl) : Prop := ∀ (p : D) (u x a c : Int) (x2 x5 : Sl) (t : En), 0 < u → u < 1073741824 → 0 ≤ a → a ≤ 1048576 → k ≤ t.length →
  ∃ r t', mix (.pin p :: .sh (.int u) :: x2 :: .sh (.int a) :: .sh (.int c) :: x5 :: t) = .val (.rt (.int r)) (.pin p :: .sh (.int u) :: t') ∧ 0 ≤ r ∧ r < u
def GreatOk (gr : M AV) : Prop := ∀ (p x1 x2 x3 x5 : Sl) (c : Int) (t : En), 1000000000000000000 ≤ abs' c → ∃ L, gr (p :: x1 :: x2 :: x3 :: .sh (.int c) :: x5 :: t) = .val (.d (.int L)) (p :: x1 :: x2 :: x3 :: .sh (.int c) :: x5 :: t)
theorem draw_ok {k1 k2 : Int} {k : Nat} {gr : M AV} {mix : M Fl} (hk : k1.natAbs < 2 ^ 60) (hg : GreatOk gr) (hm : MixOk k mix) {p : D} {n u : Int} (hp : PenD p n) (hn : n ≤ 1048576) (u0 : 0 < u) (u1 : u < 1073741824) {x2 x3 x4 x5 : Sl} {t : En} (ht : k ≤ t.length) :
    ∃ r p' t', drawF k1 k2 gr mix (.pin p :: .sh (.int u) :: x2 :: x3 :: x4 :: x5 :: t) = .val (.rt (.int r)) (.pin p' :: .sh (.int u) :: t') ∧ 0 ≤ r ∧ r < u ∧ PenD p' (n + 1) := by
  obtain ⟨c, a, b, rfl, h1, h2, h3⟩ := hp
  by_cases hb : 0 < b
  · exact ⟨_, _, _, draw1 hb u0 u1, Int.emod_nonneg _ (by omega), Int.emod_lt_of_pos _ u0, c, a, b / u, rfl, h1, h2, by omega⟩
  have step : ∀ cell : Int, ∃ r p' t', (Res.bind ((sIf (bAnd (M.tb (eOp gLt (eVar 3) (eB gLenA (eL1 (eOp gIx (eVar 0) (eC (.int 0))) eL0)))) (M.tb (eOp gGe (eB gAbs (eL1 (eVar 4) eL0)) (eOp gPow (eC (.int 10)) (eC (.int 18)))))) (sSeq (sSet 5 gr)
        (sSeq (sSto 0 (eC (.int 2)) (eOp gDiv (eVar 5) (eVar 1)))
        (sRet (eOp gMod (eVar 5) (eVar 1))))) sNx) (.pin (pen c (a + 1) b) :: .sh (.int u) :: x2 :: .sh (.int a) :: .sh (.int cell) :: x5 :: t)) (thenF mix)) = .val (.rt (.int r)) (.pin p' :: .sh (.int u) :: t') ∧ 0 ≤ r ∧ r < u ∧ PenD p' (n + 1) := by
    intro cell
    have nx : ∃ r p' t', mix (.pin (pen c (a + 1) b) :: .sh (.int u) :: x2 :: .sh (.int a) :: .sh (.int cell) :: x5 :: t) = .val (.rt (.int r)) (.pin p' :: .sh (.int u) :: t') ∧ 0 ≤ r ∧ r < u ∧ PenD p' (n + 1) := by
      obtain ⟨r, t', e, r0, r1⟩ := hm (pen c (a + 1) b) u 0 a cell x2 x5 t u0 u1 h2 (by omega) ht
      exact ⟨r, _, t', e, r0, r1, c, a + 1, b, rfl, h1, by omega, by omega⟩
    by_cases c1 : a < c.length
    · by_cases c2 : 1000000000000000000 ≤ abs' cell
      · obtain ⟨L, hL⟩ := hg (.pin (pen c (a + 1) b)) (.sh (.int u)) x2 (.sh (.int a)) x5 cell t c2
        refine ⟨L % u, pen c (a + 1) (L / u), x2 :: .sh (.int a) :: .sh (.int cell) :: .sh (.int L) :: t, ?_, Int.emod_nonneg _ (by omega), Int.emod_lt_of_pos _ u0, c, a + 1, L / u, rfl, h1, by omega, by omega⟩
        simp [sSeq_r, sIf_r, sFor_r, ix_pen0, gPow_r, c1, c2, hL, gMod_r u0, gDiv_r u0 u1, sto_pen2]
        trace_state
      · obtain ⟨r, p', t', e, q⟩ := nx
        refine ⟨r, p', t', ?_, q⟩
        rw [← e]
        simp [sSeq_r, sIf_r, sFor_r, ix_pen0, gPow_r, c1, c2]
    · obtain ⟨r, p', t', e, q⟩ := nx
      refine ⟨r, p', t', ?_, q⟩
      rw [← e]
      simp [sSeq_r, sIf_r, sFor_r, ix_pen0, c1]
  by_cases ce : c = []
  · obtain ⟨r, p', t', e, q⟩ := step (k1 * a + k2)
    refine ⟨r, p', t', ?_, q⟩
    rw [← e]
    subst ce
    simp [sSeq_r, sIf_r, sFor_r, drawF, ix_pen0, ix_pen1, ix_pen2, hb, sto_pen1, gTimes_r (.inl hk), show gNeG (.lst []) (.lst []) = some (.bl false) from ne_ints []]
  · have hc : 0 < c.length := List.length_pos_iff.mpr ce
    obtain ⟨x, hx⟩ := at_ints (c := c) (i := a % c.length) (Int.emod_nonneg _ (by omega)) (Int.emod_lt_of_pos _ (by omega))
    obtain ⟨r, p', t', e, q⟩ := step x
    refine ⟨r, p', t', ?_, q⟩
    rw [← e]
    have hi : c.isEmpty = false := by
      cases c with
      | nil => exact (ce rfl).elim
      | cons y ys => rfl
    simp [sSeq_r, sIf_r, sFor_r, drawF, ix_pen0, ix_pen1, ix_pen2, hb, sto_pen1, gTimes_r (.inl hk), ne_ints, hi, gMod_r (show (0 : Int) < c.length by omega), hx]
/-! the two ways to read a large cell, the three ways to mix -/
def grPlain : M AV := eOp gPlus (eOp gTimes (eC (.int 2)) (eB gAbs (eL1 (eVar 4) eL0))) (eB gInt1 (eL1 (eOp gLt (eVar 4) (eC (.int 0))) eL0))
def grLess : M AV := eOp gPlus (eOp gTimes (eC (.int 2)) (eOp gSub (eB gAbs (eL1 (eVar 4) eL0)) (eOp gPow (eC (.int 10)) (eC (.int 18))))) (eB gInt1 (eL1 (eOp gLt (eVar 4) (eC (.int 0))) eL0))
theorem grPlain_ok : GreatOk grPlain := fun p x1 x2 x3 x5 c t _ => ⟨2 * abs' c + (if c < 0 then 1 else 0), by simp [sSeq_r, sIf_r, sFor_r, grPlain, gTimes_r]⟩
theorem grLess_ok : GreatOk grLess := fun p x1 x2 x3 x5 c t _ => ⟨2 * (abs' c - 10 ^ 18) + (if c < 0 then 1 else 0), by simp [sSeq_r, sIf_r, sFor_r, grLess, gTimes_r, gPow_r]⟩
def mixA (m1 c1 c2 m2 c3 c4 m3 c5 c6 m4 d : Int) : M Fl :=
      (sSeq (sSet 6 (eOp gMod (eOp gPow (eOp gPlus (eOp gPlus (eOp gMod (eVar 4) (eC (.int m1))) (eOp gTimes (eC (.int c1)) (eVar 3))) (eC (.int c2))) (eC (.int 3))) (eC (.int m2))))
      (sSeq (sSet 6 (eOp gMod (eOp gPow (eOp gPlus (eOp gPlus (eVar 6) (eOp gTimes (eOp gTimes (eC (.int c3)) (eVar 3)) (eVar 3))) (eC (.int c4))) (eC (.int 5))) (eC (.int m3))))
      (sRet (eOp gMod (eOp gDiv (eOp gMod (eOp gPlus (eOp gTimes (eVar 6) (eOp gPlus (eOp gTimes (eC (.int 2)) (eVar 3)) (eC (.int c5)))) (eC (.int c6))) (eC (.int m4))) (eC (.int d))) (eVar 1)))))
def mixB (m1 c1 c2 m2 c3 c4 c5 m3 d : Int) : M Fl :=
      (sSeq (sSet 6 (eOp gMod (eOp gPow (eOp gPlus (eOp gPlus (eOp gMod (eVar 4) (eC (.int m1))) (eOp gTimes (eC (.int c1)) (eVar 3))) (eC (.int c2))) (eC (.int 5))) (eC (.int m2))))
      (sSeq (sSet 6 (eOp gMod (eOp gPow (eOp gPlus (eOp gPlus (eOp gTimes (eVar 6) (eOp gPlus (eOp gTimes (eC (.int 2)) (eVar 3)) (eC (.int c3)))) (eOp gTimes (eOp gTimes (eC (.int c4)) (eVar 3)) (eVar 3))) (eC (.int c5))) (eC (.int 3))) (eC (.int m3))))
      (sRet (eOp gMod (eOp gDiv (eVar 6) (eC (.int d))) (eVar 1)))))
def mixP (m1 c1 c2 c3 m2 c4 c5 m3 d : Int) : M Fl :=
      (sSeq (sSet 6 (eOp gMod (eOp gPow (eOp gPlus (eOp gPlus (eOp gPlus (eOp gMod (eVar 4) (eC (.int m1))) (eOp gTimes (eOp gTimes (eC (.int c1)) (eVar 3)) (eVar 3))) (eOp gTimes (eC (.int c2)) (eVar 3))) (eC (.int c3))) (eC (.int 3))) (eC (.int m2))))
      (sSeq (sSet 7 (eOp gMod (eOp gPow (eOp gPlus (eOp gTimes (eVar 6) (eOp gPlus (eOp gTimes (eC (.int 2)) (eVar 3)) (eC (.int c4)))) (eC (.int c5))) (eC (.int 5))) (eC (.int m3))))
      (sRet (eOp gMod (eOp gDiv (eVar 7) (eC (.int d))) (eVar 1)))))
theorem lt64 {x : Int} (h0 : 0 ≤ x) (h1 : x < 18446744073709551616) : x.natAbs < 2 ^ 64 := by omega
theorem lt60 {x : Int} (h0 : 0 ≤ x) (h1 : x ≤ 1048576) : x.natAbs < 2 ^ 60 := by omega
theorem mul_le {x y m n : Int} (x0 : 0 ≤ x) (y0 : 0 ≤ y) (hx : x ≤ m) (hy : y ≤ n) : 0 ≤ x * y ∧ x * y ≤ m * n := ⟨Int.mul_nonneg x0 y0, Int.mul_le_mul hx hy y0 (by omega)⟩
theorem mixA_ok {m1 c1 c2 m2 c3 c4 m3 c5 c6 m4 d : Int} (h1 : 0 < m1 ∧ m1 ≤ 4294967296) (h2 : 0 < m2 ∧ m2 ≤ 4294967296) (h3 : 0 < m3 ∧ m3 ≤ 4294967296) (h4 : 0 < m4) (q1 : 0 ≤ c1 ∧ c1 ≤ 1048576) (q2 : 0 ≤ c2 ∧ c2 ≤ 1048576) (q3 : 0 ≤ c3 ∧ c3 ≤ 1048576) (q4 : 0 ≤ c4 ∧ c4 ≤ 1048576) (q5 : 0 < d ∧ d < 1073741824) :
    MixOk 1 (mixA m1 c1 c2 m2 c3 c4 m3 c5 c6 m4 d) := by
  intro p u x a c x2 x5 t u0 u1 a0 a1 ht
  obtain ⟨x6, t, rfl⟩ := List.exists_cons_of_length_pos ht
  have e1 := Int.emod_nonneg c (show m1 ≠ 0 by omega)
  have e2 := Int.emod_lt_of_pos c h1.1
  obtain ⟨f1, f2⟩ := mul_le q1.1 a0 q1.2 a1
  have w1 : 0 ≤ c % m1 + c1 * a + c2 ∧ c % m1 + c1 * a + c2 < 18446744073709551616 := by omega
  generalize hy : (c % m1 + c1 * a + c2) ^ 3 % m2 = y
  have y0 : 0 ≤ y := hy ▸ Int.emod_nonneg _ (by omega)
  have y1 : y < m2 := hy ▸ Int.emod_lt_of_pos _ h2.1
  obtain ⟨f3, f4⟩ := mul_le q3.1 a0 q3.2 a1
  obtain ⟨f5, f6⟩ := mul_le f3 a0 f4 a1
  have w2 : 0 ≤ y + c3 * a * a + c4 ∧ y + c3 * a * a + c4 < 18446744073709551616 := by omega
  generalize hz : (y + c3 * a * a + c4) ^ 5 % m3 = z
  have z0 : 0 ≤ z := hz ▸ Int.emod_nonneg _ (by omega)
  have z1 : z < m3 := hz ▸ Int.emod_lt_of_pos _ h3.1
  refine ⟨((z * (2 * a + c5) + c6) % m4) / d % u, x2 :: .sh (.int a) :: .sh (.int c) :: x5 :: .sh (.int z) :: t, ?_, Int.emod_nonneg _ (by omega), Int.emod_lt_of_pos _ u0⟩
  simp [sSeq_r, sIf_r, sFor_r, mixA, gMod_r h1.1, gMod_r h2.1, gMod_r h3.1, gMod_r h4, gMod_r u0, gDiv_r q5.1 q5.2, gTimes_r (.inr (lt60 a0 a1)), gTimes_r (.inl (show z.natAbs < 2 ^ 60 by omega)), gPow_r (show (0 : Int) ≤ 3 by decide) (by decide) (lt64 w1.1 w1.2), gPow_r (show (0 : Int) ≤ 5 by decide) (by decide) (lt64 w2.1 w2.2), hy, hz]
theorem mixB_ok {m1 c1 c2 m2 c3 c4 c5 m3 d : Int} (h1 : 0 < m1 ∧ m1 ≤ 4294967296) (h2 : 0 < m2 ∧ m2 ≤ 4294967296) (h3 : 0 < m3 ∧ m3 ≤ 4294967296) (q1 : 0 ≤ c1 ∧ c1 ≤ 1048576) (q2 : 0 ≤ c2 ∧ c2 ≤ 1048576) (q3 : 0 ≤ c3 ∧ c3 ≤ 1048576) (q4 : 0 ≤ c4 ∧ c4 ≤ 1048576) (q5 : 0 ≤ c5 ∧ c5 ≤ 1048576) (q6 : 0 < d ∧ d < 1073741824) :
    MixOk 1 (mixB m1 c1 c2 m2 c3 c4 c5 m3 d) := by
  intro p u x a c x2 x5 t u0 u1 a0 a1 ht
  obtain ⟨x6, t, rfl⟩ := List.exists_cons_of_length_pos ht
  have e1 := Int.emod_nonneg c (show m1 ≠ 0 by omega)
  have e2 := Int.emod_lt_of_pos c h1.1
  obtain ⟨f1, f2⟩ := mul_le q1.1 a0 q1.2 a1
  have w1 : 0 ≤ c % m1 + c1 * a + c2 ∧ c % m1 + c1 * a + c2 < 18446744073709551616 := by omega
  generalize hy : (c % m1 + c1 * a + c2) ^ 5 % m2 = y
  have y0 : 0 ≤ y := hy ▸ Int.emod_nonneg _ (by omega)
  have y1 : y < m2 := hy ▸ Int.emod_lt_of_pos _ h2.1
  obtain ⟨f3, f4⟩ := mul_le q4.1 a0 q4.2 a1
  obtain ⟨f5, f6⟩ := mul_le f3 a0 f4 a1
  obtain ⟨f7, f8⟩ := mul_le y0 (show 0 ≤ 2 * a + c3 by omega) (show y ≤ 4294967296 by omega) (show 2 * a + c3 ≤ 3145728 by omega)
  have w2 : 0 ≤ y * (2 * a + c3) + c4 * a * a + c5 ∧ y * (2 * a + c3) + c4 * a * a + c5 < 18446744073709551616 := by omega
  generalize hz : (y * (2 * a + c3) + c4 * a * a + c5) ^ 3 % m3 = z
  refine ⟨z / d % u, x2 :: .sh (.int a) :: .sh (.int c) :: x5 :: .sh (.int z) :: t, ?_, Int.emod_nonneg _ (by omega), Int.emod_lt_of_pos _ u0⟩
  simp [sSeq_r, sIf_r, sFor_r, mixB, gMod_r h1.1, gMod_r h2.1, gMod_r h3.1, gMod_r u0, gDiv_r q6.1 q6.2, gTimes_r (.inr (lt60 a0 a1)), gTimes_r (.inl (show y.natAbs < 2 ^ 60 by omega)), gPow_r (show (0 : Int) ≤ 5 by decide) (by decide) (lt64 w1.1 w1.2), gPow_r (show (0 : Int) ≤ 3 by decide) (by decide) (lt64 w2.1 w2.2), hy, hz]
theorem mixP_ok {m1 c1 c2 c3 m2 c4 c5 m3 d : Int} (h1 : 0 < m1 ∧ m1 ≤ 4294967296) (h2 : 0 < m2 ∧ m2 ≤ 4294967296) (h3 : 0 < m3 ∧ m3 ≤ 4294967296) (q1 : 0 ≤ c1 ∧ c1 ≤ 1048576) (q2 : 0 ≤ c2 ∧ c2 ≤ 1048576) (q3 : 0 ≤ c3 ∧ c3 ≤ 1048576) (q4 : 0 ≤ c4 ∧ c4 ≤ 1048576) (q5 : 0 ≤ c5 ∧ c5 ≤ 1048576) (q6 : 0 < d ∧ d < 1073741824) :
    MixOk 2 (mixP m1 c1 c2 c3 m2 c4 c5 m3 d) := by
  intro p u x a c x2 x5 t u0 u1 a0 a1 ht
  obtain ⟨x6, t, rfl⟩ := List.exists_cons_of_length_pos (show 0 < t.length by omega)
  rw [List.length_cons] at ht
  obtain ⟨x7, t, rfl⟩ := List.exists_cons_of_length_pos (show 0 < t.length by omega)
  have e1 := Int.emod_nonneg c (show m1 ≠ 0 by omega)
  have e2 := Int.emod_lt_of_pos c h1.1
  obtain ⟨f1, f2⟩ := mul_le q2.1 a0 q2.2 a1
  obtain ⟨f3, f4⟩ := mul_le q1.1 a0 q1.2 a1
  obtain ⟨f5, f6⟩ := mul_le f3 a0 f4 a1
  have w1 : 0 ≤ c % m1 + c1 * a * a + c2 * a + c3 ∧ c % m1 + c1 * a * a + c2 * a + c3 < 18446744073709551616 := by omega
  generalize hy : (c % m1 + c1 * a * a + c2 * a + c3) ^ 3 % m2 = y
  have y0 : 0 ≤ y := hy ▸ Int.emod_nonneg _ (by omega)
  have y1 : y < m2 := hy ▸ Int.emod_lt_of_pos _ h2.1
  obtain ⟨f7, f8⟩ := mul_le y0 (show 0 ≤ 2 * a + c4 by omega) (show y ≤ 4294967296 by omega) (show 2 * a + c4 ≤ 3145728 by omega)
  have w2 : 0 ≤ y * (2 * a + c4) + c5 ∧ y * (2 * a + c4) + c5 < 18446744073709551616 := by omega
  generalize hz : (y * (2 * a + c4) + c5) ^ 5 % m3 = z
  refine ⟨z / d % u, x2 :: .sh (.int a) :: .sh (.int c) :: x5 :: .sh (.int y) :: .sh (.int z) :: t, ?_, Int.emod_nonneg _ (by omega), Int.emod_lt_of_pos _ u0⟩
  simp [sSeq_r, sIf_r, sFor_r, mixP, gMod_r h1.1, gMod_r h2.1, gMod_r h3.1, gMod_r u0, gDiv_r q6.1 q6.2, gTimes_r (.inr (lt60 a0 a1)), gTimes_r (.inl (show y.natAbs < 2 ^ 60 by omega)), gPow_r (show (0 : Int) ≤ 3 by decide) (by decide) (lt64 w1.1 w1.2), gPow_r (show (0 : Int) ≤ 5 by decide) (by decide) (lt64 w2.1 w2.2), hy, hz]
/-- a draw, as the callers know it -/
def DrawOk (Mf : Md) : Prop := ∀ (p : D) (n u : Int), PenD p n → n ≤ 1048576 → 0 < u → u < 1073741824 → ∃ r p', Mf [p, .int u] = .val (.int r) [p'] ∧ 0 ≤ r ∧ r < u ∧ PenD p' (n + 1)
theorem DrawOk.of {k1 k2 : Int} {k m : Nat} {gr : M AV} {mix : M Fl} (hk : k1.natAbs < 2 ^ 60) (hg : GreatOk gr) (hm : MixOk k mix) (h6 : k + 6 ≤ m) : DrawOk (runM [true, false] m (drawF k1 k2 gr mix)) := by
  intro p n u hp hn u0 u1
  obtain ⟨q, rfl⟩ := Nat.exists_eq_add_of_le (show 6 ≤ m by omega)
  obtain ⟨r, p', t', e, r0, r1, hp'⟩ := draw_ok (k2 := k2) hk hg hm hp hn u0 u1 (x2 := .no) (x3 := .no) (x4 := .no) (x5 := .no) (t := List.replicate q .no) (by rw [List.length_replicate]; omega)
  refine ⟨r, p', ?_, r0, r1, hp'⟩
  have he : stE [true, false] [p, .int u] ++ List.replicate (6 + q - [p, .int u].length) .no = .pin p :: .sh (.int u) :: .no :: .no :: .no :: .no :: List.replicate q .no := by
    rw [show 6 + q - [p, D.int u].length = q + 4 by show 6 + q - 2 = q + 4; omega]
    rfl
  unfold runM
  rw [he, e]
  rfl
theorem PenD.le {p : D} {n m : Int} (h : PenD p n) (l : n ≤ m) : PenD p m := by
  obtain ⟨c, a, b, e, h1, h2, h3⟩ := h
  exact ⟨c, a, b, e, h1, h2, by omega⟩
theorem ixL_r {xs : List D} {r : Int} (h0 : 0 ≤ r) (h1 : r < xs.length) : ∃ x, xs[r.toNat]? = some x ∧ x ∈ xs ∧ gIx (.lst xs) (.int r) = some x := by
  have hl : r.toNat < xs.length := by omega
  refine ⟨xs[r.toNat], List.getElem?_eq_getElem hl, List.getElem_mem _, ?_⟩
  have : gIxL (.lst xs) (.int r) = some xs[r.toNat] := by
    show L2.atI xs r = _
    unfold L2.atI ixN
    rw [if_pos h0, if_pos h1]
    exact List.getElem?_eq_getElem hl
  unfold gIx orG
  rw [this]
theorem ixT_r {xs : List D} {r : Int} (h0 : 0 ≤ r) (h1 : r < xs.length) : ∃ x, xs[r.toNat]? = some x ∧ x ∈ xs ∧ gIx (.tup xs) (.int r) = some x := by
  have hl : r.toNat < xs.length := by omega
  refine ⟨xs[r.toNat], List.getElem?_eq_getElem hl, List.getElem_mem _, ?_⟩
  have : gIxT (.tup xs) (.int r) = some xs[r.toNat] := by
    show L2.atI xs r = _
    unfold L2.atI ixN
    rw [if_pos h0, if_pos h1]
    exact List.getElem?_eq_getElem hl
  show (match gIxL (.tup xs) (.int r) with | some z => some z | none => orG gIxT gIxS (.tup xs) (.int r)) = _
  show orG gIxT gIxS (.tup xs) (.int r) = _
  unfold orG
  rw [this]
@[simp] theorem gEqG_int {i j : Int} : gEqG (.int i) (.int j) = some (.bl (decide (i = j))) := rfl
@[simp] theorem gNeG_int {i j : Int} : gNeG (.int i) (.int j) = some (.bl (!decide (i = j))) := rfl
@[simp] theorem gEqG_str {i j : Str} : gEqG (.str i) (.str j) = some (.bl (decide (i = j))) := rfl
@[simp] theorem gNeG_str {i j : Str} : gNeG (.str i) (.str j) = some (.bl (!decide (i = j))) := rfl
@[simp] theorem gEqG_bl {i j : Bool} : gEqG (.bl i) (.bl j) = some (.bl (decide (i = j))) := rfl
@[simp] theorem gNeG_bl {i j : Bool} : gNeG (.bl i) (.bl j) = some (.bl (!decide (i = j))) := rfl
@[simp] theorem gIsB_bl {i j : Bool} : gIsB (.bl i) (.bl j) = some (.bl (decide (i = j))) := rfl
@[simp] theorem gNotB_bl {i j : Bool} : gNotB (.bl i) (.bl j) = some (.bl (!decide (i = j))) := rfl
@[simp] theorem gIsN_r : gIsN d .non = some (.bl (isN d)) := rfl
@[simp] theorem gNotN_r : gNotN d .non = some (.bl (!isN d)) := rfl
theorem small_r {n : Nat} (h : n ≤ 1000000) : n ≤ sizeLine := Nat.le_trans h (by decide)
theorem gPlus_lst {xs ys : List D} (h : xs.length + ys.length ≤ 1000000) : gPlus (.lst xs) (.lst ys) = some (.lst (xs ++ ys)) := by
  show gCatL (.lst xs) (.lst ys) = _
  exact if_pos (small_r h)
theorem gPlus_tup {xs ys : List D} (h : xs.length + ys.length ≤ 1000000) : gPlus (.tup xs) (.tup ys) = some (.tup (xs ++ ys)) := by
  show (match gCatT (.tup xs) (.tup ys) with | some z => some z | none => _) = _
  have : gCatT (.tup xs) (.tup ys) = some (.tup (xs ++ ys)) := if_pos (small_r h)
  rw [this]
theorem gApp_r {xs : List D} {d : D} (h : xs.length < 1000000) : gApp (.lst xs) [d] = some (.non, .lst (xs ++ [d])) := if_pos (Nat.lt_of_lt_of_le h (by decide))
theorem gExt_r {xs ys : List D} (h : xs.length + ys.length ≤ 1000000) : gExt (.lst xs) [.lst ys] = some (.non, .lst (xs ++ ys)) := if_pos (small_r h)
@[simp] theorem nList_lst {xs : List D} : nList [.lst xs] = some xs := rfl
@[simp] theorem nList_tup {xs : List D} : nList [.tup xs] = some xs := rfl
@[simp] theorem gTuple_lst {xs : List D} : gTuple [.lst xs] = some (.tup xs) := rfl
@[simp] theorem gTuple_tup {xs : List D} : gTuple [.tup xs] = some (.tup xs) := rfl
@[simp] theorem gRevT_r {xs : List D} : gRevT (.tup xs) = some (.tup xs.reverse) := rfl
theorem gRepr_r {d : D} (h : d.sho = true) : gRepr [d] = some (.str d.py.shown) := if_pos h
theorem sl_small {n : Nat} (h : n ≤ 1000000) : (n ≤ sizeLine) = True := eq_true (small_r h)
@[simp] theorem gSl_tup {xs : List D} {a b : Option Int} : gSl (.tup xs) a b = some (.tup (cutG xs a b)) := rfl
@[simp] theorem gSl_lst {xs : List D} {a b : Option Int} : gSl (.lst xs) a b = some (.lst (cutG xs a b)) := rfl
@[simp] theorem gSl_scr {xs : List Int} {a b : Option Int} : gSl (.scr xs) a b = some (.lst (cutG (xs.map .int) a b)) := rfl
@[simp] theorem gSlL_lst {xs : List D} {a b : Option Int} : gSlL (.lst xs) a b = some (cutG xs a b) := rfl
@[simp] theorem gSlL_scr {xs : List Int} {a b : Option Int} : gSlL (.scr xs) a b = some (cutG (xs.map .int) a b) := rfl
/-- the pen of a script -/
theorem pen_ok {N : List D → Option D} (h : ∀ ns : List Int, N [.scr ns] = some (pen (ns.take 63) 0 0)) (ns : List Int) : ∃ p, N [.scr ns] = some p ∧ PenD p 0 := ⟨_, h ns, _, _, _, rfl, by rw [List.length_take]; exact Nat.min_le_left _ _, Int.le_refl _, Int.le_refl _⟩
def penE : M D := (nLst (eL1 (eNew (nB nList (eL1 (eSl gSl (eVar 0) pNo (pIn (eC (.int 63)))) eL0))) (eL1 (eC (.int 0)) (eL1 (eC (.int 0)) eL0))))
theorem penE_ok (ns : List Int) : runN 1 1 penE [.scr ns] = some (pen (ns.take 63) 0 0) := by
  have c : cutG (ns.map D.int) none (some 63) = (ns.take 63).map D.int := by
    rw [show (63 : Int) = ((63 : Nat) : Int) from rfl, cutG_take, List.map_take]
  simp [sSeq_r, sIf_r, sFor_r, runN, penE, c, pen, sl_small (show 3 ≤ 1000000 by decide)]
@[simp] theorem cutG_t1 {α : Type} {xs : List α} : cutG xs none (some 1) = xs.take 1 := cutG_take xs 1
@[simp] theorem cutG_d1 {α : Type} {xs : List α} : cutG xs (some 1) none = xs.drop 1 := cutG_drop xs 1
@[simp] theorem cutG_t2 {α : Type} {xs : List α} : cutG xs none (some 2) = xs.take 2 := cutG_take xs 2
@[simp] theorem cutG_d2 {α : Type} {xs : List α} : cutG xs (some 2) none = xs.drop 2 := cutG_drop xs 2
@[simp] theorem cutG_t3 {α : Type} {xs : List α} : cutG xs none (some 3) = xs.take 3 := cutG_take xs 3
@[simp] theorem cutG_d3 {α : Type} {xs : List α} : cutG xs (some 3) none = xs.drop 3 := cutG_drop xs 3
@[simp] theorem cutG_t4 {α : Type} {xs : List α} : cutG xs none (some 4) = xs.take 4 := cutG_take xs 4
@[simp] theorem cutG_d4 {α : Type} {xs : List α} : cutG xs (some 4) none = xs.drop 4 := cutG_drop xs 4
@[simp] theorem cutG_t5 {α : Type} {xs : List α} : cutG xs none (some 5) = xs.take 5 := cutG_take xs 5
@[simp] theorem cutG_d5 {α : Type} {xs : List α} : cutG xs (some 5) none = xs.drop 5 := cutG_drop xs 5
theorem gUpper_r {w : Str} (h : w.length ≤ 1000) : gUpper (.str w) = some (.str (Txt.upper w)) := if_pos (Nat.le_trans h (by decide))
end PV
namespace PV
open PySem PySem.Spec PyProof.Rows L2 VK
section
variable {α β γ : Type} {ρ ρ' : En} {f g h : M Fl} {a b c : M AV} {i j k n : Nat} {d e z : D}
@[simp] theorem bind_assoc {r : Res α} {k : α → En → Res β} {l : β → En → Res γ} : (r.bind k).bind l = r.bind fun x ρ1 => (k x ρ1).bind l := by cases r <;> rfl
@[simp] theorem msA_r {ms : List Bool} {n m : Nat} : msA ms n m = ms ++ List.replicate (n - ms.length + m) false := rfl
@[simp] theorem aGen_r {nk : Nat} {fs gs : M (List AV)} : aGen nk fs gs ρ = (fs ρ).bind fun xs ρ1 => (gs ρ1).bind fun zs ρ2 => if zs.length = nk then .val (xs, zs) ρ2 else .bad := rfl
def seqS (o : Option (List D)) (g : M (List AV)) (ρ : En) : Res (List AV) := match o with
  | some xs => (g ρ).bind fun ys ρ2 => .val (xs.map .d ++ ys) ρ2
  | none => .bad
@[simp] theorem seqS_some {xs : List D} {g : M (List AV)} : seqS (some xs) g ρ = (g ρ).bind fun ys ρ2 => .val (xs.map .d ++ ys) ρ2 := rfl
@[simp] theorem seqOf_lst {xs : List D} : seqOf (.lst xs) = some xs := rfl
@[simp] theorem seqOf_tup {xs : List D} : seqOf (.tup xs) = some xs := rfl
@[simp] theorem eLs_r {g : M (List AV)} : eLs a g ρ = (a.st ρ).bind fun d ρ1 => seqS (seqOf d) g ρ1 := by
  unfold eLs
  refine congrArg (Res.bind _) (funext fun d => funext fun ρ1 => ?_)
  cases seqOf d <;> rfl
@[simp] theorem callA_r {ms : List Bool} {nk : Nat} {Mf : Nat → Md} {xs zs : List AV} : callA ms nk Mf (xs, zs) ρ = if zs.length = nk then callP (prep1 (msA ms xs.length zs.length) (xs ++ zs) ρ) (Mf xs.length) else .bad := by
  unfold callA
  split
  · rw [callM_r]
  · rfl
@[simp] theorem eCallA_r {ms : List Bool} {nk : Nat} {Mf : Nat → Md} {fa : M A2} : eCallA ms nk Mf fa ρ = (fa ρ).bind fun xz ρ1 => callA ms nk Mf xz ρ1 := rfl
def raiseR (c : Str) (ns : List Str) (o : Option (List D × En)) : Res Fl := match o with
  | some (ds, ρ) => if ds.length = ns.length then .exc c (flG ns ds) ρ else .bad
  | none => .bad
@[simp] theorem raiseR_some {c : Str} {ns : List Str} {ds : List D} : raiseR c ns (some (ds, ρ)) = if ds.length = ns.length then .exc c (flG ns ds) ρ else .bad := rfl
@[simp] theorem sRaise_r {c : Str} {ns : List Str} {l : M (List AV)} : sRaise c ns l ρ = (l ρ).bind fun xs ρ1 => raiseR c ns (frzL xs ρ1) := by
  unfold sRaise M.sts
  cases l ρ with
  | val xs ρ1 =>
    show Res.bind (match frzL xs ρ1 with | some (ds, ρ2) => .val ds ρ2 | none => .bad) _ = _
    cases hf : frzL xs ρ1 with
    | none => simp [hf, raiseR]
    | some z => simp [hf, raiseR]
  | exc _ _ _ => rfl
  | bad => rfl
@[simp] theorem sRaise0_r {c : Str} : sRaise0 c ρ = .exc c [] ρ := rfl
@[simp] theorem flG_1 {x : Str} {y : α} : flG [x] [y] = [(x, y)] := rfl
@[simp] theorem flG_2 {x x' : Str} {y y' : α} : flG [x, x'] [y, y'] = [(x', y'), (x, y)] := rfl
def tryR (tab : Tab) (cl : List Str) (i j : Nat) (r : Res Fl) : Res Fl := match r with
  | .exc c fs ρ1 => (match anyT tab c cl with
    | some true => .val .nx (((ρ1.set i (.sh (.exn c fs))).set j (.sh (.exn c fs))).set i .no)
    | some false => .exc c fs ρ1
    | none => .bad)
  | r => r
theorem sTry_r {tab : Tab} {cl : List Str} : sTry tab cl i j f ρ = tryR tab cl i j (f ρ) := by
  unfold sTry tryR
  cases f ρ <;> rfl
@[simp] theorem tryR_val {tab : Tab} {cl : List Str} {x : Fl} : tryR tab cl i j (.val x ρ) = .val x ρ := rfl
def tryB (o : Option Bool) (c : Str) (fs : List (Str × D)) (i j : Nat) (ρ : En) : Res Fl := match o with
  | some true => .val .nx (((ρ.set i (.sh (.exn c fs))).set j (.sh (.exn c fs))).set i .no)
  | some false => .exc c fs ρ
  | none => .bad
@[simp] theorem tryB_t {c : Str} {fs : List (Str × D)} : tryB (some true) c fs i j ρ = .val .nx (((ρ.set i (.sh (.exn c fs))).set j (.sh (.exn c fs))).set i .no) := rfl
@[simp] theorem tryB_f {c : Str} {fs : List (Str × D)} : tryB (some false) c fs i j ρ = .exc c fs ρ := rfl
@[simp] theorem tryR_exc {tab : Tab} {cl : List Str} {c : Str} {fs : List (Str × D)} : tryR tab cl i j (.exc c fs ρ) = tryB (anyT tab c cl) c fs i j ρ := by
  unfold tryR tryB
  rfl
@[simp] theorem gFldX_exn {cs : List Str} {x c : Str} {fs : List (Str × D)} : gFldX cs x (.exn c fs) = if c ∈ cs then fs.lookup x else none := rfl
@[simp] theorem gFldI_ins {cs : List Str} {x c : Str} {fs : List (Str × D)} : gFldI cs x (.ins c fs) = if c ∈ cs then fs.lookup x else none := rfl
@[simp] theorem isN_exn {c : Str} {fs : List (Str × D)} : isN (.exn c fs) = false := rfl
@[simp] theorem enumL_nil : enumL k [] = [] := rfl
@[simp] theorem enumL_cons {ds : List D} : enumL k (d :: ds) = .tup [.int k, d] :: enumL (k + 1) ds := rfl
/-- a def with a star parameter alone -/
theorem mdA_star {N np : Nat} {fM : M Fl} {ds : List D} (hl : ds.length = np) (h : ds.length ≤ 1000000) : mdA true [] [] [] N fM np ds = runM [false] N fM [.tup ds] := by
  subst hl
  unfold mdA
  simp only [List.take_length, List.drop_zero, List.length_nil]
  rw [if_pos (small_r h)]
  rfl
end
end PV
namespace PV
open PySem PySem.Spec PyProof.Rows L2 VK
section
variable {K : PySem.W.Frag} {mg : Str → Option Value} {C : Addr} {c : Str}
theorem exk_mkm {h : Heap} (X : K.In h) {nm q : Str} {N : Addr} {bs bm : List Value} {sn : List Str} {sub : List Value} {ab : Bool} {col : Option Bool} {dd : Option Addr} {k0 k1 k2 k3 k5 : Option Value} {B newId initId : String} {bmB : List Value} (gC : mg c = some (.ref C))
    (F : ExcBaseFacts B newId initId bmB) (hp : ∀ self, refuseLoop self "__setattr__" bmB = pure ()) (l : K.lookup C = some (excClassObj nm q C N bs bm true sn sub ab col dd k0 k1 k2 k3 k5 newId)) (h1 : PySem.HandSPX.refsT bmB bm = true) (h2 : bmB.contains (.type "object") = true)
    (sa : PySem.W.findIn K (.ref C) "__setattr__" = some (some (.builtin "object.__setattr__"))) (ga : PySem.W.findIn K (.ref C) "__getattribute__" = some (some (.builtin "BaseException.__getattribute__"))) (gg : PySem.W.findIn K (.ref C) "__getattr__" = some none) (exC : PySem.W.subIn K (.ref C) (.type "BaseException") = some true)
    (tyC : PySem.W.typeIn K (.ref C) = some (.type "type")) (kC : PySem.W.keepIn K (.ref C) = true) (hdC : PySem.W.hasDictIn K C = true) (ha : PySem.W.findIn K (.ref C) "__class__" = some (some (.builtin "object.__class__"))) (hn : PySem.W.specialIn K (.builtin "object.__class__") "__get__" = some (some (.builtin "getset_descriptor.__get__")))
    (ht : PySem.W.takesIn K (.builtin "object.__class__") = some true) (hm : PySem.W.mroIn K C (.type "object") = some true) : ExK K C :=
  exk_mk F hp l h1 h2 sa ga gg exC tyC kC hdC ha hn ht hm
theorem exi_1 {h : Heap} (X : K.In h) {fI : Addr} {st : Stmt} {qual p f : Str} {q1 q2 q3 q4 : Pos} {oc : Value} {od an : Option Addr} {osl : Array (Option Value)} {kV doc pm cdv ct : Value} (gC : mg c = some (.ref C)) (T : ExK K C) (iC : PySem.W.findIn K (.ref C) "__init__" = some (some (.ref fI))) (tI : PySem.W.typeIn K (.ref fI) = some (.type "function"))
    (hno : PySem.W.findIn K (.ref C) f = some none) (lk : K.lookup fI = some ⟨oc, od, .func (PySem.W.fnOf "__init__" qual (defArgs st) (defBody st) (defScope st) .none kV doc pm an cdv ct), osl⟩) (hcd : PySem.W.codeIn K cdv qual = true) (S : FnScope ["self", p] ["self", p] (defScope st))
    (d1 : (p == ("__debug__" : Str)) = false) (d2 : (p == ("__classdict__" : Str)) = false) (hb : defBody st = [.Assign [.Attribute (.Name "self" q1) f q2] (.Name p q3) q4])
    (hbi : ∀ (kV doc pm : Value) (an : Option Addr) (cdv ct : Value) (us : List Value), us.length = 2 → bindArgs (PySem.W.fnOf "__init__" qual (defArgs st) (defBody st) (defScope st) .none kV doc pm an cdv ct) ⟨us, []⟩ = pure ((["self", p] : List Str).zip us)) : ExI K mg c [f] := exi_mk1 gC T iC tI hno lk hcd S d1 d2 hb hbi
theorem exi_2 {h : Heap} (X : K.In h) {fI : Addr} {st : Stmt} {qual p p' f f' : Str} {q1 q2 q3 q4 r1 r2 r3 r4 : Pos} {oc : Value} {od an : Option Addr} {osl : Array (Option Value)} {kV doc pm cdv ct : Value} (gC : mg c = some (.ref C)) (T : ExK K C) (iC : PySem.W.findIn K (.ref C) "__init__" = some (some (.ref fI))) (tI : PySem.W.typeIn K (.ref fI) = some (.type "function"))
    (hno : PySem.W.findIn K (.ref C) f = some none) (hno' : PySem.W.findIn K (.ref C) f' = some none) (lk : K.lookup fI = some ⟨oc, od, .func (PySem.W.fnOf "__init__" qual (defArgs st) (defBody st) (defScope st) .none kV doc pm an cdv ct), osl⟩) (hcd : PySem.W.codeIn K cdv qual = true) (S : FnScope ["self", p, p'] ["self", p, p'] (defScope st))
    (d1 : (p == ("__debug__" : Str)) = false) (d2 : (p == ("__classdict__" : Str)) = false) (d3 : (p' == ("__debug__" : Str)) = false) (d4 : (p' == ("__classdict__" : Str)) = false) (hb : defBody st = [.Assign [.Attribute (.Name "self" q1) f q2] (.Name p q3) q4, .Assign [.Attribute (.Name "self" r1) f' r2] (.Name p' r3) r4])
    (hbi : ∀ (kV doc pm : Value) (an : Option Addr) (cdv ct : Value) (us : List Value), us.length = 3 → bindArgs (PySem.W.fnOf "__init__" qual (defArgs st) (defBody st) (defScope st) .none kV doc pm an cdv ct) ⟨us, []⟩ = pure ((["self", p, p'] : List Str).zip us)) : ExI K mg c [f, f'] := exi_mk2 gC T iC tI hno hno' lk hcd S d1 d2 d3 d4 hb hbi
section
open PySem.W
variable {t : Value} {b : Bool}
theorem kitCls_ref {x : _} (h1 : clsIn K C = some x) (h2 : typeIn K (.ref C) = some (.type "type")) (h3 : subIn K t (.ref C) = some b) : kitCls K t (.ref C) = some b := by
  unfold kitCls
  simp [h1, h2, h3]
theorem kitCls_typ {T : String} (h1 : kitMeta T = true) (h3 : subIn K t (.type T) = some b) : kitCls K t (.type T) = some b := by
  unfold kitCls
  simp [h1, h3]
theorem kitOne_of {c : Value} (h : kitCls K t c = some b) (h4 : ((t == c) && !b) = false) : kitOne K t c = some b := by
  unfold kitOne
  split
  · rename_i e
    rw [e] at h4
    cases b
    · cases h4
    · rfl
  · exact h
theorem exmOne_of {c : Value} (h : kitCls K t c = some b) (h0 : subIn K c (.type "BaseException") = some true) : exmOne K t c = some b := by
  unfold exmOne
  rw [h0]
  exact h
/-- a row's entries: a class of the module, a built-in type -/
theorem RowOk.cls {x : Str} {l : List (Str × Bool)} {e : Bool} {y : _} (m : mg x = some (.ref C)) (h1 : clsIn K C = some y) (h2 : typeIn K (.ref C) = some (.type "type")) (h3 : subIn K t (.ref C) = some b) (h4 : ((t == Value.ref C) && !b) = false) (h0 : e = true → subIn K (.ref C) (.type "BaseException") = some true) (r : RowOk K mg t e l) : RowOk K mg t e ((x, b) :: l) :=
  .cons (.ref C) (.inl ⟨_, m, rfl⟩) (fun z => exmOne_of (kitCls_ref h1 h2 h3) (h0 z)) (kitOne_of (kitCls_ref h1 h2 h3) h4) r
theorem RowOk.typ {T : String} {l : List (Str × Bool)} {e : Bool} (m : mg (Str.ofString T) = none) (hb : bootBuiltins (Str.ofString T) = some (.type T)) (hn : Str.ofString T ≠ "__name__") (h1 : kitMeta T = true) (h3 : subIn K t (.type T) = some b) (h4 : ((t == Value.type T) && !b) = false) (h0 : e = true → subIn K (.type T) (.type "BaseException") = some true) (r : RowOk K mg t e l) : RowOk K mg t e ((Str.ofString T, b) :: l) :=
  .cons (.type T) (.inr ⟨T, rfl, m, hb, rfl, hn⟩) (fun z => exmOne_of (kitCls_typ h1 h3) (h0 z)) (kitOne_of (kitCls_typ h1 h3) h4) r
end
abbrev NoFE {h : Heap} (_ : K.In h) (mg : Str → Option Value) (cs : List Str) (f : Str) : Prop := NoF K mg cs f
abbrev TabsI {h : Heap} (_ : K.In h) (mg : Str → Option Value) (T : Tabs) : Prop := TabsOk K mg T
end
/-! ### statements one after another, by their ends -/
theorem bind_v {α β : Type} {x : α} {ρ : En} {k : α → En → Res β} : (Res.val x ρ).bind k = k x ρ := rfl
theorem it_n {m : Nat} (hm : m < 1000000000) {e : M AV} {ρ ρ' : En} (h : e ρ = .val (.d (.int m)) ρ') : iR1 (eL1 e eL0) ρ = .val (rng 0 m) ρ' := by
  have q := rngR_r (m := (m : Int)) (ρ := ρ') (Int.natCast_nonneg m) (by omega)
  rw [Int.toNat_natCast] at q
  have e1 : (eL1 e eL0) ρ = .val [.d (.int m)] ρ' := by
    rw [eL1_r, h]
    rfl
  have e2 : derL [AV.d (.int m)] ρ' = some [.int m] := rfl
  rw [iR1_r, e1, bind_v, e2, q]
theorem seq_nx {f g : M Fl} {ρ ρ' : En} (h : f ρ = .val .nx ρ') : sSeq f g ρ = g ρ' := by
  rw [sSeq_r, h]
  rfl
theorem for_it {it : M (List D)} {t : Tg} {f : M Fl} {ρ ρ' : En} {ds : List D} {r : Res Fl} (h : it ρ = .val ds ρ') (q : forL t f ds ρ' = r) : sFor it t f ρ = r := by
  rw [sFor_r, h]
  exact q
/-- the def's end, from its body's -/
theorem runM_rt {ms : List Bool} {N : Nat} {f : M Fl} {ds : List D} {d : D} {ρ : En} {cs : List D} (h : f (stE ms ds ++ List.replicate (N - ds.length) .no) = .val (.rt d) ρ) (p : pinsOf ms ρ = some cs) : runM ms N f ds = .val d cs := by
  unfold runM
  rw [h]
  show (match pinsOf ms ρ with | some cs => MR.val d cs | none => .bad) = _
  rw [p]
theorem runM_nx {ms : List Bool} {N : Nat} {f : M Fl} {ds : List D} {ρ : En} {cs : List D} (h : f (stE ms ds ++ List.replicate (N - ds.length) .no) = .val .nx ρ) (p : pinsOf ms ρ = some cs) : runM ms N f ds = .val .non cs := by
  unfold runM
  rw [h]
  show (match pinsOf ms ρ with | some cs => MR.val .non cs | none => .bad) = _
  rw [p]
theorem runM_exc {ms : List Bool} {N : Nat} {f : M Fl} {ds : List D} {c : Str} {fs : List (Str × D)} {ρ : En} {cs : List D} (h : f (stE ms ds ++ List.replicate (N - ds.length) .no) = .exc c fs ρ) (p : pinsOf ms ρ = some cs) : runM ms N f ds = .exc c fs cs := by
  unfold runM
  rw [h]
  show (match pinsOf ms ρ with | some cs => MR.exc c fs cs | none => .bad) = _
  rw [p]
end PV
namespace PV
open PySem PySem.Spec PyProof.Rows L2 VK
/-- the body; a name's exception ends the def with a constant -/
def sTryC (tab : Tab) (x : Str) (d : D) (f : M Fl) : M Fl := fun ρ => match f ρ with
  | .exc c fs ρ1 => (match clsT tab c x with
    | some true => .val (.rt d) ρ1
    | some false => .exc c fs ρ1
    | none => .bad)
  | r => r
section
variable {X : Cx} {Z : Zone} {W : WX} {x : Str} {cv : Value} {body : List Stmt} {np pos pos' p1 p2 : Pos} {fb : M Fl} {T : Tabs} {b : Bool} {tk : Tok}
theorem cs_tryC (ok : TabsOk X.K X.mg T) (hs : X.stack = X.env :: X.outer) (hf : X.env.frame = some X.env.locals) (hm : isaV X.mg x cv) (hc : Names X x cv) (tkk : Takes X W)
    (hb : ∀ (W : WX) (pn : List (Addr × Obj)) (xe : Value → Shared → Prop), Takes (X.tr pn xe) W → PassesOwn (model X.prog X.w) X.A X.env xe → PCs (X.tr pn xe) Z W body fb) {e : Expr} (he : ∀ Y : Cx, PE Y e (fun σ H Q => Q (.bl b) H)) :
    PC1 X Z W (.Try body [.ExceptHandler (some (.Name x np)) none [.Return (some e) p1] pos'] [] [] pos) (sTryC T.e x (.bl b) fb) := by
  refine PS.weak (ps_try_only (ts := fun _ _ _ D σ H => D.rt (.bl b) H) hs hf hc tkk (tb := fun W => tS X.K X.mg Z W fb) hb fun a oe cls d pn _ _ => pss_one (PS.weak (ps_ret (he _)) fun D σ H q => q)) fun D σ H ⟨ρ, F, r, q⟩ => ⟨ρ, F, r, ?_⟩
  unfold sTryC at q
  cases hr : fb ρ with
  | bad =>
    simp only [hr] at q
    exact q
  | val x ρ1 =>
    simp only [hr] at q
    exact q
  | exc c fs ρ1 =>
    simp only [hr] at q
    intro cls dx σ' H' F' r' s' y
    obtain ⟨C, hmc, rfl, hd⟩ := id y
    cases ha : clsT T.e c x with
    | none =>
      simp only [ha] at q
      exact q.elim
    | some v =>
      have hx : PySem.W.exmOne X.K (.ref C) cv = some v := by
        have h2 : anyT T.e c [x] = some v := by simp [anyT, ha]
        rcases anyT_row h2 with z | ⟨r, hr⟩
        · cases z
        · obtain ⟨_, Ro⟩ := ok.e.own hmc hr
          have h3 := exm_all Ro hr (.cons hm .nil) h2
          obtain ⟨b1, d1, q1, q2, rfl⟩ := PySem.W.exmAny_cons h3
          rw [q1]
          cases q2
          simp
      refine ⟨v, hx, fun hv a na => ?_, fun hv => ?_⟩
      · subst hv
        simp only [ha] at q
        exact q _ _ _ r' s' _ (.bl b)
      · subst hv
        simp only [ha] at q
        exact q (.ref C) dx σ' H' F' r' s' y
end
section
variable {tab : Tab} {x : Str} {d : D} {f : M Fl} {ρ : En}
def tryCR (tab : Tab) (x : Str) (d : D) (r : Res Fl) : Res Fl := match r with
  | .exc c fs ρ1 => (match clsT tab c x with
    | some true => .val (.rt d) ρ1
    | some false => .exc c fs ρ1
    | none => .bad)
  | r => r
@[simp] theorem sTryC_r : sTryC tab x d f ρ = tryCR tab x d (f ρ) := rfl
@[simp] theorem tryCR_val {y : Fl} : tryCR tab x d (.val y ρ) = .val y ρ := rfl
theorem tryCR_exc {c : Str} {fs : List (Str × D)} (h : clsT tab c x = some true) : tryCR tab x d (.exc c fs ρ) = .val (.rt d) ρ := by
  show (match clsT tab c x with | some true => Res.val (Fl.rt d) ρ | some false => .exc c fs ρ | none => .bad) = _
  rw [h]
end
end PV
namespace PV
open PySem PySem.Spec PyProof.Rows L2 VK
/-! ### an object lent for a call: what comes back holds no part of it -/
mutual
/-- tuples, numbers, words: no list, no dict -/
def D.flat : D → Bool
  | .non => true
  | .bl _ => true
  | .int _ => true
  | .str _ => true
  | .tup xs => flatL xs
  | _ => false
def flatL : List D → Bool
  | [] => true
  | x :: r => x.flat && flatL r
end
/-- no slot but i holds an object that may change -/
def lone (i : Nat) (ρ : En) : Bool := (List.range ρ.length).all fun j => j == i || (ρ.at j).mu.isNone
theorem lone_mu {i j : Nat} {ρ : En} (h : lone i ρ = true) (n : j ≠ i) : (ρ.at j).mu = none := by
  by_cases c : j < ρ.length
  · have := List.all_eq_true.mp h j (List.mem_range.mpr c)
    rcases Bool.or_eq_true _ _ ▸ this with z | z
    · exact absurd (eq_of_beq z) n
    · exact Option.isNone_iff_eq_none.mp z
  · cases e : ρ.at j with
    | no => rfl
    | _ => exact absurd (En.at_lt (by rw [e]; intro z; cases z)) c
open Classical in
noncomputable def eLend (i : Nat) (f : M AV) : M AV := fun ρ => match ρ.at i with
  | .own d => (match f (ρ.set i (.sh d)) with
    | .val (.d z) ρ2 => if z.flat = true ∧ ρ2 = ρ.set i (.sh d) ∧ lone i ρ = true then .val (.d z) ρ else .bad
    | _ => .bad)
  | _ => .bad
section
variable {K : PySem.W.Frag} {mg : Str → Option Value} {F G : Hp} {a : Addr}
mutual
theorem R.without (na : ∀ o, F a = some o → (∀ xs, o ≠ .tup xs) ∧ ∀ u w, o ≠ .frz u w) (s : ∀ b o, b ≠ a → F b = some o → G b = some o) : ∀ {v : V} {d : D}, R K mg F v d → d.flat = true → R K mg G v d
  | _, _, .non, _ => .non
  | _, _, .bl b, _ => .bl b
  | _, _, .int b, _ => .int b
  | _, _, .str b, _ => .str b
  | _, _, .lst _ _, h => by cases h
  | _, _, .dic _ _, h => by cases h
  | _, _, .ins _ _ _, h => by cases h
  | _, _, .exc0 _ _, h => by cases h
  | _, _, .exc1 _ _ _ _, h => by cases h
  | _, _, .gl _, h => by cases h
  | _, _, .ty _, h => by cases h
  | _, _, .scr _, h => by cases h
  | _, _, .tup hq hr, h => .tup (by
      rcases hq with (q | ⟨o, q⟩) | q
      · exact .inl (.inl (s _ _ (fun z => (na _ (z ▸ q)).1 _ rfl) q))
      · exact .inl (.inr ⟨o, s _ _ (fun z => (na _ (z ▸ q)).2 _ _ rfl) q⟩)
      · exact .inr q) (RL.without na s hr h)
theorem RL.without (na : ∀ o, F a = some o → (∀ xs, o ≠ .tup xs) ∧ ∀ u w, o ≠ .frz u w) (s : ∀ b o, b ≠ a → F b = some o → G b = some o) : ∀ {vs : List V} {ds : List D}, RL K mg F vs ds → flatL ds = true → RL K mg G vs ds
  | _, _, .nil, _ => .nil
  | _, _, .cons h1 h2, h => by
    simp only [flatL, Bool.and_eq_true] at h
    exact .cons (R.without na s h1 h.1) (RL.without na s h2 h.2)
end
theorem Ct.kind {H : Hp} {d : D} (h : Ct K mg F H a d) : ∀ o, H a = some o → (∀ xs, o ≠ .tup xs) ∧ ∀ u w, o ≠ .frz u w := by
  intro o ho
  cases d <;> first | exact h.elim | skip
  · obtain ⟨vs, h1, _⟩ := h
    rw [ho] at h1
    cases h1
    exact ⟨fun _ z => (by cases z), fun _ _ z => (by cases z)⟩
  · obtain ⟨vs, h1, _⟩ := h
    rw [ho] at h1
    cases h1
    exact ⟨fun _ z => (by cases z), fun _ _ z => (by cases z)⟩
  · obtain ⟨C, dx, vs, h1, _⟩ := h
    rw [ho] at h1
    cases h1
    exact ⟨fun _ z => (by cases z), fun _ _ z => (by cases z)⟩
theorem R.held {H : Hp} {d : D} (h : Ct K mg G H a d) (r : R K mg F (.ref a) d) : ∃ o, F a = some o := by
  cases d <;> first | exact h.elim | skip
  · cases r with | lst q _ => exact ⟨_, q⟩
  · cases r with | dic q _ => exact ⟨_, q⟩
  · cases r with | ins q _ _ => exact ⟨_, q⟩
end
section
variable {X : Cx} {Z : Zone} {W : WX} {e : Expr} {f : M AV} {i : Nat}
theorem ev_lend (h : PV X Z W e f) : PV X Z W e (eLend i f) := by
  refine PE.weak h fun σ H Q ⟨ρ, F, r, q⟩ => ?_
  unfold eLend at q
  cases hi : ρ.at i with
  | no => simp only [hi] at q; exact q.elim
  | sh d => simp only [hi] at q; exact q.elim
  | pin d => simp only [hi] at q; exact q.elim
  | own d =>
    simp only [hi] at q
    obtain ⟨a0, e0, fa0, ct0⟩ := r.mu i d (by rw [hi]; rfl)
    obtain ⟨a, F', h1, h2, h3, h4, h5⟩ := r.freeze hi
    rw [e0] at h1
    cases h1
    refine ⟨ρ.set i (.sh d), F', h2, ?_⟩
    cases hf : f (ρ.set i (.sh d)) with
    | bad => simp only [hf] at q; exact q.elim
    | exc c fs ρ2 => simp only [hf] at q; exact q.elim
    | val x ρ2 =>
      cases x with
      | io j => simp only [hf] at q; exact q.elim
      | d z =>
        simp only [hf] at q
        by_cases c : z.flat = true ∧ ρ2 = ρ.set i (.sh d) ∧ lone i ρ = true
        · rw [if_pos c] at q
          obtain ⟨c1, c2, c3⟩ := c
          subst c2
          intro H1 F1 g v hv
          obtain ⟨o, fo⟩ := R.held ct0 h4
          have f1 : F1 a0 = some o := g.fr _ _ fo
          have ho : H a0 = some o := h2.same _ _ fo
          have h1o : H1 a0 = some o := g.rel.same _ _ f1
          have li : i < ρ.length := En.at_lt (by rw [hi]; intro z; cases z)
          have nomu : ∀ j, (En.at (ρ.set i (.sh d)) j).mu = none := fun j => by
            by_cases n : i = j
            · subst n
              rw [En.at_eq li]
              rfl
            · rw [En.at_ne n]
              exact lone_mu c3 (Ne.symm n)
          have sF : Same F fun b => if b = a0 then none else F1 b := fun b u hb => by
            have n : b ≠ a0 := fun z => by rw [z, fa0] at hb; cases hb
            show (if b = a0 then none else F1 b) = some u
            rw [if_neg n]
            exact g.fr _ _ (h3 _ _ hb)
          have out : ∀ b u, b ≠ a0 → F1 b = some u → (fun b => if b = a0 then none else F1 b) b = some u := fun b u n hb => by
            show (if b = a0 then none else F1 b) = some u
            rw [if_neg n]
            exact hb
          have bk : ∀ b, (if b = a0 then none else F1 b) ≠ none → b ≠ a0 ∧ F1 b ≠ none := fun b hb => by
            by_cases n : b = a0
            · rw [if_pos n] at hb
              exact absurd rfl hb
            · rw [if_neg n] at hb
              exact ⟨n, hb⟩
          have only : ∀ j e, (ρ.at j).mu = some e → j = i := fun j e hj => by
            by_cases n : j = i
            · exact n
            · rw [lone_mu c3 n] at hj
              cases hj
          have rel : Rel X.K X.mg Z σ H1 ρ fun b => if b = a0 then none else F1 b := by
            refine ⟨r.len, fun b u hb => ?_, fun j d' hj => ?_, fun j d' hj => ?_, fun j d' hj => r.own j d' hj, fun j d' hj => r.pin j d' hj, fun j k d' e' a' q1 q2 _ _ => (only j _ q1).trans (only k _ q2).symm, g.rel.off, g.rel.live, fun b u hb => sF _ _ (r.fr0 _ _ hb), fun b hb => g.rel.new b (bk b hb).2⟩
            · have hb : (if b = a0 then none else F1 b) = some u := hb
              by_cases n : b = a0
              · rw [if_pos n] at hb
                cases hb
              · rw [if_neg n] at hb
                exact g.rel.same _ _ hb
            · obtain ⟨w, k1, k2⟩ := r.sh j d' hj
              exact ⟨w, k1, k2.mono sF⟩
            · have := only j _ hj
              subst this
              rw [hi] at hj
              cases hj
              exact ⟨a0, e0, if_pos rfl, ct0.mono sF (h1o.trans ho.symm)⟩
          refine q H1 _ ⟨rel, sF, fun b u _ hb => g.keep b u (fun j e hj => by rw [nomu j] at hj; cases hj) hb, fun j e hj => ⟨e, hj⟩, g.lv, fun b hb => ?_⟩ v ?_
          · obtain ⟨n, hb⟩ := bk b hb
            rcases g.nw b hb with z | z | ⟨j, e, z, _⟩
            · rcases h5 b z with y | y
              · exact .inl y
              · first
                | exact absurd y n
                | exact .inr (.inl y)
            · exact .inr (.inl z)
            · rw [nomu j] at z
              cases z
          · exact R.without (fun u hu => ct0.kind u (by rw [ho]; rw [f1] at hu; exact hu)) out hv c1
        · rw [if_neg c] at q
          exact q.elim
end
/-! ### a slot that is needed no more -/
def sDrop (j : Nat) (f : M Fl) : M Fl := fun ρ => f (ρ.set j .no)
theorem cs_drop {X : Cx} {Z : Zone} {W : WX} {sts : List Stmt} {f : M Fl} (j : Nat) (h : PCs X Z W sts f) : PCs X Z W sts (sDrop j f) :=
  PSs.weak h fun D σ H ⟨ρ, F, r, q⟩ => ⟨ρ.set j .no, F, r.drop, q⟩
section
variable {i : Nat} {f : M AV} {ρ : En} {d z : D}
theorem eLend_r (hi : ρ.at i = .own d) (hf : f (ρ.set i (.sh d)) = .val (.d z) (ρ.set i (.sh d))) (h1 : z.flat = true) (h2 : lone i ρ = true) : eLend i f ρ = .val (.d z) ρ := by
  unfold eLend
  simp only [hi, hf]
  simp [h1, h2]
@[simp] theorem sDrop_r {g : M Fl} {j : Nat} : sDrop j g ρ = g (ρ.set j .no) := rfl
end
end PV
namespace PV
open PySem PySem.Spec PyProof.Rows L2 VK
/-! ### the greatest of a list -/
def topI : List Int → Int → Int
  | [], m => m
  | n :: r, m => topI r (if n > m then n else m)
theorem topI_ge : ∀ (r : List Int) (m : Int), m ≤ topI r m ∧ ∀ y ∈ r, y ≤ topI r m
  | [], m => ⟨Int.le_refl _, fun _ h => by cases h⟩
  | n :: r, m => by
    obtain ⟨h1, h2⟩ := topI_ge r (if n > m then n else m)
    unfold topI
    refine ⟨Int.le_trans ?_ h1, fun y hy => ?_⟩
    · split <;> omega
    · rcases List.mem_cons.mp hy with rfl | hy
      · exact Int.le_trans (by split <;> omega) h1
      · exact h2 y hy
theorem topI_mem : ∀ (r : List Int) (m : Int), topI r m = m ∨ topI r m ∈ r
  | [], m => .inl rfl
  | n :: r, m => by
    unfold topI
    rcases topI_mem r (if n > m then n else m) with h | h
    · rw [h]
      split
      · exact .inr List.mem_cons_self
      · exact .inl rfl
    · exact .inr (List.mem_cons_of_mem _ h)
def gMaxL : GL
  | [.lst xs] => match numsD xs with
    | some (n :: r) => some (.int (topI r n))
    | _ => none
  | _ => none
section
variable {K : PySem.W.Frag} {mg : Str → Option Value}
theorem ok_maxL : OkL K mg (rMax K) gMaxL := by
  intro F H vs ds z Q s h hg q
  match ds, h, hg with
  | [.lst xs], .cons h1 .nil, hg =>
    simp only [gMaxL] at hg
    cases e : numsD xs with
    | none =>
      rw [e] at hg
      cases hg
    | some bs =>
      rw [e] at hg
      match bs, e, hg with
      | n :: r, e, hg =>
        cases hg
        obtain ⟨a, us, rfl, h2, h3⟩ := h1.lst s
        rw [nums_ok h3 e] at h2
        refine ⟨a, n :: r, rfl, .inl (.inl h2), Nat.succ_pos _, fun m hm hge => ?_⟩
        have t1 := topI_ge r n
        have : m = topI r n := by
          refine Int.le_antisymm ?_ ?_
          · rcases List.mem_cons.mp hm with rfl | hm
            · exact t1.1
            · exact t1.2 m hm
          · rcases topI_mem r n with z | z
            · rw [z]; exact hge n List.mem_cons_self
            · exact hge _ (List.mem_cons_of_mem _ z)
        rw [this]
        exact okQ s q (.int _)
end
theorem gMaxL_r {xs : List D} {n : Int} {r : List Int} (h : numsD xs = some (n :: r)) : gMaxL [.lst xs] = some (.int (topI r n)) := by
  simp only [gMaxL, h]
end PV
namespace VK
open PySem PySem.Spec PyProof.Rows L2
mutual
/-- lists and tuples all over, the dicts hold no list -/
def mixd : PyData → Bool
  | .list xs => mixds xs
  | .tuple xs => mixds xs
  | .dict es => noL (.dict es)
  | _ => true
def mixds : List PyData → Bool
  | [] => true
  | x :: r => mixd x && mixds r
end
section
variable {X : Cx} {pins : List (Addr × Obj)} {σ : L2.St} {H : Hp} {s : Shared}
mutual
theorem Da.texts (I : Inv X pins σ H s) : ∀ (d : PyData) (v : V) (u : Value), Da X.K H v d → RelV v u → d.showable = true → mixd d = true → d.shown.length ≤ sizeLine → ∃ bs, ReadAtMost s.heap d.depth bs ∧ ReprK X.prog X.w bs s.heap d.depth u d.shown
  | .list ds, v, u, h, r, hs, hm, hz => by
    obtain ⟨as, rd, _⟩ := Da.reads I _ _ _ h r
    cases h with
    | lst hq ha =>
      cases r
      obtain ⟨its, rv, ⟨o, n, ho, hc, _, hd⟩, _⟩ := I.list hq
      have hz' : (listText (PyData.shownAll ds)).length ≤ sizeLine := by simpa only [PyData.shown] using hz
      obtain ⟨bs, q1, q2⟩ := Da.textsAll I ds _ _ ha rv (by simpa [PyData.showable] using hs) hm fun t ht => Nat.le_trans (listText_mem_le ht) hz'
      have up : PyData.depthAll ds < (PyData.list ds).depth := by simp only [PyData.depth]; omega
      refine ⟨_, ReadAtMost.cons rd (Nat.le_of_lt up) q1, ?_⟩
      have out := not_mem_of_deeper rd up q1
      simp only [PyData.depth, PyData.shown]
      cases its with
      | nil =>
        cases rv
        cases ha
        simp only [PyData.shownAll, listText_nil]
        exact ReprK.listEmpty ho hc hd
      | cons x l => exact ReprK.list ho hc hd out (by simpa using q2.length_eq) fun i y e => q2.item i y (by simpa using e)
  | .tuple ds, v, u, h, r, hs, hm, hz => by
    obtain ⟨as, rd, _⟩ := Da.reads I _ _ _ h r
    cases h with
    | tup hq ha =>
      cases r
      obtain ⟨its, rv, ⟨o, ho, hc, n, hd⟩, _⟩ := I.tuple hq
      have hz' : (tupleText (PyData.shownAll ds)).length ≤ sizeLine := by simpa only [PyData.shown] using hz
      obtain ⟨bs, q1, q2⟩ := Da.textsAll I ds _ _ ha rv (by simpa [PyData.showable] using hs) hm fun t ht => Nat.le_trans (tupleText_mem_le ht) hz'
      have up : PyData.depthAll ds < (PyData.tuple ds).depth := by simp only [PyData.depth]; omega
      refine ⟨_, ReadAtMost.cons rd (Nat.le_of_lt up) q1, ?_⟩
      simp only [PyData.depth, PyData.shown]
      exact ReprK.tuple ho hc hd (not_mem_of_deeper rd up q1) (by simpa using q2)
  | .dict es, v, u, h, r, hs, hm, hz => by
    obtain ⟨as, rd, no⟩ := Da.reads I _ _ _ h r
    exact ReprK.of_reads rd hs (fun _ => no hm) hz
  | .none, v, u, h, r, hs, hm, hz => by
    obtain ⟨as, rd, no⟩ := Da.reads I _ _ _ h r
    exact ReprK.of_reads rd hs (fun z => nomatch z) hz
  | .bool b, v, u, h, r, hs, hm, hz => by
    obtain ⟨as, rd, no⟩ := Da.reads I _ _ _ h r
    exact ReprK.of_reads rd hs (fun z => nomatch z) hz
  | .int b, v, u, h, r, hs, hm, hz => by
    obtain ⟨as, rd, no⟩ := Da.reads I _ _ _ h r
    exact ReprK.of_reads rd hs (fun z => nomatch z) hz
  | .str b, v, u, h, r, hs, hm, hz => by
    obtain ⟨as, rd, no⟩ := Da.reads I _ _ _ h r
    exact ReprK.of_reads rd hs (fun z => nomatch z) hz
theorem Da.textsAll (I : Inv X pins σ H s) : ∀ (ds : List PyData) (vs : List V) (us : List Value), DaAll X.K H vs ds → Vals vs us → PyData.showableAll ds = true → mixds ds = true → (∀ t ∈ PyData.shownAll ds, t.length ≤ sizeLine) → ∃ bs, ReadAtMost s.heap (PyData.depthAll ds) bs ∧ ReprAllK X.prog X.w bs s.heap (PyData.depthAll ds) us (PyData.shownAll ds)
  | [], vs, us, h, r, _, _, _ => by
    cases h
    cases r
    exact ⟨[], (fun _ z => nomatch z), by simp only [PyData.shownAll]; exact .nil⟩
  | d :: ds, vs, us, h, r, hs, hm, hz => by
    cases h with
    | cons h1 h2 =>
      cases r with
      | cons r1 r2 =>
        simp only [PyData.showableAll, Bool.and_eq_true] at hs
        have hm' : (mixd d && mixds ds) = true := hm
        rw [Bool.and_eq_true] at hm'
        simp only [PyData.shownAll] at hz
        obtain ⟨b1, a1, k1⟩ := Da.texts I d _ _ h1 r1 hs.1 hm'.1 (hz _ List.mem_cons_self)
        obtain ⟨b2, a2, k2⟩ := Da.textsAll I ds _ _ h2 r2 hs.2 hm'.2 fun t ht => hz t (List.mem_cons_of_mem _ ht)
        simp only [PyData.depthAll, PyData.shownAll]
        exact ⟨b1 ++ b2, (a1.mono (Nat.le_max_left _ _)).append (a2.mono (Nat.le_max_right _ _)), .cons ((k1.more fun b hb => List.mem_append_left _ hb).level_le (Nat.le_max_left _ _)) (k2.more_le (fun b hb => List.mem_append_right _ hb) (Nat.le_max_right _ _))⟩
end
end
/-- repr of a list that holds lists and dicts beside one another -/
structure ShoM (d : PyData) : Prop where
  ls : ∃ xs, d = .list xs
  sh : d.showable = true
  dp : d.depth ≤ 60
  sz : d.shown.length ≤ sizeLine
  mx : mixd d = true
def rReprM (K : PySem.W.Frag) : List V → Hp → VK → Prop := fun xs H Q => ∃ v d, xs = [v] ∧ Da K H v d ∧ ShoM d ∧ Q (.str d.shown) H
theorem call_reprM {X : Cx} (hg : X.A.guards = some []) (hu : X.A.units + 64 < cLine) : CallR X (.builtin "repr") (rReprM X.K) := by
  intro pins s σ H xs us Q I r h
  obtain ⟨v, d, rfl, hd, hs, q⟩ := h
  obtain ⟨u, rfl, ru⟩ := vals1 r
  obtain ⟨ds, rfl⟩ := hs.ls
  have dp := hs.dp
  simp only [PyData.depth] at dp
  have sz : (listText (PyData.shownAll ds)).length ≤ sizeLine := by simpa only [PyData.shown] using hs.sz
  obtain ⟨as, rd, _⟩ := Da.reads I _ _ _ hd ru
  cases hd with
  | lst hq ha =>
    rename_i a vs
    cases ru
    obtain ⟨its, rv, ⟨o, n, ho, hc, _, hdt⟩, _⟩ := I.list hq
    obtain ⟨bs, q1, q2⟩ := Da.textsAll I ds _ _ ha rv (by simpa [PyData.showable] using hs.sh) hs.mx fun t ht => Nat.le_trans (listText_mem_le ht) sz
    have out := not_mem_of_deeper rd (show PyData.depthAll ds < (PyData.list ds).depth by simp only [PyData.depth]; omega) q1
    have fin : ∀ (h' : Heap) (u : Tok) (tk : Nat), (∀ b o, s.heap.get? b = some o → h'.get? b = some o) → EP X pins σ Q (.str (PyData.list ds).shown u) { s with heap := h', toks := tk } := fun h' u tk hk => ⟨.str _, H, I.kept (t' := tk) hk, ⟨_, rfl⟩, q⟩
    refine call_repr_slot (by omega) ⟨o, ho, hc⟩ F.slot_list_repr.toG ?_
    simp only [PyData.shown] at fin
    cases its with
    | nil =>
      cases rv
      cases ha
      simp only [PyData.shownAll, listText_nil] at fin
      exact call_list_repr_empty ⟨o, ho, hc⟩ ho hdt ⟨_, _, rfl, fin s.heap _ _ fun _ _ e => e⟩
    | cons x l => exact call_list_reprK ho hc hdt out (by simpa using q2.length_eq) (fun i y e => q2.item i y (by simpa using e)) hg (fun b _ => Clear.nil b) (by show X.A.units + 1 + (PyData.depthAll ds + 1) < cLine; omega) (fun _ _ e => e) (fun h' u tk hk => ⟨_, _, rfl, fin h' u tk hk⟩) sz
end VK
namespace PV
open PySem PySem.Spec PyProof.Rows L2 VK
/-! ### the repr of a list that holds lists and dicts -/
mutual
/-- the dicts hold no list -/
def D.mix : D → Bool
  | .lst xs => mixL xs
  | .tup xs => mixL xs
  | .dic es => nolK es
  | _ => true
def mixL : List D → Bool
  | [] => true
  | x :: r => x.mix && mixL r
end
mutual
theorem mix_py : ∀ d : D, d.mix = true → mixd d.py = true
  | .non, _ => rfl
  | .bl _, _ => rfl
  | .int _, _ => rfl
  | .str _, _ => rfl
  | .ins _ _, _ => rfl
  | .exn _ _, _ => rfl
  | .gl _, _ => rfl
  | .ty _, _ => rfl
  | .scr _, _ => rfl
  | .lst xs, h => mixL_py xs h
  | .tup xs, h => mixL_py xs h
  | .dic es, h => py_nl (.dic es) h
theorem mixL_py : ∀ xs : List D, mixL xs = true → mixds (pyL xs) = true
  | [], _ => rfl
  | x :: r, h => by
    have h' : (x.mix && mixL r) = true := h
    rw [Bool.and_eq_true] at h'
    show (mixd x.py && mixds (pyL r)) = true
    rw [mix_py x h'.1, mixL_py r h'.2]
    rfl
end
def D.shoM (d : D) : Bool := d.si && decide (d.dep ≤ 60) && decide (d.wt ≤ 250000) && d.mix
theorem R.shoM {K : PySem.W.Frag} {mg : Str → Option Value} {G : Hp} {v : V} {xs : List D} (h : R K mg G v (.lst xs)) (e : (D.lst xs).shoM = true) : Da K G v (D.lst xs).py ∧ ShoM (D.lst xs).py := by
  simp only [D.shoM, Bool.and_eq_true, decide_eq_true_eq] at e
  obtain ⟨⟨⟨e1, e2⟩, e3⟩, e4⟩ := e
  refine ⟨h.da (si_dat _ e1), ⟨_, rfl⟩, py_sh _ e1, Nat.le_trans (py_dep _) e2, ?_, mix_py _ e4⟩
  have h1 := PyData.shown_le 64 (by decide) (D.lst xs).py (h.short e1)
  have h2 := py_wt _ e1
  rw [sizeLine_eq]
  omega
def gReprM : GL
  | [.lst xs] => if (D.lst xs).shoM then some (.str (D.lst xs).py.shown) else none
  | _ => none
def gReprA : GL := orGL gRepr gReprM
section
variable {K : PySem.W.Frag} {mg : Str → Option Value}
theorem ok_reprM : OkL K mg (rReprM K) gReprM := by
  intro F H vs ds z Q s h hg q
  match ds, h, hg with
  | [.lst xs], .cons h1 .nil, hg =>
    simp only [gReprM] at hg
    by_cases c : (D.lst xs).shoM = true
    · rw [if_pos c] at hg
      cases hg
      obtain ⟨a1, a2⟩ := (h1.r s).shoM c
      exact ⟨_, _, rfl, a1, a2, okQ s q (.str _)⟩
    · rw [if_neg c] at hg
      cases hg
theorem ok_reprA : OkL K mg (fun x H Q => rRepr K x H Q ∨ rReprM K x H Q) gReprA := okL_or ok_repr ok_reprM
end
theorem call_reprA {X : Cx} (hg : X.A.guards = some []) (hu : X.A.units + 64 < cLine) : CallR X (.builtin "repr") (fun x H Q => rRepr X.K x H Q ∨ rReprM X.K x H Q) := (call_repr hg hu).or (call_reprM hg hu)
theorem gReprA_r {d : D} (h : d.sho = true) : gReprA [d] = some (.str d.py.shown) := by
  unfold gReprA orGL
  rw [gRepr_r h]
theorem gReprA_m {xs : List D} (h : (D.lst xs).shoM = true) : gReprA [.lst xs] = some (.str (D.lst xs).py.shown) := by
  unfold gReprA orGL
  by_cases c : (D.lst xs).sho = true
  · rw [gRepr_r c]
  · have : gRepr [.lst xs] = none := if_neg c
    rw [this]
    exact if_pos h
end PV
namespace PV
open PySem PySem.Spec PyProof.Rows L2 VK
/-! ### a, b = e, f -/
def sPar (i j : Nat) (fs : M (List AV)) : M Fl := fun ρ => (fs.sts ρ).bind fun ds ρ1 => match ds with
  | [d, e] => .val .nx ((ρ1.set i (.sh d)).set j (.sh e))
  | _ => .bad
section
variable {X : Cx} {Z : Zone} {W : WX} {i j : Nat} {x y : Str} {a b : Expr} {fs : M (List AV)} {px py pt pos : Pos} {kt k2 : Nat} {pt2 : Pos}
theorem cs_par (hc : X.calm = true) (hN : X.N.Nodup) (hi : X.N[i]? = some x) (hj : X.N[j]? = some y) (hij : i ≠ j) (hx : X.env.scope.names.lookup x = some .local) (hy : X.env.scope.names.lookup y = some .local) (h : PL X Z W [a, b] fs)
    (hw : swappedStores [.Tuple [.Name x px, .Name y py] kt pt] (.Tuple [a, b] k2 pt2) X.env = pure (some [x, y])) (hs : swapsWithSole [.Tuple [.Name x px, .Name y py] kt pt] (.Tuple [a, b] k2 pt2) pos.line X.env = pure false := by rfl) :
    PC1 X Z W (.Assign [.Tuple [.Name x px, .Name y py] kt pt] (.Tuple [a, b] k2 pt2) pos) (sPar i j fs) := by
  refine PS.weak (ps_par hc hN hi hj hij hx hy (PL.sts h) hw hs) fun D σ H ⟨ρ, F, r, q⟩ => ⟨ρ, F, r, (PostS.bind q).imp fun ds H1 ρ1 F1 g q1 vs hv => ?_⟩
  match ds, hv, q1 with
  | [d, e], .cons h1 (.cons h2 .nil), q1 => exact ⟨_, _, rfl, q1.val_ ((g.rel.put h1).put h2)⟩
  | [], _, q1 => exact q1.elim
  | [_], _, q1 => exact q1.elim
  | _ :: _ :: _ :: _, _, q1 => exact q1.elim
end
section
variable {i j : Nat} {ρ : En} {fs : M (List AV)} {d e : D}
def parR (i j : Nat) (ds : List D) (ρ : En) : Res Fl := match ds with
  | [d, e] => .val .nx ((ρ.set i (.sh d)).set j (.sh e))
  | _ => .bad
@[simp] theorem parR_r : parR i j [d, e] ρ = .val .nx ((ρ.set i (.sh d)).set j (.sh e)) := rfl
@[simp] theorem sPar_r : sPar i j fs ρ = (fs.sts ρ).bind fun ds ρ1 => parR i j ds ρ1 := rfl
end
abbrev ExI0I {K : PySem.W.Frag} {h : Heap} (_ : K.In h) (mg : Str → Option Value) (c : Str) : Prop := ExI0 K mg c
abbrev DfFI {K : PySem.W.Frag} {h : Heap} (_ : K.In h) (mg : Str → Option Value) (x : Str) (st : Stmt) (dvs : List V) (kws : List (Str × V)) : Prop := DfF K mg x st dvs kws
end PV
namespace PV
open PySem PySem.Spec PyProof.Rows L2 VK
/-! ### operators that a class defines itself, between two of one class -/
def DunA (P : Program) (w : World) (K : PySem.W.Frag) (mg : Str → Option Value) (base : Heap) (k : Nat) (cs : List Str) (m : Str) (Mf : Nat → Md) : Prop := ∀ c ∈ cs, ∃ C g, mg c = some (.ref C) ∧ Cls K C ∧ Meth K C m g ∧ PySem.W.selfFirst K C = true ∧ FnA P w K mg base k g [] [false, false] Mf
/-- both of one class of cs -/
def pair (cs : List Str) (x y : AV) (ρ : En) : Bool := match der x ρ, der y ρ with
  | some (.ins c _), some (.ins c' _) => cs.contains c && c == c'
  | _, _ => false
def eDun (cs : List Str) (Mf : Nat → Md) (fa fb : M AV) : M AV := fun ρ => (fa ρ).bind fun x ρ1 => (fb ρ1).bind fun y ρ2 => if pair cs x y ρ2 = true then callA [false, false] 0 Mf ([x, y], []) ρ2 else .bad
section
variable {X : Cx} {Z : Zone} {W : WX} {a b : Expr} {fa fb : M AV} {cs : List Str} {Mf : Nat → Md} {k j : Nat}
theorem pair_ok {K : PySem.W.Frag} {mg : Str → Option Value} {σ : L2.St} {H F : Hp} {ρ : En} {v w : V} {x y : AV} (r : Rel K mg Z σ H ρ F) (hx : AR K mg F σ v x) (hy : AR K mg F σ w y) (q : pair cs x y ρ = true) :
    ∃ c ∈ cs, ∃ a b C C' dx dy vs us, v = .ref a ∧ w = .ref b ∧ H a = some (.ins C dx vs) ∧ H b = some (.ins C' dy us) ∧ mg c = some (.ref C) ∧ mg c = some (.ref C') := by
  unfold pair at q
  cases hd : der x ρ with
  | none => rw [hd] at q; cases q
  | some d =>
    cases he : der y ρ with
    | none => rw [hd, he] at q; cases d <;> cases q
    | some e =>
      rw [hd, he] at q
      cases d <;> try (cases q; done)
      cases e <;> try (cases q; done)
      rename_i c fs c' gs
      have q : (cs.contains c && c == c') = true := q
      rw [Bool.and_eq_true] at q
      obtain rfl : c = c' := eq_of_beq q.2
      obtain ⟨p1, C, dx, vs, e1, e2, e3, e4⟩ := (der_ok r hx hd).ins r.same
      obtain ⟨p2, C', dy, us, f1, f2, f3, f4⟩ := (der_ok r hy he).ins r.same
      exact ⟨c, by simpa using q.1, p1, p2, C, C', dx, dy, vs, us, e1, f1, e2, f2, e3, f3⟩
theorem ev_dun {op : Operator} {pos : Pos} (c0 : DunA X.prog X.w X.K X.mg X.base k cs (PySem.dunder op.info.2) Mf) (hr : Room j X.A) (hgd : X.A.guards = some []) (hk : k ≤ j) (tk : Takes X W) (ha : PV X Z W a fa) (hb : PV X Z W b fb) : PV X Z W (.BinOp a op b pos) (eDun cs Mf fa fb) := by
  constructor
  intro pins s σ H Q I ⟨ρ, F, r, q⟩
  refine wpAny_BinOp (binT (R := fun v w H2 => ∃ ρ2 F2 x y, Rel X.K X.mg Z σ H2 ρ2 F2 ∧ AR X.K X.mg F2 σ v x ∧ AR X.K X.mg F2 σ w y ∧ Post X.K X.mg Z W σ H2 ρ2 F2 (if pair cs x y ρ2 = true then callA [false, false] 0 Mf ([x, y], []) ρ2 else .bad) fun z H' _ F' => ∀ v, AR X.K X.mg F' σ v z → Q v H') ha hb I
    ⟨ρ, F, r, (Post.bind q).imp fun x H1 ρ1 F1 g1 q1 v hv => ⟨ρ1, F1, g1.rel, (Post.bind q1).imp fun y H2 ρ2 F2 g2 q2 w hw => ⟨ρ2, F2, x, y, g2.rel, hv.go g2.fr, hw, q2⟩⟩⟩ ?_)
  intro v u s2 x y H2 I2 rx ry ⟨ρ2, F2, xx, yy, r2, hx, hy, q2⟩
  by_cases hc : pair cs xx yy ρ2 = true
  · rw [if_pos hc] at q2
    obtain ⟨c, hcm, p1, p2, C, C', dx, dy, vs, us, rfl, rfl, e1, e2, m1, m2⟩ := pair_ok r2 hx hy hc
    obtain ⟨C0, g, m0, cl, hm, sf, FA⟩ := c0 c hcm
    rw [m0] at m1 m2
    cases m1
    cases m2
    obtain rfl : v = Value.ref p1 := rx
    obtain rfl : u = Value.ref p2 := ry
    obtain ⟨mA, J, _⟩ := ins_get I2.hok e1
    obtain ⟨mB, J', _⟩ := ins_get I2.hok e2
    obtain ⟨od, J, _⟩ := J.look
    obtain ⟨od', J', _⟩ := J'.look
    obtain ⟨m, hF⟩ := I2.fr
    obtain ⟨_, hs⟩ := callA_core (xz := ([xx, yy], [])) (vs := [.ref p1, .ref p2]) (zs := []) r2 (.cons hx (.cons hy .nil)) .nil q2
    refine PySem.W.binop_K hF I2.ok.mod.kin J J'.type sf hm.at_ hm.fn (wpAny_mono (run_fnA (us := [.ref p1, .ref p2]) (ws := []) (vs := [.ref p1, .ref p2]) (zs := []) FA (hr.mono hk) hgd tk I2 (.cons rfl (.cons rfl .nil)) .nil rfl hs) (fun r s' hq => ?_) fun _ _ h => h)
    obtain ⟨z, H', I', rz, qz⟩ := hq
    cases r <;> first | exact ⟨z, H', I', rz, qz⟩ | skip
    cases z <;> first | (cases rz; done) | (obtain ⟨_, h⟩ := rz; cases h; done)
  · rw [if_neg hc] at q2
    exact q2.elim
end
section
variable {ρ : En} {cs : List Str} {Mf : Nat → Md} {fa fb : M AV}
@[simp] theorem eDun_r : eDun cs Mf fa fb ρ = (fa ρ).bind fun x ρ1 => (fb ρ1).bind fun y ρ2 => if pair cs x y ρ2 = true then callA [false, false] 0 Mf ([x, y], []) ρ2 else .bad := rfl
end
end PV
namespace PV
open PySem PySem.Spec PyProof.Rows L2 VK
/-! ### == that a class defines itself, between two of one class -/
section
variable {X : Cx} {Z : Zone} {W : WX} {a b : Expr} {fa fb : M AV} {cs : List Str} {Mf : Nat → Md} {k j : Nat}
/-- both operands have come -/
abbrev Two (X : Cx) (Z : Zone) (W : WX) (σ : L2.St) (cs : List Str) (Mf : Nat → Md) (Q : VK) (v w : V) (H2 : Hp) : Prop := ∃ ρ2 F2 x y, Rel X.K X.mg Z σ H2 ρ2 F2 ∧ AR X.K X.mg F2 σ v x ∧ AR X.K X.mg F2 σ w y ∧ Post X.K X.mg Z W σ H2 ρ2 F2 (if pair cs x y ρ2 = true then callA [false, false] 0 Mf ([x, y], []) ρ2 else .bad) fun z H' _ F' => ∀ v, AR X.K X.mg F' σ v z → Q v H'
theorem two_in {σ : L2.St} {H : Hp} {Q : VK} (q : tE X.K X.mg Z W (eDun cs Mf fa fb) σ H Q) : tE X.K X.mg Z W fa σ H fun v H1 => tE X.K X.mg Z W fb σ H1 fun w H2 => Two X Z W σ cs Mf Q v w H2 := by
  obtain ⟨ρ, F, r, q⟩ := q
  exact ⟨ρ, F, r, (Post.bind q).imp fun x H1 ρ1 F1 g1 q1 v hv => ⟨ρ1, F1, g1.rel, (Post.bind q1).imp fun y H2 ρ2 F2 g2 q2 w hw => ⟨ρ2, F2, x, y, g2.rel, hv.go g2.fr, hw, q2⟩⟩⟩
theorem two_cmp {op : CmpOp} (c0 : DunA X.prog X.w X.K X.mg X.base k cs (cmpInfo op).2.1 Mf) (hr : Room j X.A) (hgd : X.A.guards = some []) (hk : k ≤ j) (tk : Takes X W) {pins : List (Addr × Obj)} {σ : L2.St} {H : Hp} {s : Shared} {x y : V} {v u : Value} {Q : VK} (I : Inv X pins σ H s) (rx : RelV x v) (ry : RelV y u) (h : Two X Z W σ cs Mf Q x y H) :
    wpAny (model X.prog X.w) X.A (richCompare op v u) (EP X pins σ Q) X.xe s := by
  obtain ⟨ρ2, F2, xx, yy, r2, hx, hy, q2⟩ := h
  by_cases hc : pair cs xx yy ρ2 = true
  · rw [if_pos hc] at q2
    obtain ⟨c, hcm, p1, p2, C, C', dx, dy, vs, us, rfl, rfl, e1, e2, m1, m2⟩ := pair_ok r2 hx hy hc
    obtain ⟨C0, g, m0, cl, hm, sf, FA⟩ := c0 c hcm
    rw [m0] at m1 m2
    cases m1
    cases m2
    obtain rfl : v = Value.ref p1 := rx
    obtain rfl : u = Value.ref p2 := ry
    obtain ⟨mA, J, _⟩ := ins_get I.hok e1
    obtain ⟨mB, J', _⟩ := ins_get I.hok e2
    obtain ⟨od, J, _⟩ := J.look
    obtain ⟨od', J', _⟩ := J'.look
    obtain ⟨m, hF⟩ := I.fr
    obtain ⟨_, hs⟩ := callA_core (xz := ([xx, yy], [])) (vs := [.ref p1, .ref p2]) (zs := []) r2 (.cons hx (.cons hy .nil)) .nil q2
    refine PySem.W.cmp_K (tb := .ref C) hr.units0 hF I.ok.mod.kin J J'.type (by simp [PySem.W.notFirst]) hm.at_ hm.fn (wpAny_mono (run_fnA (us := [.ref p1, .ref p2]) (ws := []) (vs := [.ref p1, .ref p2]) (zs := []) FA (hr.mono hk) hgd tk I (.cons rfl (.cons rfl .nil)) .nil rfl hs) (fun r s' hq => ?_) fun _ _ h => h)
    obtain ⟨z, H', I', rz, qz⟩ := hq
    cases r <;> first | exact ⟨z, H', I', rz, qz⟩ | skip
    cases z <;> first | (cases rz; done) | (obtain ⟨_, h⟩ := rz; cases h; done)
  · rw [if_neg hc] at q2
    exact q2.elim
theorem ev_deq {pos : Pos} (c0 : DunA X.prog X.w X.K X.mg X.base k cs "__eq__" Mf) (hr : Room j X.A) (hgd : X.A.guards = some []) (hk : k ≤ j) (tk : Takes X W) (ha : PV X Z W a fa) (hb : PV X Z W b fb) (hm : behindInMarks .Eq b = false) : PV X Z W (.Compare a [.Eq] [b] pos) (eDun cs Mf fa fb) :=
  ⟨fun pins s σ H Q I q => wpAny_Compare1 (binT ha hb I (two_in q) fun v u s2 x y H2 I2 rx ry h => two_cmp (op := .Eq) c0 hr hgd hk tk I2 rx ry h) hm⟩
/-! ### x in c, where c's class says what it holds -/
def holds (cs : List Str) (y : AV) (ρ : En) : Bool := match der y ρ with
  | some (.ins c _) => cs.contains c
  | _ => false
def eDin (cs : List Str) (Mf : Nat → Md) (neg : Bool) (fa fb : M AV) : M AV := fun ρ => (fa ρ).bind fun x ρ1 => (fb ρ1).bind fun y ρ2 => if holds cs y ρ2 = true then (callA [false, false] 0 Mf ([y, x], []) ρ2).bind fun z ρ3 => match z with
  | .d (.bl v) => .val (.d (.bl (neg != v))) ρ3
  | _ => .bad
  else .bad
theorem holds_ok {K : PySem.W.Frag} {mg : Str → Option Value} {σ : L2.St} {H F : Hp} {ρ : En} {w : V} {y : AV} (r : Rel K mg Z σ H ρ F) (hy : AR K mg F σ w y) (q : holds cs y ρ = true) : ∃ c ∈ cs, ∃ b C dy us, w = .ref b ∧ H b = some (.ins C dy us) ∧ mg c = some (.ref C) := by
  unfold holds at q
  cases he : der y ρ with
  | none => rw [he] at q; cases q
  | some e =>
    rw [he] at q
    cases e <;> try (cases q; done)
    rename_i c gs
    have q : cs.contains c = true := q
    obtain ⟨p2, C', dy, us, f1, f2, f3, f4⟩ := (der_ok r hy he).ins r.same
    exact ⟨c, by simpa using q, p2, C', dy, us, f1, f2, f3⟩
abbrev TwoIn (X : Cx) (Z : Zone) (W : WX) (σ : L2.St) (cs : List Str) (Mf : Nat → Md) (neg : Bool) (Q : VK) (v w : V) (H2 : Hp) : Prop := ∃ ρ2 F2 x y, Rel X.K X.mg Z σ H2 ρ2 F2 ∧ AR X.K X.mg F2 σ v x ∧ AR X.K X.mg F2 σ w y ∧ Post X.K X.mg Z W σ H2 ρ2 F2 (if holds cs y ρ2 = true then (callA [false, false] 0 Mf ([y, x], []) ρ2).bind fun z ρ3 => match z with
  | .d (.bl v) => .val (.d (.bl (neg != v))) ρ3
  | _ => .bad
  else .bad) fun z H' _ F' => ∀ v, AR X.K X.mg F' σ v z → Q v H'
theorem twoIn_in {neg : Bool} {σ : L2.St} {H : Hp} {Q : VK} (q : tE X.K X.mg Z W (eDin cs Mf neg fa fb) σ H Q) : tE X.K X.mg Z W fa σ H fun v H1 => tE X.K X.mg Z W fb σ H1 fun w H2 => TwoIn X Z W σ cs Mf neg Q v w H2 := by
  obtain ⟨ρ, F, r, q⟩ := q
  exact ⟨ρ, F, r, (Post.bind q).imp fun x H1 ρ1 F1 g1 q1 v hv => ⟨ρ1, F1, g1.rel, (Post.bind q1).imp fun y H2 ρ2 F2 g2 q2 w hw => ⟨ρ2, F2, x, y, g2.rel, hv.go g2.fr, hw, q2⟩⟩⟩
theorem twoIn_run {neg : Bool} (c0 : DunA X.prog X.w X.K X.mg X.base k cs "__contains__" Mf) (hr : Room j X.A) (hgd : X.A.guards = some []) (hk : k ≤ j) (tk : Takes X W) {pins : List (Addr × Obj)} {σ : L2.St} {H : Hp} {s : Shared} {x y : V} {v u : Value} {Q : VK} (I : Inv X pins σ H s) (rx : RelV x v) (ry : RelV y u) (h : TwoIn X Z W σ cs Mf neg Q x y H) :
    wpAny (model X.prog X.w) X.A (compareOp (if neg then .NotIn else .In) v u) (EP X pins σ Q) X.xe s := by
  obtain ⟨ρ2, F2, xx, yy, r2, hx, hy, q2⟩ := h
  by_cases hc : holds cs yy ρ2 = true
  · rw [if_pos hc] at q2
    obtain ⟨c, hcm, p2, C, dy, us, rfl, e2, m2⟩ := holds_ok r2 hy hc
    obtain ⟨C0, g, m0, cl, hm, sf, FA⟩ := c0 c hcm
    rw [m0] at m2
    cases m2
    obtain rfl : u = Value.ref p2 := ry
    obtain ⟨mB, J', _⟩ := ins_get I.hok e2
    obtain ⟨od', J', _⟩ := J'.look
    obtain ⟨m, hF⟩ := I.fr
    have q3 := (Post.bind q2).imp (Q' := fun z H' _ F' => ∀ t, AR X.K X.mg F' σ t z → ∃ b, t = .bl b ∧ Q (.bl (neg != b)) H') fun z H3 ρ3 F3 g3 q3 t ht => by
      match z, q3, ht with
      | .d (.bl b), q3, ht =>
        cases ht
        exact ⟨b, rfl, q3.val_ g3.rel _ (.bl _)⟩
      | .io _, q3, _ => exact q3.elim
      | .d .non, q3, _ => exact q3.elim
      | .d (.int _), q3, _ => exact q3.elim
      | .d (.str _), q3, _ => exact q3.elim
      | .d (.lst _), q3, _ => exact q3.elim
      | .d (.tup _), q3, _ => exact q3.elim
      | .d (.dic _), q3, _ => exact q3.elim
      | .d (.ins _ _), q3, _ => exact q3.elim
      | .d (.exn _ _), q3, _ => exact q3.elim
      | .d (.gl _), q3, _ => exact q3.elim
      | .d (.ty _), q3, _ => exact q3.elim
      | .d (.scr _), q3, _ => exact q3.elim
    obtain ⟨_, hs⟩ := callA_core (xz := ([yy, xx], [])) (vs := [.ref p2, x]) (zs := []) (Q := fun t H' => ∃ b, t = .bl b ∧ Q (.bl (neg != b)) H') r2 (.cons hy (.cons hx .nil)) .nil q3
    have run := run_fnA (us := [.ref p2, v]) (ws := []) (vs := [.ref p2, x]) (zs := []) FA (hr.mono hk) hgd tk I (.cons rfl (.cons rx .nil)) .nil rfl hs
    cases neg with
    | false =>
      refine PySem.W.in_K hF I.ok.mod.kin J' hm.at_ hm.fn (wpAny_mono run (fun r s' hq => ?_) fun _ _ h => h)
      obtain ⟨z, H', I', rz, b, rfl, qz⟩ := hq
      obtain rfl : r = .bool b := rz
      exact wpAny_pure ⟨.bl b, H', I', rfl, by simpa using qz⟩
    | true =>
      refine PySem.W.notIn_K hF I.ok.mod.kin J' hm.at_ hm.fn (wpAny_mono run (fun r s' hq => ?_) fun _ _ h => h)
      obtain ⟨z, H', I', rz, b, rfl, qz⟩ := hq
      obtain rfl : r = .bool b := rz
      exact wpAny_pure ⟨.bl (!b), H', I', rfl, by simpa using qz⟩
  · rw [if_neg hc] at q2
    exact q2.elim
theorem ev_din {pos : Pos} (c0 : DunA X.prog X.w X.K X.mg X.base k cs "__contains__" Mf) (hr : Room j X.A) (hgd : X.A.guards = some []) (hk : k ≤ j) (tk : Takes X W) (ha : PV X Z W a fa) (hb : PV X Z W b fb) (hm : behindInMarks .In b = false) : PV X Z W (.Compare a [.In] [b] pos) (eDin cs Mf false fa fb) :=
  ⟨fun pins s σ H Q I q => wpAny_Compare1 (binT ha hb I (twoIn_in q) fun v u s2 x y H2 I2 rx ry h => twoIn_run (neg := false) c0 hr hgd hk tk I2 rx ry h) hm⟩
theorem ev_dnin {pos : Pos} (c0 : DunA X.prog X.w X.K X.mg X.base k cs "__contains__" Mf) (hr : Room j X.A) (hgd : X.A.guards = some []) (hk : k ≤ j) (tk : Takes X W) (ha : PV X Z W a fa) (hb : PV X Z W b fb) (hm : behindInMarks .NotIn b = false) : PV X Z W (.Compare a [.NotIn] [b] pos) (eDin cs Mf true fa fb) :=
  ⟨fun pins s σ H Q I q => wpAny_Compare1 (binT ha hb I (twoIn_in q) fun v u s2 x y H2 I2 rx ry h => twoIn_run (neg := true) c0 hr hgd hk tk I2 rx ry h) hm⟩
end
end PV
namespace PV
open PySem PySem.Spec PyProof.Rows L2 VK
/-! ### an instance called -/
def CalO (P : Program) (w : World) (K : PySem.W.Frag) (mg : Str → Option Value) (base : Heap) (k : Nat) (cs : List Str) (ms : List Bool) (Mf : Nat → Md) : Prop := ∀ c ∈ cs, ∃ C g, mg c = some (.ref C) ∧ StX.CallO K C g ∧ FnA P w K mg base k g [] ms Mf
def eCalO (cs : List Str) (ms : List Bool) (Mf : Nat → Md) (fo : M AV) (fs : M (List AV)) : M AV := fun ρ => (fo ρ).bind fun x ρ1 => if holds cs x ρ1 = true then ((fs ρ1).bind fun xs ρ2 => if holds cs x ρ2 = true then callA ms 0 Mf (x :: xs, []) ρ2 else .bad) else .bad
section
variable {X : Cx} {Z : Zone} {W : WX} {fe e : Expr} {es : List Expr} {fo : M AV} {fs : M (List AV)} {cs : List Str} {Mf : Nat → Md} {ms : List Bool} {k j : Nat}
theorem ev_calO {pos : Pos} (c0 : CalO X.prog X.w X.K X.mg X.base k cs ms Mf) (hr : Room j X.A) (hgd : X.A.guards = some []) (hk : k ≤ j) (tk : Takes X W) (ho : PV X Z W fe fo) (ha : PL X Z W (e :: es) fs)
    (ht : eval (.Call fe (e :: es) [] pos) X.env = (do callWith pos (← eval fe X.env) [] (backTo pos (starEach (e :: es) X.env)) (backToKw pos (keywordEach [] X.env))) := by rfl)
    (he : starEach (e :: es) X.env = (false, eval e X.env) :: starEach es X.env := by rfl) (hpl : (backTo pos (starEach es X.env)).any (·.1) = false := by rfl) : PV X Z W (.Call fe (e :: es) [] pos) (eCalO cs ms Mf fo fs) := by
  refine ⟨fun pins s σ H Q I ⟨ρ, F, r, q⟩ => ?_⟩
  refine Call_ (thn (ho.run pins s σ H (fun v H1 => ∃ ρ1 F1 x, Rel X.K X.mg Z σ H1 ρ1 F1 ∧ AR X.K X.mg F1 σ v x ∧ (∃ a, v = .ref a) ∧ Post X.K X.mg Z W σ H1 ρ1 F1 ((fs ρ1).bind fun xs ρ2 => if holds cs x ρ2 = true then callA ms 0 Mf (x :: xs, []) ρ2 else .bad) fun y H' _ F' => ∀ v, AR X.K X.mg F' σ v y → Q v H') I
    ⟨ρ, F, r, (Post.bind q).imp fun x H1 ρ1 F1 g1 q1 v hv => ?_⟩) fun u s1 ⟨v, H1, I1, rv, ρ1, F1, x, r1, hv, ⟨a, ea⟩, q1⟩ => ?_) ht
  · by_cases h1 : holds cs x ρ1 = true
    · rw [if_pos h1] at q1
      obtain ⟨c, hcm, b, C, dy, fs', eb, e2, m2⟩ := holds_ok g1.rel hv h1
      exact ⟨ρ1, F1, x, g1.rel, hv, ⟨b, eb⟩, q1⟩
    · rw [if_neg h1] at q1
      exact q1.elim
  · subst ea
    obtain rfl : u = Value.ref a := rv
    refine StX.callO_with (thn (ha.run pos pins s1 σ H1 (fun vs H2 => ∃ ρ2 F2 xs, Rel X.K X.mg Z σ H2 ρ2 F2 ∧ AR X.K X.mg F2 σ (.ref a) x ∧ ARL X.K X.mg F2 σ vs xs ∧ Post X.K X.mg Z W σ H2 ρ2 F2 (if holds cs x ρ2 = true then callA ms 0 Mf (x :: xs, []) ρ2 else .bad) fun y H' _ F' => ∀ v, AR X.K X.mg F' σ v y → Q v H') I1
      ⟨ρ1, F1, r1, (Post.bind q1).imp fun xs H2 ρ2 F2 g2 q2 vs hvs => ⟨ρ2, F2, xs, g2.rel, hv.go g2.fr, hvs, q2⟩⟩) fun us s2 ⟨vs, H2, I2, rvs, ρ2, F2, xs, r2, hx, hxs, q2⟩ => ?_) he hpl
    by_cases hc : holds cs x ρ2 = true
    · rw [if_pos hc] at q2
      obtain ⟨c, hcm, b, C, dy, fs', eb, e2, m2⟩ := holds_ok r2 hx hc
      cases eb
      obtain ⟨C0, g, m0, cl, FA⟩ := c0 c hcm
      rw [m0] at m2
      cases m2
      obtain ⟨ox, od, J, hd⟩ := StX.insC_at I2 (.inr ⟨dy, fs', e2⟩)
      obtain ⟨_, hs⟩ := callA_core (xz := (x :: xs, [])) (vs := .ref a :: vs) (zs := []) r2 (.cons hx hxs) .nil q2
      refine ⟨⟨C, ox, od, J, hd⟩, wpAny_call (PySem.W.kco_code I2.kIn J hd cl.at_ cl.fn cl.fi (codeAny_mono (FA.run X.A X.stack s2 H2 (.ref a :: us) [] (.ref a :: vs) [] Q (fun cls d H' => W cls d σ H') (hr.mono hk) hgd I2.env0 (.cons rfl rvs) .nil rfl hs) fun r s' hq => ?_))⟩
      cases r with
      | error e => exact passAt tk σ pins H2 s2 e s' I2 hq
      | ok fl =>
        cases fl with
        | ret u => exact I2.after hq
        | next => exact False.elim hq
        | brk => exact False.elim hq
        | cont => exact False.elim hq
    · rw [if_neg hc] at q2
      exact q2.elim
end
end PV
namespace PV
open PySem PySem.Spec PyProof.Rows L2 VK
/-! ### a class's own methods: C.m(..) -/
def CMetA (P : Program) (w : World) (K : PySem.W.Frag) (mg : Str → Option Value) (base : Heap) (k : Nat) (c m : Str) (ks : List Str) (ms : List Bool) (Mf : Nat → Md) : Prop := ∃ C mc p g, mg c = some (.ref C) ∧ ClX.CRead K C mc ∧ ClX.CMet K C mc m p g ∧ FnA P w K mg base k g ks ms Mf
def eCMet (c : Str) (ms : List Bool) (nk : Nat) (Mf : Nat → Md) (fa : M A2) : M AV := fun ρ => (fa ρ).bind fun xz ρ1 => callA ms nk Mf (.d (.gl c) :: xz.1, xz.2) ρ1
section
variable {X : Cx} {Z : Zone} {W : WX} {c m : Str} {es : List Expr} {kws : List Keyword} {fa : M A2} {ks : List Str} {ms : List Bool} {Mf : Nat → Md} {k j : Nat} {pc apos pos : Pos} {pl : Sem Bool}
theorem ev_cmet (c0 : CMetA X.prog X.w X.K X.mg X.base k c m ks ms Mf) (hr : Room j X.A) (hgd : X.A.guards = some []) (hk : k ≤ j) (tk : Takes X W) (hg : Gl X c) (ha : PArgs X Z W ks es kws fa) (hdb : (c == ("__debug__" : Str)) = false := by decide)
    (ht : eval (.Call (.Attribute (.Name c pc) m apos) es kws pos) X.env = (do
      let ov ← eval (.Name c pc) X.env
      standAt apos.atName
      let (f, first) ← holding [ov] (getMethod ov m pl)
      callWith pos f first (backTo pos (starEach es X.env)) (backToKw pos (keywordEach kws X.env))) := by rfl) :
    PV X Z W (.Call (.Attribute (.Name c pc) m apos) es kws pos) (eCMet c ms ks.length Mf fa) := by
  obtain ⟨C, mc, p, g, hm, rd, cm, FA⟩ := c0
  refine ⟨fun pins s σ H Q I ⟨ρ, F, r, q⟩ => ?_⟩
  refine PySem.W.methodCall_KW (pl := pl) (ld_glob I hg hm ?_ hdb) ht
  refine ClX.getmethcm_ok I rd cm fun s2 I2 => ?_
  refine ha pos _ s2 σ H (fun vs zs H2 => zs.length = ks.length ∧ spD X.K X.mg (msA ms (V.ref C :: vs).length zs.length) (Mf (V.ref C :: vs).length) ((V.ref C :: vs) ++ zs) H2 Q (fun cls d H' => W cls d σ H')) (.ref s.heap.objs.size) [] _ I2 ⟨ρ, F, r, (Post.bind q).imp fun xz H2 ρ2 F2 g2 q2 vs zs hvs hz => callA_core (xz := (.d (.gl c) :: xz.1, xz.2)) g2.rel (.cons (R.gl hm) hvs) hz q2⟩ fun us ws vs zs s3 H3 I3 rv rz ⟨hl, hs⟩ => ?_
  refine ⟨PySem.W.keeps_M cm.fi _ ⟨ClX.pin_at I3, I3.kIn⟩, ?_⟩
  have z : wpAny (model X.prog X.w) X.A (call (.ref s.heap.objs.size) us (ks.zip ws)) (EP X ((s.heap.objs.size, PySem.W.methodObj (.ref g) (.ref C)) :: pins) σ Q) X.xe s3 :=
    wpAny_call (PySem.W.method_call (ClX.pin_at I3) (codeAny_mono (FA.run X.A X.stack s3 H3 (.ref C :: us) ws (.ref C :: vs) zs Q (fun cls d H' => W cls d σ H') (hr.mono hk) hgd I3.env0 (.cons rfl rv) rz hl hs) fun r s' hq => by
      cases r with
      | error e => exact passAt tk σ _ H3 s3 e s' I3 hq
      | ok fl =>
        cases fl with
        | ret u => exact I3.after hq
        | next => exact False.elim hq
        | brk => exact False.elim hq
        | cont => exact False.elim hq))
  exact thn z fun _ _ y => ClX.unpinE y
end
end PV
namespace PV
open PySem PySem.Spec PyProof.Rows L2 VK
/-! ### cls(..): an instance made of the class that a name holds -/
def nMakeV (i : Nat) (c : Str) (ms : List Bool) (nk : Nat) (Mf : Nat → Md) (fa : M A2) : M D := fun ρ => match ρ.at i with
  | .sh (.gl x) => if x = c then nMakeA c ms nk Mf fa ρ else .bad
  | _ => .bad
section
variable {X : Cx} {Z : Zone} {W : WX} {x y : Str} {es : List Expr} {kws : List Keyword} {fa : M A2} {ks : List Str} {ms : List Bool} {Mf : Nat → Md} {k j i : Nat} {p pos : Pos}
theorem en_makeV (c0 : MkA X.prog X.w X.K X.mg X.base k x ks ms Mf) (hr : Room j X.A) (hgd : X.A.guards = some []) (hk : k + 1 ≤ j) (tk : Takes X W) (hv : PE X (.Name y p) (tVar i)) (ha : PArgs X Z W ks es kws fa) :
    PN X Z W (.Call (.Name y p) es kws pos) (nMakeV i x ms ks.length Mf fa) := by
  obtain ⟨C, f, hm, M, FA⟩ := c0.ex
  refine ⟨fun pins s σ H Q I ⟨ρ, Fr, r, q⟩ => ?_⟩
  unfold nMakeV at q
  cases hi : ρ.at i with
  | no => simp only [hi] at q; exact q.elim
  | own d => simp only [hi] at q; exact q.elim
  | pin d => simp only [hi] at q; exact q.elim
  | sh d =>
    cases d <;> simp only [hi] at q <;> try exact q.elim
    rename_i z
    by_cases e : z = x
    · subst e
      rw [if_pos rfl] at q
      obtain ⟨v, hs, rv⟩ := r.sh i _ hi
      have ev : v = .ref C := by
        cases rv with
        | gl h =>
          rw [h] at hm
          cases hm
          rfl
      subst ev
      refine wpAny_Call_Name_kw (thn (hv.run pins s σ H (fun v H1 => v = .ref C ∧ H1 = H) I ⟨.ref C, hs, rfl, rfl⟩) fun u s1 ⟨v, H1, I1, r1, e1, eH⟩ => ?_)
      subst e1
      subst eH
      obtain rfl : u = Value.ref C := r1
      refine ha pos pins s1 σ H1 (fun vs zs H2 => ∃ ρ2 F2 xz, Rel X.K X.mg Z σ H2 ρ2 F2 ∧ ARL X.K X.mg F2 σ vs xz.1 ∧ ARL X.K X.mg F2 σ zs xz.2 ∧ Post X.K X.mg Z W σ H2 ρ2 F2 (makeA z ms ks.length Mf xz ρ2) fun d H' ρ' F' => ∀ a, H2 a = none → Z.H0 a = none → F' a = none → Ct X.K X.mg F' H' a d → (∀ j e, (ρ'.at j).mu = some e → σ[j]? ≠ some (some (.ref a))) → Q (.ref a) H') (.ref C) []
        _ I1 ⟨ρ, Fr, r, (Post.bind q).imp fun xz H1 ρ1 F1 g1 q1 vs zs hv hz => ⟨ρ1, F1, xz, g1.rel, hv, hz, q1.imp fun d H2 ρ2 F2 g2 q2 a n1 n2 n3 ct ne => q2 a (g1.free n1) n2 n3 ct ne⟩⟩ fun us ws vs zs s2 H2 I2 rv rz ⟨ρ2, F2, xz, r2, hv, hz, q2⟩ => ⟨keepsF M.kp I2, ?_⟩
      exact make_run hm M FA (hr.mono hk) hgd tk I2 rv rz r2 hv hz q2
    · rw [if_neg e] at q
      exact q.elim
end
end PV
/-! methods of texts, f-strings, int of a text -/
namespace PV
open PySem PySem.Spec PyProof.Rows L2 VK
def isS (x : AV) (ρ : En) : Bool := match der x ρ with
  | some (.str _) => true
  | _ => false
/-- x.m(y), x a text -/
def eM1 (g : G2) (fo fa : M AV) : M AV := fun ρ => (fo ρ).bind fun x ρ1 => if isS x ρ1 = true then (fa ρ1).bind fun y ρ2 => op2 g x y ρ2 else .bad
/-- x.m(), x a text -/
def eMs (g : D → Option D) (fo : M AV) : M AV := fun ρ => (fo ρ).bind fun x ρ1 => if isS x ρ1 = true then op1 g x ρ1 else .bad
def strsD : List D → Option (List Str)
  | [] => some []
  | .str z :: r => (strsD r).map (z :: ·)
  | _ => none
def joinD (a : Str) (ds : List D) : Option D := match strsD ds with
  | some ys => if (ys.map (·.length)).sum + ys.length * a.length ≤ 16777216 then some (.str (Txt.join a ys)) else none
  | none => none
def gJoin : G2
  | .str a, .lst ds => joinD a ds
  | .str a, .tup ds => joinD a ds
  | _, _ => none
def gSplit : G2
  | .str a, .str b => if (b.length == 0) = false ∧ a.length + 2 ≤ sizeLine then some (.lst ((Txt.split a b).map D.str)) else none
  | _, _ => none
def gIsdigit : D → Option D
  | .str a => some (.bl (Txt.isdigit a))
  | _ => none
def gIsascii : D → Option D
  | .str a => some (.bl (Txt.isascii a))
  | _ => none
def gIntS : GL
  | [.str a] => match PySem.intText? a with
    | some n => if a.length ≤ 640 then some (.int n) else none
    | none => none
  | _ => none
def gFmt : D → Option D
  | .str y => if y.length ≤ sizeLine then some (.str y) else none
  | .int i => if i.natAbs.log2 < 1920 then some (.str (toString i)) else none
  | _ => none
/-- the parts of an f-string, one behind another -/
def eJs : List (M AV) → Str → M AV
  | [], acc => fun ρ => .val (.d (.str acc)) ρ
  | f :: r, acc => fun ρ => (f ρ).bind fun x ρ1 => match der x ρ1 with
    | some (.str y) => if (acc ++ y).length ≤ sizeLine then eJs r (acc ++ y) ρ1 else .bad
    | _ => .bad
section
variable {K : PySem.W.Frag} {mg : Str → Option Value} {Z : Zone} {W : WX} {σ : L2.St} {H F : Hp} {ρ : En}
theorem strs_ok {G : Hp} : ∀ {xs : List D} {vs : List V} {bs : List Str}, RL K mg G vs xs → strsD xs = some bs → vs = bs.map V.str
  | [], _, _, .nil, h => by
    cases h
    rfl
  | d :: xs, _, bs, .cons h t, q => by
    cases d <;> try cases q
    rename_i z
    simp only [strsD] at q
    cases e : strsD xs with
    | none =>
      rw [e] at q
      cases q
    | some ys =>
      rw [e] at q
      cases q
      cases h
      rw [strs_ok t e]
      rfl
theorem strs_R {G : Hp} : ∀ {ys : List Str}, RL K mg G (ys.map V.str) (ys.map D.str)
  | [] => .nil
  | y :: ys => .cons (.str y) strs_R
theorem isS_ok {x : AV} {v : V} (r : Rel K mg Z σ H ρ F) (h : AR K mg F σ v x) (q : isS x ρ = true) : ∃ a, v = .str a := by
  unfold isS at q
  cases hx : der x ρ with
  | none =>
    rw [hx] at q
    cases q
  | some d =>
    rw [hx] at q
    cases d <;> first | cases q | skip
    exact ⟨_, (der_ok r h hx).str⟩
def OkX1 (K : PySem.W.Frag) (mg : Str → Option Value) (r : V → List V → Hp → VK → Prop) (g : G2) : Prop := OkA K mg (fun x y H Q => r x [y] H Q) g
def OkX0 (K : PySem.W.Frag) (mg : Str → Option Value) (r : V → List V → Hp → VK → Prop) (g : D → Option D) : Prop := OkU K mg (fun x H Q => r x [] H Q) g
end
section
variable {X : Cx} {Z : Zone} {W : WX} {o e : Expr} {fo fa : M AV} {apos pos : Pos} {name : Str}
theorem un_post {K : PySem.W.Frag} {mg : Str → Option Value} {σ : L2.St} {H F : Hp} {ρ : En} {g : D → Option D} {r : V → Hp → VK → Prop} (ok : OkU K mg r g) {x : AV} {v : V} {Q : VK} (rel : Rel K mg Z σ H ρ F) (hv : AR K mg F σ v x)
    (q : Post K mg Z W σ H ρ F (op1 g x ρ) fun x H' _ F' => ∀ v, AR K mg F' σ v x → Q v H') : r v H Q := by
  unfold op1 at q
  cases hx : der x ρ with
  | none =>
    simp only [hx] at q
    exact q.elim
  | some d =>
    simp only [hx] at q
    cases hg : g d with
    | none =>
      simp only [hg] at q
      exact q.elim
    | some z =>
      simp only [hg] at q
      exact ok rel.same (der_ok rel hv hx) hg fun u H' F' s1 s2 s3 n r => q H' F' (.more rel s1 s2 s3 n) u r
theorem ev_m1 {id : String} {g : G2} {r : V → List V → Hp → VK → Prop} (slot : Slot "str" name id) (ty : typeOf (.builtin id) = pure (.type "method_descriptor")) (rule : MtR X id r) (ok : OkX1 X.K X.mg r g) (ho : PV X Z W o fo) (he : PV X Z W e fa)
    (hs : starEach [e] X.env = [(false, eval e X.env)] := by rfl) (hbase : attributeBase o name X.env (eval o X.env) = eval o X.env := by rfl) (hline : (apos.endLine == pos.line) = true := by rfl) :
    PV X Z W (.Call (.Attribute o name apos) [e] [] pos) (eM1 g fo fa) := by
  refine PE.weak (pe_m1 slot ty rule ho he hs hbase hline) fun σ H Q ⟨ρ, F, rel, q⟩ => ⟨ρ, F, rel, (Post.bind q).imp fun x H1 ρ1 F1 g1 q1 v hv => ?_⟩
  by_cases c : isS x ρ1 = true
  · rw [if_pos c] at q1
    exact ⟨isS_ok g1.rel hv c, ρ1, F1, g1.rel, (Post.bind q1).imp fun y H2 ρ2 F2 g2 q2 w hw => op2_ok (r := fun x y H Q => r x [y] H Q) ok g2.rel (hv.go g2.fr) hw q2⟩
  · rw [if_neg c] at q1
    exact q1.elim
theorem ev_ms {id : String} {g : D → Option D} {r : V → List V → Hp → VK → Prop} (slot : Slot "str" name id) (ty : typeOf (.builtin id) = pure (.type "method_descriptor")) (rule : MtR X id r) (ok : OkX0 X.K X.mg r g) (ho : PV X Z W o fo)
    (hbase : attributeBase o name X.env (eval o X.env) = eval o X.env := by rfl) (hline : (apos.endLine == pos.line) = true := by rfl) :
    PV X Z W (.Call (.Attribute o name apos) [] [] pos) (eMs g fo) := by
  refine PE.weak (pe_m0 slot ty rule ho hbase hline) fun σ H Q ⟨ρ, F, rel, q⟩ => ⟨ρ, F, rel, (Post.bind q).imp fun x H1 ρ1 F1 g1 q1 v hv => ?_⟩
  by_cases c : isS x ρ1 = true
  · rw [if_pos c] at q1
    exact ⟨isS_ok g1.rel hv c, un_post (r := fun x H Q => r x [] H Q) ok g1.rel hv q1⟩
  · rw [if_neg c] at q1
    exact q1.elim
end
section
variable {K : PySem.W.Frag} {mg : Str → Option Value}
theorem ok_split : OkX1 K mg (fun x xs H Q => ∃ a b, x = .str a ∧ xs = [.str b] ∧ (b.length == 0) = false ∧ a.length + 2 ≤ sizeLine ∧ rNewStrs (Txt.split a b) H Q) gSplit := by
  intro F H v w d e z Q s hv hw hg q
  cases d <;> cases e <;> simp only [gSplit] at hg <;> try cases hg
  rename_i a b
  by_cases c : (b.length == 0) = false ∧ a.length + 2 ≤ sizeLine
  · rw [if_pos c] at hg
    cases hg
    exact ⟨a, b, hv.str, by rw [hw.str], c.1, c.2, fun p np => okN s q np (.lst upd_same strs_R)⟩
  · rw [if_neg c] at hg
    cases hg
theorem ok_join : OkX1 K mg (fun x xs H Q => ∃ a p, ∃ ys : List Str, x = .str a ∧ xs = [.ref p] ∧ (SqL K H p (ys.map V.str) ∨ SqT K H p (ys.map V.str)) ∧ (ys.map (·.length)).sum + ys.length * a.length ≤ 16777216 ∧ Q (.str (Txt.join a ys)) H) gJoin := by
  intro F H v w d e z Q s hv hw hg q
  cases d <;> try (cases e <;> cases hg; done)
  rename_i a
  cases e <;> simp only [gJoin] at hg <;> try cases hg
  · rename_i ds
    obtain ⟨p, vs, rfl, h1, h2⟩ := hw.lst s
    unfold joinD at hg
    cases hd : strsD ds with
    | none =>
      rw [hd] at hg
      cases hg
    | some ys =>
      rw [hd] at hg
      simp only at hg
      by_cases c : (ys.map (·.length)).sum + ys.length * a.length ≤ 16777216
      · rw [if_pos c] at hg
        cases hg
        have hvs := strs_ok h2 hd
        subst hvs
        exact ⟨a, p, ys, hv.str, rfl, .inl (SqL.of h1), c, okQ s q (.str _)⟩
      · rw [if_neg c] at hg
        cases hg
  · rename_i ds
    obtain ⟨p, vs, rfl, h1, h2⟩ := hw.tup
    unfold joinD at hg
    cases hd : strsD ds with
    | none =>
      rw [hd] at hg
      cases hg
    | some ys =>
      rw [hd] at hg
      simp only at hg
      by_cases c : (ys.map (·.length)).sum + ys.length * a.length ≤ 16777216
      · rw [if_pos c] at hg
        cases hg
        have hvs := strs_ok h2 hd
        subst hvs
        exact ⟨a, p, ys, hv.str, rfl, .inr (sqT_same s h1), c, okQ s q (.str _)⟩
      · rw [if_neg c] at hg
        cases hg
theorem ok_isdigit : OkX0 K mg (fun x xs H Q => ∃ a, x = .str a ∧ xs = [] ∧ True ∧ Q (.bl (Txt.isdigit a)) H) gIsdigit := by
  intro F H v d z Q s hv hg q
  cases d <;> cases hg
  exact ⟨_, hv.str, rfl, trivial, okQ s q (.bl _)⟩
theorem ok_isascii : OkX0 K mg (fun x xs H Q => ∃ a, x = .str a ∧ xs = [] ∧ True ∧ Q (.bl (Txt.isascii a)) H) gIsascii := by
  intro F H v d z Q s hv hg q
  cases d <;> cases hg
  exact ⟨_, hv.str, rfl, trivial, okQ s q (.bl _)⟩
theorem ok_intS : OkL K mg (fun xs H Q => ∃ a n, xs = [.str a] ∧ PySem.intText? a = some n ∧ a.length ≤ 640 ∧ Q (.int n) H) gIntS := by
  intro F H vs ds z Q s hv hg q
  match ds, hg with
  | [.str i], hg =>
    obtain ⟨v, rfl, h1⟩ := hv.one
    simp only [gIntS] at hg
    cases hn : PySem.intText? i with
    | none =>
      rw [hn] at hg
      cases hg
    | some n =>
      rw [hn] at hg
      simp only at hg
      by_cases c : i.length ≤ 640
      · rw [if_pos c] at hg
        cases hg
        exact ⟨i, n, by rw [h1.str], hn, c, okQ s q (.int _)⟩
      · rw [if_neg c] at hg
        cases hg
def gIntA : GL := orGL gInt1 gIntS
theorem call_intA {X : Cx} : CallR X (.type "int") (fun xs H Q => ((∃ i, xs = [.int i] ∧ Q (.int i) H) ∨ ∃ k, xs = [.bl k] ∧ Q (.int (if k then 1 else 0)) H) ∨ ∃ a n, xs = [.str a] ∧ PySem.intText? a = some n ∧ a.length ≤ 640 ∧ Q (.int n) H) := call_int1.or call_int_str
theorem ok_intA : OkL K mg (fun xs H Q => ((∃ i, xs = [.int i] ∧ Q (.int i) H) ∨ ∃ k, xs = [.bl k] ∧ Q (.int (if k then 1 else 0)) H) ∨ ∃ a n, xs = [.str a] ∧ PySem.intText? a = some n ∧ a.length ≤ 640 ∧ Q (.int n) H) gIntA := okL_or ok_int1 ok_intS
end
section
variable {X : Cx} {Z : Zone} {W : WX} {e : Expr} {es : List Expr} {fa : M AV} {pos : Pos}
theorem ev_fmt (h : PV X Z W e fa) : PV X Z W (.FormattedValue e (-1) none pos) (eUn gFmt fa) := by
  refine PE.weak (pe_fmt h) fun σ H Q ⟨ρ, F, rel, q⟩ => ⟨ρ, F, rel, (Post.bind q).imp fun x H1 ρ1 F1 g1 q1 v hv => ?_⟩
  unfold op1 at q1
  cases hx : der x ρ1 with
  | none =>
    simp only [hx] at q1
    exact q1.elim
  | some d =>
    simp only [hx] at q1
    have hp := der_ok g1.rel hv hx
    cases d <;> simp only [gFmt] at q1 <;> try exact q1.elim
    · rename_i i
      by_cases c : i.natAbs.log2 < 1920
      · rw [if_pos c] at q1
        exact .inr ⟨i, hp.int, c, q1 H1 F1 (.refl g1.rel) _ (.str _)⟩
      · rw [if_neg c] at q1
        exact q1.elim
    · rename_i z
      by_cases c : z.length ≤ sizeLine
      · rw [if_pos c] at q1
        exact .inl ⟨z, hp.str, c, q1 H1 F1 (.refl g1.rel) _ (.str _)⟩
      · rw [if_neg c] at q1
        exact q1.elim
/-- parts -/
inductive PJV (X : Cx) (Z : Zone) (W : WX) : List Expr → List (M AV) → Prop where
  | nil : PJV X Z W [] []
  | cons {e : Expr} {f : M AV} {es : List Expr} {fs : List (M AV)} (h : PV X Z W e f) (r : PJV X Z W es fs) : PJV X Z W (e :: es) (f :: fs)
theorem PJV.pj {fs : List (M AV)} (h : PJV X Z W es fs) : PJ X es (fs.map (tE X.K X.mg Z W)) := by
  induction h with
  | nil => exact .nil
  | cons h r ih => exact .cons h ih
theorem js_ok {σ : L2.St} {H F : Hp} {ρ : En} {Q : VK} : ∀ {fs : List (M AV)} {acc : Str}, Rel X.K X.mg Z σ H ρ F → Post X.K X.mg Z W σ H ρ F (eJs fs acc ρ) (fun x H' _ F' => ∀ v, AR X.K X.mg F' σ v x → Q v H') →
    tJs (fs.map (tE X.K X.mg Z W)) acc σ H fun out H1 => Q (.str out) H1 := by
  intro fs
  induction fs generalizing H F ρ with
  | nil =>
    intro acc r q
    exact (q.val_ r) _ (.str _)
  | cons f fs ih =>
    intro acc r q
    refine ⟨ρ, F, r, (Post.bind q).imp fun x H1 ρ1 F1 g1 q1 v hv => ?_⟩
    cases hx : der x ρ1 with
    | none =>
      simp only [hx] at q1
      exact q1.elim
    | some d =>
      simp only [hx] at q1
      cases d <;> try exact q1.elim
      rename_i y
      simp only at q1
      by_cases c : (acc ++ y).length ≤ sizeLine
      · rw [if_pos c] at q1
        exact ⟨y, (der_ok g1.rel hv hx).str, c, ih g1.rel q1⟩
      · rw [if_neg c] at q1
        exact q1.elim
theorem ev_js {v1 v2 : Expr} {rest : List Expr} {fs : List (M AV)} (h : PJV X Z W (v1 :: v2 :: rest) fs) : PV X Z W (.JoinedStr (v1 :: v2 :: rest) pos) (eJs fs Str.empty) :=
  PE.weak (pe_joined h.pj) fun σ H Q ⟨ρ, F, rel, q⟩ => js_ok rel q
theorem ev_js1 {fa : M AV} (h : PV X Z W e fa) : PV X Z W (.JoinedStr [e] pos) fa := pe_joined1 h
end
end PV
/-! a comprehension within another one -/
namespace PV
open PySem PySem.Spec PyProof.Rows L2 VK
def frSc (fr : List Str) : Scope := { kind := .function, names := fr.map fun x => (x, .cell), isGenerator := false, isCoroutine := false }
theorem blkOk_nest {N N' fr : List Str} {sc scope : Scope} {own : List (Str × Nat)} (hN : N' = N) (h : blkC N (frSc fr) scope own = true)
    (hf : ∀ x ∈ fr, sc.names.lookup x = some .cell ∨ sc.names.lookup x = some .free) : BlkOk N' sc scope own := by
  subst hN
  have b := blkOk_by h
  refine ⟨b.kind, b.uniq, b.ix, fun y hy e => ?_, b.own⟩
  refine hf _ ?_
  have key : ∀ (fr : List Str) (k : NameKind), (fr.map fun x => (x, NameKind.cell)).lookup y.1 = some k → y.1 ∈ fr := by
    intro fr k
    induction fr with
    | nil =>
      intro q
      cases q
    | cons a r ih =>
      intro q
      rw [List.map_cons, List.lookup_cons] at q
      cases z : y.1 == a with
      | true => exact List.mem_cons.mpr (.inl (eq_of_beq z))
      | false =>
        rw [z] at q
        exact List.mem_cons_of_mem _ (ih q)
  rcases b.free y hy e with q | q
  · exact key fr _ q
  · exact key fr _ q
end PV
/-! len, repr, str and truth of an instance, by its class's own methods -/
namespace PV
open PySem PySem.Spec PyProof.Rows L2 VK
/-- a special method of the classes cs -/
def SpA (P : Program) (w : World) (K : PySem.W.Frag) (mg : Str → Option Value) (base : Heap) (k : Nat) (cs : List Str) (m : Str) (Mf : Nat → Md) : Prop := ∀ c ∈ cs, ∃ C g, mg c = some (.ref C) ∧ Meth K C m g ∧ FnA P w K mg base k g [] [false] Mf
/-- what the method answers -/
def ownR (cs : List Str) (Mf : Nat → Md) (ck : D → Bool) : D → Option D
  | .ins c fs => if c ∈ cs then (match Mf 1 [.ins c fs] with
    | .val z [] => if ck z = true then some z else none
    | _ => none) else none
  | _ => none
def ckLen : D → Bool
  | .int n => decide (0 ≤ n ∧ n < 2 ^ 63)
  | _ => false
def ckStr : D → Bool
  | .str _ => true
  | _ => false
def ckBl : D → Bool
  | .bl _ => true
  | _ => false
section
variable {X : Cx} {k : Nat} {g a : Addr} {Mf : Nat → Md} {pins : List (Addr × Obj)} {σ : L2.St} {H : Hp} {s : Shared} {Q : VK} {E' : Value → Shared → Prop}
theorem run_in {A' : Around} (I : Inv X pins σ H s) (FA : FnA X.prog X.w X.K X.mg X.base k g [] [false] Mf) (hr : Room k A') (hgd : A'.guards = some []) (e0 : Env0 X.prog X.w X.K X.mg X.base A' X.stack s H)
    (h : spD X.K X.mg [false] (Mf 1) [V.ref a] H Q (fun _ _ _ => False)) : wpAny (model X.prog X.w) A' (call (.ref g) [.ref a]) (EP X pins σ Q) E' s := by
  refine wpAny_call (codeAny_mono (FA.run A' X.stack s H [.ref a] [] [.ref a] [] Q _ hr hgd e0 (.cons rfl .nil) .nil rfl h) fun r s' hq => ?_)
  cases r with
  | error er =>
    obtain ⟨_, _, _, _, _, _, _, _, _, _, _, _, z⟩ := hq
    exact z.elim
  | ok fl =>
    cases fl with
    | ret u =>
      obtain ⟨v, H', I3, rv, q3⟩ := I.after hq
      exact ⟨v, H', I3, rv, q3⟩
    | next => exact False.elim hq
    | brk => exact False.elim hq
    | cont => exact False.elim hq
end
/-- as a relation of values: the method is run, its answer is of the kind -/
def rOwn (P : Program) (w : World) (K : PySem.W.Frag) (mg : Str → Option Value) (base : Heap) (k : Nat) (m : Str) (ck : V → Prop) : List V → Hp → VK → Prop := fun xs H Q => ∃ a C dx fs g Mf, xs = [.ref a] ∧ H a = some (.ins C dx fs) ∧ Meth K C m g ∧ FnA P w K mg base k g [] [false] Mf ∧
  spD K mg [false] (Mf 1) [V.ref a] H (fun v H' => ck v ∧ Q v H') (fun _ _ _ => False)
def ckLenV (v : V) : Prop := ∃ n : Int, v = .int n ∧ 0 ≤ n ∧ n < 2 ^ 63
def ckStrV (v : V) : Prop := ∃ z : Str, v = .str z
def ckBlV (v : V) : Prop := ∃ b : Bool, v = .bl b
section
variable {X : Cx} {k j : Nat}
theorem call_lenO (hr : Room j X.A) (hgd : X.A.guards = some []) (hk : k + 1 ≤ j) : CallR X (.builtin "len") (rOwn X.prog X.w X.K X.mg X.base k "__len__" ckLenV) := by
  intro pins s σ H xs us Q I rv ⟨a, C, dx, fs, g, Mf, e, ha, hm, FA, h⟩
  subst e
  cases rv with
  | cons r1 r2 =>
    cases r2
    obtain rfl : _ = Value.ref a := r1
    obtain ⟨mA, O, _⟩ := ins_get I.hok ha
    obtain ⟨od, J, _⟩ := O.look
    obtain ⟨m, hF⟩ := I.fr
    refine PySem.W.len_K hF I.ok.mod.kin J hm.at_ hm.fn (wpAny_mono (run_in I FA (hr.mono hk).in1 hgd I.env0.in1 h) (fun r s' hq => ?_) fun _ _ h => h)
    obtain ⟨v, H', I', rv, ⟨n, rfl, h0, h1⟩, q⟩ := hq
    obtain ⟨t, rfl⟩ := rv
    exact ⟨⟨h0, h1⟩, .int n, H', I'.tok _, ⟨_, rfl⟩, q⟩
theorem call_reprO (hr : Room j X.A) (hgd : X.A.guards = some []) (hk : k + 1 ≤ j) (hu : X.A.units + 1 < cLine) : CallR X (.builtin "repr") (rOwn X.prog X.w X.K X.mg X.base k "__repr__" ckStrV) := by
  intro pins s σ H xs us Q I rv ⟨a, C, dx, fs, g, Mf, e, ha, hm, FA, h⟩
  subst e
  cases rv with
  | cons r1 r2 =>
    cases r2
    obtain rfl : _ = Value.ref a := r1
    obtain ⟨mA, O, _⟩ := ins_get I.hok ha
    obtain ⟨od, J, _⟩ := O.look
    obtain ⟨m, hF⟩ := I.fr
    refine PySem.W.repr_K hu hF I.ok.mod.kin J hm.at_ hm.fn (wpAny_mono (run_in I FA (hr.mono hk).in1 hgd I.env0.in1 h) (fun r s' hq => ?_) fun _ _ h => h)
    obtain ⟨v, H', I', rv, ⟨n, rfl⟩, q⟩ := hq
    obtain ⟨t, rfl⟩ := rv
    exact ⟨.str n, H', I', ⟨_, rfl⟩, q⟩
theorem call_strO (hr : Room j X.A) (hgd : X.A.guards = some []) (hk : k + 2 ≤ j) (hu : X.A.units + 2 < cLine) : CallR X (.type "str") (rOwn X.prog X.w X.K X.mg X.base k "__str__" ckStrV) := by
  intro pins s σ H xs us Q I rv ⟨a, C, dx, fs, g, Mf, e, ha, hm, FA, h⟩
  subst e
  cases rv with
  | cons r1 r2 =>
    cases r2
    obtain rfl : _ = Value.ref a := r1
    obtain ⟨mA, O, _⟩ := ins_get I.hok ha
    obtain ⟨od, J, _⟩ := O.look
    refine PySem.W.kso_call hu I.kIn J hm.at_ hm.fn (wpAny_mono (run_in I FA (show Room (k + 1) X.A.in1 from (hr.mono hk).in1).in1 hgd I.env0.in1.in1 h) (fun r s' hq => ?_) fun _ _ h => h)
    obtain ⟨v, H', I', rv, ⟨n, rfl⟩, q⟩ := hq
    obtain ⟨t, rfl⟩ := rv
    exact ⟨.str n, H', I', ⟨_, rfl⟩, q⟩
/-- the truth of an instance -/
theorem tru_O (hr : Room j X.A) (hgd : X.A.guards = some []) (hk : k ≤ j) : TruR X (fun v H Q => rOwn X.prog X.w X.K X.mg X.base k "__bool__" ckBlV [v] H fun u H' => ∃ b, u = .bl b ∧ Q b H') := by
  intro pins s σ H x v Q I rv ⟨a, C, dx, fs, g, Mf, e, ha, hm, FA, h⟩
  cases e
  obtain rfl : v = Value.ref a := rv
  obtain ⟨mA, O, _⟩ := ins_get I.hok ha
  obtain ⟨od, J, _⟩ := O.look
  obtain ⟨m, hF⟩ := I.fr
  refine PySem.W.truthy_K hF I.ok.mod.kin J hm.at_ hm.fn (wpAny_mono (run_in I FA (hr.mono hk) hgd I.env0 h) (fun r s' hq => ?_) fun _ _ h => h)
  obtain ⟨v, H', I', rv, _, b, rfl, q⟩ := hq
  obtain rfl : r = Value.bool b := rv
  exact ⟨H', I', q⟩
end

/-- what stands and is an instance of cs: its method's answer -/
def ownA (cs : List Str) (Mf : Nat → Md) (ck : D → Bool) (x : AV) : Option D := match x with
  | .d d => ownR cs Mf ck d
  | .io _ => none
def isIns (x : AV) : Bool := match x with
  | .d (.ins _ _) => true
  | _ => false
def ownV (o : Option D) (ρ : En) : Res AV := match o with
  | some z => .val (.d z) ρ
  | none => .bad
/-- f(x): a built-in's answer, or that of the own method -/
def eBO (g : GL) (cs : List Str) (Mf : Nat → Md) (ck : D → Bool) (fa : M AV) : M AV := fun ρ => (fa ρ).bind fun x ρ1 => if isIns x = true then ownV (ownA cs Mf ck x) ρ1 else opL g [x] ρ1
def truO (cs : List Str) (Mf : Nat → Md) (x : AV) (ρ : En) : Res Bool := match ownA cs Mf ckBl x with
  | some (.bl b) => .val b ρ
  | _ => .bad
/-- the truth of x -/
def M.truO (cs : List Str) (Mf : Nat → Md) (fa : M AV) : M Bool := fun ρ => (fa ρ).bind fun x ρ1 => if isIns x = true then PV.truO cs Mf x ρ1 else PV.tru x ρ1
section
variable {P : Program} {w : World} {K : PySem.W.Frag} {mg : Str → Option Value} {base : Heap} {Z : Zone} {W : WX} {σ : L2.St} {H F : Hp} {ρ : En} {cs : List Str} {Mf : Nat → Md} {ck : D → Bool} {ckV : V → Prop} {k : Nat} {m : Str}
theorem own_run (c0 : SpA P w K mg base k cs m Mf) (hck : ∀ {G v z}, R K mg G v z → ck z = true → ckV v) (r : Rel K mg Z σ H ρ F) {x : AV} {v : V} {z : D} (hx : AR K mg F σ v x) (q : ownA cs Mf ck x = some z) {Q : VK}
    (hq : Post K mg Z W σ H ρ F (.val (.d z) ρ) fun y H' _ F' => ∀ v, AR K mg F' σ v y → Q v H') : rOwn P w K mg base k m ckV [v] H Q := by
  unfold ownA at q
  cases x with
  | io i => cases q
  | d d =>
    simp only at q
    unfold ownR at q
    cases d <;> try cases q
    rename_i c fs
    simp only at q
    by_cases hc : c ∈ cs
    · rw [if_pos hc] at q
      have hr : R K mg F v (.ins c fs) := hx
      cases hM : Mf 1 [.ins c fs] with
      | bad => rw [hM] at q; cases q
      | exc _ _ _ => rw [hM] at q; cases q
      | val z' cs' =>
        rw [hM] at q
        cases cs' with
        | cons _ _ => cases q
        | nil =>
          simp only at q
          by_cases hz : ck z' = true
          · rw [if_pos hz] at q
            cases q
            obtain ⟨C, g, m0, hm, FA⟩ := c0 c hc
            cases hr with
            | ins h1 h2 h3 =>
              rename_i a C' dx vs
              rw [m0] at h2
              cases h2
              refine ⟨a, C, dx, vs, g, Mf, rfl, r.same _ _ h1, hm, FA, F, [.ins c fs], [], r.same, .sh (.ins h1 m0 h3) .nil, List.nodup_nil, ?_⟩
              rw [hM]
              intro u H' G' af _ hR
              exact ⟨hck hR hz, hq H' G' (.more r (fun b o e => af.off b o (by simp) e) af.fr af.same af.new) u hR⟩
          · rw [if_neg hz] at q
            cases q
    · rw [if_neg hc] at q
      cases q
theorem ck_len {G : Hp} {v : V} {z : D} (h : R K mg G v z) (e : ckLen z = true) : ckLenV v := by
  cases h <;> first | cases e | skip
  exact ⟨_, rfl, of_decide_eq_true e⟩
theorem ck_str {G : Hp} {v : V} {z : D} (h : R K mg G v z) (e : ckStr z = true) : ckStrV v := by
  cases h <;> first | cases e | skip
  exact ⟨_, rfl⟩
theorem ck_bl {G : Hp} {v : V} {z : D} (h : R K mg G v z) (e : ckBl z = true) : ckBlV v := by
  cases h <;> first | cases e | skip
  exact ⟨_, rfl⟩
end
section
variable {X : Cx} {Z : Zone} {W : WX} {e : Expr} {p pos : Pos} {x : Str} {fa : M AV} {cs : List Str} {Mf : Nat → Md} {ck : D → Bool} {ckV : V → Prop} {k : Nat} {m : Str} {g : GL} {r : List V → Hp → VK → Prop}
theorem callBO_le (c0 : SpA X.prog X.w X.K X.mg X.base k cs m Mf) (hck : ∀ {G v z}, R X.K X.mg G v z → ck z = true → ckV v) (ok : OkL X.K X.mg r g) (σ : L2.St) (H : Hp) (Q : VK) (h : tE X.K X.mg Z W (eBO g cs Mf ck fa) σ H Q) :
    tCB (fun xs H Q => r xs H Q ∨ rOwn X.prog X.w X.K X.mg X.base k m ckV xs H Q) (tA X.K X.mg Z W (eL1 fa eL0)) σ H Q := by
  obtain ⟨ρ, F, rel, q⟩ := h
  refine ⟨ρ, F, rel, ?_⟩
  unfold eBO at q
  unfold eL1 eL0
  revert q
  cases hf : fa ρ with
  | bad => exact fun q => q.elim
  | exc c fs ρ1 => exact fun q => q
  | val y ρ1 =>
    intro q cls dx g1 vs hv
    have q1 : Post X.K X.mg Z W σ cls ρ1 dx (if isIns y = true then ownV (ownA cs Mf ck y) ρ1 else opL g [y] ρ1) fun y H' _ F' => ∀ v, AR X.K X.mg F' σ v y → Q v H' := Post.at_ g1 q
    cases hv with
    | cons hv hn =>
    cases hn
    by_cases c : isIns y = true
    · rw [if_pos c] at q1
      cases ho : ownA cs Mf ck y with
      | none =>
        rw [ho] at q1
        exact q1.elim
      | some z =>
        rw [ho] at q1
        exact .inr (own_run c0 hck g1.rel hv ho q1)
    · rw [if_neg c] at q1
      refine .inl ?_
      unfold opL at q1
      cases hx : derL [y] ρ1 with
      | none =>
        simp only [hx] at q1
        exact q1.elim
      | some ds =>
        simp only [hx] at q1
        cases hg : g ds with
        | none =>
          simp only [hg] at q1
          exact q1.elim
        | some z =>
          simp only [hg] at q1
          exact ok g1.rel.same (derL_ok g1.rel (.cons hv .nil) hx) hg fun u H' F' s1 s2 s3 n r => q1 H' F' (.more g1.rel s1 s2 s3 n) u r
theorem ev_BO {id : String} (hr : CallR X (.builtin id) (rOwn X.prog X.w X.K X.mg X.base k m ckV)) (c0 : SpA X.prog X.w X.K X.mg X.base k cs m Mf) (hck : ∀ {G v z}, R X.K X.mg G v z → ck z = true → ckV v) (hc : CallR X (.builtin id) r) (ok : OkL X.K X.mg r g) (hg : Gl X x) (hm : X.mg x = none)
    (hv : bootBuiltins x = some (.builtin id)) (ha : PV X Z W e fa) (hn : x ≠ "__name__" := by decide) (hdb : (x == ("__debug__" : Str)) = false := by decide)
    (he : starEach [e] X.env = (false, eval e X.env) :: starEach [] X.env := by rfl) (hpl : (backTo pos (starEach [] X.env)).any (·.1) = false := by rfl) : PV X Z W (.Call (.Name x p) [e] [] pos) (eBO g cs Mf ck fa) :=
  PE.weak (pe_callB (hc.or hr) hg hm hv (el_cons ha el_nil he) hn hdb he hpl) (callBO_le c0 hck ok)
theorem ev_TyO {T : String} (hr : CallR X (.type T) (rOwn X.prog X.w X.K X.mg X.base k m ckV)) (c0 : SpA X.prog X.w X.K X.mg X.base k cs m Mf) (hck : ∀ {G v z}, R X.K X.mg G v z → ck z = true → ckV v) (hc : CallR X (.type T) r) (ok : OkL X.K X.mg r g) (hg : Gl X x) (hm : X.mg x = none)
    (hv : bootBuiltins x = some (.type T)) (ha : PV X Z W e fa) (hn : x ≠ "__name__" := by decide) (hdb : (x == ("__debug__" : Str)) = false := by decide)
    (he : starEach [e] X.env = (false, eval e X.env) :: starEach [] X.env := by rfl) (hpl : (backTo pos (starEach [] X.env)).any (·.1) = false := by rfl) : PV X Z W (.Call (.Name x p) [e] [] pos) (eBO g cs Mf ck fa) :=
  PE.weak (pe_callTy (hc.or hr) hg hm hv (el_cons ha el_nil he) hn hdb he hpl) (callBO_le c0 hck ok)
theorem et_truO {j : Nat} (c0 : SpA X.prog X.w X.K X.mg X.base k cs "__bool__" Mf) (hr : Room j X.A) (hgd : X.A.guards = some []) (hk : k ≤ j) (h : PV X Z W e fa) (he : ∀ whole, isTrue e X.env whole = (do let v ← whole; standAt e.pos; holding [v] (truthy v)) := by intro _; rfl) :
    PB X Z W e (fa.truO cs Mf) := by
  have hT : TruR X (fun v H Q => (∃ b, TruV X.K v H b ∧ Q b H) ∨ rOwn X.prog X.w X.K X.mg X.base k "__bool__" ckBlV [v] H fun u H' => ∃ b, u = .bl b ∧ Q b H') := by
    intro pins s σ H x v Q I rv h
    rcases h with h | h
    · exact tru_ok pins s σ H x v Q I rv h
    · exact tru_O hr hgd hk pins s σ H x v Q I rv h
  refine PT.weak (pt_truthR h hT he) fun σ H Q ⟨ρ, F, rel, q⟩ => ⟨ρ, F, rel, (Post.bind q).imp fun y H1 ρ1 F1 g1 q1 v hv => ?_⟩
  by_cases c : isIns y = true
  · rw [if_pos c] at q1
    unfold PV.truO at q1
    cases ho : ownA cs Mf ckBl y with
    | none =>
      rw [ho] at q1
      exact q1.elim
    | some z =>
      rw [ho] at q1
      cases z <;> try exact q1.elim
      rename_i b
      refine .inr (own_run (W := W) c0 ck_bl g1.rel hv ho ?_)
      intro H' F' g2 u hu
      have hu : R X.K X.mg F' u (.bl b) := hu
      cases hu
      exact ⟨b, rfl, q1 H' F' g2⟩
  · rw [if_neg c] at q1
    refine .inl ?_
    unfold PV.tru at q1
    cases hx : der y ρ1 with
    | none =>
      simp only [hx] at q1
      exact q1.elim
    | some d =>
      simp only [hx] at q1
      cases ht : truD d with
      | none =>
        simp only [ht] at q1
        exact q1.elim
      | some b =>
        simp only [ht] at q1
        exact ⟨b, tru_of g1.rel.same (der_ok g1.rel hv hx) ht, q1.val_ g1.rel⟩
end
section
variable {ρ : En} {d : D} {i : Nat} {cs : List Str} {Mf : Nat → Md} {ck : D → Bool} {fa : M AV} {g : GL} {c : Str} {fs : List (Str × D)}
@[simp] theorem eBO_r : eBO g cs Mf ck fa ρ = (fa ρ).bind fun x ρ1 => if isIns x = true then ownV (ownA cs Mf ck x) ρ1 else opL g [x] ρ1 := rfl
@[simp] theorem truO_r : M.truO cs Mf fa ρ = (fa ρ).bind fun x ρ1 => if isIns x = true then PV.truO cs Mf x ρ1 else PV.tru x ρ1 := rfl
@[simp] theorem isIns_io : isIns (.io i) = false := rfl
@[simp] theorem isIns_ins : isIns (.d (.ins c fs)) = true := rfl
theorem ownA_r : ownA cs Mf ck (.d d) = ownR cs Mf ck d := rfl
@[simp] theorem ownV_some : ownV (some d) ρ = .val (.d d) ρ := rfl
end
end PV
/-! a class's methods, from what the text's top leaves of them -/
namespace PV
open PySem PySem.Spec PyProof.Rows L2 VK
/-- the def st stands at g, its defaults dvs, kws -/
structure DfA (K : PySem.W.Frag) (g : Addr) (x qual : Str) (st : Stmt) (dvs : List V) (kws : List (Str × V)) : Prop where
  ex : ∃ fd : FuncData, FunD K x qual (defArgs st) (defBody st) (defScope st) dvs kws g fd
section
variable {P : Program} {w : World} {K : PySem.W.Frag} {mg : Str → Option Value} {base : Heap} {x qual : Str} {st : Stmt} {N ps ks : List Str} {pv : Str} {k : Nat} {ms : List Bool} {fM : M Fl} {dvs : List V} {kws : List (Str × V)} {perm : List Nat} {dd : List D} {g : Addr}
theorem DfA.star (D : DfA K g x qual st dvs kws) (S : FnScope N (ps ++ [pv]) (defScope st)) (B : Bdy P w K mg base k qual st N fM) (j : Nat) (dms : List (Str × V)) (hm : ∀ q ∈ dms, q ∈ kws) (h : BindH x qual st dvs kws ms.length true ks ps pv perm j dms)
    (hd : ∀ G, RL K mg G (dvs.drop j ++ dms.map (·.2)) dd) (hp : ∀ i ∈ perm, i < ks.length + (dvs.drop j ++ dms.map (·.2)).length) (hl : ps.length = ms.length + perm.length) : FnA P w K mg base (k + 1) g ks ms (mdA true ms perm dd N.length fM) := by
  obtain ⟨fd, F⟩ := D.ex
  exact fnA_star F S (BindA.mk F j dms hm h) hd hp hl (B g)
theorem DfA.plain (D : DfA K g x qual st dvs kws) (S : FnScope N ps (defScope st)) (B : Bdy P w K mg base k qual st N fM) (j : Nat) (dms : List (Str × V)) (hm : ∀ q ∈ dms, q ∈ kws) (h : BindH x qual st dvs kws ms.length false ks ps "" perm j dms)
    (hd : ∀ G, RL K mg G (dvs.drop j ++ dms.map (·.2)) dd) (hp : ∀ i ∈ perm, i < ks.length + (dvs.drop j ++ dms.map (·.2)).length) (hl : ps.length = ms.length + perm.length) : FnA P w K mg base (k + 1) g ks ms (mdA false ms perm dd N.length fM) := by
  obtain ⟨fd, F⟩ := D.ex
  exact fnA_plain F S (BindA.mk F j dms hm h) hd hp hl (B g)
theorem dfa_mk0 {h : Heap} (X : K.In h) {oc : Value} {od an : Option Addr} {osl : Array (Option Value)} {kV doc pm cdv ct : Value}
    (l : K.lookup g = some ⟨oc, od, .func (PySem.W.fnOf x qual (defArgs st) (defBody st) (defScope st) .none kV doc pm an cdv ct), osl⟩) (c : PySem.W.codeIn K cdv qual = true) (kp : PySem.W.keepIn K (.ref g) = true) : DfA K g x qual st [] [] :=
  ⟨_, ⟨⟨oc, od, .none, kV, doc, pm, an, cdv, ct, osl, rfl, l, c, .inl ⟨rfl, rfl⟩, .inl rfl⟩, kp⟩⟩
theorem dfa_mk {h : Heap} (X : K.In h) {D : Addr} {oc : Value} {od an : Option Addr} {osl : Array (Option Value)} {doc pm cdv ct : Value}
    (l : K.lookup g = some ⟨oc, od, .func (PySem.W.fnOf x qual (defArgs st) (defBody st) (defScope st) .none (.ref D) doc pm an cdv ct), osl⟩) (c : PySem.W.codeIn K cdv qual = true) (kp : PySem.W.keepIn K (.ref g) = true)
    (hk : ∀ q ∈ kws, ∃ u, PySem.W.nsIn K D q.1 = some (some u) ∧ RelV q.2 u) : DfA K g x qual st [] kws :=
  ⟨_, ⟨⟨oc, od, .none, .ref D, doc, pm, an, cdv, ct, osl, rfl, l, c, .inl ⟨rfl, rfl⟩, .inr ⟨D, rfl, hk⟩⟩, kp⟩⟩
end
/-- a plain method of the class c -/
def ClsM (K : PySem.W.Frag) (mg : Str → Option Value) (c m qual : Str) (st : Stmt) (dvs : List V) (kws : List (Str × V)) : Prop := ∃ C g, mg c = some (.ref C) ∧ Cls K C ∧ Meth K C m g ∧ PySem.W.selfFirst K C = true ∧ PySem.W.fnIn K g = true ∧ DfA K g m qual st dvs kws
def ClsP (K : PySem.W.Frag) (mg : Str → Option Value) (c m qual : Str) (st : Stmt) : Prop := ∃ C p g, mg c = some (.ref C) ∧ Cls K C ∧ PropOf K C m p g ∧ DfA K g m qual st [] []
def ClsC (K : PySem.W.Frag) (mg : Str → Option Value) (c m qual : Str) (st : Stmt) (dvs : List V) (kws : List (Str × V)) : Prop := ∃ C mc p g, mg c = some (.ref C) ∧ ClX.CRead K C mc ∧ ClX.CMet K C mc m p g ∧ DfA K g m qual st dvs kws
def ClsI (K : PySem.W.Frag) (mg : Str → Option Value) (c qual : Str) (st : Stmt) (dvs : List V) (kws : List (Str × V)) : Prop := ∃ C g, mg c = some (.ref C) ∧ Mk K C g ∧ DfA K g "__init__" qual st dvs kws
section
variable {P : Program} {w : World} {K : PySem.W.Frag} {mg : Str → Option Value} {base : Heap} {m qual : Str} {st : Stmt} {ks : List Str} {k : Nat} {ms : List Bool} {Mf : Nat → Md} {dvs : List V} {kws : List (Str × V)} {cs : List Str} {c : Str}
theorem methA_of (h : ∀ c ∈ cs, ClsM K mg c m qual st dvs kws) (F : ∀ g, DfA K g m qual st dvs kws → FnA P w K mg base k g ks ms Mf) : MethA P w K mg base k cs m ks ms Mf := fun c hc => by
  obtain ⟨C, g, h1, h2, h3, _, _, h4⟩ := h c hc
  exact ⟨C, g, h1, h2, h3, F g h4⟩
theorem dunA_of (h : ∀ c ∈ cs, ClsM K mg c m qual st dvs kws) (F : ∀ g, DfA K g m qual st dvs kws → FnA P w K mg base k g [] [false, false] Mf) : DunA P w K mg base k cs m Mf := fun c hc => by
  obtain ⟨C, g, h1, h2, h3, h5, _, h4⟩ := h c hc
  exact ⟨C, g, h1, h2, h3, h5, F g h4⟩
theorem spA_of (h : ∀ c ∈ cs, ClsM K mg c m qual st dvs kws) (F : ∀ g, DfA K g m qual st dvs kws → FnA P w K mg base k g [] [false] Mf) : SpA P w K mg base k cs m Mf := fun c hc => by
  obtain ⟨C, g, h1, h2, h3, h5, _, h4⟩ := h c hc
  exact ⟨C, g, h1, h3, F g h4⟩
theorem calO_of (h : ∀ c ∈ cs, ClsM K mg c "__call__" qual st dvs kws) (F : ∀ g, DfA K g "__call__" qual st dvs kws → FnA P w K mg base k g [] ms Mf) : CalO P w K mg base k cs ms Mf := fun c hc => by
  obtain ⟨C, g, h1, h2, h3, _, h5, h4⟩ := h c hc
  exact ⟨C, g, h1, ⟨h3.at_, h3.fn, h5⟩, F g h4⟩
theorem propA_of (h : ∀ c ∈ cs, ClsP K mg c m qual st) (F : ∀ g, DfA K g m qual st [] [] → FnA P w K mg base k g [] ms Mf) : PropA P w K mg base k cs m ms Mf := fun c hc => by
  obtain ⟨C, p, g, h1, h2, h3, h4⟩ := h c hc
  exact ⟨C, p, g, h1, h2, h3, F g h4⟩
theorem cmetA_of (h : ClsC K mg c m qual st dvs kws) (F : ∀ g, DfA K g m qual st dvs kws → FnA P w K mg base k g ks ms Mf) : CMetA P w K mg base k c m ks ms Mf := by
  obtain ⟨C, mc, p, g, h1, h2, h3, h4⟩ := h
  exact ⟨C, mc, p, g, h1, h2, h3, F g h4⟩
theorem mkA_of (h : ClsI K mg c qual st dvs kws) (F : ∀ g, DfA K g "__init__" qual st dvs kws → FnA P w K mg base k g ks ms Mf) : MkA P w K mg base k c ks ms Mf := by
  obtain ⟨C, g, h1, h2, h4⟩ := h
  exact ⟨C, g, h1, h2, F g h4⟩
end
section
variable {K : PySem.W.Frag} {h : Heap} {mg : Str → Option Value} {C g p : Addr} {c m qual : Str} {st : Stmt} {dvs : List V} {kws : List (Str × V)} {mc : Value} {rest : List Value}
abbrev ClsK (_ : K.In h) (C : Addr) : Prop := Cls K C
abbrev DfAK (_ : K.In h) (g : Addr) (x qual : Str) (st : Stmt) (dvs : List V) (kws : List (Str × V)) : Prop := DfA K g x qual st dvs kws
theorem cls_mk (X : K.In h) (a : PySem.W.plainGet K C Str.empty = true) (b : PySem.W.hasDictIn K C = true) (d : PySem.W.plainOver K C = true) (e : PySem.W.findIn K (.ref C) "__setattr__" = some (some (.builtin "object.__setattr__"))) : Cls K C := ⟨a, b, d, e⟩
theorem clsm_mk (X : K.In h) (hm : mg c = some (.ref C)) (cl : Cls K C) (a : PySem.W.findIn K (.ref C) m = some (some (.ref g))) (b : PySem.W.isFn K (.ref g) = true) (kp : PySem.W.keepIn K (.ref g) = true) (sf : PySem.W.selfFirst K C = true) (fi : PySem.W.fnIn K g = true) (D : DfA K g m qual st dvs kws) :
    ClsM K mg c m qual st dvs kws := ⟨C, g, hm, cl, ⟨a, b, kp⟩, sf, fi, D⟩
theorem clsp_mk (X : K.In h) (hm : mg c = some (.ref C)) (cl : Cls K C) (a : PySem.W.findIn K (.ref C) m = some (some (.ref p))) (b : PySem.W.specialIn K (.ref p) "__get__" = some (some (.builtin "property.__get__"))) (t : PySem.W.takesIn K (.ref p) = some true)
    (r : PySem.W.recIn K p "property" = some (.ref g :: rest)) (D : DfA K g m qual st [] []) : ClsP K mg c m qual st := ⟨C, p, g, hm, cl, ⟨a, b, t, _, r⟩, D⟩
theorem clsc_mk (X : K.In h) (hm : mg c = some (.ref C)) (a : PySem.W.readsIn K C mc = true) (b : PySem.W.specialIn K (.ref C) "__getattribute__" = some (some (.builtin "type.__getattribute__"))) (d : PySem.W.findCls K (.ref C) mc m = some (.get (.builtin "classmethod.__get__") (.ref p) .none (.ref C)))
    (r : PySem.W.recIn K p "classmethod" = some (.ref g :: rest)) (fi : PySem.W.fnIn K g = true) (D : DfA K g m qual st dvs kws) : ClsC K mg c m qual st dvs kws := ⟨C, mc, p, g, hm, ⟨a, b⟩, ⟨d, ⟨_, r⟩, fi⟩, D⟩
theorem clsi_mk (X : K.In h) (hm : mg c = some (.ref C)) (a : PySem.W.makesIn K C = true) (b : PySem.W.findIn K (.ref C) "__init__" = some (some (.ref g))) (d : PySem.W.isFn K (.ref g) = true) (kp : PySem.W.keepIn K (.ref C) = true) (D : DfA K g "__init__" qual st dvs kws) : ClsI K mg c qual st dvs kws :=
  ⟨C, g, hm, ⟨a, b, d, kp⟩, D⟩
theorem nof_mk (X : K.In h) {f : Str} (hm : mg c = some (.ref C)) (cl : Cls K C) (a : PySem.W.findIn K (.ref C) f = some none) : ∃ C, mg c = some (.ref C) ∧ Cls K C ∧ NoAttr K C f := ⟨C, hm, cl, a⟩
end
end PV
/-! != by the own ==, constants of a class, short words of the end -/
namespace PV
open PySem PySem.Spec PyProof.Rows L2 VK
section
variable {prog : Program} {w : World} {A : Around} {E : Value → Shared → Prop} {s : Shared} {K : PySem.W.Frag} {x C f : Addr} {ox : Obj} {od : Option Obj} {b tb : Value}
def BoolsBack (Q : Bool → Shared → Prop) (v : Value) (s' : Shared) : Prop := match v with
  | .bool c => Q c s'
  | _ => False
theorem ne_tree (X : K.In s.heap) (I : PySem.W.InstAt s.heap x ox C od) (hs : PySem.W.findIn K (.ref C) "__eq__" = some (some (.ref f))) (hf : PySem.W.isFn K (.ref f) = true) (hu : A.units < cLine) {Q : Fin → Shared → Prop}
    (h : wpAny (model prog w) A (call (.ref f) [.ref x, b]) (BoolsBack fun c s' => Q (.done (.ret (.bool (!c)))) s') E s) : wpAny (model prog w) A (Builtin.«object.__ne__» ⟨[.ref x, b], []⟩) Q E s := by
  obtain ⟨hp, g, d, t, os⟩ := s
  unfold Builtin.«object.__ne__»
  repeat (first
    | with_reducible refine wpAny_cRoomFor hu ?_
    | (refine wpAny_bind (m := callSpecialIfBound? (.ref x) (Str.ofString "__eq__") [b])
        (PySem.W.ifBound_K X I hs hf (wpAny_mono h (fun r s' hr => by
          cases r <;> first | exact hr.elim | skip
          repeat (first | exact hr | exact wpAny_pure hr | exact wpAny_truthy_bool hr | (refine wpAny_bind (m := truthy (.bool _)) (wpAny_truthy_bool ?_)) | wp_step)) fun _ _ e => e)))
    | wp_step)
theorem ne_K {Q : Value → Shared → Prop} (X : K.In s.heap) (I : PySem.W.InstAt s.heap x ox C od) (hb : PySem.W.Looks (model prog w) s.heap (typeOf b) tb) (hn : PySem.W.notFirst K C tb = true) (hne : PySem.W.findIn K (.ref C) "__ne__" = some (some (.builtin "object.__ne__")))
    (hs : PySem.W.findIn K (.ref C) "__eq__" = some (some (.ref f))) (hf : PySem.W.isFn K (.ref f) = true) (ho : PySem.W.mroIn K C (.type "object") = some true) (hu : A.units + 1 < cLine)
    (h : wpAny (model prog w) A.in1 (call (.ref f) [.ref x, b]) (BoolsBack fun c s' => Q (.bool (!c)) s') E s) : wpAny (model prog w) A (richCompare .NotEq (.ref x) b) Q E s := by
  have isO : PySem.W.Looks (model prog w) s.heap (isInstance (.ref x) (.type "object")) true := I.type.andThen (PySem.W.looks_mroIn X ho)
  have ask : wpAny (model prog w) A (tryCompare (.ref x) (cmpInfo .NotEq).2.1 b) (fun r s' => match r with | some v => Q v s' | none => False) E s := by
    unfold tryCompare
    simp only [callSpecialIfBound?, bindSpecialIfBound?]
    refine wpAny_bind (wpAny_holding (wpAny_bind (wpAny_bind (wpAny_bind (I.type.here ((PySem.W.looks_findIn X hne).here ?_))))))
    simp only [PySem.F.slot_object_ne.bind]
    refine wpAny_bind (wpAny_askSetting (wpAny_ite ?_))
    have c1 : wpAny (model prog w) A (call (.builtin "object.__ne__") [.ref x, b]) (fun v s' => ∃ c, v = .bool c ∧ Q (.bool c) s') E s :=
      wpAny_call (codeAny_call_builtin PySem.F.slot_object_ne.plain F.cmpEntry_ne (@PySem.W.check_slot (model prog w) _ _ s "object.__ne__" "object" "__ne__" (.ref x) [b] [] _ F.cmpKind_ne F.cmpSplit_ne isO (F.cmpArgs_ne _ _)
        (ne_tree (A := A.in1) X I hs hf hu (wpAny_mono h (fun r s' hr => by cases r <;> first | exact hr.elim | exact ⟨_, rfl, hr⟩) fun _ _ e => e))))
    have c2 : ∀ {R : Option Value → Shared → Prop}, (∀ c s', Q (.bool c) s' → R (some (.bool c)) s') → wpAny (model prog w) A (call (.builtin "object.__ne__") [.ref x, b] >>= fun v => pure (some v)) R E s := fun k =>
      wpAny_bind (wpAny_mono c1 (fun v s' hv => by
        obtain ⟨c, rfl, q⟩ := hv
        exact wpAny_pure (k c s' q)) fun _ _ e => e)
    split
    · refine wpAny_bind (wpAny_pure (wpAny_pure ?_))
      exact c2 fun c s' q => wpAny_pure q
    · refine wpAny_tryCatch (wpAny_bind (wpAny_pure (wpAny_pure ?_)))
      exact c2 fun c s' q => wpAny_pure q
  have fin : ∀ {k : Option Value → Sem Value}, (∀ v s', Q v s' → wpAny (model prog w) A (k (some v)) Q E s') → wpAny (model prog w) A (tryCompare (.ref x) (cmpInfo .NotEq).2.1 b >>= k) Q E s := fun g =>
    wpAny_bind (wpAny_mono ask (fun r s' z => by
      cases r with
      | none => exact z.elim
      | some v => exact g v s' z) fun _ _ e => e)
  unfold richCompare
  simp only [oneThing_ref]
  refine wpAny_holding (wpAny_bind (wpAny_cRoomFor (by omega) (wpAny_bind (I.type.here (wpAny_bind (hb.here ?_))))))
  by_cases q : (Value.ref C != tb) = true
  · rw [if_pos q]
    have e : PySem.W.subIn K tb (.ref C) = some false := by
      unfold PySem.W.notFirst at hn
      rcases Bool.or_eq_true_iff.mp hn with e | e
      · rw [eq_of_beq e] at q
        simp at q
      · exact eq_of_beq e
    refine wpAny_bind ((PySem.W.looks_subIn X e).here ?_)
    rw [if_neg (by simp)]
    exact fin fun v s' h => wpAny_pure h
  · rw [if_neg q]
    refine wpAny_bind (wpAny_pure ?_)
    rw [if_neg (by simp)]
    exact fin fun v s' h => wpAny_pure h
end
theorem hu1 {k : Nat} {A : Around} (h : Room k A) : A.units + 1 < cLine := by
  have := h.units
  omega
theorem hu2 {k : Nat} {A : Around} (h : Room k A) : A.units + 2 < cLine := by
  have := h.units
  omega
/-- x != y of two of one class, by its == -/
def eDne (cs : List Str) (Mf : Nat → Md) (fa fb : M AV) : M AV := fun ρ => (fa ρ).bind fun x ρ1 => (fb ρ1).bind fun y ρ2 => if pair cs x y ρ2 = true then ((callA [false, false] 0 Mf ([x, y], []) ρ2).nox).bind fun z ρ3 => match z with
  | .d (.bl v) => .val (.d (.bl (!v))) ρ3
  | _ => .bad
  else .bad
/-- what != of the own kind asks of a class -/
def NeC (K : PySem.W.Frag) (mg : Str → Option Value) (cs : List Str) : Prop := ∀ c ∈ cs, ∃ C, mg c = some (.ref C) ∧ PySem.W.findIn K (.ref C) "__ne__" = some (some (.builtin "object.__ne__")) ∧ PySem.W.mroIn K C (.type "object") = some true
section
variable {X : Cx} {Z : Zone} {W : WX} {a b : Expr} {fa fb : M AV} {cs : List Str} {Mf : Nat → Md} {k j : Nat}
def TwoNe (X : Cx) (Z : Zone) (W : WX) (σ : L2.St) (cs : List Str) (Mf : Nat → Md) (Q : VK) (v w : V) (H2 : Hp) : Prop := ∃ ρ2 F2 x y, Rel X.K X.mg Z σ H2 ρ2 F2 ∧ AR X.K X.mg F2 σ v x ∧ AR X.K X.mg F2 σ w y ∧ Post X.K X.mg Z W σ H2 ρ2 F2 (if pair cs x y ρ2 = true then ((callA [false, false] 0 Mf ([x, y], []) ρ2).nox).bind fun z ρ3 => match z with
  | .d (.bl v) => .val (.d (.bl (!v))) ρ3
  | _ => .bad
  else .bad) fun z H' _ F' => ∀ v, AR X.K X.mg F' σ v z → Q v H'
theorem twoNe_in {σ : L2.St} {H : Hp} {Q : VK} (q : tE X.K X.mg Z W (eDne cs Mf fa fb) σ H Q) : tE X.K X.mg Z W fa σ H fun v H1 => tE X.K X.mg Z W fb σ H1 fun w H2 => TwoNe X Z W σ cs Mf Q v w H2 := by
  obtain ⟨ρ, F, r, q⟩ := q
  exact ⟨ρ, F, r, (Post.bind q).imp fun x H1 ρ1 F1 g1 q1 v hv => ⟨ρ1, F1, g1.rel, (Post.bind q1).imp fun y H2 ρ2 F2 g2 q2 w hw => ⟨ρ2, F2, x, y, g2.rel, hv.go g2.fr, hw, q2⟩⟩⟩
theorem twoNe_run (ne : NeC X.K X.mg cs) (c0 : DunA X.prog X.w X.K X.mg X.base k cs "__eq__" Mf) (hr : Room j X.A) (hgd : X.A.guards = some []) (hk : k + 1 ≤ j) {pins : List (Addr × Obj)} {σ : L2.St} {H2 : Hp} {s2 : Shared} {x y : V} {v u : Value} {Q : VK} (I2 : Inv X pins σ H2 s2) (rx : RelV x v) (ry : RelV y u) (h : TwoNe X Z W σ cs Mf Q x y H2) :
    wpAny (model X.prog X.w) X.A (richCompare .NotEq v u) (EP X pins σ Q) X.xe s2 := by
  obtain ⟨ρ2, F2, xx, yy, r2, hx, hy, q2⟩ := h
  by_cases hc : pair cs xx yy ρ2 = true
  · rw [if_pos hc] at q2
    obtain ⟨c, hcm, p1, p2, C, C', dx, dy, vs, us, rfl, rfl, e1, e2, m1, m2⟩ := pair_ok r2 hx hy hc
    obtain ⟨C0, g, m0, cl, hm, sf, FA⟩ := c0 c hcm
    obtain ⟨C1, m3, n1, n2⟩ := ne c hcm
    rw [m0] at m1 m2 m3
    cases m1
    cases m2
    cases m3
    obtain rfl : v = Value.ref p1 := rx
    obtain rfl : u = Value.ref p2 := ry
    obtain ⟨mA, J, _⟩ := ins_get I2.hok e1
    obtain ⟨mB, J', _⟩ := ins_get I2.hok e2
    obtain ⟨od, J, _⟩ := J.look
    obtain ⟨od', J', _⟩ := J'.look
    have q3 := (Post.bind q2).imp (Q' := fun z H' ρ' F' => ∀ v, AR X.K X.mg F' σ v z → ∃ t, v = .bl t ∧ Q (.bl (!t)) H') fun z H' ρ' F' gz qz v hv => by
      match z, hv, qz with
      | .d (.bl t), hv, qz =>
        have hv : R X.K X.mg F' v (.bl t) := hv
        cases hv
        exact ⟨t, rfl, (qz.val_ gz.rel) _ (.bl _)⟩
      | .d .non, _, qz => exact qz.elim
      | .d (.int _), _, qz => exact qz.elim
      | .d (.str _), _, qz => exact qz.elim
      | .d (.lst _), _, qz => exact qz.elim
      | .d (.tup _), _, qz => exact qz.elim
      | .d (.dic _), _, qz => exact qz.elim
      | .d (.ins _ _), _, qz => exact qz.elim
      | .d (.exn _ _), _, qz => exact qz.elim
      | .d (.gl _), _, qz => exact qz.elim
      | .d (.ty _), _, qz => exact qz.elim
      | .d (.scr _), _, qz => exact qz.elim
      | .io _, _, qz => exact qz.elim
    obtain ⟨_, hs⟩ := callA_core (xz := ([xx, yy], [])) (vs := [.ref p1, .ref p2]) (zs := []) r2 (.cons hx (.cons hy .nil)) .nil (nox_W q3)
    refine ne_K (tb := .ref C) I2.kIn J J'.type (by simp [PySem.W.notFirst]) n1 hm.at_ hm.fn n2 (hu1 hr) (wpAny_call (codeAny_mono (FA.run X.A.in1 X.stack s2 H2 [.ref p1, .ref p2] [] [.ref p1, .ref p2] [] _ _ (hr.mono hk).in1 hgd I2.env0.in1 (.cons rfl (.cons rfl .nil)) .nil rfl hs) fun r s' hq => ?_))
    cases r with
    | error er =>
      obtain ⟨_, _, _, _, _, _, _, _, _, _, _, _, z⟩ := hq
      exact z.elim
    | ok fl =>
      cases fl with
      | ret u =>
        obtain ⟨v, H', I3, rv, t, rfl, q4⟩ := I2.after hq
        obtain rfl : u = Value.bool t := rv
        exact ⟨.bl (!t), H', I3, rfl, q4⟩
      | next => exact False.elim hq
      | brk => exact False.elim hq
      | cont => exact False.elim hq
  · rw [if_neg hc] at q2
    exact q2.elim
theorem ev_dne {pos : Pos} (ne : NeC X.K X.mg cs) (c0 : DunA X.prog X.w X.K X.mg X.base k cs "__eq__" Mf) (hr : Room j X.A) (hgd : X.A.guards = some []) (hk : k + 1 ≤ j) (ha : PV X Z W a fa) (hb : PV X Z W b fb) (hm : behindInMarks .NotEq b = false) :
    PV X Z W (.Compare a [.NotEq] [b] pos) (eDne cs Mf fa fb) :=
  ⟨fun pins s σ H Q I q => wpAny_Compare1 (binT ha hb I (twoNe_in q) fun v u s2 x y H2 I2 rx ry h => twoNe_run ne c0 hr hgd hk I2 rx ry h) hm⟩
/-! the same as tests -/
theorem tE_tb {f : M AV} {σ : L2.St} {H : Hp} {Q : Bool → Hp → Prop} (h : tT X.K X.mg Z W f.tb σ H Q) : tE X.K X.mg Z W f σ H fun x H' => ∃ k, x = .bl k ∧ Q k H' := tb_le (t := tE X.K X.mg Z W f) (fun _ _ _ q => q) σ H Q h
theorem et_dne {pos : Pos} (ne : NeC X.K X.mg cs) (c0 : DunA X.prog X.w X.K X.mg X.base k cs "__eq__" Mf) (hr : Room j X.A) (hgd : X.A.guards = some []) (hk : k + 1 ≤ j) (ha : PV X Z W a fa) (hb : PV X Z W b fb) (hm : behindInMarks .NotEq b = false) :
    PB X Z W (.Compare a [.NotEq] [b] pos) (eDne cs Mf fa fb).tb := by
  refine ⟨fun pins s σ H Q I q => wpAny_isTrue_Compare1 (thn (ha.run pins s σ H _ I (twoNe_in (tE_tb q))) fun v s1 ⟨x, H1, I1, r1, q1⟩ => thn (hb.run pins s1 σ H1 _ I1 q1) fun u s2 ⟨y, H2, I2, r2, q2⟩ => thn (twoNe_run ne c0 hr hgd hk I2 r1 r2 q2) fun c s3 ⟨z, H3, I3, r3, k, e, q3⟩ => ?_) hm⟩
  subst e
  obtain rfl : c = Value.bool k := r3
  exact wpAny_truthy_bool ⟨H3, I3, q3⟩
theorem et_deq {pos : Pos} (c0 : DunA X.prog X.w X.K X.mg X.base k cs "__eq__" Mf) (hr : Room j X.A) (hgd : X.A.guards = some []) (hk : k ≤ j) (tk : Takes X W) (ha : PV X Z W a fa) (hb : PV X Z W b fb) (hm : behindInMarks .Eq b = false) :
    PB X Z W (.Compare a [.Eq] [b] pos) (eDun cs Mf fa fb).tb := by
  refine ⟨fun pins s σ H Q I q => wpAny_isTrue_Compare1 (thn (ha.run pins s σ H _ I (two_in (tE_tb q))) fun v s1 ⟨x, H1, I1, r1, q1⟩ => thn (hb.run pins s1 σ H1 _ I1 q1) fun u s2 ⟨y, H2, I2, r2, q2⟩ => thn (two_cmp (op := .Eq) c0 hr hgd hk tk I2 r1 r2 q2) fun c s3 ⟨z, H3, I3, r3, k, e, q3⟩ => ?_) hm⟩
  subst e
  obtain rfl : c = Value.bool k := r3
  exact wpAny_truthy_bool ⟨H3, I3, q3⟩
theorem et_din {pos : Pos} (c0 : DunA X.prog X.w X.K X.mg X.base k cs "__contains__" Mf) (hr : Room j X.A) (hgd : X.A.guards = some []) (hk : k ≤ j) (tk : Takes X W) (ha : PV X Z W a fa) (hb : PV X Z W b fb) (hm : behindInMarks .In b = false) :
    PB X Z W (.Compare a [.In] [b] pos) (eDin cs Mf false fa fb).tb := by
  refine ⟨fun pins s σ H Q I q => wpAny_isTrue_Compare1 (thn (ha.run pins s σ H _ I (twoIn_in (tE_tb q))) fun v s1 ⟨x, H1, I1, r1, q1⟩ => thn (hb.run pins s1 σ H1 _ I1 q1) fun u s2 ⟨y, H2, I2, r2, q2⟩ => thn (twoIn_run (neg := false) c0 hr hgd hk tk I2 r1 r2 q2) fun c s3 ⟨z, H3, I3, r3, k, e, q3⟩ => ?_) hm⟩
  subst e
  obtain rfl : c = Value.bool k := r3
  exact wpAny_truthy_bool ⟨H3, I3, q3⟩
theorem et_dnin {pos : Pos} (c0 : DunA X.prog X.w X.K X.mg X.base k cs "__contains__" Mf) (hr : Room j X.A) (hgd : X.A.guards = some []) (hk : k ≤ j) (tk : Takes X W) (ha : PV X Z W a fa) (hb : PV X Z W b fb) (hm : behindInMarks .NotIn b = false) :
    PB X Z W (.Compare a [.NotIn] [b] pos) (eDin cs Mf true fa fb).tb := by
  refine ⟨fun pins s σ H Q I q => wpAny_isTrue_Compare1 (thn (ha.run pins s σ H _ I (twoIn_in (tE_tb q))) fun v s1 ⟨x, H1, I1, r1, q1⟩ => thn (hb.run pins s1 σ H1 _ I1 q1) fun u s2 ⟨y, H2, I2, r2, q2⟩ => thn (twoIn_run (neg := true) c0 hr hgd hk tk I2 r1 r2 q2) fun c s3 ⟨z, H3, I3, r3, k, e, q3⟩ => ?_) hm⟩
  subst e
  obtain rfl : c = Value.bool k := r3
  exact wpAny_truthy_bool ⟨H3, I3, q3⟩
end
section
variable {K : PySem.W.Frag} {h : Heap} {mg : Str → Option Value} {C : Addr} {c : Str} {f : Str} {d : D} {u : Value} {tb : List (Str × D)}
theorem inC_mk (X : K.In h) (cl : Cls K C) (a : PySem.W.findIn K (.ref C) "__class__" = some (some (.builtin "object.__class__"))) (b : PySem.W.specialIn K (.builtin "object.__class__") "__get__" = some (some (.builtin "getset_descriptor.__get__")))
    (d : PySem.W.takesIn K (.builtin "object.__class__") = some true) (e : PySem.W.mroIn K C (.type "object") = some true) : InC K C := ⟨cl, a, b, d, e⟩
theorem clsAt_mk (X : K.In h) (hm : mg c = some (.ref C)) (a : PySem.W.plainGet K C Str.empty = true) (b : PySem.W.hasDictIn K C = true) (d : PySem.W.plainOver K C = true) (e : PySem.W.findIn K (.ref C) "__setattr__" = some (some (.builtin "object.__setattr__"))) : Cls K C := ⟨a, b, d, e⟩
abbrev ClsMI (_ : K.In h) (mg : Str → Option Value) (c m qual : Str) (st : Stmt) (dvs : List V) (kws : List (Str × V)) : Prop := ClsM K mg c m qual st dvs kws
abbrev ClsPI (_ : K.In h) (mg : Str → Option Value) (c m qual : Str) (st : Stmt) : Prop := ClsP K mg c m qual st
abbrev ClsCI (_ : K.In h) (mg : Str → Option Value) (c m qual : Str) (st : Stmt) (dvs : List V) (kws : List (Str × V)) : Prop := ClsC K mg c m qual st dvs kws
abbrev ClsII (_ : K.In h) (mg : Str → Option Value) (c qual : Str) (st : Stmt) (dvs : List V) (kws : List (Str × V)) : Prop := ClsI K mg c qual st dvs kws
abbrev NoFII (_ : K.In h) (mg : Str → Option Value) (cs : List Str) (f : Str) : Prop := NoFI K mg cs f
abbrev ConII (_ : K.In h) (mg : Str → Option Value) (tb : List (Str × D)) (f : Str) : Prop := ConI K mg tb f
abbrev NeCI (_ : K.In h) (mg : Str → Option Value) (cs : List Str) : Prop := NeC K mg cs
theorem ne_mk (X : K.In h) (hm : mg c = some (.ref C)) (a : PySem.W.findIn K (.ref C) "__ne__" = some (some (.builtin "object.__ne__"))) (b : PySem.W.mroIn K C (.type "object") = some true) :
    ∃ C, mg c = some (.ref C) ∧ PySem.W.findIn K (.ref C) "__ne__" = some (some (.builtin "object.__ne__")) ∧ PySem.W.mroIn K C (.type "object") = some true := ⟨C, hm, a, b⟩
theorem conI_of (X : K.In h) (k : ∀ q ∈ tb, ∃ C v u, mg q.1 = some (.ref C) ∧ Cls K C ∧ Con K C f v u ∧ ∀ F, R K mg F v q.2) : ConI K mg tb f := fun c d hl => by
  refine k (c, d) ?_
  clear k
  induction tb with
  | nil => cases hl
  | cons p r ih =>
    rw [List.lookup_cons] at hl
    cases z : c == p.1 with
    | true =>
      rw [z] at hl
      cases hl
      rw [eq_of_beq z]
      exact List.mem_cons_self
    | false =>
      rw [z] at hl
      exact List.mem_cons_of_mem _ (ih hl)
theorem con_mk (X : K.In h) (hm : mg c = some (.ref C)) (cl : Cls K C) (a : PySem.W.findIn K (.ref C) f = some (some u)) (b : PySem.W.specialIn K u "__get__" = some none) (e : PySem.W.copiedNames.contains f = false) (k : KR K u d) :
    ∃ C v u, mg c = some (.ref C) ∧ Cls K C ∧ Con K C f v u ∧ ∀ F, R K mg F v d := by
  obtain ⟨v, h1, h2⟩ := k.r (mg := mg)
  exact ⟨C, v, u, hm, cl, ⟨a, h1, b, e⟩, h2⟩
end
end PV
/-! bool(x) by the own __bool__ -/
namespace PV
open PySem PySem.Spec PyProof.Rows L2 VK
section
variable {prog : Program} {w : World} {A : Around} {E : Value → Shared → Prop} {s : Shared} {x : Addr}
theorem bool_tree {Q : Fin → Shared → Prop} (h : wpAny (model prog w) A (truthy (.ref x)) (fun b s' => Q (.done (.ret (.bool b))) s') E s) : wpAny (model prog w) A (Builtin.«bool.__new__» ⟨[.type "bool", .ref x], []⟩) Q E s := by
  obtain ⟨hp, g, d, t, os⟩ := s
  have f1 := F.conv_sub_bool
  unfold Builtin.«bool.__new__»
  repeat (first
    | (refine wpAny_bind (m := truthy (.ref x)) (wpAny_mono h (fun b s' hb => ?_) fun _ _ e => e))
    | assumption
    | wp_step)
theorem call_bool_own {Q : Value → Shared → Prop} (h : wpAny (model prog w) A.in1.in1 (truthy (.ref x)) (fun b s' => Q (.bool b) s') E s) : wpAny (model prog w) A (call (.type "bool") [.ref x]) Q E s := by
  refine callType_codes (T := "bool") (Bi := Builtin.«object.__init__») (Q₁ := fun r s₁ => ∃ y, r = .bool y ∧ Q r s₁) PySem.F.called_bool (PySem.F.typeCall_bool_1 _) PySem.F.entry_object_init ?_ ?_
  · refine codeAny_of_tree ?_
    show wpAny _ A.in1.in1 (do checkBuiltinCall "bool.__new__" ⟨[.type "bool", .ref x], []⟩; again (.builtin "bool.__new__" ⟨[.type "bool", .ref x], []⟩)) _ _ s
    refine wpAny_bind (wpAny_of_eq (PySem.F.newCall_bool_1 _) (wpAny_pure ⟨plainId_quiet (by decide +kernel) _, codeAny_builtin PySem.F.entry_bool_new ?_⟩))
    rw [Around.under_plainId (by decide +kernel) _]
    exact bool_tree (wpAny_mono h (fun b s' hb => ⟨_, rfl, hb⟩) fun _ _ e => e)
  · rintro obj s₁ ⟨y, rfl, hq⟩
    have hty : s₁.TypeIs (.bool y) "bool" := PySem.typeIs_bool _ _
    exact ⟨hty, PySem.F.args_object_init_2 _ _, object_init_meets PySem.F.called_bool.init.lookup PySem.F.called_bool.made (by decide) prog w A.in1 _ s₁ ⟨hty, rfl, hq⟩⟩
end
section
variable {X : Cx} {k j : Nat}
theorem call_boolO (hr : Room j X.A) (hgd : X.A.guards = some []) (hk : k + 2 ≤ j) : CallR X (.type "bool") (rOwn X.prog X.w X.K X.mg X.base k "__bool__" ckBlV) := by
  intro pins s σ H xs us Q I rv ⟨a, C, dx, fs, g, Mf, e, ha, hm, FA, h⟩
  subst e
  cases rv with
  | cons r1 r2 =>
    cases r2
    obtain rfl : _ = Value.ref a := r1
    obtain ⟨mA, O, _⟩ := ins_get I.hok ha
    obtain ⟨od, J, _⟩ := O.look
    obtain ⟨m, hF⟩ := I.fr
    refine call_bool_own (PySem.W.truthy_K hF I.ok.mod.kin J hm.at_ hm.fn (wpAny_mono (run_in I FA (show Room (k + 1) X.A.in1 from (hr.mono hk).in1).in1 hgd I.env0.in1.in1 h) (fun r s' hq => ?_) fun _ _ h => h))
    obtain ⟨v, H', I', rv, ⟨b, rfl⟩, q⟩ := hq
    obtain rfl : r = Value.bool b := rv
    exact ⟨.bl b, H', I', rfl, q⟩
end
end PV
/-! bool(x) of lists, tuples, texts -/
namespace PV
open PySem PySem.Spec PyProof.Rows L2 VK
def gBoolS : GL
  | [.lst xs] => some (.bl (!xs.isEmpty))
  | [.tup xs] => some (.bl (!xs.isEmpty))
  | _ => none
def gBoolA : GL := orGL gBool1 gBoolS
section
variable {X : Cx} {K : PySem.W.Frag} {mg : Str → Option Value}
def rBoolS (K : PySem.W.Frag) : List V → Hp → VK → Prop := fun x H Q => ∃ a xs, x = [.ref a] ∧ (SqL K H a xs ∨ SqT K H a xs) ∧ Q (.bl (!xs.isEmpty)) H
theorem call_boolS : CallR X (.type "bool") (rBoolS X.K) := by
  intro pins s σ H xs us Q I rv ⟨a, vs, e, h, q⟩
  subst e
  have hl := line63
  cases rv with
  | cons r1 r2 =>
    cases r2
    obtain rfl : _ = Value.ref a := r1
    rcases h with h | h
    · obtain ⟨its, r, pl, hz⟩ := I.list h
      have hlen := r.length
      exact call_bool_own (wpAny_truthy_list pl.isList (by simp only [List.size_toArray]; omega) ⟨.bl _, H, I.tok _, rfl, by rw [isEmpty_of r]; exact q⟩)
    · obtain ⟨its, r, pl, hz⟩ := I.tuple h
      have hlen := r.length
      exact call_bool_own (truthy_tuple pl (by simp only [List.size_toArray]; omega) ⟨.bl _, H, I.tok _, rfl, by rw [isEmpty_of r]; exact q⟩)
theorem ok_boolS : OkL K mg (rBoolS K) gBoolS := by
  intro F H vs ds z Q s h hg q
  match ds, h, hg with
  | [.lst xs], .cons h1 .nil, hg =>
    cases hg
    obtain ⟨a, us, rfl, h2, h3⟩ := h1.lst s
    refine ⟨a, us, rfl, .inl (.inl (.inl h2)), ?_⟩
    rw [show us.isEmpty = xs.isEmpty by cases h3 <;> rfl]
    exact okQ s q (.bl _)
  | [.tup xs], .cons h1 .nil, hg =>
    cases hg
    obtain ⟨a, us, rfl, h2, h3⟩ := h1.tup
    refine ⟨a, us, rfl, .inr (same_seqT s h2), ?_⟩
    rw [show us.isEmpty = xs.isEmpty by cases h3 <;> rfl]
    exact okQ s q (.bl _)
def rBoolA (K : PySem.W.Frag) : List V → Hp → VK → Prop := fun xs H Q => ((∃ i, xs = [.int i] ∧ Q (.bl (i != 0)) H) ∨ ∃ k, xs = [.bl k] ∧ Q (.bl k) H) ∨ rBoolS K xs H Q
theorem call_boolA : CallR X (.type "bool") (rBoolA X.K) := call_bool1.or call_boolS
theorem ok_boolA : OkL K mg (rBoolA K) gBoolA := okL_or ok_bool1 ok_boolS
end
end PV
/-! a comprehension over a slot's own list, that stays its own -/
namespace PV
open PySem PySem.Spec PyProof.Rows L2 VK
structure WkP (K : PySem.W.Frag) (mg : Str → Option Value) (F : Hp) (P : Hp → Prop) (J : It) (ds : List D) : Prop where
  go : ∀ i H, Same F H → P H → i < ds.length → J.go i H
  stop : ∀ i H, Same F H → P H → ds.length ≤ i → J.stop i H
  yld : ∀ i H x H' d F2, Same F F2 → Same F2 H → P H → ds[i]? = some d → J.yld i H x H' → ∃ F3, Same H H' ∧ Same F2 F3 ∧ Same F3 H' ∧ (∀ b, F3 b ≠ none → F2 b ≠ none ∨ H b = none) ∧ R K mg F3 x d
theorem wkP_lst {K : PySem.W.Frag} {mg : Str → Option Value} {F : Hp} {a : Addr} {vs : List V} {ds : List D} (r : RL K mg F vs ds) : WkP K mg F (fun H => H a = some (.lst vs)) (Itl K a) ds := by
  have hl := r.length
  refine ⟨fun i H s h hi => ⟨vs, vs[i], .inl (.inl h), List.getElem?_eq_getElem (by omega)⟩, fun i H s h hi => ⟨vs, .inl (.inl h), by omega⟩, fun i H x H' d F2 s1 s2 h hd y => ?_⟩
  obtain ⟨rfl, y⟩ := y
  have e := y vs (.inl (.inl h))
  obtain ⟨v, hv, rv⟩ := r.get hd
  rw [e] at hv
  cases hv
  exact ⟨F2, Same.refl _, Same.refl _, s2, fun b q => .inl q, rv.mono s1⟩
section
variable {X : Cx} {Z : Zone} {W : WX} {t : Tg} {ft : M Bool} {fe : M AV} {vs : List Nat}
theorem lc_coreP (hsl : ∀ i ∈ t.sl, i ∈ vs) {tt : TT} (htt : ∀ σ H Q, tT X.K X.mg Z W0 ft σ H Q → tt σ H Q) {σ : L2.St} {H1 F1 : Hp} {ρ1 ρe : En} {Q : VK} {P : Hp → Prop} {J : It} {ds out : List D} (r1 : Rel X.K X.mg Z σ H1 ρ1 F1) (wk : WkP X.K X.mg F1 P J ds)
    (hP : ∀ H' Dn, H1 Dn = none → (∀ b o, b ≠ Dn → (∀ j e, (ρ1.at j).mu = some e → σ[j]? ≠ some (some (V.ref b))) → H1 b = some o → H' b = some o) → P H') (hout : lcL vs t ft fe ds [] (wipeE ρ1 vs) = .val out ρe)
    (qe : ∀ H' F' Dn, H1 Dn = none → Go X.K X.mg Z σ H1 ρ1 F1 H' (unwipe ρ1 ρe vs) F' → Z.H0 Dn = none → F' Dn = none → Ct X.K X.mg F' H' Dn (.lst out) → (∀ j e, ((unwipe ρ1 ρe vs).at j).mu = some e → σ[j]? ≠ some (some (V.ref Dn))) → Q (.ref Dn) H') :
    ∀ D, H1 D = none → ∃ W : Nat → Nat → Hp → Prop, (∃ m, W 0 m (upd H1 D (.lst []))) ∧ ∀ i m H, W i m H →
      (J.stop i H ∧ Q (.ref D) H) ∨ (J.go i H ∧ ∃ Nx : Hp → Prop, (∀ H', Nx H' → ∃ m', m' < m ∧ W (i + 1) m' H') ∧ ∀ x H', J.yld i H x H' → tG X.K X.mg t x (wipe σ vs) H' fun σ2 H2 => wipe σ2 vs = wipe σ vs ∧ tt σ2 H2 fun b H3 =>
        if b = true then tD X.K X.mg Z W0 fe.st σ2 H3 fun y H4 => ∃ acc, H4 D = some (.lst acc) ∧ acc.length < sizeLine ∧ Nx (upd H4 D (.lst (acc ++ [y]))) else Nx H3) := by
  intro Dn nD
  have pk : ∀ H', (∀ b o, b ≠ Dn → (∀ j e, ((wipeE ρ1 vs).at j).mu = some e → (wipe σ vs)[j]? ≠ some (some (V.ref b))) → H1 b = some o → H' b = some o) → P H' := fun H' k => hP H' Dn nD fun b o n h e => k b o n (fun j e' q z => by
    obtain ⟨h1, h2⟩ := wipeE_at (s := (wipeE ρ1 vs).at j) (fun z => by rw [z] at q; cases q) rfl
    rw [wipe_get h2] at z
    exact h j e' (by rw [h1]; exact q) z) e
  have sD : Same H1 (upd H1 Dn (.lst [])) := same_new nD
  have nF1 : F1 Dn = none := r1.same.free nD
  have n0 : Z.H0 Dn = none := r1.h0 nD
  have rw := (r1.keep sD).wipe vs
  have neD : ∀ j e, ((wipeE ρ1 vs).at j).mu = some e → (wipe σ vs)[j]? ≠ some (some (V.ref Dn)) := fun j e q => by
    obtain ⟨h1, h2⟩ := wipeE_at (s := (wipeE ρ1 vs).at j) (fun z => by rw [z] at q; cases q) rfl
    rw [wipe_get h2]
    exact new_ne r1 nD j e (by rw [h1]; exact q)
  -- what holds between two turns
  let Iv : Nat → Hp → Prop := fun i H' => ∃ ρ' F' acc vals, Rel X.K X.mg Z (wipe σ vs) H' ρ' F' ∧ Same F1 F' ∧ lcL vs t ft fe (ds.drop i) acc ρ' = .val out ρe ∧ H' Dn = some (.lst vals) ∧ RL X.K X.mg F' vals acc ∧ F' Dn = none ∧
    (∀ j e, (ρ'.at j).mu = some e → ∃ e', ((wipeE ρ1 vs).at j).mu = some e') ∧
    (∀ b o, b ≠ Dn → (∀ j e, ((wipeE ρ1 vs).at j).mu = some e → (wipe σ vs)[j]? ≠ some (some (V.ref b))) → H1 b = some o → H' b = some o) ∧ (∀ b, H1 b ≠ none → H' b ≠ none) ∧
    (∀ b, F' b ≠ none → F1 b ≠ none ∨ H1 b = none ∨ ∃ j e, ((wipeE ρ1 vs).at j).mu = some e ∧ (wipe σ vs)[j]? = some (some (V.ref b)))
  -- a step within a turn keeps it
  refine ⟨fun i m H' => m = ds.length - i ∧ i ≤ ds.length ∧ Iv i H', ⟨ds.length, by simp, Nat.zero_le _, wipeE ρ1 vs, F1, [], [], rw, Same.refl _, hout, upd_same, .nil, nF1, fun j e q => ⟨e, q⟩, fun b o n _ e => sD b o e, fun b n => same_some sD n, fun b n => .inl n⟩, ?_⟩
  rintro i m H' ⟨rfl, hi', ρ', F', acc, vals, r', s', hl, hD, hda, nF', hsub, hkeep, hlv, hnw⟩
  by_cases hlt : i < ds.length
  · have hd : ds.drop i = ds[i] :: ds.drop (i + 1) := List.drop_eq_getElem_cons hlt
    rw [hd] at hl
    simp only [lcL] at hl
    refine .inr ⟨wk.go i H' (s'.trans r'.same) (pk H' hkeep) hlt, Iv (i + 1), fun H2 h2 => ⟨ds.length - (i + 1), by omega, rfl, hlt, h2⟩, fun x H2 y => ?_⟩
    obtain ⟨F3, a1, a2, a3, a4, a5⟩ := wk.yld i H' x H2 _ F' s' r'.same (pk H' hkeep) (List.getElem?_eq_getElem hlt) y
    have r3 := r'.more a1 a2 a3 a4
    unfold Tg.to at hl
    cases hfn : t.fn ds[i] with
    | none =>
      simp only [hfn] at hl
      cases hl
    | some es =>
      simp only [hfn] at hl
      refine ⟨F3, _, es, r3.same, a5, hfn, fun ws hws => ⟨wipe_puts hsl ws, ?_⟩⟩
      have r4 := puts_ok t.sl es ws _ _ r3 hws
      obtain ⟨b, ρ2, hb, hl⟩ := bind_val_of hl
      -- what is told of the heap so far
      have nF3 : F3 Dn = none := by
        cases z : F3 Dn with
        | none => rfl
        | some o =>
          rcases a4 Dn (by rw [z]; intro y; cases y) with y | y
          · exact (y nF').elim
          · rw [hD] at y
            cases y
      -- the slots that change are those of the start, none of them a target
      have sub4 : ∀ j e, (En.at (puts ρ' t.sl es) j).mu = some e → (ρ'.at j).mu = some e ∧ j ∉ t.sl := by
        have key : ∀ (sl : List Nat) (ds : List D) (ρ0 : En), ds.length = sl.length → ∀ j e, (En.at (puts ρ0 sl ds) j).mu = some e → (ρ0.at j).mu = some e ∧ j ∉ sl := by
          intro sl
          induction sl with
          | nil => exact fun ds ρ0 _ j e q => ⟨q, by simp⟩
          | cons a sl ih =>
            intro ds ρ0 hl j e q
            cases ds with
            | nil => cases hl
            | cons d ds =>
              obtain ⟨h1, h2⟩ := ih ds (ρ0.set a (.sh d)) (by simpa using hl) j e q
              rw [En.at_set] at h1
              split at h1
              · cases h1
              · rename_i c
                refine ⟨h1, fun m => ?_⟩
                rcases List.mem_cons.mp m with z | z
                · refine c ⟨z.symm, ?_⟩
                  rw [← z]
                  exact En.at_lt (by intro y; rw [y] at h1; cases h1)
                · exact h2 z
        exact key t.sl es ρ' (t.len _ _ hfn)
      have out4 : ∀ b, (∀ j e, ((wipeE ρ1 vs).at j).mu = some e → (wipe σ vs)[j]? ≠ some (some (V.ref b))) → ∀ j e, (En.at (puts ρ' t.sl es) j).mu = some e → (putsS (wipe σ vs) t.sl ws)[j]? ≠ some (some (V.ref b)) := fun b n j e q => by
        obtain ⟨h1, h2⟩ := sub4 j e q
        rw [putsS_get _ _ _ h2]
        obtain ⟨e', h3⟩ := hsub j e h1
        exact n j e' h3
      have nwF : ∀ b (F4 : Hp) (H4 : Hp) (ρ4 : En), Go X.K X.mg Z (putsS (wipe σ vs) t.sl ws) H2 (puts ρ' t.sl es) F3 H4 ρ4 F4 → F4 b ≠ none → F1 b ≠ none ∨ H1 b = none ∨ ∃ j e, ((wipeE ρ1 vs).at j).mu = some e ∧ (wipe σ vs)[j]? = some (some (V.ref b)) := fun b F4 H4 ρ4 g n => by
        rcases g.nw b n with z | z | ⟨j, e, z1, z2⟩
        · rcases a4 b z with z | z
          · exact hnw b z
          · refine .inr (.inl ?_)
            cases y : H1 b with
            | none => rfl
            | some o => exact (hlv b (by rw [y]; intro k; cases k) z).elim
        · refine .inr (.inl ?_)
          cases y : H1 b with
          | none => rfl
          | some o => exact (same_some a1 (hlv b (by rw [y]; intro k; cases k)) z).elim
        · obtain ⟨h1, h2⟩ := sub4 j e z1
          obtain ⟨e', h3⟩ := hsub j e h1
          rw [putsS_get _ _ _ h2] at z2
          exact .inr (.inr ⟨j, e', h3, z2⟩)
      have noD : ∀ (F4 : Hp) (H4 : Hp) (ρ4 : En), Go X.K X.mg Z (putsS (wipe σ vs) t.sl ws) H2 (puts ρ' t.sl es) F3 H4 ρ4 F4 → F4 Dn = none ∧ H4 Dn = some (.lst vals) := fun F4 H4 ρ4 g => by
        have hD4 := g.keep Dn _ (out4 Dn neD) (a1 _ _ hD)
        refine ⟨?_, hD4⟩
        cases z : F4 Dn with
        | none => rfl
        | some o =>
          rcases g.nw Dn (by rw [z]; intro y; cases y) with y | y | ⟨j, e, z1, z2⟩
          · exact (y nF3).elim
          · rw [a1 _ _ hD] at y
            cases y
          · exact (out4 Dn neD j e z1 z2).elim
      have next : ∀ (F4 : Hp) (H4 : Hp) (ρ4 : En) (acc2 : List D) (vals2 : List V) (H5 : Hp), Go X.K X.mg Z (putsS (wipe σ vs) t.sl ws) H2 (puts ρ' t.sl es) F3 H4 ρ4 F4 → (∀ b o, b ≠ Dn → H4 b = some o → H5 b = some o) → H5 Dn = some (.lst vals2) → RL X.K X.mg F4 vals2 acc2 →
          lcL vs t ft fe (ds.drop (i + 1)) acc2 (wipeE ρ4 vs) = .val out ρe → Iv (i + 1) H5 := fun F4 H4 ρ4 acc2 vals2 H5 g hk hD5 hda2 hl2 => by
        obtain ⟨n4, hD4⟩ := noD F4 H4 ρ4 g
        have r5 : Rel X.K X.mg Z (putsS (wipe σ vs) t.sl ws) H5 ρ4 F4 := by
          have r4' := g.rel
          have ne5 : ∀ j e b, (ρ4.at j).mu = some e → (putsS (wipe σ vs) t.sl ws)[j]? = some (some (V.ref b)) → b ≠ Dn := fun j e b q1 q2 z => by
            obtain ⟨e', q3⟩ := g.sub j e q1
            rw [z] at q2
            exact out4 Dn neD j e' q3 q2
          refine ⟨r4'.len, fun b o e => hk b o (fun z => by rw [z, n4] at e; cases e) (r4'.same b o e), r4'.sh, fun j e q => ?_, r4'.own, r4'.pin, r4'.dist, fun b o n e => hk b o (fun z => by rw [z, n0] at e; cases e) (r4'.off b o n e), fun b n => ?_, r4'.fr0, r4'.new⟩
          · obtain ⟨b, h1, h2, h3⟩ := r4'.mu j e q
            obtain ⟨o, ho⟩ := h3.ex
            exact ⟨b, h1, h2, h3.mono (Same.refl _) ((hk b o (ne5 j e b q h1) ho).trans ho.symm)⟩
          · by_cases z : b = Dn
            · rw [z, hD5]
              intro y
              cases y
            · have h1 := r4'.live b n
              cases y : H4 b with
              | none => exact (h1 y).elim
              | some o =>
                rw [hk b o z y]
                intro k
                cases k
        have r6 := r5.wipe vs
        rw [wipe_puts hsl ws] at r6
        have subw : ∀ j e, ((wipeE ρ4 vs).at j).mu = some e → ∃ e', ((wipeE ρ1 vs).at j).mu = some e' := fun j e q => by
          obtain ⟨h1, h2⟩ := wipeE_at (s := (wipeE ρ4 vs).at j) (fun z => by rw [z] at q; cases q) rfl
          rw [← h1] at q
          obtain ⟨e1, q1⟩ := g.sub j e q
          exact hsub j e1 (sub4 j e1 q1).1
        refine ⟨wipeE ρ4 vs, F4, acc2, vals2, r6, s'.trans (a2.trans g.fr), hl2, hD5, hda2, n4, subw, fun b o n1 n2 e => hk b o n1 (g.keep b o (out4 b n2) (a1 _ _ (hkeep b o n1 n2 e))), fun b n => ?_, fun b n => nwF b F4 H4 ρ4 g n⟩
        by_cases z : b = Dn
        · rw [z, hD5]
          intro y
          cases y
        · have h1 := g.lv b (same_some a1 (hlv b n))
          cases y : H4 b with
          | none => exact (h1 y).elim
          | some o =>
            rw [hk b o z y]
            intro k
            cases k
      refine htt _ _ _ ⟨_, F3, r4, Post.of_val hb fun H4 F4 g4 => ?_⟩
      cases b with
      | false =>
        rw [if_neg Bool.false_ne_true] at hl ⊢
        obtain ⟨n4, hD4⟩ := noD F4 H4 ρ2 g4
        exact next F4 H4 ρ2 acc vals H4 g4 (fun b o _ e => e) hD4 (hda.mono (a2.trans g4.fr)) hl
      | true =>
        rw [if_pos rfl] at hl ⊢
        obtain ⟨e, ρ3, he, hl⟩ := bind_val_of hl
        refine ⟨ρ2, F4, g4.rel, Post.of_val he fun H5 F5 g5 v hv => ?_⟩
        have g6 := g4.trans g5
        obtain ⟨n5, hD5⟩ := noD F5 H5 ρ3 g6
        by_cases hz : acc.length < sizeLine
        · rw [if_pos hz] at hl
          refine ⟨vals, hD5, by rw [hda.length]; exact hz, ?_⟩
          exact next F5 H5 ρ3 (acc ++ [e]) (vals ++ [v]) _ g6 (fun b o n e => by rw [upd_ne n]; exact e) upd_same ((hda.mono (a2.trans g6.fr)).append (.one hv)) hl
        · rw [if_neg hz] at hl
          cases hl
  · have e : i = ds.length := by omega
    subst e
    rw [List.drop_length] at hl
    cases hl
    refine .inl ⟨wk.stop _ H' (s'.trans r'.same) (pk H' hkeep) (Nat.le_refl _), ?_⟩
    have r9 := r1.unwipe r' s'
    have m9 : ∀ j e, ((unwipe ρ1 ρe vs).at j).mu = some e → (ρe.at j).mu = some e ∧ j ∉ vs := fun j e q => by
      rcases unwipe_at (s := (unwipe ρ1 ρe vs).at j) (fun z => by rw [z] at q; cases q) rfl with ⟨h1, h2⟩ | ⟨h1, h2⟩
      · rw [← h2] at q
        cases z : ρ1.at j <;> rw [z] at q <;> cases q
      · rw [h2]
        exact ⟨q, h1⟩
    have w9 : ∀ j e, ((wipeE ρ1 vs).at j).mu = some e → (ρ1.at j).mu = some e ∧ (wipe σ vs)[j]? = σ[j]? := fun j e q => by
      obtain ⟨h1, h2⟩ := wipeE_at (s := (wipeE ρ1 vs).at j) (fun z => by rw [z] at q; cases q) rfl
      rw [h1]
      exact ⟨q, wipe_get h2⟩
    have go : Go X.K X.mg Z σ H1 ρ1 F1 H' (unwipe ρ1 ρe vs) F' := by
      refine ⟨r9, s', fun b o n e => hkeep b o (ne_of_none e nD) (fun j e' q z => ?_) e, fun j e q => ?_, hlv, fun b n => ?_⟩
      · obtain ⟨h1, h2⟩ := w9 j e' q
        rw [h2] at z
        exact n j e' h1 z
      · obtain ⟨h1, h2⟩ := m9 j e q
        obtain ⟨e', h3⟩ := hsub j e h1
        exact ⟨e', (w9 j e' h3).1⟩
      · rcases hnw b n with z | z | ⟨j, e, z1, z2⟩
        · exact .inl z
        · exact .inr (.inl z)
        · obtain ⟨h1, h2⟩ := w9 j e z1
          rw [h2] at z2
          exact .inr (.inr ⟨j, e, h1, z2⟩)
    refine qe H' F' Dn nD go n0 nF' ⟨vals, hD, hda⟩ fun j e q z => ?_
    obtain ⟨h1, h2⟩ := m9 j e q
    obtain ⟨e', h3⟩ := hsub j e h1
    refine neD j e' h3 ?_
    rw [wipe_get h2]
    exact z

/-- slot i's own list is walked, and stays its own; the block does not see it -/
def nLcO (vs : List Nat) (i : Nat) (t : Tg) (ft : M Bool) (fe : M AV) : M D := fun ρ => match ρ.at i with
  | .own (.lst ds) => (lcL vs t ft fe ds [] (wipeE (ρ.set i .no) vs)).nox.bind fun acc ρ2 => .val (.lst acc) ((unwipe (ρ.set i .no) ρ2 vs).set i (.own (.lst ds)))
  | .sh (.lst ds) => (lcL vs t ft fe ds [] (wipeE ρ vs)).nox.bind fun acc ρ2 => .val (.lst acc) (unwipe ρ ρ2 vs)
  | _ => .bad
theorem lcO_le (hsl : ∀ i ∈ t.sl, i ∈ vs) {tt : TT} (htt : ∀ σ H Q, tT X.K X.mg Z W0 ft σ H Q → tt σ H Q) {i : Nat} (σ : L2.St) (H : Hp) (Q : VK) (h : tN X.K X.mg Z W (nLcO vs i t ft fe) σ H Q) :
    tLc (iList X.K (tVar i)) (tG X.K X.mg t) tt (tD X.K X.mg Z W0 fe.st) vs σ H Q := by
  obtain ⟨ρ, F, r, q⟩ := h
  unfold nLcO at q
  cases hi : ρ.at i with
  | no => rw [hi] at q; exact q.elim
  | sh d =>
    rw [hi] at q
    cases d with
    | lst ds =>
      obtain ⟨v, h1, hv⟩ := r.sh i _ hi
      cases hv with
      | @lst a us _ h3 h4 =>
        obtain ⟨out, ρe, hout, qe⟩ := nox_post q
        have hH := r.same _ _ h3
        refine ⟨_, h1, a, rfl, ⟨us, .inl (.inl hH)⟩, ?_⟩
        refine lc_coreP hsl htt r (wkP_lst (a := a) h4) (fun H' Dn nD k => k a _ (fun z => by rw [z, nD] at hH; cases hH) (fun j e q z => by
          obtain ⟨b, b1, b2, _⟩ := r.mu j e q
          rw [b1] at z
          cases z
          rw [b2] at h3
          cases h3) hH) hout fun H' F' Dn nD go n0 nF hct hne => qe H' F' go Dn nD n0 nF hct hne
    | _ => exact q.elim
  | pin d => rw [hi] at q; exact q.elim
  | own d =>
    rw [hi] at q
    cases d with
    | lst ds =>
      have hmu : (ρ.at i).mu = some (.lst ds) := by rw [hi]; rfl
      obtain ⟨a, h1, h2, us, h3, h4⟩ := r.mu i _ hmu
      have hlt : i < ρ.length := En.at_lt (by rw [hi]; intro z; cases z)
      obtain ⟨out, ρe, hout, qe⟩ := nox_post q
      have km : ∀ j e, (En.at (ρ.set i .no) j).mu = some e → j ≠ i ∧ (ρ.at j).mu = some e := fun j e q => by
        rw [En.at_set] at q
        split at q
        · cases q
        · rename_i c
          exact ⟨fun z => c ⟨z.symm, hlt⟩, q⟩
      have free : ∀ j e, (En.at (ρ.set i .no) j).mu = some e → σ[j]? ≠ some (some (V.ref a)) := fun j e q z => by
        obtain ⟨n, q'⟩ := km j e q
        exact n (r.dist j i e _ a q' hmu z h1)
      refine ⟨_, h1, a, rfl, ⟨us, .inl (.inl h3)⟩, ?_⟩
      refine lc_coreP hsl htt (r.drop (i := i)) (wkP_lst (a := a) h4) (fun H' Dn nD k => k a _ (fun z => by rw [z, nD] at h3; cases h3) free h3) hout fun H' F' Dn nD go n0 nF hct hne => ?_
      have ha : H' a = some (.lst us) := go.keep a _ free h3
      have hFa : F' a = none := by
        cases z : F' a with
        | none => rfl
        | some o =>
          rcases go.nw a (by rw [z]; intro y; cases y) with y | y | ⟨j, e, y1, y2⟩
          · exact (y h2).elim
          · rw [h3] at y
            cases y
          · exact (free j e y1 y2).elim
      have hl : i < (unwipe (ρ.set i .no) ρe vs).length := by rw [← go.rel.len, r.len]; exact hlt
      have at9 : ∀ j, En.at ((unwipe (ρ.set i .no) ρe vs).set i (.own (.lst ds))) j = if j = i then .own (.lst ds) else En.at (unwipe (ρ.set i .no) ρe vs) j := fun j => by
        rw [En.at_set]
        by_cases c : j = i
        · rw [if_pos ⟨c.symm, hl⟩, if_pos c]
        · rw [if_neg (fun z => c z.1.symm), if_neg c]
      have nDa : Dn ≠ a := fun z => by rw [z, h3] at nD; cases nD
      have m9 : ∀ j e, (En.at ((unwipe (ρ.set i .no) ρe vs).set i (.own (.lst ds))) j).mu = some e → (j = i ∧ e = .lst ds) ∨ (j ≠ i ∧ (En.at (unwipe (ρ.set i .no) ρe vs) j).mu = some e) := fun j e q => by
        rw [at9 j] at q
        by_cases c : j = i
        · rw [if_pos c] at q
          cases q
          exact .inl ⟨c, rfl⟩
        · rw [if_neg c] at q
          exact .inr ⟨c, q⟩
      have r9 : Rel X.K X.mg Z σ H' ((unwipe (ρ.set i .no) ρe vs).set i (.own (.lst ds))) F' := by
        have g := go.rel
        refine ⟨by rw [List.length_set]; exact g.len, g.same, fun j d q => ?_, fun j d q => ?_, fun j d q => ?_, fun j d q => ?_, fun j k d e b q1 q2 b1 b2 => ?_, g.off, g.live, g.fr0, g.new⟩
        · rw [at9 j] at q
          by_cases c : j = i
          · rw [if_pos c] at q
            cases q
          · rw [if_neg c] at q
            exact g.sh j d q
        · rcases m9 j d q with ⟨rfl, rfl⟩ | ⟨c, q⟩
          · exact ⟨a, h1, hFa, us, ha, h4.mono go.fr⟩
          · exact g.mu j d q
        · rw [at9 j] at q
          by_cases c : j = i
          · subst c
            exact r.own _ _ hi
          · rw [if_neg c] at q
            exact g.own j d q
        · rw [at9 j] at q
          by_cases c : j = i
          · rw [if_pos c] at q
            cases q
          · rw [if_neg c] at q
            exact g.pin j d q
        · rcases m9 j d q1 with ⟨rfl, rfl⟩ | ⟨c, q1⟩ <;> rcases m9 k e q2 with ⟨rfl, rfl⟩ | ⟨c', q2⟩
          · rfl
          · rw [h1] at b1
            cases b1
            obtain ⟨e', q3⟩ := go.sub k e q2
            exact (free k e' q3 b2).elim
          · rw [h1] at b2
            cases b2
            obtain ⟨e', q3⟩ := go.sub j d q1
            exact (free j e' q3 b1).elim
          · exact g.dist j k d e b q1 q2 b1 b2
      refine qe H' F' ⟨r9, go.fr, fun b o n e => go.keep b o (fun j e' q z => n j e' (km j e' q).2 z) e, fun j e q => ?_, go.lv, fun b n => ?_⟩ Dn nD n0 nF hct fun j e q z => ?_
      · rcases m9 j e q with ⟨rfl, rfl⟩ | ⟨c, q⟩
        · exact ⟨_, hmu⟩
        · obtain ⟨e', q3⟩ := go.sub j e q
          exact ⟨e', (km j e' q3).2⟩
      · rcases go.nw b n with z | z | ⟨j, e, z1, z2⟩
        · exact .inl z
        · exact .inr (.inl z)
        · exact .inr (.inr ⟨j, e, (km j e z1).2, z2⟩)
      · rcases m9 j e q with ⟨rfl, rfl⟩ | ⟨c, q⟩
        · rw [h1] at z
          cases z
          exact nDa rfl
        · exact hne j e q z
    | _ => exact q.elim
theorem en_lcO {elt tg : Expr} {x : Str} {xp : Pos} {i : Nat} {ifs : List Expr} {scope : Scope} {own : List (Str × Nat)} {pos : Pos} {tt : TT} (hc : X.calm = true) (hN : X.N.Nodup) (hx : PE X (.Name x xp) (tVar i)) (ok : BlkOk X.N X.env.scope scope own) (hsl : ∀ i ∈ t.sl, i ∈ own.map (·.2)) (htt : ∀ σ H Q, tT X.K X.mg Z W0 ft σ H Q → tt σ H Q)
    (hg : ∀ (s : Shared) (H : Hp) (C : Addr) (cl : List (Str × Addr)) (fp : List Addr), PT1 (X.blk s H scope (compEnvC scope cl C X.env) fp) tg t) (ht : ∀ (s : Shared) (H : Hp) (C : Addr) (cl : List (Str × Addr)) (fp : List Addr), L2.PTs (X.blk s H scope (compEnvC scope cl C X.env) fp) ifs tt)
    (he : ∀ (s : Shared) (H : Hp) (C : Addr) (cl : List (Str × Addr)) (fp : List Addr), PV (X.blk s H scope (compEnvC scope cl C X.env) fp) Z W0 elt fe) (hs : ∀ y, foldedSetIterable (.Name x xp) X.env y = pure y := by intro _; rfl) :
    PN X Z W (.ListComp elt [⟨tg, .Name x xp, ifs, 0⟩] scope pos) (nLcO (own.map (·.2)) i t ft fe) :=
  PE.weak (pe_lc (te := tD X.K X.mg Z W0 fe.st) hc hN (pi_list hx) ok hg ht (fun s H C cl fp => ed (he s H C cl fp)) hs) (lcO_le hsl htt)
theorem cs_newLcO {k i : Nat} {x y : Str} {xp py : Pos} {elt tg : Expr} {ifs : List Expr} {scope : Scope} {own : List (Str × Nat)} {pos spos : Pos} {tt : TT} (hc : X.calm = true) (hN : X.N.Nodup) (hy : X.N[i]? = some y) (hyl : X.env.scope.names.lookup y = some .local)
    (hsw : swapsWith (.ListComp elt [⟨tg, .Name x xp, ifs, 0⟩] scope pos) (some (.Name y py)) spos.line X.env = pure true) (hx : PE X (.Name x xp) (tVar k)) (ok : BlkOk X.N X.env.scope scope own) (hsl : ∀ i ∈ t.sl, i ∈ own.map (·.2)) (htt : ∀ σ H Q, tT X.K X.mg Z W0 ft σ H Q → tt σ H Q)
    (hg : ∀ (s : Shared) (H : Hp) (C : Addr) (cl : List (Str × Addr)) (fp : List Addr), PT1 (X.blk s H scope (compEnvC scope cl C X.env) fp) tg t) (ht : ∀ (s : Shared) (H : Hp) (C : Addr) (cl : List (Str × Addr)) (fp : List Addr), L2.PTs (X.blk s H scope (compEnvC scope cl C X.env) fp) ifs tt)
    (he : ∀ (s : Shared) (H : Hp) (C : Addr) (cl : List (Str × Addr)) (fp : List Addr), PV (X.blk s H scope (compEnvC scope cl C X.env) fp) Z W0 elt fe) (hs : ∀ z, foldedSetIterable (.Name x xp) X.env z = pure z := by intro _; rfl) :
    PC1 X Z W (.Assign [.Name y py] (.ListComp elt [⟨tg, .Name x xp, ifs, 0⟩] scope pos) spos) (sNew i (nLcO (own.map (·.2)) k t ft fe)) :=
  cs_new (asg_weak (ps_setLc (te := tD X.K X.mg Z W0 fe.st) hc hN hy hyl hsw (pi_list hx) ok hg ht (fun s H C cl fp => ed (he s H C cl fp)) hs) (lcO_le hsl htt))
/-- what it gives -/
@[simp] theorem nLcO_r {ρ : En} {i : Nat} {ds : List D} (h : ρ.at i = .own (.lst ds)) : nLcO vs i t ft fe ρ = (lcL vs t ft fe ds [] (wipeE (ρ.set i .no) vs)).nox.bind fun acc ρ2 => .val (.lst acc) ((unwipe (ρ.set i .no) ρ2 vs).set i (.own (.lst ds))) := by
  unfold nLcO
  rw [h]
@[simp] theorem nLcO_s {ρ : En} {i : Nat} {ds : List D} (h : ρ.at i = .sh (.lst ds)) : nLcO vs i t ft fe ρ = (lcL vs t ft fe ds [] (wipeE ρ vs)).nox.bind fun acc ρ2 => .val (.lst acc) (unwipe ρ ρ2 vs) := by
  unfold nLcO
  rw [h]
end
end PV
/-! a text so many times -/
namespace PV
open PySem PySem.Spec PyProof.Rows L2 VK
def repS (x : Str) (k : Int) : Str := ⟨(List.replicate k.toNat x.cps).foldl (· ++ ·) #[]⟩
theorem repS_fold (a : Array Nat) : ∀ (n : Nat) (acc : Array Nat), ((List.replicate n a).foldl (· ++ ·) acc).toList = acc.toList ++ (List.replicate n a.toList).flatten
  | 0, acc => by simp
  | n + 1, acc => by
    rw [List.replicate_succ, List.foldl_cons, repS_fold a n (acc ++ a), List.replicate_succ, List.flatten_cons, Array.toList_append, List.append_assoc]
theorem repS_tl (x : Str) (k : Int) : TL.tl (repS x k) = (List.replicate k.toNat (TL.tl x)).flatten := by
  show ((List.replicate k.toNat x.cps).foldl (· ++ ·) #[]).toList = _
  rw [repS_fold]
  rfl
theorem repS_len (x : Str) (k : Int) : (repS x k).length = x.length * k.toNat := by
  rw [TL.len_tl, repS_tl, TL.len_tl]
  simp [Nat.mul_comm]
def gRepS : G2
  | .str x, .int k => if 2 ≤ k ∧ k ≤ 1000 ∧ 1 ≤ x.length ∧ x.length ≤ 1000 then some (.str (repS x k)) else none
  | _, _ => none
abbrev rRepS : R2 := fun x y H Q => ∃ i k, x = .str i ∧ y = .int k ∧ (2 ≤ k ∧ k ≤ 1000 ∧ 1 ≤ i.length ∧ i.length ≤ 1000) ∧ Q (.str (repS i k)) H
theorem op_repS {X : Cx} : OpR X (binaryOp .Mult) rRepS := by
  intro pins s σ H x y v u Q I rx ry h
  obtain ⟨i, k, rfl, rfl, ⟨h1, h2, h3, h4⟩, q⟩ := h
  obtain ⟨t, rfl⟩ := rx
  obtain ⟨t', rfl⟩ := ry
  have ne : (k == 1 || i.length == 0) = false := by
    rw [Bool.or_eq_false_iff, beq_eq_false_iff_ne, beq_eq_false_iff_ne]
    exact ⟨by omega, by omega⟩
  refine PySem.P.mul_str (by
      have a : ¬ k ≥ 2 ^ 63 := by omega
      have b : ¬ k < -(2 ^ 63 : Int) := by omega
      rw [decide_eq_false a, decide_eq_false b]
      rfl) (fun _ _ => ?_) (fun _ _ => ?_) ?_
  · have h5 : (i.length : Int) * k ≤ 1000 * 1000 := Int.mul_le_mul (by omega) h2 (by omega) (by decide)
    have h6 : (i.length : Int) ≤ (2 ^ 63 - 1) / k := Int.le_ediv_of_mul_le (by omega) (by omega)
    omega
  · show decide (_ > sizeLine) = false
    have h5 : i.length * k.toNat ≤ 1000 * 1000 := Nat.mul_le_mul h4 (by omega)
    have h6 := sizeLine_eq
    exact decide_eq_false (by omega)
  · rw [if_neg (by omega), if_neg (by rw [ne]; decide)]
    refine ⟨?_, ⟨.str (repS i k), H, I.tok _, ⟨_, rfl⟩, q⟩⟩
    have h5 : i.length * k.toNat ≤ 1000 * 1000 := Nat.mul_le_mul h4 (by omega)
    have h6 := sizeLine_eq
    have h7 := repS_len i k
    show (repS i k).length ≤ sizeLine
    omega
theorem ok_repS {K : PySem.W.Frag} {mg : Str → Option Value} : OkA K mg rRepS gRepS := by
  intro F H v w d e z Q s hv hw hg q
  cases d <;> cases e <;> simp only [gRepS] at hg <;> try (cases hg; done)
  rename_i x k
  by_cases c : 2 ≤ k ∧ k ≤ 1000 ∧ 1 ≤ x.length ∧ x.length ≤ 1000
  · rw [if_pos c] at hg
    cases hg
    exact ⟨x, k, hv.str, hw.int, c, okQ s q (.str _)⟩
  · rw [if_neg c] at hg
    cases hg
def gTimesA : G2 := orG gTimes gRepS
theorem op_timesA {X : Cx} : OpR X (binaryOp .Mult) (fun x y H Q => rTimes X.K x y H Q ∨ rRepS x y H Q) := opr_or op_times op_repS
theorem ok_timesA {K : PySem.W.Frag} {mg : Str → Option Value} : OkA K mg (fun x y H Q => rTimes K x y H Q ∨ rRepS x y H Q) gTimesA := ok_or ok_times ok_repS
end PV
/-! xs.pop(i) -/
namespace PV
open PySem PySem.Spec PyProof.Rows L2 VK
def gPopAt : GM
  | .lst xs, [.int i] => if 0 ≤ i ∧ i < 1000000000 then (xs[i.toNat]?).map fun d => (d, .lst (xs.eraseIdx i.toNat)) else none
  | _, _ => none
section
variable {K : PySem.W.Frag} {mg : Str → Option Value}
theorem RL.erase {F : Hp} : ∀ {vs : List V} {ds : List D} (n : Nat), RL K mg F vs ds → RL K mg F (vs.eraseIdx n) (ds.eraseIdx n)
  | _, _, n, .nil => by simpa using RL.nil
  | _, _, 0, .cons h t => t
  | _, _, n + 1, .cons h t => .cons h (RL.erase n t)
theorem ok_popAt : OkM K mg rPopAt gPopAt := by
  intro F H a c vs ds z c' Q s f hc hv hg q
  match c, ds, hc, hv, hg with
  | .lst xs, [.int i], ⟨us, h1, h2⟩, .cons r .nil, hg =>
    simp only [gPopAt] at hg
    by_cases c : 0 ≤ i ∧ i < 1000000000
    · rw [if_pos c] at hg
      cases e : xs[i.toNat]? with
      | none =>
        rw [e] at hg
        cases hg
      | some d =>
        rw [e] at hg
        cases hg
        cases r
        obtain ⟨v, hv, rv⟩ := h2.get e
        have hl : i.toNat < us.length := (List.getElem?_eq_some_iff.mp hv).1
        exact ⟨a, us, i, i.toNat, v, rfl, rfl, h1, by omega, by omega, by
          have hn : ¬ i < 0 := by omega
          have hi : i < (us.length : Int) := by omega
          simp only [seqIndex?, if_neg hn]
          rw [if_pos (by simp only [Bool.and_eq_true, decide_eq_true_eq]; exact ⟨c.1, hi⟩)], hv, q _ _ ⟨_, upd_same, h2.erase _⟩ rv⟩
    · rw [if_neg c] at hg
      cases hg
end
end PV
/-! a, b, c = e, f, g -/
namespace PV
open PySem PySem.Spec PyProof.Rows L2 VK
def sPar3 (i j l : Nat) (fs : M (List AV)) : M Fl := fun ρ => (fs.sts ρ).bind fun ds ρ1 => match ds with
  | [d, e, f] => .val .nx (((ρ1.set i (.sh d)).set j (.sh e)).set l (.sh f))
  | _ => .bad
section
variable {X : Cx} {Z : Zone} {W : WX} {i j l : Nat} {x y z : Str} {a b c : Expr} {fs : M (List AV)} {px py pz pt pos : Pos} {kt k2 : Nat} {pt2 : Pos}
theorem cs_par3 (hc : X.calm = true) (hN : X.N.Nodup) (hi : X.N[i]? = some x) (hj : X.N[j]? = some y) (hl : X.N[l]? = some z) (hij : i ≠ j) (hil : i ≠ l) (hjl : j ≠ l) (hx : X.env.scope.names.lookup x = some .local) (hy : X.env.scope.names.lookup y = some .local) (hz : X.env.scope.names.lookup z = some .local) (h : PL X Z W [a, b, c] fs)
    (hw : swappedStores [.Tuple [.Name x px, .Name y py, .Name z pz] kt pt] (.Tuple [a, b, c] k2 pt2) X.env = pure (some [x, y, z])) (hs : swapsWithSole [.Tuple [.Name x px, .Name y py, .Name z pz] kt pt] (.Tuple [a, b, c] k2 pt2) pos.line X.env = pure false := by rfl) :
    PC1 X Z W (.Assign [.Tuple [.Name x px, .Name y py, .Name z pz] kt pt] (.Tuple [a, b, c] k2 pt2) pos) (sPar3 i j l fs) := by
  refine PS.weak (ps_par3 hc hN hi hj hl hij hil hjl hx hy hz (PL.sts h) hw hs) fun D σ H ⟨ρ, F, r, q⟩ => ⟨ρ, F, r, (PostS.bind q).imp fun ds H1 ρ1 F1 g q1 vs hv => ?_⟩
  match ds, hv, q1 with
  | [d, e, f], .cons h1 (.cons h2 (.cons h3 .nil)), q1 => exact ⟨_, _, _, rfl, q1.val_ (((g.rel.put h1).put h2).put h3)⟩
  | [], _, q1 => exact q1.elim
  | [_], _, q1 => exact q1.elim
  | [_, _], _, q1 => exact q1.elim
  | _ :: _ :: _ :: _ :: _, _, q1 => exact q1.elim
end
section
variable {i j l : Nat} {ρ : En} {fs : M (List AV)} {d e f : D}
def parR3 (i j l : Nat) (ds : List D) (ρ : En) : Res Fl := match ds with
  | [d, e, f] => .val .nx (((ρ.set i (.sh d)).set j (.sh e)).set l (.sh f))
  | _ => .bad
@[simp] theorem parR3_r : parR3 i j l [d, e, f] ρ = .val .nx (((ρ.set i (.sh d)).set j (.sh e)).set l (.sh f)) := rfl
@[simp] theorem sPar3_r : sPar3 i j l fs ρ = (fs.sts ρ).bind fun ds ρ1 => parR3 i j l ds ρ1 := by
  unfold sPar3 parR3
  rfl
end
end PV
/-! a def of the top with positional defaults and keyword-only ones -/
namespace PV
open PySem PySem.Spec PyProof.Rows L2 VK
section
variable {K : PySem.W.Frag} {mg : Str → Option Value} {x : Str} {st : Stmt} {dvs : List V} {kws : List (Str × V)}
theorem dff_mkT {h : Heap} (X : K.In h) (G : h.Ns mainGlobals mg) {f T D : Addr} {oc : Value} {od an : Option Addr} {osl : Array (Option Value)} {doc pm cdv ct : Value} {oT : Obj} {its : List Value} {n : Nat}
    (a : PySem.W.nsIn K mainGlobals x = some (some (.ref f))) (l : K.lookup f = some ⟨oc, od, .func (PySem.W.fnOf x x (defArgs st) (defBody st) (defScope st) (.ref T) (.ref D) doc pm an cdv ct), osl⟩) (c : PySem.W.codeIn K cdv x = true) (kp : PySem.W.keepIn K (.ref f) = true)
    (t : K.lookup T = some oT) (ts : oT.data = .seq its.toArray n) (ne : dvs ≠ []) (hd : Vals dvs its)
    (hk : ∀ q ∈ kws, ∃ u, PySem.W.nsIn K D q.1 = some (some u) ∧ RelV q.2 u) : DfF K mg x st dvs kws :=
  ⟨f, _, ⟨⟨oc, od, .ref T, .ref D, doc, pm, an, cdv, ct, osl, rfl, l, c, .inr ⟨ne, T, oT, its, n, rfl, t, ts, hd⟩, .inr ⟨D, rfl, hk⟩⟩, kp⟩, PySem.W.mg_of X G a⟩
end
end PV
/-! xs.index(x), xs a list of data that holds x -/
namespace PV
open PySem PySem.Spec PyProof.Rows L2 VK
def idxD (d : D) : List D → Option Nat
  | [] => none
  | x :: r => if eqD x d = true then some 0 else (idxD d r).map (· + 1)
def gIdxL : G2
  | .lst xs, d => if (D.lst xs).eqo && d.eqo then (idxD d xs).map fun j => D.int (j : Nat) else none
  | _, _ => none
def isL (x : AV) (ρ : En) : Bool := match der x ρ with
  | some (.lst _) => true
  | _ => false
def eIdxL (fo fa : M AV) : M AV := fun ρ => (fo ρ).bind fun x ρ1 => if isL x ρ1 = true then (fa ρ1).bind fun y ρ2 => op2 gIdxL x y ρ2 else .bad
section
variable {K : PySem.W.Frag} {mg : Str → Option Value}
theorem idxD_py {d : D} : ∀ {xs : List D} {j : Nat}, idxD d xs = some j → ∃ z, (pyL xs)[j]? = some z ∧ PyData.eqv z d.py = true ∧ ∀ (m : Nat) (z' : PyData), m < j → (pyL xs)[m]? = some z' → PyData.eqv z' d.py = false
  | x :: r, j, h => by
    unfold idxD at h
    cases e : eqD x d with
    | true =>
      rw [e, if_pos rfl] at h
      cases h
      exact ⟨x.py, rfl, e, fun m _ hm => (Nat.not_lt_zero m hm).elim⟩
    | false =>
      rw [e, if_neg (by simp)] at h
      cases q : idxD d r with
      | none =>
        rw [q] at h
        cases h
      | some k =>
        rw [q] at h
        cases h
        obtain ⟨z, h1, h2, h3⟩ := idxD_py q
        refine ⟨z, h1, h2, fun m z' hm hz => ?_⟩
        cases m with
        | zero =>
          cases hz
          exact e
        | succ m =>
          have hm : m + 1 < k + 1 := hm
          exact h3 m z' (by omega) hz
theorem ok_idxL : OkX1 K mg (rIndexD K) gIdxL := by
  intro F H v w d e z Q s hv hw hg q
  cases d <;> simp only [gIdxL] at hg <;> try cases hg
  rename_i xs
  cases c : (D.lst xs).eqo && e.eqo with
  | false =>
    rw [c] at hg
    cases hg
  | true =>
    rw [c, if_pos rfl] at hg
    rw [Bool.and_eq_true] at c
    cases k : idxD e xs with
    | none =>
      rw [k] at hg
      cases hg
    | some j =>
      rw [k] at hg
      cases hg
      obtain ⟨a1, a2⟩ := (hv.r s).dp c.1
      obtain ⟨b1, b2⟩ := (hw.r s).dp c.2
      obtain ⟨y, h1, h2, h3⟩ := idxD_py k
      obtain ⟨a, vs, rfl, h4, h5⟩ := hv.lst s
      exact ⟨a, w, _, _, j, y, rfl, rfl, a1, b1, a2, b2, h1, h2, h3, okQ s q (.int _)⟩
end
section
variable {X : Cx} {Z : Zone} {W : WX} {o e : Expr} {fo fa : M AV} {apos pos : Pos}
theorem isL_ok {σ : L2.St} {H F : Hp} {ρ : En} {x : AV} {v : V} (r : Rel X.K X.mg Z σ H ρ F) (h : AR X.K X.mg F σ v x) (q : isL x ρ = true) : tyV X.K "list" v H := by
  unfold isL at q
  cases hx : der x ρ with
  | none =>
    rw [hx] at q
    cases q
  | some d =>
    rw [hx] at q
    cases d <;> first | cases q | skip
    obtain ⟨a, vs, rfl, h1, _⟩ := (der_ok r h hx).lst r.same
    exact .inl ⟨rfl, vs, .inl (.inl h1)⟩
theorem ev_idxL (hu : X.A.units + 65 < cLine) (ho : PV X Z W o fo) (ha : PV X Z W e fa)
    (hbase : attributeBase o "index" X.env (eval o X.env) = eval o X.env := by rfl)
    (hfew : ((backTo pos (starEach [e] X.env)).all (fun x => !x.1) && (backToKw pos (keywordEach [] X.env)).all (fun x => x.1.isSome)
      && decide ([e].length + ([] : List Keyword).length + (if ([] : List Keyword).isEmpty then 0 else 1) < 30)) = true := by rfl)
    (hline : (apos.endLine == pos.line) = true := by rfl) (hs : starEach [e] X.env = (false, eval e X.env) :: starEach [] X.env := by rfl) (hplain : (backTo pos (starEach [] X.env)).any (·.1) = false := by rfl) :
    PV X Z W (.Call (.Attribute o "index" apos) [e] [] pos) (eIdxL fo fa) := by
  refine PE.weak (pe_bm (T := "list") PySem.F.plainAttrs_list PySem.F.slot_list_index PySem.F.type_list_index (mt_indexD hu) ho (pa_cons ha pa_nil hs) hbase hfew hline hs hplain) fun σ H Q ⟨ρ, F, rel, q⟩ => ⟨ρ, F, rel, (Post.bind q).imp fun x H1 ρ1 F1 g1 q1 v hv => ?_⟩
  by_cases c : isL x ρ1 = true
  · rw [if_pos c] at q1
    exact ⟨isL_ok g1.rel hv c, ρ1, F1, g1.rel, (Post.bind q1).imp fun y H2 ρ2 F2 g2 q2 w hw => op2_ok (r := fun x y H Q => rIndexD X.K x [y] H Q) ok_idxL g2.rel (hv.go g2.fr) hw q2⟩
  · rw [if_neg c] at q1
    exact q1.elim
end
theorem hu65 {k : Nat} {A : Around} (h : Room k A) : A.units + 65 < cLine := by
  have := h.un
  omega
section
variable {x : AV} {ρ : En} {fo fa : M AV}
theorem isL_r : isL x ρ = match der x ρ with
  | some (.lst _) => true
  | _ => false := rfl
def isLo : Option D → Bool
  | some (.lst _) => true
  | _ => false
@[simp] theorem isLo_lst {xs : List D} : isLo (some (.lst xs)) = true := rfl
@[simp] theorem eIdxL_r : eIdxL fo fa ρ = (fo ρ).bind fun x ρ1 => if isLo (der x ρ1) = true then (fa ρ1).bind fun y ρ2 => opR2 (der x ρ2) (der y ρ2) gIdxL ρ2 else .bad := by
  unfold eIdxL
  simp only [op2_r]
  rfl
end
end PV
/-! x == d, x of a class with its own ==, d data of any kind -/
namespace PV
open PySem PySem.Spec PyProof.Rows L2 VK
def dataN : D → Option String
  | .non => some "NoneType"
  | .bl _ => some "bool"
  | .int _ => some "int"
  | .str _ => some "str"
  | .lst _ => some "list"
  | .tup _ => some "tuple"
  | .dic _ => some "dict"
  | _ => none
def NfsD (K : PySem.W.Frag) (mg : Str → Option Value) (cs : List Str) : Prop := ∀ c ∈ cs, ∃ C, mg c = some (.ref C) ∧ ∀ T ∈ dataTys, PySem.W.notFirst K C (.type T) = true
/-- x an instance of one of cs, d data -/
def pairD (cs : List Str) (x y : AV) (ρ : En) : Bool := match der x ρ, der y ρ with
  | some (.ins c _), some e => cs.contains c && (dataN e).isSome
  | _, _ => false
def eEqA (cs : List Str) (Mf : Nat → Md) (fa fb : M AV) : M AV := fun ρ => (fa ρ).bind fun x ρ1 => (fb ρ1).bind fun y ρ2 => if pairD cs x y ρ2 = true then callA [false, false] 0 Mf ([x, y], []) ρ2 else .bad
section
variable {X : Cx} {Z : Zone} {W : WX} {a b : Expr} {fa fb : M AV} {cs : List Str} {Mf : Nat → Md} {k j : Nat}
theorem dataN_mem {d : D} {T : String} (h : dataN d = some T) : T ∈ dataTys := by
  cases d <;> first | cases h | skip
  all_goals decide
theorem looks_ty {pins : List (Addr × Obj)} {σ : L2.St} {H F : Hp} {s : Shared} {v : V} {u : Value} {d : D} {T : String} {M : Model} (I : Inv X pins σ H s) (rx : RelV v u) (hr : R X.K X.mg F v d) (sm : Same F H) (h : dataN d = some T) : PySem.W.Looks M s.heap (typeOf u) (.type T) := by
  cases hr with
  | non =>
    cases h
    cases (show u = Value.none from rx)
    exact .of_pure rfl
  | bl b =>
    cases h
    cases (show u = Value.bool b from rx)
    exact .of_pure rfl
  | int i =>
    cases h
    obtain ⟨t, rfl⟩ := (show ∃ t, u = Value.int i t from rx)
    exact .of_pure rfl
  | str z =>
    cases h
    obtain ⟨t, rfl⟩ := (show ∃ t, u = Value.str z t from rx)
    exact .of_pure rfl
  | lst h1 _ =>
    cases h
    cases (show u = Value.ref _ from rx)
    obtain ⟨its, _, pl, _⟩ := I.list (.inl (.inl (sm _ _ h1)))
    obtain ⟨o, n, e, c, _⟩ := pl
    exact c ▸ (PySem.W.Looks.ld e).andThen .now
  | tup h1 _ =>
    cases h
    cases (show u = Value.ref _ from rx)
    obtain ⟨its, _, pl, _⟩ := I.tuple (same_seqT sm h1)
    obtain ⟨o, e, c, _⟩ := pl
    exact c ▸ (PySem.W.Looks.ld e).andThen .now
  | dic h1 _ =>
    cases h
    cases (show u = Value.ref _ from rx)
    obtain ⟨_, _, vs, _, o, es, ep, h1, h2, _⟩ := I.hok _ _ (sm _ _ h1)
    exact h2.1 ▸ (PySem.W.Looks.ld h1).andThen .now
  | ins _ _ _ => cases h
  | exc0 _ _ => cases h
  | exc1 _ _ _ _ => cases h
  | gl _ => cases h
  | ty _ => cases h
  | scr _ => cases h
abbrev TwoD (X : Cx) (Z : Zone) (W : WX) (σ : L2.St) (cs : List Str) (Mf : Nat → Md) (Q : VK) (v w : V) (H2 : Hp) : Prop := ∃ ρ2 F2 x y, Rel X.K X.mg Z σ H2 ρ2 F2 ∧ AR X.K X.mg F2 σ v x ∧ AR X.K X.mg F2 σ w y ∧ Post X.K X.mg Z W σ H2 ρ2 F2 (if pairD cs x y ρ2 = true then callA [false, false] 0 Mf ([x, y], []) ρ2 else .bad) fun z H' _ F' => ∀ v, AR X.K X.mg F' σ v z → Q v H'
theorem twoD_in {σ : L2.St} {H : Hp} {Q : VK} (q : tE X.K X.mg Z W (eEqA cs Mf fa fb) σ H Q) : tE X.K X.mg Z W fa σ H fun v H1 => tE X.K X.mg Z W fb σ H1 fun w H2 => TwoD X Z W σ cs Mf Q v w H2 := by
  obtain ⟨ρ, F, r, q⟩ := q
  exact ⟨ρ, F, r, (Post.bind q).imp fun x H1 ρ1 F1 g1 q1 v hv => ⟨ρ1, F1, g1.rel, (Post.bind q1).imp fun y H2 ρ2 F2 g2 q2 w hw => ⟨ρ2, F2, x, y, g2.rel, hv.go g2.fr, hw, q2⟩⟩⟩
theorem pairD_ok {σ : L2.St} {H F : Hp} {ρ : En} {v w : V} {x y : AV} (r : Rel X.K X.mg Z σ H ρ F) (hx : AR X.K X.mg F σ v x) (hy : AR X.K X.mg F σ w y) (q : pairD cs x y ρ = true) :
    ∃ c ∈ cs, ∃ p1 C dx vs, v = .ref p1 ∧ H p1 = some (.ins C dx vs) ∧ X.mg c = some (.ref C) ∧ ∃ e T, der y ρ = some e ∧ dataN e = some T := by
  unfold pairD at q
  cases hd : der x ρ with
  | none => rw [hd] at q; cases q
  | some d =>
    rw [hd] at q
    cases d <;> try (cases q; done)
    rename_i c fs
    cases he : der y ρ with
    | none => rw [he] at q; cases q
    | some e =>
      rw [he] at q
      have q : (cs.contains c && (dataN e).isSome) = true := q
      rw [Bool.and_eq_true] at q
      obtain ⟨p1, C, dx, vs, f1, f2, f3, f4⟩ := (der_ok r hx hd).ins r.same
      obtain ⟨T, hT⟩ := Option.isSome_iff_exists.mp q.2
      exact ⟨c, by simpa using q.1, p1, C, dx, vs, f1, f2, f3, e, T, rfl, hT⟩
theorem twoD_cmp {op : CmpOp} (nf : NfsD X.K X.mg cs) (c0 : DunA X.prog X.w X.K X.mg X.base k cs (cmpInfo op).2.1 Mf) (hr : Room j X.A) (hgd : X.A.guards = some []) (hk : k ≤ j) (tk : Takes X W) {pins : List (Addr × Obj)} {σ : L2.St} {H : Hp} {s : Shared} {x y : V} {v u : Value} {Q : VK} (I : Inv X pins σ H s) (rx : RelV x v) (ry : RelV y u) (h : TwoD X Z W σ cs Mf Q x y H) :
    wpAny (model X.prog X.w) X.A (richCompare op v u) (EP X pins σ Q) X.xe s := by
  obtain ⟨ρ2, F2, xx, yy, r2, hx, hy, q2⟩ := h
  by_cases hc : pairD cs xx yy ρ2 = true
  · rw [if_pos hc] at q2
    obtain ⟨c, hcm, p1, C, dx, vs, rfl, e1, m1, e, T, he, hT⟩ := pairD_ok r2 hx hy hc
    obtain ⟨C0, g, m0, cl, hm, sf, FA⟩ := c0 c hcm
    obtain ⟨C1, m2, nF⟩ := nf c hcm
    rw [m0] at m1 m2
    cases m1
    cases m2
    obtain rfl : v = Value.ref p1 := rx
    obtain ⟨mA, J, _⟩ := ins_get I.hok e1
    obtain ⟨od, J, _⟩ := J.look
    obtain ⟨m, hF⟩ := I.fr
    obtain ⟨_, hs⟩ := callA_core (xz := ([xx, yy], [])) (vs := [.ref p1, y]) (zs := []) r2 (.cons hx (.cons hy .nil)) .nil q2
    have lk : PySem.W.Looks (model X.prog X.w) s.heap (typeOf u) (.type T) := looks_ty I ry ((der_ok r2 hy he).r r2.same) (Same.refl _) hT
    refine PySem.W.cmp_K (tb := .type T) hr.units0 hF I.ok.mod.kin J lk (nF T (dataN_mem hT)) hm.at_ hm.fn (wpAny_mono (run_fnA (us := [.ref p1, u]) (ws := []) (vs := [.ref p1, y]) (zs := []) FA (hr.mono hk) hgd tk I (.cons rfl (.cons ry .nil)) .nil rfl hs) (fun r s' hq => ?_) fun _ _ h => h)
    obtain ⟨z, H', I', rz, qz⟩ := hq
    cases r <;> first | exact ⟨z, H', I', rz, qz⟩ | skip
    cases z <;> first | (cases rz; done) | (obtain ⟨_, h⟩ := rz; cases h; done)
  · rw [if_neg hc] at q2
    exact q2.elim
theorem ev_eqA {pos : Pos} (nf : NfsD X.K X.mg cs) (c0 : DunA X.prog X.w X.K X.mg X.base k cs "__eq__" Mf) (hr : Room j X.A) (hgd : X.A.guards = some []) (hk : k ≤ j) (tk : Takes X W) (ha : PV X Z W a fa) (hb : PV X Z W b fb) (hm : behindInMarks .Eq b = false) : PV X Z W (.Compare a [.Eq] [b] pos) (eEqA cs Mf fa fb) :=
  ⟨fun pins s σ H Q I q => wpAny_Compare1 (binT ha hb I (twoD_in q) fun v u s2 x y H2 I2 rx ry h => twoD_cmp (op := .Eq) nf c0 hr hgd hk tk I2 rx ry h) hm⟩
theorem et_eqA {pos : Pos} (nf : NfsD X.K X.mg cs) (c0 : DunA X.prog X.w X.K X.mg X.base k cs "__eq__" Mf) (hr : Room j X.A) (hgd : X.A.guards = some []) (hk : k ≤ j) (tk : Takes X W) (ha : PV X Z W a fa) (hb : PV X Z W b fb) (hm : behindInMarks .Eq b = false) :
    PB X Z W (.Compare a [.Eq] [b] pos) (eEqA cs Mf fa fb).tb := by
  refine ⟨fun pins s σ H Q I q => wpAny_isTrue_Compare1 (thn (ha.run pins s σ H _ I (twoD_in (tE_tb q))) fun v s1 ⟨x, H1, I1, r1, q1⟩ => thn (hb.run pins s1 σ H1 _ I1 q1) fun u s2 ⟨y, H2, I2, r2, q2⟩ => thn (twoD_cmp (op := .Eq) nf c0 hr hgd hk tk I2 r1 r2 q2) fun c s3 ⟨z, H3, I3, r3, k, e, q3⟩ => ?_) hm⟩
  subst e
  obtain rfl : c = Value.bool k := r3
  exact wpAny_truthy_bool ⟨H3, I3, q3⟩
end
section
variable {K : PySem.W.Frag} {h : Heap} {mg : Str → Option Value} {C : Addr} {c : Str}
abbrev NfsDI (_ : K.In h) (mg : Str → Option Value) (cs : List Str) : Prop := NfsD K mg cs
theorem nfs_mk (X : K.In h) (hm : mg c = some (.ref C)) (h1 : PySem.W.notFirst K C (.type "NoneType") = true) (h2 : PySem.W.notFirst K C (.type "bool") = true) (h3 : PySem.W.notFirst K C (.type "int") = true) (h4 : PySem.W.notFirst K C (.type "str") = true)
    (h5 : PySem.W.notFirst K C (.type "list") = true) (h6 : PySem.W.notFirst K C (.type "tuple") = true) (h7 : PySem.W.notFirst K C (.type "dict") = true) : ∃ C, mg c = some (.ref C) ∧ ∀ T ∈ dataTys, PySem.W.notFirst K C (.type T) = true :=
  ⟨C, hm, fun T hT => by
    simp only [dataTys, List.mem_cons, List.not_mem_nil, or_false] at hT
    rcases hT with rfl | rfl | rfl | rfl | rfl | rfl | rfl <;> assumption⟩
end
section
variable {cs : List Str} {Mf : Nat → Md} {fa fb : M AV} {x y : AV} {ρ : En} {c : Str} {fs : List (Str × D)} {e : D}
@[simp] theorem eEqA_r : eEqA cs Mf fa fb ρ = (fa ρ).bind fun x ρ1 => (fb ρ1).bind fun y ρ2 => if pairD cs x y ρ2 = true then callA [false, false] 0 Mf ([x, y], []) ρ2 else .bad := rfl
theorem pairD_ins : pairD cs (.d (.ins c fs)) (.d e) ρ = (cs.contains c && (dataN e).isSome) := rfl
end
end PV
/-! a dict in a tuple of tuples: not there -/
namespace PV
open PySem PySem.Spec PyProof.Rows L2 VK
open MeetsSeq MeetsSeq2 MeetsSeq3 SeqRoads2 SeqAt
theorem tuple_eq_dict (l b : Addr) (items : Array Value) (n : Nat) (dd : Option Addr) (sl : Array (Option Value)) (dd2 : Option Addr) (da : Data) (sl2 : Array (Option Value)) :
    Meets (Builtin.«tuple.__eq__» ⟨[.ref l, .ref b], []⟩) (fun _ R s => s.heap.get? l = some { cls := .type "tuple", dict := dd, data := .seq items n, slots := sl } ∧ s.heap.get? b = some { cls := .type "dict", dict := dd2, data := da, slots := sl2 } ∧ R (.ok (.ret .notImplemented)) s) :=
  .of_wp fun prog w A R s h => by obtain ⟨hp, g, d, tk, os⟩ := s; obtain ⟨hl, hb, h⟩ := h; have f1 := F.sub_dict_tuple; wp_walk using wpAny_loadPart' hl, wpAny_loadPart' hb; exact ⟨_, rfl, h⟩
theorem dict_eq_tuple (b l : Addr) (items : Array Value) (n : Nat) (dd : Option Addr) (sl : Array (Option Value)) (dd2 : Option Addr) (da : Data) (sl2 : Array (Option Value)) :
    Meets (Builtin.«dict.__eq__» ⟨[.ref b, .ref l], []⟩) (fun _ R s => s.heap.get? l = some { cls := .type "tuple", dict := dd, data := .seq items n, slots := sl } ∧ s.heap.get? b = some { cls := .type "dict", dict := dd2, data := da, slots := sl2 } ∧ R (.ok (.ret .notImplemented)) s) :=
  .of_wp fun prog w A R s h => by obtain ⟨hp, g, d, tk, os⟩ := s; obtain ⟨hl, hb, h⟩ := h; have f1 := F.sub_tuple_dict; wp_walk using wpAny_loadPart' hl, wpAny_loadPart' hb; exact ⟨_, rfl, h⟩
section
variable {A : Around} {s : Shared}
theorem rc_tup_dic {l b : Addr} {items : Array Value} {ob : Obj} (hl : s.heap.IsTuple l items) (hb : s.heap.get? b = some ob) (hcb : ob.cls = .type "dict") (hu : A.units < cLine) : RcAt A s (.ref l) (.ref b) false ∧ l ≠ b := by
  obtain ⟨⟨cls, dd, data, sl⟩, ho, hc, n, hd⟩ := id hl
  obtain ⟨cls2, dd2, data2, sl2⟩ := ob
  simp only at hc hd hcb
  subst hc hd hcb
  have hne : l ≠ b := fun e => by
    subst e
    rw [ho] at hb
    have := congrArg (fun o : Option Obj => o.map (·.cls)) hb
    simp at this
  refine ⟨fun prog w E Q h => ?_, hne⟩
  exact (rc_eq_decline_or (k := false) ⟨_, ho, rfl⟩ ⟨_, hb, rfl⟩ (by decide) PySem.F.sub_dict_tuple PySem.F.slot_tuple_eq PySem.F.slot_dict_eq_refl
    (fun _ hq => call_meets PySem.F.slot_tuple_eq ⟨_, ho, rfl⟩ PySem.F.entry_tuple_eq (PySem.F.args_tuple_eq_2 _ _) (tuple_eq_dict l b items n dd sl dd2 data2 sl2) ⟨ho, hb, hq⟩)
    (fun _ hq => call_meets PySem.F.slot_dict_eq_refl ⟨_, hb, rfl⟩ PySem.F.entry_dict_eq (PySem.F.args_dict_eq_2 _ _) (dict_eq_tuple b l items n dd sl dd2 data2 sl2) ⟨ho, hb, hq⟩)
    (fun _ hq => wpAny_isSame_ref_other' hne ho hb (by simp) hq) (.inr hu) h)
theorem eq_tup_dic {l b : Addr} {items : Array Value} {ob : Obj} (hl : s.heap.IsTuple l items) (hb : s.heap.get? b = some ob) (hcb : ob.cls = .type "dict") (hu : A.units < cLine) : EqAt A s (.ref l) (.ref b) false :=
  .of_refs (rc_tup_dic hl hb hcb hu).2 (rc_tup_dic hl hb hcb hu).1
end
/-- all of them are tuples -/
def tups : List D → Bool
  | [] => true
  | .tup _ :: r => tups r
  | _ :: _ => false
/-- in, also where a dict is asked for in a tuple of tuples -/
def gInX : G2
  | .dic _, .tup xs => if tups xs = true then some (.bl false) else none
  | d, e => gIn d e
def rInX (K : PySem.W.Frag) : R2 := fun x y H Q => rInQ K false x y H Q ∨ ∃ a b kvs vs, x = .ref a ∧ y = .ref b ∧ H a = some (.dK kvs) ∧ SqT K H b vs ∧ (∀ v ∈ vs, ∃ p us, v = .ref p ∧ SqT K H p us) ∧ Q (.bl false) H
section
variable {K : PySem.W.Frag} {mg : Str → Option Value}
theorem tups_R {F H : Hp} (s : Same F H) : ∀ {vs : List V} {xs : List D}, RL K mg F vs xs → tups xs = true → ∀ v ∈ vs, ∃ p us, v = .ref p ∧ SqT K H p us
  | _, _, .nil, _ => fun _ h => nomatch h
  | _, x :: _, .cons r rs, q => fun v hv => by
    cases x <;> first | cases q | skip
    rcases List.mem_cons.mp hv with rfl | hv
    · cases r with
      | tup h1 _ => exact ⟨_, _, rfl, same_seqT s h1⟩
    · exact tups_R s rs q v hv
theorem ok_inX : OkA K mg (rInX K) gInX := by
  intro F H v w d e z Q s hv hw hg q
  have gen : gIn d e = some z → rInX K v w H Q := fun h => .inl (ok_in s hv hw h q)
  cases d <;> try exact gen hg
  cases e <;> try exact gen hg
  rename_i es xs
  simp only [gInX] at hg
  by_cases c : tups xs = true
  · rw [if_pos c] at hg
    cases hg
    obtain ⟨b, vs, rfl, h1, h2⟩ := hw.tup
    refine .inr ?_
    rcases hv with h | ⟨a, rfl, _, kvs, g1, g2⟩
    · cases h with
      | dic h3 h4 => exact ⟨_, b, _, vs, rfl, rfl, s _ _ h3, same_seqT s h1, tups_R s h2 c, okQ s q (.bl _)⟩
    · exact ⟨a, b, kvs, vs, rfl, rfl, g1, same_seqT s h1, tups_R s h2 c, okQ s q (.bl _)⟩
  · rw [if_neg c] at hg
    cases hg
end
theorem op_inX {X : Cx} (hu : X.A.units + 64 < cLine) : OpR X (compareOp .In) (rInX X.K) := by
  intro pins s σ H x y v u Q I rx ry h
  rcases h with h | ⟨a, b, kvs, vs, rfl, rfl, h1, h2, h3, q⟩
  · exact op_inQ hu pins s σ H x y v u Q I rx ry h
  · obtain rfl : v = Value.ref a := rx
    obtain rfl : u = Value.ref b := ry
    obtain ⟨its, rv, pl, _⟩ := I.tuple h2
    obtain ⟨_, _, _, _, o, es, ep, e1, e2, _⟩ := I.hok _ _ h1
    refine SeqAt.in_tupleAt (fun _ => false) pl (fun y hy => ?_) ?_
    · have hy : y ∈ its := by simpa using hy
      obtain ⟨i, hi, rfl⟩ := List.getElem_of_mem hy
      have hl := rv.length
      obtain ⟨p, us, e3, h4⟩ := h3 (vs[i]'(by omega)) (List.getElem_mem _)
      obtain ⟨w, hw, rw_⟩ := rv.get (i := i) (x := vs[i]'(by omega)) (List.getElem?_eq_getElem _)
      rw [List.getElem?_eq_getElem hi] at hw
      cases hw
      rw [e3] at rw_
      have rw_ : its[i] = Value.ref p := rw_
      rw [rw_]
      obtain ⟨_, _, pl2, _⟩ := I.tuple h4
      exact eq_tup_dic pl2 e1 e2.1 (by show X.A.units + 1 < cLine; omega)
    · rw [show its.toArray.any (fun _ => false) = false by simp]
      exact ⟨.bl false, H, I, rfl, q⟩
section
@[simp] theorem gInX_dic {es : List (D × D)} {xs : List D} : gInX (.dic es) (.tup xs) = if tups xs = true then some (.bl false) else none := rfl
theorem gInX_gen {d : D} {xs : List D} (h : ∀ es, d ≠ .dic es) : gInX d (.tup xs) = gIn d (.tup xs) := by
  cases d <;> first | rfl | exact (h _ rfl).elim
end
end PV
/-! xs[::-1], xs a list or a tuple -/
namespace PV
open PySem PySem.Spec PyProof.Rows L2 VK
def tRevA (K : PySem.W.Frag) (te : TE) : TE := fun σ H Q => te σ H fun x H1 => ∃ a xs, x = .ref a ∧ ((SqT K H1 a xs ∧ ∀ p, H1 p = none → Q (.ref p) (upd H1 p (.tup xs.reverse))) ∨ (SqL K H1 a xs ∧ ∀ p, H1 p = none → Q (.ref p) (upd H1 p (.lst xs.reverse))))
theorem pe_revA {X : Cx} {e : Expr} {te : TE} {k : Nat} {p1 p2 p3 pos : Pos} (he : PE X e te) : PE X (.Subscript e (.Slice none none (some (.UnaryOp .USub (.Constant (.int 1) k p1) p2)) p3) pos) (tRevA X.K te) := by
  refine ⟨fun pins s σ H Q I h => ?_⟩
  refine Subscript_ (thn (he.run pins s σ H _ I h) fun v s1 ⟨x, H1, I1, r1, q1⟩ => ?_)
  obtain ⟨a, xs, ex, q⟩ := q1
  subst ex
  cases r1
  have hst : PO X (some (.UnaryOp .USub (.Constant (.int 1) k p1) p2)) (tPart (tUn (rU fun i => .int (-i)) (tC (.int 1)))) := po_some (pe_un un_neg pe_int)
  refine wpAny_Slice (thn (po_none.run pins s1 σ H1 (fun o H2 => o = none ∧ H2 = H1) I1 ⟨rfl, rfl⟩) fun vl s2 ⟨l, H2, I2, pl, el, e2⟩ => ?_)
  subst el e2
  refine thn (po_none.run pins s2 σ H2 (fun o H3 => o = none ∧ H3 = H2) I2 ⟨rfl, rfl⟩) fun vu s3 ⟨u, H3, I3, pu, eu, e3⟩ => ?_
  subst eu e3
  refine thn (hst.run pins s3 σ H3 (fun o H4 => o = some (-1) ∧ H4 = H3) I3 ⟨1, rfl, -1, rfl, rfl, rfl⟩) fun vs s4 ⟨o, H4, I4, ps, eo, e4⟩ => ?_
  subst eo e4
  have I5 : Inv X pins σ H4 { s4 with heap := s4.heap.push { cls := .type "slice", data := .fields #[vl, vu, vs] } } := I4.kept (t' := s4.toks) fun b ob q => Heap.get?_push_of_some _ q
  show wpAny (model X.prog X.w) X.A (subscriptTail e (.Slice none none (some (.UnaryOp .USub (.Constant (.int 1) k p1) p2)) p3) (.ref a) (.ref s4.heap.objs.size)) (EP X pins σ Q) X.xe { s4 with heap := s4.heap.push { cls := .type "slice", data := .fields #[vl, vu, vs] } }
  rcases q with ⟨hx, q⟩ | ⟨hx, q⟩
  · obtain ⟨its, r, ht, hz⟩ := I5.tuple hx
    have hlen := r.length
    refine tail_any (ops := [.ref a, .ref s4.heap.objs.size]) ht.typeIs (PyProof.Rows.slot_tuple_getitem.lookup) ?_ (by with_unfolding_all rfl)
    refine HT.getItem_tuple_rev ht (Heap.IsSliceOf.new _ vl vu vs) pl pu ps ?_ (by rw [List.size_toArray]; omega)
    refine ⟨.ref _, _, I5.laid (t' := s4.toks) (o := .tup xs.reverse) (fun b ob q => Heap.get?_push_of_some _ q) (Nat.le_refl _) ?_, rfl, q _ (I5.hok.fresh (Nat.le_refl _))⟩
    exact ⟨by rw [List.length_reverse]; exact hz, its.reverse, r.reverse, ⟨_, Heap.get?_push_size _ rfl, rfl, 0, by simp⟩⟩
  · obtain ⟨its, r, ht, hz⟩ := I5.list hx
    have hlen := r.length
    refine tail_any (ops := [.ref a, .ref s4.heap.objs.size]) ht.isList.typeIs slot_list_getitem.lookup ?_ (by with_unfolding_all rfl)
    refine wpAny_getItem_list_slice ht.isList (Heap.IsSliceOf.new _ vl vu vs) pl pu ps (by decide) ?_ (by rw [List.size_toArray]; omega)
    rw [PySem.W.krv_pick]
    refine ⟨.ref _, _, I5.laid (t' := s4.toks) (o := .lst xs.reverse) (fun b ob q => Heap.get?_push_of_some _ q) (Nat.le_refl _) ?_, rfl, q _ (I5.hok.fresh (Nat.le_refl _))⟩
    exact ⟨by rw [List.length_reverse]; exact hz, its.reverse, 0, r.reverse, Heap.get?_push_size _ rfl⟩
def gRevA : D → Option D
  | .tup xs => some (.tup xs.reverse)
  | .lst xs => some (.lst xs.reverse)
  | _ => none
theorem ok_revA {K : PySem.W.Frag} {mg : Str → Option Value} : OkU K mg (fun x H Q => ∃ a xs, x = .ref a ∧ ((SqT K H a xs ∧ ∀ p, H p = none → Q (.ref p) (upd H p (.tup xs.reverse))) ∨ (SqL K H a xs ∧ ∀ p, H p = none → Q (.ref p) (upd H p (.lst xs.reverse))))) gRevA := by
  intro F H v d z Q s hv hg q
  cases d <;> simp only [gRevA] at hg <;> try (cases hg; done)
  · cases hg
    obtain ⟨a, vs, rfl, h1, h2⟩ := hv.lst s
    exact ⟨a, vs, rfl, .inr ⟨.inl (.inl h1), fun p np => okN s q np (.lst upd_same (h2.rev.mono (same_new (s.free np))))⟩⟩
  · cases hg
    obtain ⟨a, vs, rfl, h1, h2⟩ := hv.tup
    exact ⟨a, vs, rfl, .inl ⟨same_seqT s h1, fun p np => okN s q np (.tup (.inl (.inl upd_same)) (h2.rev.mono (same_new (s.free np))))⟩⟩
theorem ev_revA {X : Cx} {Z : Zone} {W : WX} {e : Expr} {fa : M AV} {pos : Pos} {k : Nat} {p1 p2 p3 : Pos} (h : PV X Z W e fa) : PV X Z W (.Subscript e (.Slice none none (some (.UnaryOp .USub (.Constant (.int 1) k p1) p2)) p3) pos) (eUn gRevA fa) := PE.weak (pe_revA h) (un_le ok_revA)
section
@[simp] theorem gRevA_tup {xs : List D} : gRevA (.tup xs) = some (.tup xs.reverse) := rfl
@[simp] theorem gRevA_lst {xs : List D} : gRevA (.lst xs) = some (.lst xs.reverse) := rfl
end
end PV
/-! a, b = e, f: two new objects -/
namespace PV
open PySem PySem.Spec PyProof.Rows L2 VK
def sParN (i j : Nat) (f g : M D) : M Fl := fun ρ => (f ρ).bind fun d ρ1 => (g ρ1).bind fun e ρ2 => .val .nx ((ρ2.set i (.own d)).set j (.own e))
section
variable {X : Cx} {Z : Zone} {W : WX} {i j : Nat} {x y : Str} {a b : Expr} {f g : M D} {px py pt pos : Pos} {kt k2 : Nat} {pt2 : Pos}
theorem cs_parN (hc : X.calm = true) (hN : X.N.Nodup) (hi : X.N[i]? = some x) (hj : X.N[j]? = some y) (hij : i ≠ j) (hx : X.env.scope.names.lookup x = some .local) (hy : X.env.scope.names.lookup y = some .local) (ha : PN X Z W a f) (hb : PN X Z W b g)
    (hw : swappedStores [.Tuple [.Name x px, .Name y py] kt pt] (.Tuple [a, b] k2 pt2) X.env = pure (some [x, y])) (hs1 : starEach (a :: [b]) X.env = (false, eval a X.env) :: starEach [b] X.env := by rfl) (hs2 : starEach (b :: []) X.env = (false, eval b X.env) :: starEach [] X.env := by rfl)
    (hs : swapsWithSole [.Tuple [.Name x px, .Name y py] kt pt] (.Tuple [a, b] k2 pt2) pos.line X.env = pure false := by rfl) :
    PC1 X Z W (.Assign [.Tuple [.Name x px, .Name y py] kt pt] (.Tuple [a, b] k2 pt2) pos) (sParN i j f g) := by
  refine PS.weak (ps_par hc hN hi hj hij hx hy (pa_cons ha (pa_cons hb pa_nil hs2) hs1) hw hs) fun D σ H ⟨ρ, F, r, q⟩ => ?_
  refine ⟨ρ, F, r, (PostS.bind q).imp fun d H1 ρ1 F1 g1 q1 p np h0 fp cp ne => ?_⟩
  refine ⟨ρ1, F1, g1.rel, (PostS.bind q1).imp fun e H2 ρ2 F2 g2 q2 p2 np2 h02 fp2 cp2 ne2 => ?_⟩
  obtain ⟨o, ho⟩ := cp.ex
  have hk : H2 p = some o := g2.keep p o ne ho
  have fp' : F2 p = none := by
    cases q : F2 p with
    | none => rfl
    | some u =>
      rcases g2.nw p (by rw [q]; intro z; cases z) with z | z | ⟨j, e, z1, z2⟩
      · exact (z fp).elim
      · rw [ho] at z
        cases z
      · exact (ne j e z1 z2).elim
  have cp' : Ct X.K X.mg F2 H2 p d := cp.mono g2.fr (hk.trans ho.symm)
  have npp : p ≠ p2 := fun z => by
    rw [← z, ho] at np2
    cases np2
  have ne' : ∀ j e, (ρ2.at j).mu = some e → σ[j]? ≠ some (some (V.ref p)) := fun j e z => by
    obtain ⟨e', z'⟩ := g2.sub j e z
    exact ne j e' z'
  refine ⟨_, _, rfl, q2.val_ ((g2.rel.putOwn h0 fp' cp' ne').putOwn h02 fp2 cp2 fun k u hk2 => ?_)⟩
  by_cases z : i = k
  · subst z
    have : i < σ.length := by
      have := g2.rel.len
      have h2 := En.at_lt (ρ := ρ2.set i (.own d)) (i := i) (by intro z; rw [z] at hk2; cases hk2)
      rw [List.length_set] at h2
      omega
    rw [List.getElem?_set_self this]
    intro z
    cases z
    exact npp rfl
  · rw [List.getElem?_set_ne z]
    rw [En.at_ne z] at hk2
    exact ne2 k u hk2
theorem cs_parU (hc : X.calm = true) (hN : X.N.Nodup) (hi : X.N[i]? = some x) (hj : X.N[j]? = some y) (hx : PG X (.Name x px) (gName i)) (hy : PG X (.Name y py) (gName j)) (ha : PN X Z W a f) (hb : PN X Z W b g)
    (hw : swappedStores [.Tuple [.Name x px, .Name y py] kt pt] (.Tuple [a, b] k2 pt2) X.env = pure none) (hs1 : starEach (a :: [b]) X.env = (false, eval a X.env) :: starEach [b] X.env := by rfl) (hs2 : starEach (b :: []) X.env = (false, eval b X.env) :: starEach [] X.env := by rfl)
    (hs : swapsWithSole [.Tuple [.Name x px, .Name y py] kt pt] (.Tuple [a, b] k2 pt2) pos.line X.env = pure false := by rfl)
    (h1 : (assignEach [.Tuple [.Name x px, .Name y py] kt pt] X.env).map (·.2) = [assign (.Tuple [.Name x px, .Name y py] kt pt) X.env] := by rfl)
    (hn : (assignEach [.Name x px, .Name y py] X.env).length = 2 := by rfl) (hst : (assignEach [.Name x px, .Name y py] X.env).findIdx? (·.1) = none := by rfl)
    (hq1 : (assignEach (.Name x px :: [.Name y py]) X.env).map (·.2) = assign (.Name x px) X.env :: (assignEach [.Name y py] X.env).map (·.2) := by rfl)
    (hq2 : (assignEach (.Name y py :: []) X.env).map (·.2) = assign (.Name y py) X.env :: (assignEach [] X.env).map (·.2) := by rfl) :
    PC1 X Z W (.Assign [.Tuple [.Name x px, .Name y py] kt pt] (.Tuple [a, b] k2 pt2) pos) (sParN i j f g) := by
  refine PS.weak (ps_asg (pe_tup (pa_cons ha (pa_cons hb pa_nil hs2) hs1)) (pg_tup hc (pgs_cons hx (pgs_cons hy pgs_nil hq2) hq1) hn hst) hs hw h1) fun D σ H ⟨ρ, F, r, q⟩ => ?_
  refine ⟨ρ, F, r, (PostS.bind q).imp fun d H1 ρ1 F1 g1 q1 p np h0 fp cp ne => ?_⟩
  refine ⟨ρ1, F1, g1.rel, (PostS.bind q1).imp fun e H2 ρ2 F2 g2 q2 p2 np2 h02 fp2 cp2 ne2 => ?_⟩
  obtain ⟨o, ho⟩ := cp.ex
  have hk : H2 p = some o := g2.keep p o ne ho
  have fp' : F2 p = none := by
    cases q : F2 p with
    | none => rfl
    | some u =>
      rcases g2.nw p (by rw [q]; intro z; cases z) with z | z | ⟨j, e, z1, z2⟩
      · exact (z fp).elim
      · rw [ho] at z
        cases z
      · exact (ne j e z1 z2).elim
  have cp' : Ct X.K X.mg F2 H2 p d := cp.mono g2.fr (hk.trans ho.symm)
  have npp : p ≠ p2 := fun z => by
    rw [← z, ho] at np2
    cases np2
  have ne' : ∀ j e, (ρ2.at j).mu = some e → σ[j]? ≠ some (some (V.ref p)) := fun j e z => by
    obtain ⟨e', z'⟩ := g2.sub j e z
    exact ne j e' z'
  obtain ⟨o2, ho2⟩ := cp2.ex
  refine ⟨small_r (by simp), fun t nt => ⟨t, _, rfl, .inl (.inl upd_same), rfl, _, _, rfl, _, _, rfl, rfl, ?_⟩⟩
  have tp : p ≠ t := fun z => by
    rw [z, nt] at hk
    cases hk
  have tp2 : p2 ≠ t := fun z => by
    rw [z, nt] at ho2
    cases ho2
  have r3 : Rel X.K X.mg Z σ (upd H2 t (.tup [V.ref p, V.ref p2])) ρ2 F2 := g2.rel.keep (same_new nt)
  have c1 : Ct X.K X.mg F2 (upd H2 t (.tup [V.ref p, V.ref p2])) p d := cp'.mono (Same.refl _) (upd_ne tp)
  have c2 : Ct X.K X.mg F2 (upd H2 t (.tup [V.ref p, V.ref p2])) p2 e := cp2.mono (Same.refl _) (upd_ne tp2)
  refine q2.val_ ((r3.putOwn h0 fp' c1 ne').putOwn h02 fp2 c2 fun k u hk2 => ?_)
  by_cases z : i = k
  · subst z
    have : i < σ.length := by
      have := g2.rel.len
      have h2 := En.at_lt (ρ := ρ2.set i (.own d)) (i := i) (by intro z; rw [z] at hk2; cases hk2)
      rw [List.length_set] at h2
      omega
    rw [List.getElem?_set_self this]
    intro z
    cases z
    exact npp rfl
  · rw [List.getElem?_set_ne z]
    rw [En.at_ne z] at hk2
    exact ne2 k u hk2
end
section
variable {i j : Nat} {ρ : En} {f g : M D}
@[simp] theorem sParN_r : sParN i j f g ρ = (f ρ).bind fun d ρ1 => (g ρ1).bind fun e ρ2 => .val .nx ((ρ2.set i (.own d)).set j (.own e)) := rfl
end
end PV
namespace VK
open PySem PySem.Spec PyProof.Rows L2
/-! ### set(xs) of a list of numbers, with what its order rests on -/
abbrev eS (w : World) : Obj := { cls := .type "set", dict := none, data := .set #[] 0 (.fresh 0 0 (!w.params.followText "set-order")) }
section
variable {P : Program} {w : World} {A : Around} {E Q : Value → Shared → Prop} {s : Shared} {l : Addr} {us : Array Value}
/-- what the new set leaves -/
def SetMade (w : World) (ns : List Int) (s s2 : Shared) : Prop := ∃ h2 tk c, s2 = { s with heap := h2, toks := tk } ∧ SetR w h2 s.heap.objs.size (fun j => decide (j ∈ ns)) c ∧ c ≤ ns.length ∧ ∀ b o, s.heap.get? b = some o → h2.get? b = some o
theorem set_of_list (ns : List Int) (hh : A.handled = none) (hl : s.heap.IsList l us) (hit : IntsAre us.toList ns) (hb : ns.length + 1 < scanBound)
    (fin : ∀ s2, SetMade w ns s s2 → Q (.ref s.heap.objs.size) s2) : wpAny (model P w) A (call (.type "set") [.ref l]) Q E s := by
  have len : us.size = ns.length := (Array.length_toList (xs := us)).symm.trans (IntsAre.length hit)
  obtain ⟨c0, tl, mro⟩ := F.called_set.mro
  have made := F.called_set.made
  have sub := F.called_set.sub
  refine wpAny_call (codeAny_of_tree (show wpAny _ _ (callAny (.type "set") _) _ _ _ from ?_))
  refine wpAny_pure ⟨Code.quiet_builtin _ (by decide +kernel), codeAny_builtin F.entry_type_call ?_⟩
  rw [Around.under_plain (weight_type_call_type "set" [.ref l] []) rfl]
  have q1 := F.called_set.notType
  have q2 := F.called_set.canCreate
  have q3 := F.typeCall_set_1 (.ref l)
  (repeat any_goals first | assumption | wp_step)
  refine codeAny_mono (code_set_led1 (.ref l) (E := E) (Q₁ := fun a t => a = .ref s.heap.objs.size ∧ t = { s with heap := s.heap.push (eS w) }) ⟨rfl, rfl⟩) fun r t hr => ?_
  match r, hr with
  | .error e, hr => exact hr
  | .ok .next, hr => exact hr.elim
  | .ok .brk, hr => exact hr.elim
  | .ok .cont, hr => exact hr.elim
  | .ok (.ret a), ⟨ea, et⟩ =>
    subst ea et
    have gS : (s.heap.push (eS w)).get? s.heap.objs.size = some (eS w) := Heap.get?_push_size _ rfl
    have tS : Shared.TypeIs { s with heap := s.heap.push (eS w) } (.ref s.heap.objs.size) "set" := ⟨_, gS, rfl⟩
    have i1 := F.called_set.init.lookup
    have i2 := F.called_set.init.bind (.ref s.heap.objs.size)
    (repeat any_goals first | assumption | wp_step)
    refine codeAny_mono (codeAny_call_builtin (R := wants (fun r t => r = .none ∧ SetMade w ns s t) E) F.called_set.init.plain F.entry_set_init (check_set_init_1 tS ?_)) fun r2 t2 hr2 => ?_
    · obtain ⟨⟨oc, od, dt, os⟩, hol, hcl, nl, hdl⟩ := hl
      cases (show oc = Value.type "list" from hcl)
      cases (show dt = Data.seq us nl from hdl)
      have hol2 : (s.heap.push (eS w)).get? l = some _ := Heap.get?_push_of_some _ hol
      have b1 := F.sub_list_set
      have b2 := F.sub_list_frozenset
      have b3 : (Value.type "list" == Value.type "dict") = false := by decide
      have isL : (s.heap.push (eS w)).IsList l us := ⟨_, hol2, rfl, nl, rfl⟩
      unfold Builtin.«set.__init__» noKeywords Builtin.Frozenset.updateFrom
      generalize hit0 : pyIter = PI
      wp_walk
      subst hit0
      refine wpAny_pyIter_list isL (wpAny_bind (wpAny_runValue ?_))
      have lS : l < s.heap.objs.size := Heap.lt_size hol
      have sz : (s.heap.push (eS w)).objs.size = s.heap.objs.size + 1 := Heap.size_push ..
      have nI : l ≠ (s.heap.push (eS w)).objs.size := Nat.ne_of_lt (sz ▸ Nat.lt_succ_of_lt lS)
      have nS : s.heap.objs.size ∉ [(s.heap.push (eS w)).objs.size, l] := fun m => by
        rcases List.mem_cons.mp m with e | m
        · omega
        · exact absurd (List.mem_singleton.mp m) (Nat.ne_of_gt lS)
      have numb : ∀ (i : Nat) (v : Value), us[i]? = some v → ∃ k t, ns[i]? = some k ∧ v = .int k t := fun i v hv => by
        have hi : i < ns.length := len ▸ (Array.getElem?_eq_some_iff.mp hv).1
        obtain ⟨t, e⟩ := IntsAre.int_at hit i v ((Array.getElem?_toList (xs := us)).trans hv)
        exact ⟨_, t, List.getElem?_eq_getElem hi, by rw [e, List.getD_eq_getElem?_getD, List.getElem?_eq_getElem hi]; rfl⟩
      refine set_update_ints ((Walks.list (show A.in1.in1.in1.handled = none by simp [hh]) _ l nI us).toS) _ nS ns len hb numb (us.size - 0) 0 _ (by omega) (Nat.zero_le _)
        ⟨⟨_, Heap.get?_push_size _ rfl, rfl, rfl⟩, isL.push _⟩ ⟨0, Nat.le_refl 0, setR_new_at (Heap.get?_push_of_some _ gS)⟩ fun s3 c3 mv hc hS => ?_
      obtain ⟨h4, g4, d4, k4, o4⟩ := s3
      cases (show g4 = s.gens from mv.gens)
      cases (show d4 = s.drawn from mv.drawn)
      cases (show o4 = s.os from mv.os)
      refine (show wpAny _ _ _ _ _ _ from wpAny_pure (show wpAny _ _ (ret Value.none) _ _ _ from wpAny_pure ⟨rfl, h4, k4, c3, rfl, hS, len ▸ hc, fun b o e => ?_⟩))
      have lb := Heap.lt_size e
      refine mv.heap b o (fun m => ?_) (Heap.get?_push_of_some _ (Heap.get?_push_of_some _ e))
      rcases List.mem_cons.mp m with z | m
      · exact absurd z (Nat.ne_of_lt lb)
      · exact absurd (List.mem_singleton.mp m) (Nat.ne_of_lt (sz ▸ Nat.lt_succ_of_lt lb))
    · match r2, hr2 with
      | .error e, hr2 => exact hr2
      | .ok .next, hr2 => exact hr2.elim
      | .ok .brk, hr2 => exact hr2.elim
      | .ok .cont, hr2 => exact hr2.elim
      | .ok (.ret x), ⟨ex, made2⟩ =>
        subst ex
        obtain ⟨h2, tk, c, rfl, m1, m2, m3⟩ := made2
        (repeat any_goals first | assumption | wp_step)
        exact fin _ ⟨h2, tk, c, rfl, m1, m2, m3⟩
end
section
variable {X : Cx}
theorem setR_cnt {w : World} {h : Heap} {a : Addr} {ns : List Int} {n : Nat} (R : SetR w h a (fun j => decide (j ∈ ns)) n) : ∃ L : List Int, L.Nodup ∧ (∀ k, k ∈ L ↔ k ∈ ns) ∧ L.length = n := by
  obtain ⟨o, es, ep, t, _, _, _, _, nd, hm, _, _, hn, _⟩ := R
  exact ⟨_, nd, fun k => (hm k).symm.trans decide_eq_true_iff, by rw [List.length_map, Array.length_toList, hn]⟩
/-- set(xs), xs a list of numbers: n of them differ -/
def rSetL (K : PySem.W.Frag) (w : World) : List V → Hp → VK → Prop := fun vs H Q => ∃ (a : Addr) (ns : List Int), vs = [V.ref a] ∧ SqL K H a (ns.map V.int) ∧ ns.length ≤ 1000 ∧
  ∀ (p : Addr) (n : Nat), H p = none → (∃ L : List Int, L.Nodup ∧ (∀ k, k ∈ L ↔ k ∈ ns) ∧ L.length = n) → Q (.ref p) (upd H p (SetO w p (fun j => decide (j ∈ ns)) n))
theorem cr_setL (hc : X.calm = true) : CallR X (.type "set") (rSetL X.K X.w) := by
  intro pins s σ H vs us Q I r h
  obtain ⟨a, ns, rfl, hq, hl, q⟩ := h
  obtain ⟨u, rfl, ru⟩ := vals1 r
  cases ru
  obtain ⟨its, rv, pl, hz⟩ := I.list hq
  refine set_of_list ns (I.ok.hd hc) pl.isList (show IntsAre its.toArray.toList ns from ints_of_vals rv) (by unfold scanBound; omega) fun s2 hm => ?_
  obtain ⟨h2, tk, c, rfl, R, hc2, keep⟩ := hm
  exact ⟨.ref _, upd H s.heap.objs.size (SetO X.w s.heap.objs.size (fun j => decide (j ∈ ns)) c), I.laid (t' := tk) keep (Nat.le_refl _) (setO_new R), rfl, q _ c (I.hok.fresh (Nat.le_refl _)) (setR_cnt R)⟩
/-- set(t), t a tuple of numbers -/
def rSetT (K : PySem.W.Frag) (w : World) : List V → Hp → VK → Prop := fun vs H Q => ∃ (a : Addr) (ns : List Int), vs = [V.ref a] ∧ SqT K H a (ns.map V.int) ∧ ns.length ≤ 1000 ∧
  ∀ (p : Addr) (n : Nat), H p = none → (∃ L : List Int, L.Nodup ∧ (∀ k, k ∈ L ↔ k ∈ ns) ∧ L.length = n) → Q (.ref p) (upd H p (SetO w p (fun j => decide (j ∈ ns)) n))
theorem cr_setT (hc : X.calm = true) : CallR X (.type "set") (rSetT X.K X.w) := by
  intro pins s σ H vs us Q I r h
  obtain ⟨a, ns, rfl, hq, hl, q⟩ := h
  obtain ⟨u, rfl, ru⟩ := vals1 r
  cases ru
  obtain ⟨its, rv, pl, hz⟩ := I.tuple hq
  refine call_set_tupI ns (I.ok.hd hc) (show s.heap.IsTuple a its.toArray from pl) (show IntsAre its.toArray.toList ns from ints_of_vals rv) (by unfold scanBound; omega) fun h2 tk c R hc2 keep => ?_
  exact ⟨.ref _, upd H s.heap.objs.size (SetO X.w s.heap.objs.size (fun j => decide (j ∈ ns)) c), I.laid (t' := tk) keep (Nat.le_refl _) (setO_new R), rfl, q _ c (I.hok.fresh (Nat.le_refl _)) (setR_cnt R)⟩
end
end VK
/-! sorted(set(xs)), xs numbers; tuple(range(n)) -/
namespace PV
open PySem PySem.Spec PyProof.Rows L2 VK
/-! ### rising lists -/
def insU (k : Int) : List Int → List Int
  | [] => [k]
  | x :: r => if k < x then k :: x :: r else if k = x then x :: r else x :: insU k r
def usort : List Int → List Int
  | [] => []
  | k :: r => insU k (usort r)
theorem mem_insU {k j : Int} : ∀ {l : List Int}, j ∈ insU k l ↔ j = k ∨ j ∈ l
  | [] => by simp [insU]
  | x :: r => by
    unfold insU
    split
    · simp
    · split
      · rename_i h
        subst h
        simp
      · rw [List.mem_cons, mem_insU, List.mem_cons]
        constructor
        · rintro (h | h | h)
          · exact .inr (.inl h)
          · exact .inl h
          · exact .inr (.inr h)
        · rintro (h | h | h)
          · exact .inr (.inl h)
          · exact .inl h
          · exact .inr (.inr h)
theorem rise_insU {k : Int} : ∀ {l : List Int}, l.Pairwise (· < ·) → (insU k l).Pairwise (· < ·)
  | [], _ => by simp [insU]
  | x :: r, h => by
    obtain ⟨h1, h2⟩ := List.pairwise_cons.mp h
    unfold insU
    split
    · refine List.pairwise_cons.mpr ⟨fun y hy => ?_, h⟩
      rcases List.mem_cons.mp hy with rfl | hy
      · assumption
      · have := h1 y hy
        omega
    · split
      · exact h
      · refine List.pairwise_cons.mpr ⟨fun y hy => ?_, rise_insU h2⟩
        rcases mem_insU.mp hy with rfl | hy
        · omega
        · exact h1 y hy
theorem mem_usort {j : Int} : ∀ {l : List Int}, j ∈ usort l ↔ j ∈ l
  | [] => by simp [usort]
  | k :: r => by rw [usort, mem_insU, mem_usort, List.mem_cons]
theorem rise_usort : ∀ {l : List Int}, (usort l).Pairwise (· < ·)
  | [] => .nil
  | k :: r => rise_insU rise_usort
theorem rise_same : ∀ {xs ys : List Int}, xs.Pairwise (· < ·) → ys.Pairwise (· < ·) → (∀ k, k ∈ xs ↔ k ∈ ys) → xs = ys
  | [], [], _, _, _ => rfl
  | [], y :: ys, _, _, h => nomatch (h y).mpr List.mem_cons_self
  | x :: xs, [], _, _, h => nomatch (h x).mp List.mem_cons_self
  | x :: xs, y :: ys, hx, hy, h => by
    obtain ⟨hx1, hx2⟩ := List.pairwise_cons.mp hx
    obtain ⟨hy1, hy2⟩ := List.pairwise_cons.mp hy
    have e : x = y := by
      rcases List.mem_cons.mp ((h x).mp List.mem_cons_self) with e | m
      · exact e
      · rcases List.mem_cons.mp ((h y).mpr List.mem_cons_self) with e | m2
        · exact e.symm
        · have a := hy1 x m
          have b := hx1 y m2
          omega
    subst e
    rw [rise_same hx2 hy2 fun k => ⟨fun m => ?_, fun m => ?_⟩]
    · rcases List.mem_cons.mp ((h k).mp (List.mem_cons_of_mem _ m)) with e | m2
      · have := hx1 k m
        omega
      · exact m2
    · rcases List.mem_cons.mp ((h k).mpr (List.mem_cons_of_mem _ m)) with e | m2
      · have := hy1 k m
        omega
      · exact m2
theorem rise_nodup {L : List Int} (h : L.Pairwise (· < ·)) : L.Nodup := h.imp fun {a b} hab => by omega
/-- lists without doubles, of the same members, are as long -/
theorem nodup_len : ∀ {L M : List Int}, L.Nodup → (∀ k ∈ L, k ∈ M) → L.length ≤ M.length
  | [], _, _, _ => Nat.zero_le _
  | x :: L, M, h, s => by
    obtain ⟨h1, h2⟩ := List.nodup_cons.mp h
    have hx := s x List.mem_cons_self
    have : L.length ≤ (M.erase x).length := nodup_len h2 fun k hk => by
      have hkx : k ≠ x := fun z => h1 (z ▸ hk)
      exact (List.mem_erase_of_ne hkx).mpr (s k (List.mem_cons_of_mem _ hk))
    rw [List.length_erase_of_mem hx] at this
    have : 0 < M.length := List.length_pos_of_mem hx
    rw [List.length_cons]
    omega
/-! ### numbers among values -/
def numI : List D → Option (List Int)
  | [] => some []
  | .int i :: r => (numI r).map (i :: ·)
  | _ :: _ => none
theorem numI_eq : ∀ {ds : List D} {ns : List Int}, numI ds = some ns → ds = ns.map D.int
  | [], ns, h => by cases h; rfl
  | d :: r, ns, h => by
    cases d <;> try (cases h; done)
    rename_i i
    simp only [numI] at h
    cases q : numI r with
    | none =>
      rw [q] at h
      cases h
    | some m =>
      rw [q] at h
      cases h
      rw [numI_eq q]
      rfl
theorem numI_ints : ∀ {ns : List Int}, numI (ns.map D.int) = some ns
  | [] => rfl
  | i :: r => by
    show (numI (r.map D.int)).map (i :: ·) = _
    rw [numI_ints]
    rfl
theorem RL.intsV {K : PySem.W.Frag} {mg : Str → Option Value} {G : Hp} : ∀ {ns : List Int} {vs : List V}, RL K mg G vs (ns.map D.int) → vs = ns.map V.int
  | [], _, .nil => rfl
  | i :: r, _, .cons h t => by
    cases h
    rw [RL.intsV t]
    rfl
/-- sorted(set(xs)) -/
def ssL (ns : List Int) : Option (List D) := if ns.length ≤ 1000 ∧ (usort ns).length < 64 then some ((usort ns).map D.int) else none
def gSS : GN
  | [.lst ds] => (numI ds).bind ssL
  | [.tup ds] => (numI ds).bind ssL
  | _ => none
section
variable {X : Cx} {Z : Zone} {W : WX} {e : Expr} {fs : M (List AV)} {p1 p2 pos2 pos : Pos}
def rSetX (K : PySem.W.Frag) (w : World) : List V → Hp → VK → Prop := fun vs H Q => rSetL K w vs H Q ∨ rSetT K w vs H Q
theorem cr_setX (hc : X.calm = true) : CallR X (.type "set") (rSetX X.K X.w) := (cr_setL hc).or (cr_setT hc)
theorem en_ss (hc : X.calm = true) (hg : Gl X "sorted") (hm : X.mg "sorted" = none) (hv : bootBuiltins "sorted" = some (.builtin "sorted")) (hg2 : Gl X "set") (hm2 : X.mg "set" = none) (hv2 : bootBuiltins "set" = some (.type "set")) (ha : PL X Z W [e] fs)
    (he : starEach [e] X.env = (false, eval e X.env) :: starEach [] X.env := by rfl) (hs : starEach [.Call (.Name "set" p2) [e] [] pos2] X.env = (false, eval (.Call (.Name "set" p2) [e] [] pos2) X.env) :: starEach [] X.env := by rfl)
    (hpl : (backTo pos (starEach [] X.env)).any (·.1) = false := by rfl) (hpl2 : (backTo pos2 (starEach [] X.env)).any (·.1) = false := by rfl) :
    PN X Z W (.Call (.Name "sorted" p1) [.Call (.Name "set" p2) [e] [] pos2] [] pos) (nB gSS fs) := by
  refine PE.weak (pe_callB (cr_sortedSet hc) hg hm hv (pa_cons (pe_callTy (cr_setX hc) hg2 hm2 hv2 ha (by decide) (by decide) he hpl2) pa_nil hs) (by decide) (by decide) hs hpl) fun σ H Q ⟨ρ, F, rel, q⟩ => ?_
  refine ⟨ρ, F, rel, (Post.bind q).imp fun xs H1 ρ1 F1 g1 q1 vs hv => ?_⟩
  unfold opN at q1
  cases hx : derL xs ρ1 with
  | none =>
    simp only [hx] at q1
    exact q1.elim
  | some ds =>
    simp only [hx] at q1
    have hr := derL_ok g1.rel hv hx
    have key : ∀ (ns : List Int) (a : Addr), (SqL X.K H1 a (ns.map V.int) ∨ SqT X.K H1 a (ns.map V.int)) → vs = [V.ref a] → gSS ds = ssL ns → rSetX X.K X.w vs H1 fun v H2 => rSortedSet X.w [v] H2 Q := by
      intro ns a hq hva hgd
      rw [hgd] at q1
      unfold ssL at q1
      by_cases c : ns.length ≤ 1000 ∧ (usort ns).length < 64
      · rw [if_pos c] at q1
        have fin : ∀ (p : Addr) (n : Nat), H1 p = none → (∃ L : List Int, L.Nodup ∧ (∀ k, k ∈ L ↔ k ∈ ns) ∧ L.length = n) → rSortedSet X.w [V.ref p] (upd H1 p (SetO X.w p (fun j => decide (j ∈ ns)) n)) Q := by
          intro p n np ⟨L, l1, l2, l3⟩
          have hn : n < 64 := by
            have : L.length ≤ (usort ns).length := nodup_len l1 fun k hk => mem_usort.mpr ((l2 k).mp hk)
            omega
          refine ⟨p, _, n, rfl, upd_same, hn, fun ms t r1 r2 r3 nt => ?_⟩
          have e : ms = usort ns := rise_same r1 rise_usort fun k => by
            rw [r2, mem_usort]
            exact decide_eq_true_iff
          subst e
          have s1 : Same H1 (upd H1 p (SetO X.w p (fun j => decide (j ∈ ns)) n)) := same_new np
          have s2 := s1.trans (same_new (o := .lst ((usort ns).map V.int)) nt)
          have ft : H1 t = none := s1.free nt
          exact q1 _ _ (.new g1.rel s2) t (g1.free ft) (g1.rel.h0 ft) (g1.rel.same.free ft) ⟨_, upd_same, RL.ints _⟩ (new_ne g1.rel ft)
        rcases hq with hq | hq
        · exact .inl ⟨a, ns, hva, hq, c.1, fin⟩
        · exact .inr ⟨a, ns, hva, hq, c.1, fin⟩
      · rw [if_neg c] at q1
        exact q1.elim
    match ds, hr, key, q1 with
    | [.lst xs], .cons h1 .nil, key, q1 =>
      cases hn : numI xs with
      | none =>
        rw [show gSS [.lst xs] = none by simp [gSS, hn]] at q1
        exact q1.elim
      | some ns =>
        obtain ⟨a, us, rfl, h2, h3⟩ := h1.lst g1.rel.same
        rw [numI_eq hn] at h3
        rw [h3.intsV] at h2
        exact key ns a (.inl (.inl (.inl h2))) rfl (by simp [gSS, hn])
    | [.tup xs], .cons h1 .nil, key, q1 =>
      cases hn : numI xs with
      | none =>
        rw [show gSS [.tup xs] = none by simp [gSS, hn]] at q1
        exact q1.elim
      | some ns =>
        obtain ⟨a, us, rfl, h2, h3⟩ := h1.tup
        rw [numI_eq hn] at h3
        rw [h3.intsV] at h2
        exact key ns a (.inr (same_seqT g1.rel.same h2)) rfl (by simp [gSS, hn])
    | [], _, _, q1 => exact q1.elim
    | [.non], _, _, q1 => exact q1.elim
    | [.bl _], _, _, q1 => exact q1.elim
    | [.int _], _, _, q1 => exact q1.elim
    | [.str _], _, _, q1 => exact q1.elim
    | [.dic _], _, _, q1 => exact q1.elim
    | [.ins _ _], _, _, q1 => exact q1.elim
    | [.exn _ _], _, _, q1 => exact q1.elim
    | [.gl _], _, _, q1 => exact q1.elim
    | [.ty _], _, _, q1 => exact q1.elim
    | [.scr _], _, _, q1 => exact q1.elim
    | x :: y :: r, _, _, q1 =>
      rw [show gSS (x :: y :: r) = none by cases x <;> rfl] at q1
      exact q1.elim
end
/-! ### tuple(range(n)) -/
def gTR : D → Option D
  | .int n => if 0 ≤ n ∧ n ≤ 100000 then some (.tup (rng 0 n.toNat)) else none
  | _ => none
theorem rng_rgV {n : Int} (h : 0 ≤ n) : ∃ ns : List Int, rgV 0 n = ns.map V.int ∧ rng 0 n.toNat = ns.map D.int := by
  refine ⟨(List.range n.toNat).map fun (i : Nat) => (0 : Int) + (i : Nat), ?_, ?_⟩
  · unfold rgV
    rw [List.map_map, show (n - 0).toNat = n.toNat by omega]
    rfl
  · unfold rng
    rw [List.map_map]
    rfl
section
variable {X : Cx} {Z : Zone} {W : WX} {e : Expr} {fa : M AV} {p1 p2 pos2 pos : Pos}
theorem ev_tupR (hc : X.calm = true) (hg : Gl X "tuple") (hm : X.mg "tuple" = none) (hg2 : Gl X "range") (hm2 : X.mg "range" = none) (ha : PV X Z W e fa) (he : starEach [e] X.env = (false, eval e X.env) :: starEach [] X.env := by rfl)
    (hs : starEach [.Call (.Name "range" p2) [e] [] pos2] X.env = (false, eval (.Call (.Name "range" p2) [e] [] pos2) X.env) :: starEach [] X.env := by rfl) :
    PV X Z W (.Call (.Name "tuple" p1) [.Call (.Name "range" p2) [e] [] pos2] [] pos) (eUn gTR fa) := by
  refine PE.weak (pe_tupRg hc hg hm (prg_1 hg2 hm2 ha he) hs) fun σ H Q ⟨ρ, F, rel, q⟩ => ?_
  refine ⟨ρ, F, rel, (Post.bind q).imp fun x H1 ρ1 F1 g1 q1 v hv => ?_⟩
  unfold op1 at q1
  cases hx : der x ρ1 with
  | none =>
    simp only [hx] at q1
    exact q1.elim
  | some d =>
    simp only [hx] at q1
    have hr := der_ok g1.rel hv hx
    cases d <;> simp only [gTR] at q1 <;> try exact q1.elim
    rename_i n
    by_cases c : 0 ≤ n ∧ n ≤ 100000
    · rw [if_pos c] at q1
      refine ⟨n, hr.int, RgOk.of_le (by omega) (by omega) (by omega) c.1, fun t nt => ?_⟩
      obtain ⟨ns, e1, e2⟩ := rng_rgV c.1
      rw [e1]
      rw [e2] at q1
      exact okN (mg := X.mg) (z := .tup (ns.map D.int)) g1.rel.same (fun u H' F' s1 s2 s3 n r => q1 H' F' (.more g1.rel s1 s2 s3 n) u r) nt (.tup (.inl (.inl upd_same)) (RL.ints ns))
    · rw [if_neg c] at q1
      exact q1.elim
end
section
@[simp] theorem gTR_int {n : Int} : gTR (.int n) = if 0 ≤ n ∧ n ≤ 100000 then some (.tup (rng 0 n.toNat)) else none := rfl
theorem gSS_r {ns : List Int} (h1 : ns.length ≤ 1000) (h2 : (usort ns).length < 64) : gSS [.lst (ns.map D.int)] = some ((usort ns).map D.int) := by
  show (numI _).bind ssL = _
  rw [numI_ints]
  show ssL ns = _
  rw [ssL, if_pos ⟨h1, h2⟩]
end
end PV
/-! what is reachable in a pile of objects -/
namespace PV
open PySem PySem.Spec PyProof.Rows L2 VK
def outs (rows : List D) (x : Int) : List D := match rows[x.toNat]? with
  | some (.tup cs) => cs
  | _ => []
def okc (size : Int) (d : D) : Prop := d = .non ∨ ∃ k : Int, d = .int k ∧ 0 ≤ k ∧ k < size
def okRows (size : Int) (rows : List D) : Prop := ∀ r ∈ rows, ∃ cs : List D, r = .tup cs ∧ cs.length ≤ 4 ∧ ∀ d ∈ cs, okc size d
inductive Rch (rows : List D) (xs : List Int) : Int → Prop
  | arg {k : Int} (h : k ∈ xs) : Rch rows xs k
  | fld {y k : Int} (h : Rch rows xs y) (m : D.int k ∈ outs rows y) : Rch rows xs k
theorem few : ∀ (z : Nat) (L : List Int), L.Nodup → (∀ k ∈ L, 0 ≤ k ∧ k < z) → L.length ≤ z
  | 0, [], _, _ => Nat.le_refl 0
  | 0, k :: L, _, h => by have := h k List.mem_cons_self; omega
  | z + 1, L, hd, h => by
    have h1 : (L.filter fun k : Int => decide (k ≠ (z : Int))).length ≤ z := few z _ (hd.filter _) fun k hk => by
      obtain ⟨m, ne⟩ := List.mem_filter.mp hk
      have ne' := of_decide_eq_true ne
      have := h k m
      omega
    have h2 : L.length ≤ (L.filter fun k : Int => decide (k ≠ (z : Int))).length + 1 := by
      clear h h1
      induction L with
      | nil => exact Nat.zero_le _
      | cons k L ih =>
        obtain ⟨hk, hL⟩ := List.nodup_cons.mp hd
        by_cases e : k = (z : Int)
        · have e2 : L.filter (fun k : Int => decide (k ≠ (z : Int))) = L := List.filter_eq_self.mpr fun y hy => decide_eq_true fun e3 => hk (by rw [e, ← e3]; exact hy)
          rw [List.filter_cons_of_neg (by simp [e]), e2]
          exact Nat.le_refl _
        · rw [List.filter_cons_of_pos (by simp [e])]
          have := ih hL
          simp only [List.length_cons]
          omega
    omega
/-- the numbers among them -/
def nums : List D → List Int
  | [] => []
  | .int k :: r => k :: nums r
  | _ :: r => nums r
theorem nums_snoc (ds : List D) (d : D) : nums (ds ++ [d]) = nums ds ++ nums [d] := by
  induction ds with
  | nil => rfl
  | cons e r ih => cases e <;> simp [nums, ih]
theorem nums_len : ∀ ds : List D, (nums ds).length ≤ ds.length
  | [] => Nat.le_refl 0
  | d :: r => by
    have := nums_len r
    cases d <;> simp only [nums, List.length_cons] <;> omega
theorem mem_nums : ∀ (ds : List D) (k : Int), k ∈ nums ds ↔ D.int k ∈ ds
  | [], k => by simp [nums]
  | d :: r, k => by
    have ih := mem_nums r k
    cases d <;> simp [nums, ih]
/-- of what the loop holds: waiting ones ws, met ones S, n of them, in a heap of z objects -/
structure Met (rows : List D) (xs ws : List Int) (S : Int → Bool) (n : Nat) : Prop where
  cnt : ∃ L : List Int, L.Nodup ∧ (∀ k, k ∈ L ↔ S k = true) ∧ L.length = n
  wok : ∀ k ∈ ws, Rch rows xs k ∧ 0 ≤ k ∧ k < rows.length
  sok : ∀ k, S k = true → Rch rows xs k ∧ 0 ≤ k ∧ k < rows.length
  arg : ∀ k ∈ xs, S k = true ∨ k ∈ ws
  fld : ∀ y, S y = true → ∀ k, D.int k ∈ outs rows y → S k = true ∨ k ∈ ws
theorem Met.le {rows : List D} {xs ws : List Int} {S : Int → Bool} {n : Nat} (h : Met rows xs ws S n) : n ≤ rows.length := by
  obtain ⟨L, hd, hm, hl⟩ := h.cnt
  rw [← hl]
  exact few _ L hd fun k hk => (h.sok k ((hm k).mp hk)).2
theorem Met.done {rows : List D} {xs : List Int} {S : Int → Bool} {n : Nat} (h : Met rows xs [] S n) (k : Int) : S k = true ↔ Rch rows xs k := by
  refine ⟨fun e => (h.sok k e).1, fun r => ?_⟩
  induction r with
  | arg m => exact (h.arg _ m).resolve_right (fun z => nomatch z)
  | fld _ m ih => exact (h.fld _ ih _ m).resolve_right (fun z => nomatch z)
theorem Met.skip {rows : List D} {xs ws : List Int} {S : Int → Bool} {n : Nat} {x : Int} (h : Met rows xs (ws ++ [x]) S n) (hx : S x = true) : Met rows xs ws S n := by
  have cut : ∀ k, S k = true ∨ k ∈ ws ++ [x] → S k = true ∨ k ∈ ws := fun k m => by
    rcases m with m | m
    · exact .inl m
    · rcases List.mem_append.mp m with m | m
      · exact .inr m
      · rw [List.mem_singleton.mp m]
        exact .inl hx
  exact ⟨h.cnt, fun k m => h.wok k (List.mem_append_left _ m), h.sok, fun k m => cut k (h.arg k m), fun y hy k m => cut k (h.fld y hy k m)⟩
theorem Met.more {rows : List D} {xs ws ys : List Int} {S : Int → Bool} {n : Nat} {x : Int} (h : Met rows xs (ws ++ [x]) S n) (hx : S x = false) (hy : ∀ k, k ∈ ys ↔ D.int k ∈ outs rows x) (ok : ∀ k ∈ ys, 0 ≤ k ∧ k < rows.length) :
    Met rows xs (ws ++ ys) (fun j => S j || decide (j = x)) (n + 1) := by
  obtain ⟨L, hd, hm, hl⟩ := h.cnt
  have rx := h.wok x (List.mem_append_right _ (List.mem_singleton.mpr rfl))
  have step : ∀ k, S k = true ∨ k ∈ ws ++ [x] → (S k || decide (k = x)) = true ∨ k ∈ ws ++ ys := fun k m => by
    rcases m with m | m
    · exact .inl (by rw [m]; rfl)
    · rcases List.mem_append.mp m with m | m
      · exact .inr (List.mem_append_left _ m)
      · exact .inl (by rw [List.mem_singleton.mp m, decide_eq_true rfl, Bool.or_true])
  refine ⟨⟨x :: L, List.nodup_cons.mpr ⟨fun m => (by rw [(hm x).mp m] at hx; cases hx), hd⟩, fun k => ?_, by rw [List.length_cons, hl]⟩, fun k m => ?_, fun k e => ?_, fun k m => step k (h.arg k m), fun y e k m => ?_⟩
  · rw [List.mem_cons, hm k, Bool.or_eq_true, decide_eq_true_iff]
    exact Or.comm
  · rcases List.mem_append.mp m with m | m
    · exact h.wok k (List.mem_append_left _ m)
    · exact ⟨.fld rx.1 ((hy k).mp m), ok k m⟩
  · rcases Bool.or_eq_true_iff.mp e with e | e
    · exact h.sok k e
    · rw [of_decide_eq_true e]
      exact rx
  · rcases Bool.or_eq_true_iff.mp e with e | e
    · exact step k (h.fld y e k m)
    · rw [of_decide_eq_true e] at m
      exact .inr (List.mem_append_right _ ((hy k).mpr m))

open Classical in
noncomputable def rchL (rows : List D) (xs : List Int) : List Int := ((List.range rows.length).map fun i : Nat => (i : Int)).filter fun k => decide (Rch rows xs k)
theorem rise_rchL {rows : List D} {xs : List Int} : (rchL rows xs).Pairwise (· < ·) := by
  unfold rchL
  refine List.Pairwise.filter _ (List.pairwise_map.mpr (List.pairwise_lt_range.imp fun h => ?_))
  omega
theorem rch_in {rows : List D} {xs : List Int} (h : okRows rows.length rows) (hx : ∀ k ∈ xs, 0 ≤ k ∧ k < rows.length) {k : Int} (r : Rch rows xs k) : 0 ≤ k ∧ k < rows.length := by
  induction r with
  | arg m => exact hx _ m
  | fld r m ih =>
    rename_i y k
    unfold outs at m
    split at m
    · rename_i cs e
      obtain ⟨cs', e', _, ok⟩ := h _ (List.mem_of_getElem? e)
      cases e'
      rcases ok _ m with z | ⟨j, e2, h0, h1⟩
      · cases z
      · cases e2
        exact ⟨h0, h1⟩
    · cases m
open Classical in
theorem mem_rchL {rows : List D} {xs : List Int} (h : okRows rows.length rows) (hx : ∀ k ∈ xs, 0 ≤ k ∧ k < rows.length) (k : Int) : k ∈ rchL rows xs ↔ Rch rows xs k := by
  unfold rchL
  rw [List.mem_filter, decide_eq_true_iff]
  refine ⟨fun e => e.2, fun r => ⟨?_, r⟩⟩
  have := rch_in h hx r
  exact List.mem_map.mpr ⟨k.toNat, List.mem_range.mpr (by omega), by omega⟩
structure PileOk (rows : List D) (objs : List D) (xs : List Int) : Prop where
  isI : objs = xs.map D.int
  ok : okRows rows.length rows
  z : rows.length ≤ 40
  le : ∀ k ∈ xs, 0 ≤ k ∧ k < rows.length
  len : xs.length ≤ 1000
open Classical in
noncomputable def F_reach : M Fl := fun ρ => match ρ with
    | [.sh (.tup [_, .tup rows]), .sh (.tup objs), _, _, _, _, _] => if h : ∃ xs, PileOk rows objs xs then .val (.rt (.tup ((rchL rows h.choose).map D.int))) ρ else .bad
    | _ => .bad
theorem int_inj : ∀ {xs ys : List Int}, xs.map D.int = ys.map D.int → xs = ys
  | [], [], _ => rfl
  | [], _ :: _, h => nomatch h
  | _ :: _, [], h => nomatch h
  | x :: xs, y :: ys, h => by
    simp only [List.map_cons, List.cons.injEq, D.int.injEq] at h
    rw [h.1, int_inj h.2]
open Classical in
theorem F_reach_val {w : D} {rows objs : List D} {xs : List Int} {a b c d e : Sl} (h : PileOk rows objs xs) : F_reach [.sh (.tup [w, .tup rows]), .sh (.tup objs), a, b, c, d, e] = .val (.rt (.tup ((rchL rows xs).map D.int))) [.sh (.tup [w, .tup rows]), .sh (.tup objs), a, b, c, d, e] := by
  have hh : ∃ xs, PileOk rows objs xs := ⟨xs, h⟩
  show (if h : ∃ xs, PileOk rows objs xs then _ else _) = _
  rw [dif_pos hh, int_inj (hh.choose_spec.isI.symm.trans h.isI)]
open Classical in
theorem F_reach_bad {ρ : En} (h : F_reach ρ ≠ .bad) : ∃ (w : D) (rows objs : List D) (xs : List Int) (a b c d e : Sl), ρ = [.sh (.tup [w, .tup rows]), .sh (.tup objs), a, b, c, d, e] ∧ PileOk rows objs xs := by
  unfold F_reach at h
  split at h
  · rename_i w rows objs a b c d e; by_cases z : ∃ xs, PileOk rows objs xs
    · obtain ⟨xs, z⟩ := z
      exact ⟨_, _, _, xs, _, _, _, _, _, rfl, z⟩
    · simp only [dif_neg z] at h
      exact (h rfl).elim
  · exact (h rfl).elim
section
variable {P : Program} {w : World} {K : PySem.W.Frag} {mg : Str → Option Value} {base : Heap}
/-! ### a def with a star, called without what the star takes: keywords may name the others -/
def BindA0 (K : PySem.W.Frag) (fd : FuncData) (n : Nat) (ks ps : List Str) (pv : Str) (perm : List Nat) : Prop := ∀ (M : Model) (A : Around) (E : Value → Shared → Prop) (s : Shared) (us ws : List Value) (Q : List (Str × Value) → Shared → Prop),
  K.In s.heap → us.length = n → ws.length = ks.length → wpAny M A (endA true ps pv perm us [] ws []) Q E s → wpAny M A (bindArgs fd ⟨us, ks.zip ws⟩) Q E s
theorem BindA0.mk {x qual : Str} {params : Arguments} {body : List Stmt} {scope : Scope} {f : Addr} {fd : FuncData} (F : FunD K x qual params body scope [] [] f fd) {n : Nat} {ks ps : List Str} {pv : Str} {perm : List Nat}
    (h : ∀ (kV doc pm : Value) (an : Option Addr) (cdv ct : Value) (us ws : List Value), us.length = n → ws.length = ks.length → bindArgs (PySem.W.fnOf x qual params body scope .none kV doc pm an cdv ct) ⟨us, ks.zip ws⟩ = endA true ps pv perm us [] ws []) : BindA0 K fd n ks ps pv perm := by
  intro M A E s us ws Q X h1 h2 q
  obtain ⟨oc, od, dV, kV, doc, pm, an, cdv, ct, osl, rfl, lk, hcd, hD, hK⟩ := F.ex
  rcases hD with ⟨_, rfl⟩ | ⟨hne, _⟩
  · rw [h kV doc pm an cdv ct us ws h1 h2]
    exact q
  · exact (hne rfl).elim
def mdA0 (ms : List Bool) (perm : List Nat) (N : Nat) (fM : M Fl) : Nat → Md := fun np ds => if np = ms.length then runM (ms ++ List.replicate (perm.length + 1) false) N fM (ds.take ms.length ++ pick perm (ds.drop np) ++ [.tup []]) else .bad
theorem fnA_star0 {x qual : Str} {st : Stmt} {f : Addr} {fd : FuncData} {N ps ks : List Str} {pv : Str} {k : Nat} {ms : List Bool} {fM : M Fl} {perm : List Nat} (F : FunD K x qual (defArgs st) (defBody st) (defScope st) [] [] f fd) (S : FnScope N (ps ++ [pv]) (defScope st))
    (hb : BindA0 K fd ms.length ks ps pv perm) (hp : ∀ i ∈ perm, i < ks.length) (hl : ps.length = ms.length + perm.length)
    (hbody : ∀ (cdv : Value) (A : Around) (outer : List Env) (s : Shared) (H : Hp) (E : XK) (Z : Zone), Room k (A.deeper (envOfC qual (defScope st) s.heap.objs.size f cdv)) → (A.deeper (envOfC qual (defScope st) s.heap.objs.size f cdv)).guards = some [] →
      PCs (cxOf (L2.CX P w) P w K mg base N qual (defScope st) f cdv A outer s H E) Z (WE E) (defBody st) fM) : FnA P w K mg base (k + 1) f ks ms (mdA0 ms perm N.length fM) := by
  constructor
  intro A outer s H us ws vs zs Q E hr hgd e0 r1 r2 hz ⟨G, ds, as, sm, ra, nd, q⟩
  obtain ⟨oc, od, dV, kV, doc, pm, an, cdv, ct, osl, rfl, lk, hcd, hD, hK⟩ := F.ex
  simp only [mdA0] at q
  by_cases hnp : vs.length = ms.length
  · rw [if_pos hnp] at q
    have e0' : msA ms vs.length zs.length = ms ++ List.replicate zs.length false := by
      unfold msA
      rw [hnp, Nat.sub_self, Nat.zero_add]
    rw [e0'] at ra
    obtain ⟨vs, vs2, ds1, dz, e1, rfl, l1, l2, ra1, rlz, l3⟩ := RA.split ra
    obtain ⟨rfl, rfl⟩ := List.append_inj e1 (hnp.trans l1.symm)
    have t2 : (ds1 ++ dz).drop vs.length = dz := List.drop_left' (l2.trans l1.symm)
    have t4 : (ds1 ++ dz).take ms.length = ds1 := List.take_left' l2
    rw [t2, t4] at q
    have hn : H s.heap.objs.size = none := e0.hok.fresh (Nat.le_refl _)
    have hl1 : us.length = ms.length := by rw [← r1.length]; exact l1
    have hok : K.In s.heap := e0.mod.kin.keeps fun b o e => (e0.bs b o e).1
    refine StX.run_bnd (k := k) lk hcd S hr e0 (G := fun xs H2 => ∃ p, H p = none ∧ xs = vs ++ PV.pick perm zs ++ [V.ref p] ∧ H2 = upd H p (.tup [])) (fun A' Ex Q' h => ?_) fun s2 H2 xs ⟨p, hp0, ex, eH⟩ hr' => ?_
    · refine hb (model P w) A' Ex s us ws Q' hok hl1 (r2.length.symm.trans hz) ?_
      refine wpAny_bind (wpAny_newTuple (wpAny_pure ?_) (Nat.zero_le _))
      have new : ObjOk P w (upd H s.heap.objs.size (.tup [])) (s.heap.push ({ cls := .type "tuple", data := .seq ([] : List Value).toArray } : Obj)) s.heap.objs.size (.tup []) := ⟨Nat.zero_le _, [], .nil, ⟨_, Heap.get?_push_size _ rfl, rfl, _, rfl⟩⟩
      have un := StX.un_laid (fs := frs outer) (s := s) (o := ({ cls := .type "tuple", data := .seq ([] : List Value).toArray } : Obj)) (u := .tup []) hn
      have rp : Vals (PV.pick perm (zs)) (PV.pick perm (ws)) := Vals.pick r2 perm
      have z := h _ _ (vs ++ PV.pick perm (zs) ++ [V.ref s.heap.objs.size]) (us ++ PV.pick perm (ws) ++ [Value.ref s.heap.objs.size]) (StX.env0_laid e0 new) un rfl (fun e s' => StX.cxUp outer s H _ _ E e s' un (fun b o q => Heap.get?_push_of_some _ q) rfl) ((r1.append rp).append (.cons rfl .nil))
        (by rw [List.length_append, List.length_append, List.length_append, l1, pick_len (fun i hi => by rw [hz]; exact hp i hi), hl] <;> rfl) ⟨_, hn, rfl, rfl⟩
      have hpl : ps.length = (us ++ PV.pick perm (ws)).length := by
        rw [List.length_append, hl1, pick_len (fun i hi => by rw [← r2.length, hz]; exact hp i hi), hl]
      rw [List.zip_append hpl] at z
      rw [List.append_nil]
      exact z
    · subst ex eH
      have s1 : Same H (upd H p (.tup [])) := same_new hp0
      have np : G p = none := sm.free hp0
      have s2' : Same G (upd G p (.tup [])) := same_new np
      have grow := ra1.grow (G' := upd G p (.tup [])) (H' := upd H p (.tup [])) s2' s1 (fun b o e => upd_ne (fun z => by rw [z, hp0] at e; cases e))
      have rt : R K mg (upd G p (.tup [])) (.ref p) (.tup []) := .tup (.inl (.inl upd_same)) (.nil)
      have rtail : RL K mg (upd G p (.tup [])) (PV.pick perm (zs) ++ [V.ref p]) (PV.pick perm (dz) ++ [.tup []]) := .append (.pick (rlz.mono s2') perm) (.one rt)
      have rall := grow.join rtail
      have hpk : (PV.pick perm (zs) ++ [V.ref p]).length = perm.length + 1 := by
        rw [List.length_append, pick_len (fun i hi => by rw [hz]; exact hp i hi)]
        rfl
      rw [hpk, ← List.append_assoc, ← List.append_assoc] at rall
      have q2 := EndM.grow (G' := upd G p (.tup [])) (H' := upd H p (.tup [])) s2' s1 (fun b m => by
        by_cases hb : b = p
        · exact .inr (by rw [hb]; exact hp0)
        · rw [upd_ne hb] at m
          exact .inl m) (fun b m => by
        by_cases hb : b = p
        · rw [hb, upd_same] at m
          cases m
        · rw [upd_ne hb] at m
          exact m) (fun b m => by
        by_cases hb : b = p
        · rw [hb, upd_same]
          intro z
          cases z
        · rw [upd_ne hb]
          exact m) q
      have sm2 : Same (upd G p (.tup [])) (upd H p (.tup [])) := fun b o e => by
        by_cases hb : b = p
        · rw [hb, upd_same] at e ⊢
          exact e
        · rw [upd_ne hb] at e ⊢
          exact sm b o e
      have hlen : (vs ++ PV.pick perm (zs) ++ [V.ref p]).length ≤ N.length := by
        have h2 := pre_len S
        rw [List.length_append] at h2
        rw [List.length_append, List.length_append, pick_len (fun i hi => by rw [hz]; exact hp i hi), l1]
        have h3 : ([V.ref p] : List V).length = 1 := rfl
        have h4 : [pv].length = 1 := rfl
        omega
      refine ⟨_, hbody cdv A outer s2 (upd H p (.tup [])) E (zoneOf (ms ++ List.replicate (perm.length + 1) false) (vs ++ PV.pick perm (zs) ++ [V.ref p]) (upd G p (.tup [])) (upd H p (.tup []))) hr' hgd, _, _, rel_start rall nd sm2 hlen, run_post (P := P) (w := w) rall (fun _ _ _ _ h => h) q2⟩
  · rw [if_neg hnp] at q
    exact q.elim
variable {x : Str} {st : Stmt} {N ps ks : List Str} {pv : Str} {k : Nat} {ms : List Bool} {fM : M Fl} {perm : List Nat}
theorem DfF.star0 (D : DfF K mg x st [] []) (S : FnScope N (ps ++ [pv]) (defScope st)) (B : Bdy P w K mg base k x st N fM) (h : ∀ (kV doc pm : Value) (an : Option Addr) (cdv ct : Value) (us ws : List Value), us.length = ms.length → ws.length = ks.length → bindArgs (PySem.W.fnOf x x (defArgs st) (defBody st) (defScope st) .none kV doc pm an cdv ct) ⟨us, ks.zip ws⟩ = endA true ps pv perm us [] ws [])
    (hp : ∀ i ∈ perm, i < ks.length) (hl : ps.length = ms.length + perm.length) : CalA P w K mg base (k + 1) x ks ms (mdA0 ms perm N.length fM) := by
  obtain ⟨f, fd, F, hmg⟩ := D.ex
  exact ⟨f, fnA_star0 F S (BindA0.mk F h) hp hl (B f), hmg, F.kp⟩
end
theorem R.tupE {K : PySem.W.Frag} {mg : Str → Option Value} {F : Hp} {v : V} {ds : List D} (h : R K mg F v (.tup ds)) : ∃ a vs, v = .ref a ∧ SqT K F a vs ∧ RL K mg F vs ds := by
  cases h
  exact ⟨_, _, rfl, ‹_›, ‹_›⟩
end PV
/-! what holds behind a body: statements one after another -/
namespace PV
open PySem PySem.Spec PyProof.Rows L2 VK
abbrev XP := Str → List (Str × D) → En → Prop
def noE : XP := fun _ _ _ => False
def ok {α : Type} (r : Res α) (Q : α → En → Prop) (E : XP) : Prop := match r with
  | .val x ρ => Q x ρ
  | .exc c fs ρ => E c fs ρ
  | .bad => False
def kSeq (g : M Fl) (Q : Fl → En → Prop) (E : XP) (x : Fl) (ρ : En) : Prop := match x with
  | .nx => ok (g ρ) Q E
  | .rt d => Q (.rt d) ρ
  | .bk => Q .bk ρ
  | .ct => Q .ct ρ
def kIf (f g : M Fl) (Q : Fl → En → Prop) (E : XP) (b : Bool) (ρ : En) : Prop := match b with
  | true => ok (f ρ) Q E
  | false => ok (g ρ) Q E
def kFor (t : Tg) (f : M Fl) (Q : Fl → En → Prop) (E : XP) (ds : List D) (ρ : En) : Prop := ok (forL t f ds ρ) Q E
def kTry (tab : Tab) (cl : List Str) (i j : Nat) (Q : Fl → En → Prop) (E : XP) : XP := fun c fs ρ => match anyT tab c cl with
  | some true => Q .nx (((ρ.set i (.sh (.exn c fs))).set j (.sh (.exn c fs))).set i .no)
  | some false => E c fs ρ
  | none => False
def kLoop (J : En → Prop) (Q : Fl → En → Prop) (x : Fl) (ρ : En) : Prop := match x with
  | .nx => J ρ
  | .ct => J ρ
  | .bk => Q .nx ρ
  | .rt d => Q (.rt d) ρ
def finC (o : Option (List D)) (P : D → List D → Prop) (d : D) : Prop := match o with
  | some cs => P d cs
  | none => False
/-- the end of a def -/
def fin (ms : List Bool) (P : D → List D → Prop) (x : Fl) (ρ : En) : Prop := match x with
  | .rt d => finC (pinsOf ms ρ) P d
  | .nx => finC (pinsOf ms ρ) P .non
  | _ => False
def finE (ms : List Bool) (E : Str → List (Str × D) → List D → Prop) : XP := fun c fs ρ => match pinsOf ms ρ with
  | some cs => E c fs cs
  | none => False
def okM (r : MR) (P : D → List D → Prop) (E : Str → List (Str × D) → List D → Prop) : Prop := match r with
  | .val d cs => P d cs
  | .exc c fs cs => E c fs cs
  | .bad => False
section
variable {α β : Type} {r : Res α} {x : α} {ρ ρ' : En} {Q Q' : α → En → Prop} {E E' : XP} {k : α → En → Res β} {f g : M Fl} {R : Fl → En → Prop} {c : Str} {fs : List (Str × D)} {d : D} {cs : List D} {ms : List Bool} {P : D → List D → Prop} {t : Tg} {ds : List D}
@[simp] theorem ok_val : ok (.val x ρ) Q E = Q x ρ := rfl
@[simp] theorem ok_exc : ok (α := α) (.exc c fs ρ) Q E = E c fs ρ := rfl
theorem ok_bind {Q : β → En → Prop} : ok (r.bind k) Q E = ok r (fun x ρ => ok (k x ρ) Q E) E := by cases r <;> rfl
theorem ok.imp (h : ok r Q E) (f : ∀ x ρ, Q x ρ → Q' x ρ) (g : ∀ c fs ρ, E c fs ρ → E' c fs ρ) : ok r Q' E' := by
  cases r with
  | val x ρ => exact f _ _ h
  | exc c fs ρ => exact g _ _ _ h
  | bad => exact h
theorem ok.of_eq (h : r = .val x ρ) (q : Q x ρ) : ok r Q E := by
  rw [h]
  exact q
@[simp] theorem ok_seq : ok (sSeq f g ρ) R E = ok (f ρ) (kSeq g R E) E := by
  rw [sSeq_r, ok_bind]
  congr 1
  funext x ρ
  cases x <;> rfl
@[simp] theorem kSeq_nx : kSeq g R E .nx ρ = ok (g ρ) R E := rfl
@[simp] theorem kSeq_rt : kSeq g R E (.rt d) ρ = R (.rt d) ρ := rfl
@[simp] theorem kSeq_bk : kSeq g R E .bk ρ = R .bk ρ := rfl
@[simp] theorem kSeq_ct : kSeq g R E .ct ρ = R .ct ρ := rfl
@[simp] theorem ok_if {t : M Bool} : ok (sIf t f g ρ) R E = ok (t ρ) (kIf f g R E) E := by
  rw [sIf_r, ok_bind]
  congr 1
  funext b ρ
  cases b <;> rfl
@[simp] theorem kIf_t : kIf f g R E true ρ = ok (f ρ) R E := rfl
@[simp] theorem kIf_f : kIf f g R E false ρ = ok (g ρ) R E := rfl
@[simp] theorem ok_for {it : M (List D)} : ok (sFor it t f ρ) R E = ok (it ρ) (kFor t f R E) E := by
  rw [sFor_r, ok_bind]
  rfl
theorem kFor_r : kFor t f R E ds ρ = ok (forL t f ds ρ) R E := rfl
@[simp] theorem ok_try {tab : Tab} {cl : List Str} {i j : Nat} : ok (sTry tab cl i j f ρ) R E = ok (f ρ) R (kTry tab cl i j R E) := by
  rw [sTry_r]
  cases f ρ with
  | val x ρ => rfl
  | bad => rfl
  | exc c fs ρ =>
    rw [tryR_exc]
    unfold tryB
    show _ = kTry tab cl i j R E c fs ρ
    unfold kTry
    cases anyT tab c cl with
    | none => rfl
    | some b => cases b <;> rfl
@[simp] theorem kLoop_nx {J : En → Prop} : kLoop J R .nx ρ = J ρ := rfl
@[simp] theorem kLoop_ct {J : En → Prop} : kLoop J R .ct ρ = J ρ := rfl
@[simp] theorem kLoop_bk {J : En → Prop} : kLoop J R .bk ρ = R .nx ρ := rfl
@[simp] theorem kLoop_rt {J : En → Prop} : kLoop J R (.rt d) ρ = R (.rt d) ρ := rfl
@[simp] theorem fin_rt : fin ms P (.rt d) ρ = finC (pinsOf ms ρ) P d := rfl
@[simp] theorem fin_nx : fin ms P .nx ρ = finC (pinsOf ms ρ) P .non := rfl
@[simp] theorem finC_some : finC (some cs) P d = P d cs := rfl
@[simp] theorem pinsOf_nil : pinsOf [] ρ = some [] := by
  cases ρ <;> rfl
@[simp] theorem pinsOf_f {s : Sl} : pinsOf (false :: ms) (s :: ρ) = pinsOf ms ρ := rfl
def pinC (c : D) (o : Option (List D)) : Option (List D) := match o with
  | some cs => some (c :: cs)
  | none => none
@[simp] theorem pinC_some : pinC d (some cs) = some (d :: cs) := rfl
@[simp] theorem pinsOf_t : pinsOf (true :: ms) (.pin d :: ρ) = pinC d (pinsOf ms ρ) := by
  show (match pinsOf ms ρ with | some cs => some (d :: cs) | none => none) = _
  unfold pinC
  cases pinsOf ms ρ <;> rfl
/-- a def's promise from its body's -/
theorem runM_ok {n : Nat} {X : Str → List (Str × D) → List D → Prop} (h : ok (f (stE ms ds ++ List.replicate (n - ds.length) .no)) (fin ms P) (finE ms X)) : okM (runM ms n f ds) P X := by
  unfold runM
  cases e : f (stE ms ds ++ List.replicate (n - ds.length) .no) with
  | bad =>
    rw [e] at h
    exact h
  | exc c fs ρ =>
    rw [e] at h
    have h : finE ms X c fs ρ := h
    unfold finE at h
    cases p : pinsOf ms ρ with
    | none =>
      rw [p] at h
      exact h.elim
    | some cs =>
      rw [p] at h
      simp only [p]
      exact h
  | val x ρ =>
    rw [e] at h
    cases x with
    | bk => exact h.elim
    | ct => exact h.elim
    | nx =>
      have h : finC (pinsOf ms ρ) P .non := h
      unfold finC at h
      cases p : pinsOf ms ρ with
      | none =>
        rw [p] at h
        exact h.elim
      | some cs =>
        rw [p] at h
        simp only [p]
        exact h
    | rt d =>
      have h : finC (pinsOf ms ρ) P d := h
      unfold finC at h
      cases p : pinsOf ms ρ with
      | none =>
        rw [p] at h
        exact h.elim
      | some cs =>
        rw [p] at h
        simp only [p]
        exact h
def noX : Str → List (Str × D) → List D → Prop := fun _ _ _ => False
theorem okM.ex {m : MR} (h : okM m P noX) : ∃ d cs, m = .val d cs ∧ P d cs := by
  cases m with
  | val d cs => exact ⟨d, cs, rfl, h⟩
  | exc _ _ _ => exact h.elim
  | bad => exact h.elim
theorem okM.eq {m : MR} (h : okM m (fun d' cs' => d' = d ∧ cs' = cs) noX) : m = .val d cs := by
  obtain ⟨d', cs', e, rfl, rfl⟩ := h.ex
  exact e
/-- a value: the def's answer -/
theorem runM_eq {n : Nat} (h : ok (f (stE ms ds ++ List.replicate (n - ds.length) .no)) (fin ms fun d' cs' => d' = d ∧ cs' = cs) (finE ms noX)) : runM ms n f ds = .val d cs := (runM_ok h).eq
theorem runM_ex {n : Nat} (h : ok (f (stE ms ds ++ List.replicate (n - ds.length) .no)) (fin ms P) (finE ms noX)) : ∃ d cs, runM ms n f ds = .val d cs ∧ P d cs := (runM_ok h).ex
theorem okM.exq {m : MR} (h : okM m (fun _ _ => False) (fun c' fs' cs' => c' = c ∧ fs' = fs ∧ cs' = cs)) : m = .exc c fs cs := by
  cases m with
  | val _ _ => exact h.elim
  | bad => exact h.elim
  | exc c' fs' cs' =>
    obtain ⟨rfl, rfl, rfl⟩ := h
    rfl
/-- an exception: the def's way out -/
theorem runM_exq {n : Nat} (h : ok (f (stE ms ds ++ List.replicate (n - ds.length) .no)) (fin ms fun _ _ => False) (finE ms fun c' fs' cs' => c' = c ∧ fs' = fs ∧ cs' = cs)) : runM ms n f ds = .exc c fs cs := (runM_ok h).exq
def finEC (o : Option (List D)) (X : Str → List (Str × D) → List D → Prop) (c : Str) (fs : List (Str × D)) : Prop := match o with
  | some cs => X c fs cs
  | none => False
@[simp] theorem finEC_some {X : Str → List (Str × D) → List D → Prop} : finEC (some cs) X c fs = X c fs cs := rfl
@[simp] theorem finE_r {X : Str → List (Str × D) → List D → Prop} : finE ms X c fs ρ = finEC (pinsOf ms ρ) X c fs := by
  unfold finE finEC
  rfl
/-- a walk by what holds before each turn -/
theorem ok_inv (I : Nat → En → Prop) (h0 : I 0 ρ) (step : ∀ (i : Nat) (d : D) (ρ : En), ds[i]? = some d → I i ρ → ∃ ρ1, t.to d ρ = some ρ1 ∧ ok (f ρ1) (kLoop (I (i + 1)) R) E) (hd : ∀ ρ, I ds.length ρ → R .nx ρ) : ok (forL t f ds ρ) R E := by
  induction ds generalizing I ρ with
  | nil => exact hd _ h0
  | cons d r ih =>
    obtain ⟨ρ1, h1, h2⟩ := step 0 d ρ rfl h0
    rw [forL_cons, h1]
    show ok ((f ρ1).bind (loopK t f r)) R E
    rw [ok_bind]
    refine h2.imp (fun x ρ2 h3 => ?_) fun _ _ _ h => h
    have go : ∀ ρ2, I 1 ρ2 → ok (forL t f r ρ2) R E := fun ρ2 h => ih (fun i => I (i + 1)) h (fun i d ρ hd hI => step (i + 1) d ρ (by rw [List.getElem?_cons_succ]; exact hd) hI) hd
    cases x with
    | nx => exact go _ h3
    | ct => exact go _ h3
    | bk => exact h3
    | rt d => exact h3
/-- a while, by what holds and a measure -/
theorem ok_wh {c : M Bool} {n : Nat} (I : En → Prop) (m : En → Nat) (h0 : I ρ) (hn : m ρ < n) (step : ∀ ρ, I ρ → ok (c ρ) (fun b ρ1 => match b with
    | true => ok (f ρ1) (kLoop (fun ρ2 => I ρ2 ∧ m ρ2 < m ρ) R) E
    | false => R .nx ρ1) E) : ok (sWhile n c f ρ) R E := by
  show ok (whL c f n ρ) R E
  induction n generalizing ρ with
  | zero => omega
  | succ n ih =>
    unfold whL
    rw [ok_bind]
    refine (step ρ h0).imp (fun b ρ1 h1 => ?_) fun _ _ _ h => h
    cases b with
    | false => exact h1
    | true =>
      show ok (Res.bind _ _) R E
      rw [ok_bind]
      refine ok.imp h1 (fun x ρ2 h2 => ?_) fun _ _ _ h => h
      cases x with
      | nx => exact ih h2.1 (by have := h2.2; omega)
      | ct => exact ih h2.1 (by have := h2.2; omega)
      | bk => exact h2
      | rt d => exact h2
/-- a comprehension, by what holds before each turn -/
theorem ok_lc {vs : List Nat} {ft : M Bool} {fe : M AV} {acc : List D} {Q : List D → En → Prop} (I : Nat → List D → En → Prop) (h0 : I 0 acc ρ) (step : ∀ (i : Nat) (d : D) (acc : List D) (ρ : En), ds[i]? = some d → I i acc ρ →
      ∃ ρ1, t.to d ρ = some ρ1 ∧ ok (ft ρ1) (fun b ρ2 => match b with
        | true => ok (fe.st ρ2) (fun e ρ3 => acc.length < sizeLine ∧ I (i + 1) (acc ++ [e]) (wipeE ρ3 vs)) E
        | false => I (i + 1) acc (wipeE ρ2 vs)) E) (hd : ∀ acc ρ, I ds.length acc ρ → Q acc ρ) : ok (lcL vs t ft fe ds acc ρ) Q E := by
  induction ds generalizing I acc ρ with
  | nil => exact hd _ _ h0
  | cons d r ih =>
    obtain ⟨ρ1, h1, h2⟩ := step 0 d acc ρ rfl h0
    rw [lcL_cons, h1]
    show ok ((ft ρ1).bind fun b ρ2 => lcK b vs t ft fe r acc ρ2) Q E
    rw [ok_bind]
    refine h2.imp (fun b ρ2 h3 => ?_) fun _ _ _ h => h
    have go : ∀ acc ρ, I 1 acc ρ → ok (lcL vs t ft fe r acc ρ) Q E := fun acc ρ h => ih (fun i => I (i + 1)) h (fun i d acc ρ hd hI => step (i + 1) d acc ρ (by rw [List.getElem?_cons_succ]; exact hd) hI) hd
    cases b with
    | false =>
      rw [lcK_f]
      exact go _ _ h3
    | true =>
      rw [lcK_t, ok_bind]
      refine ok.imp h3 (fun e ρ3 h4 => ?_) fun _ _ _ h => h
      rw [if_pos h4.1]
      exact go _ _ h4.2
theorem ok_ex (h : ok r Q noE) : ∃ x ρ, r = .val x ρ ∧ Q x ρ := by
  cases r with
  | val x ρ => exact ⟨x, ρ, rfl, h⟩
  | exc _ _ _ => exact h.elim
  | bad => exact h.elim
theorem ok_nox {r : Res (List D)} {vs : List Nat} {Q : D → En → Prop} (h : ok r (fun acc ρ2 => Q (.lst acc) (unwipe ρ ρ2 vs)) noE) : ok (noxN r vs ρ) Q E := by
  obtain ⟨x, ρ2, rfl, q⟩ := ok_ex h
  exact q
end
end PV
/-! rules for simp: classes, and entries of tables by their numbers -/
namespace PV
open PySem PySem.Spec PyProof.Rows L2 VK
section
variable {α : Type} {ρ ρ' : En} {x : α} {d e : D} {cs : List Str} {c m : Str} {ms : List Bool} {nk : Nat} {Mf : Nat → Md} {fo : M AV} {fa : M A2} {xs zs : List AV} {fs : List (Str × D)} {ds : List D}
@[simp] theorem nox_val : (Res.val x ρ).nox = .val x ρ := rfl
@[simp] theorem eMeth_r : eMeth cs m ms nk Mf fo fa ρ = (fo ρ).bind fun x ρ1 => if recv cs m x ρ1 = true then (fa ρ1).bind fun xz ρ2 => callA ms nk Mf (x :: xz.1, xz.2) ρ2 else .bad := rfl
@[simp] theorem recv_ins : recv cs m (.d (.ins c fs)) ρ = (cs.contains c && (fs.lookup m).isNone) := rfl
def propR (cs : List Str) (ms : List Bool) (Mf : Nat → Md) (o : Option D) (x : AV) (ρ : En) : Res AV := match o with
  | some (.ins c _) => if c ∈ cs then (callA ms 0 Mf ([x], []) ρ).nox else .bad
  | _ => .bad
@[simp] theorem propR_ins {x : AV} : propR cs ms Mf (some (.ins c fs)) x ρ = if c ∈ cs then (callA ms 0 Mf ([x], []) ρ).nox else .bad := rfl
@[simp] theorem eProp_r : eProp cs ms Mf fo ρ = (fo ρ).bind fun x ρ1 => propR cs ms Mf (der x ρ1) x ρ1 := by
  unfold eProp propR
  refine congrArg (Res.bind _) (funext fun x => funext fun ρ1 => ?_)
  cases der x ρ1 with
  | none => rfl
  | some d => cases d <;> rfl
@[simp] theorem eCMet_r {fa : M A2} : eCMet c ms nk Mf fa ρ = (fa ρ).bind fun xz ρ1 => callA ms nk Mf (.d (.gl c) :: xz.1, xz.2) ρ1 := rfl
def makeR (c : Str) (Mf : Nat → Md) (n : Nat) (o : Option (List D × En)) : Res D := match o with
  | some (ds, ρ) => madeR (Mf n (.ins c [] :: ds)) ρ
  | none => .bad
@[simp] theorem makeR_some {n : Nat} : makeR c Mf n (some (ds, ρ)) = madeR (Mf n (.ins c [] :: ds)) ρ := rfl
@[simp] theorem nMakeA_r {fa : M A2} : nMakeA c ms nk Mf fa ρ = (fa ρ).bind fun xz ρ1 => if xz.2.length = nk ∧ ms = [true] then makeR c Mf (xz.1.length + 1) (frzL (xz.1 ++ xz.2) ρ1) else .bad := by
  unfold nMakeA makeA makeR
  refine congrArg (Res.bind _) (funext fun xz => funext fun ρ1 => ?_)
  split
  · cases frzL (xz.1 ++ xz.2) ρ1 <;> rfl
  · rfl
def makeV (s : Sl) (c : Str) (r : Res D) : Res D := match s with
  | .sh (.gl x) => if x = c then r else .bad
  | _ => .bad
@[simp] theorem makeV_gl {x : Str} {r : Res D} : makeV (.sh (.gl x)) c r = if x = c then r else .bad := rfl
@[simp] theorem nMakeV_r {i : Nat} {fa : M A2} : nMakeV i c ms nk Mf fa ρ = makeV (ρ.at i) c (nMakeA c ms nk Mf fa ρ) := by
  unfold nMakeV makeV
  cases ρ.at i with
  | sh d => cases d <;> rfl
  | _ => rfl
@[simp] theorem madeR_val : madeR (.val .non [d]) ρ = .val d ρ := rfl
@[simp] theorem madeR_exc : madeR (.exc c fs [d]) ρ = .exc c fs ρ := rfl
@[simp] theorem pair_ins {c' : Str} {gs : List (Str × D)} : pair cs (.d (.ins c fs)) (.d (.ins c' gs)) ρ = (cs.contains c && c == c') := rfl
@[simp] theorem holds_ins : holds cs (.d (.ins c fs)) ρ = cs.contains c := rfl
def dneR (r : Res AV) : Res AV := r.bind fun z ρ3 => match z with
  | .d (.bl v) => .val (.d (.bl (!v))) ρ3
  | _ => .bad
@[simp] theorem dneR_bl {v : Bool} : dneR (.val (.d (.bl v)) ρ) = .val (.d (.bl (!v))) ρ := rfl
@[simp] theorem eDne_r {a b : M AV} : eDne cs Mf a b ρ = (a ρ).bind fun x ρ1 => (b ρ1).bind fun y ρ2 => if pair cs x y ρ2 = true then dneR ((callA [false, false] 0 Mf ([x, y], []) ρ2).nox) else .bad := rfl
def fldR (cs : List Str) (f : Str) (i : Nat) (d : D) (o : Option D) (ρ : En) : Res Fl := match o with
  | some (.ins c fs) => if c ∈ cs ∧ fs.length < 1000 then (match (ρ.at i).re (.ins c (putD f d fs)) with
    | some s => .val .nx (ρ.set i s)
    | none => .bad) else .bad
  | _ => .bad
@[simp] theorem fldR_ins {f : Str} {i : Nat} : fldR cs f i d (some (.ins c fs)) ρ = if c ∈ cs ∧ fs.length < 1000 then (match (ρ.at i).re (.ins c (putD f d fs)) with
    | some s => .val .nx (ρ.set i s)
    | none => .bad) else .bad := rfl
@[simp] theorem sFldI_r {f : Str} {i : Nat} {fe : M AV} : sFldI cs f i fe ρ = (fe.st ρ).bind fun d ρ1 => fldR cs f i d (ρ1.at i).mu ρ1 := by
  unfold sFldI fldI fldR
  rfl
@[simp] theorem gConI_ins {tb : List (Str × D)} {f : Str} : gConI tb f (.ins c fs) = if fs.lookup f = none then tb.lookup c else none := rfl
@[simp] theorem putD_nil {f : Str} : putD f d [] = [(f, d)] := rfl
@[simp] theorem putD_cons {f g : Str} : putD f d ((g, e) :: fs) = if g = f then (g, d) :: fs else (g, e) :: putD f d fs := rfl
theorem mdA_plain {N : Nat} {fM : M Fl} : mdA false ms [] [] N fM ms.length ds = runM ms N fM (ds.take ms.length ++ []) := by
  unfold mdA
  simp
/-- self, star arguments, two keywords -/
theorem mdA_init {N : Nat} {fM : M Fl} {o f r : D} (h : ds.length ≤ 1000000) : mdA true [true] [0, 1] [] N fM (ds.length + 1) (o :: (ds ++ [f, r])) = runM [true, false, false, false] N fM [o, f, r, .tup ds] := by
  have e1 : (List.drop (ds.length + 1) (o :: (ds ++ [f, r]))) = [f, r] := by simp
  have e2 : (List.take (ds.length + 1) (o :: (ds ++ [f, r]))) = o :: ds := by simp
  unfold mdA
  simp only [e1, e2]
  rw [if_pos (by simpa using small_r h)]
  rfl
theorem mdA_2 {N : Nat} {fM : M Fl} {a b : D} {x y : Bool} : mdA false [x, y] [] [] N fM 2 [a, b] = runM [x, y] N fM [a, b] := rfl
theorem mdA_3 {N : Nat} {fM : M Fl} {a b c : D} {x y z : Bool} : mdA false [x, y, z] [] [] N fM 3 [a, b, c] = runM [x, y, z] N fM [a, b, c] := rfl
theorem mdA_1 {N : Nat} {fM : M Fl} {a : D} {x : Bool} : mdA false [x] [] [] N fM 1 [a] = runM [x] N fM [a] := rfl
theorem mdA_cls {N : Nat} {fM : M Fl} {o f r : D} : mdA false [false] [0, 1] [] N fM 1 [o, f, r] = runM [false, false, false] N fM [o, f, r] := rfl
end
theorem prep_ds {ι : Type} {e : ι → D} {ρ : En} : ∀ {is : List ι}, prep1 (List.replicate is.length false) (is.map (AV.d ∘ e)) ρ = some (is.map (AV.d ∘ e), ρ)
  | [] => rfl
  | i :: is => by
    rw [List.length_cons, List.replicate_succ, List.map_cons, prep1_sh]
    show prepC (some (e i, ρ)) _ = _
    rw [prepC_some, prep_ds (is := is)]
    rfl
theorem slots_ds {ι : Type} {e : ι → D} : ∀ {is : List ι}, slotsOf (is.map (AV.d ∘ e)) = []
  | [] => rfl
  | i :: is => by
    rw [List.map_cons]
    show slotsOf (.d (e i) :: _) = []
    rw [slotsOf_d, slots_ds (is := is)]
theorem conts_ds {ι : Type} {e : ι → D} {ρ : En} : ∀ {is : List ι}, conts (is.map (AV.d ∘ e)) ρ = some (is.map e)
  | [] => rfl
  | i :: is => by
    rw [List.map_cons]
    show conts (.d (e i) :: _) ρ = _
    rw [conts_d, conts_ds (is := is)]
    rfl
/-- a call with so many values -/
@[simp] theorem callP_map {ι : Type} {e : ι → D} {ρ : En} {is : List ι} {Mf : Md} : callP (prep1 (List.replicate is.length false) (is.map (AV.d ∘ e)) ρ) Mf = callR (Mf (is.map e)) [] ρ := by
  rw [prep_ds, callP_some, slots_ds, if_pos List.nodup_nil, conts_ds]
@[simp] theorem callP_ds {ρ : En} {ds : List D} {Mf : Md} : callP (prep1 (List.replicate ds.length false) (ds.map AV.d) ρ) Mf = callR (Mf ds) [] ρ := by
  have := callP_map (e := fun d : D => d) (ρ := ρ) (is := ds) (Mf := Mf)
  rw [List.map_id'] at this
  exact this
@[simp] theorem frzL_map2 {ι : Type} {e : ι → D} {ρ : En} {a b : D} : ∀ {is : List ι}, frzL (is.map (AV.d ∘ e) ++ [AV.d a, AV.d b]) ρ = some (is.map e ++ [a, b], ρ)
  | [] => rfl
  | i :: is => by
    rw [List.map_cons, List.cons_append, frzL_cons]
    show frzC (some (e i, ρ)) _ = _
    rw [frzC_some, frzL_map2 (is := is)]
    rfl
theorem enumL_at : ∀ {xs : List D} {k n : Nat} {d : D}, (enumL k xs)[n]? = some d → ∃ x, xs[n]? = some x ∧ d = .tup [.int ((k + n : Nat) : Int), x]
  | [], _, _, _, h => by cases h
  | x :: r, k, 0, d, h => by
    cases h
    exact ⟨x, rfl, rfl⟩
  | x :: r, k, n + 1, d, h => by
    obtain ⟨y, h1, h2⟩ := enumL_at (xs := r) (k := k + 1) (n := n) h
    exact ⟨y, h1, by rw [h2, show k + 1 + n = k + (n + 1) from by omega]⟩
/-! ### a table's fields -/
section
variable {a b c : D}
@[simp] theorem lkT_e : List.lookup ("_entries" : Str) [(("_entries" : Str), a), (("_fresh" : Str), b), (("_roots" : Str), c)] = some a := rfl
@[simp] theorem lkT_f : List.lookup ("_fresh" : Str) [(("_entries" : Str), a), (("_fresh" : Str), b), (("_roots" : Str), c)] = some b := rfl
@[simp] theorem lkT_r : List.lookup ("_roots" : Str) [(("_entries" : Str), a), (("_fresh" : Str), b), (("_roots" : Str), c)] = some c := rfl
@[simp] theorem lkT_1 : List.lookup ("_is_akin" : Str) [(("_entries" : Str), a), (("_fresh" : Str), b), (("_roots" : Str), c)] = none := rfl
@[simp] theorem lkT_2 : List.lookup ("_joined" : Str) [(("_entries" : Str), a), (("_fresh" : Str), b), (("_roots" : Str), c)] = none := rfl
@[simp] theorem lkT_3 : List.lookup ("within" : Str) [(("_entries" : Str), a), (("_fresh" : Str), b), (("_roots" : Str), c)] = none := rfl
@[simp] theorem lkT_4 : List.lookup ("changed" : Str) [(("_entries" : Str), a), (("_fresh" : Str), b), (("_roots" : Str), c)] = none := rfl
@[simp] theorem lkT_5 : List.lookup ("ROOTS" : Str) [(("_entries" : Str), a), (("_fresh" : Str), b), (("_roots" : Str), c)] = none := rfl
@[simp] theorem lkT_6 : List.lookup ("FRESH" : Str) [(("_entries" : Str), a), (("_fresh" : Str), b), (("_roots" : Str), c)] = none := rfl
end
/-! ### the twelve entries -/
def kinds4 : List Str := ["load", "old", "new", "source"]
def hues3 : List Str := ["white", "grey", "black"]
def en (i : Nat) : D := .tup [.str (kinds4.getD (i / 3) ""), .str (hues3.getD (i % 3) "")]
def E12 : List D := (List.range 12).map en
/-- the entries that p tells, in their order -/
def ent (p : Nat → Bool) : List D := ((List.range 12).filter p).map en
theorem eqD_en : ∀ i, i < 12 → ∀ j, j < 12 → eqD (en i) (en j) = decide (i = j) := by decide +kernel
theorem en_eqo : ∀ i, i < 12 → ((en i).dat && (en i).nod && decide ((en i).dep ≤ 1)) = true := by decide +kernel
theorem mem_en {i : Nat} (hi : i < 12) : ∀ {is : List Nat}, (∀ j ∈ is, j < 12) → memD (en i) (is.map en) = decide (i ∈ is)
  | [], _ => rfl
  | j :: is, h => by
    have ih := mem_en hi (is := is) fun k hk => h k (List.mem_cons_of_mem _ hk)
    unfold memD at ih ⊢
    rw [List.map_cons, List.any_cons, ih, eqD_en j (h j List.mem_cons_self) i hi]
    by_cases e : i = j
    · subst e
      simp
    · have e' : ¬ j = i := fun z => e z.symm
      simp [e, e']
theorem ens_eqo {is : List Nat} (h : ∀ j ∈ is, j < 12) : (D.tup (is.map en)).eqo = true ∧ (D.lst (is.map en)).eqo = true := by
  have key : datL (is.map en) = true ∧ nodL (is.map en) = true ∧ depL (is.map en) ≤ 1 := by
    induction is with
    | nil => exact ⟨rfl, rfl, Nat.zero_le _⟩
    | cons j r ih =>
      obtain ⟨a, b, c⟩ := ih fun k hk => h k (List.mem_cons_of_mem _ hk)
      have e := en_eqo j (h j List.mem_cons_self)
      simp only [Bool.and_eq_true, decide_eq_true_eq] at e
      refine ⟨?_, ?_, ?_⟩
      · show ((en j).dat && datL (r.map en)) = true
        rw [e.1.1, a]
        rfl
      · show ((en j).nod && nodL (r.map en)) = true
        rw [e.1.2, b]
        rfl
      · show max (en j).dep (depL (r.map en)) ≤ 1
        exact Nat.max_le.mpr ⟨e.2, c⟩
  obtain ⟨a, b, c⟩ := key
  constructor
  · show (datL (is.map en) && nodL (is.map en) && decide (depL (is.map en) + 1 ≤ 60)) = true
    rw [a, b, decide_eq_true (by omega)]
    rfl
  · show (datL (is.map en) && nodL (is.map en) && decide (depL (is.map en) + 1 ≤ 60)) = true
    rw [a, b, decide_eq_true (by omega)]
    rfl
theorem en_eqo' {i : Nat} (hi : i < 12) : (en i).eqo = true := by
  have e := en_eqo i hi
  simp only [Bool.and_eq_true, decide_eq_true_eq] at e
  show ((en i).dat && (en i).nod && decide ((en i).dep ≤ 60)) = true
  rw [e.1.1, e.1.2, decide_eq_true (by have := e.2; omega)]
  rfl
section
variable {i : Nat} {is : List Nat} {p q : Nat → Bool}
theorem in_T (hi : i < 12) (h : ∀ j ∈ is, j < 12) : gIn (en i) (.tup (is.map en)) = some (.bl (decide (i ∈ is))) := by
  show (if (en i).eqo && (D.tup (is.map en)).eqo then some (D.bl (memD (en i) (is.map en))) else none) = _
  rw [en_eqo' hi, (ens_eqo h).1, mem_en hi h]
  rfl
theorem in_L (hi : i < 12) (h : ∀ j ∈ is, j < 12) : gIn (en i) (.lst (is.map en)) = some (.bl (decide (i ∈ is))) := by
  show (if (en i).eqo && (D.lst (is.map en)).eqo then some (D.bl (memD (en i) (is.map en))) else none) = _
  rw [en_eqo' hi, (ens_eqo h).2, mem_en hi h]
  rfl
theorem nin_T (hi : i < 12) (h : ∀ j ∈ is, j < 12) : gNin (en i) (.tup (is.map en)) = some (.bl (!decide (i ∈ is))) := by
  show (if (en i).eqo && (D.tup (is.map en)).eqo then some (D.bl (!memD (en i) (is.map en))) else none) = _
  rw [en_eqo' hi, (ens_eqo h).1, mem_en hi h]
  rfl
theorem nin_L (hi : i < 12) (h : ∀ j ∈ is, j < 12) : gNin (en i) (.lst (is.map en)) = some (.bl (!decide (i ∈ is))) := by
  show (if (en i).eqo && (D.lst (is.map en)).eqo then some (D.bl (!memD (en i) (is.map en))) else none) = _
  rw [en_eqo' hi, (ens_eqo h).2, mem_en hi h]
  rfl
theorem flt_lt (p : Nat → Bool) : ∀ j ∈ (List.range 12).filter p, j < 12 := fun j h => List.mem_range.mp (List.mem_filter.mp h).1
theorem mem_flt (hi : i < 12) : decide (i ∈ (List.range 12).filter p) = p i := by
  rw [Bool.eq_iff_iff]
  simp [List.mem_filter, hi]
theorem inT (hi : i < 12) : gIn (en i) (.tup (ent p)) = some (.bl (p i)) := by rw [ent, in_T hi (flt_lt p), mem_flt hi]
theorem inL (hi : i < 12) : gIn (en i) (.lst (ent p)) = some (.bl (p i)) := by rw [ent, in_L hi (flt_lt p), mem_flt hi]
theorem ninT (hi : i < 12) : gNin (en i) (.tup (ent p)) = some (.bl (!p i)) := by rw [ent, nin_T hi (flt_lt p), mem_flt hi]
theorem ninL (hi : i < 12) : gNin (en i) (.lst (ent p)) = some (.bl (!p i)) := by rw [ent, nin_L hi (flt_lt p), mem_flt hi]
theorem ent_len (p : Nat → Bool) : (ent p).length ≤ 12 := by
  unfold ent
  rw [List.length_map]
  exact Nat.le_trans (List.length_filter_le _ _) (by simp)
theorem ent_congr (h : ∀ i, i < 12 → p i = q i) : ent p = ent q := by
  unfold ent
  congr 1
  exact List.filter_congr fun i hi => h i (List.mem_range.mp hi)
theorem ent_inj (h : ent p = ent q) : ∀ i, i < 12 → p i = q i := fun i hi => by
  have a := inT (p := p) hi
  have b := inT (p := q) hi
  rw [h, b] at a
  exact (D.bl.inj (Option.some.inj a)).symm
/-- a walk over entries that keeps some -/
theorem lc_ent {vs : List Nat} {t : Tg} {ft : M Bool} {fe : M AV} {ρ : En} {p : Nat → Bool} (hw : wipeE ρ vs = ρ) (is : List Nat) (hs : ∀ j ∈ is, j < 12) (hl : is.length ≤ 1000000)
    (h : ∀ i, i < 12 → ∃ ρ1 ρ2, t.to (en i) ρ = some ρ1 ∧ ft ρ1 = .val (p i) ρ2 ∧ wipeE ρ2 vs = ρ ∧ (p i = true → ∃ ρ3, fe.st ρ2 = .val (en i) ρ3 ∧ wipeE ρ3 vs = ρ)) : lcL vs t ft fe (is.map en) [] ρ = .val ((is.filter p).map en) ρ := by
  let idx : D → Nat := fun d => (E12.findIdx? fun e => eqD e d).getD 0
  have hidx : ∀ i, i < 12 → idx (en i) = i := by decide +kernel
  have := lcL_map (vs := vs) (t := t) (ft := ft) (fe := fe) (p := fun d => p (idx d)) (q := fun d => d) (ρ := ρ) hw (is.map en) [] (fun d hd => by
    obtain ⟨i, hi, rfl⟩ := List.mem_map.mp hd
    have h12 := hs i hi
    obtain ⟨ρ1, ρ2, h1, h2, h3, h4⟩ := h i h12
    exact ⟨ρ1, ρ2, h1, by rw [hidx i h12]; exact h2, h3, fun z => h4 (by rw [hidx i h12] at z; exact z)⟩) (by simpa using small_r hl)
  rw [this]
  congr 1
  rw [List.nil_append, List.map_id', List.filter_map]
  congr 1
  exact List.filter_congr fun i hi => by
    show p (idx (en i)) = p i
    rw [hidx i (hs i hi)]
/-- the parts of data that is shown: its weight, its depth -/
structure Shw (d : D) (w k : Nat) : Prop where
  si : d.si = true
  nod : d.nod = true
  dep : d.dep ≤ k
  wt : d.wt ≤ w
theorem Shw.le {d : D} {v w j k : Nat} (h : Shw d v j) (l : v ≤ w) (m : j ≤ k) : Shw d w k := ⟨h.si, h.nod, Nat.le_trans h.dep m, Nat.le_trans h.wt l⟩
theorem shw_all {xs : List D} {n k : Nat} (h : ∀ d ∈ xs, Shw d n k) : siL xs = true ∧ nodL xs = true ∧ depL xs ≤ k ∧ wtL xs ≤ (n + 1) * xs.length := by
  induction xs with
  | nil => exact ⟨rfl, rfl, Nat.zero_le _, Nat.zero_le _⟩
  | cons x r ih =>
    obtain ⟨a, b, c, e⟩ := ih (fun d hd => h d (List.mem_cons_of_mem _ hd))
    have o := h x List.mem_cons_self
    refine ⟨?_, ?_, ?_, ?_⟩
    · show (x.si && siL r) = true
      rw [a, o.si]
      rfl
    · show (x.nod && nodL r) = true
      rw [b, o.nod]
      rfl
    · show max x.dep (depL r) ≤ k
      exact Nat.max_le.mpr ⟨o.dep, c⟩
    · show x.wt + 1 + wtL r ≤ _
      rw [List.length_cons, Nat.mul_succ]
      have := o.wt
      omega
theorem shw_lst {xs : List D} {n k : Nat} (h : ∀ d ∈ xs, Shw d n k) : Shw (.lst xs) ((n + 1) * xs.length) (k + 1) := by
  obtain ⟨a, b, c, e⟩ := shw_all h
  exact ⟨a, b, by show depL xs + 1 ≤ k + 1; omega, e⟩
theorem shw_tup {xs : List D} {n k : Nat} (h : ∀ d ∈ xs, Shw d n k) : Shw (.tup xs) ((n + 1) * xs.length) (k + 1) := by
  obtain ⟨a, b, c, e⟩ := shw_all h
  exact ⟨a, b, by show depL xs + 1 ≤ k + 1; omega, e⟩
theorem shw_en {i : Nat} (h : i < 12) : Shw (en i) 20 1 := by
  have one : ∀ i, i < 12 → ((en i).si && (en i).nod && decide ((en i).dep ≤ 1) && decide ((en i).wt ≤ 20)) = true := by decide +kernel
  have o := one i h
  simp only [Bool.and_eq_true, decide_eq_true_eq] at o
  exact ⟨o.1.1.1, o.1.1.2, o.1.2, o.2⟩
theorem shw_ents {is : List Nat} (h : ∀ j ∈ is, j < 12) : Shw (.tup (is.map en)) (21 * is.length) 2 ∧ Shw (.lst (is.map en)) (21 * is.length) 2 := by
  have k : ∀ d ∈ is.map en, Shw d 20 1 := fun d hd => by
    obtain ⟨i, hi, rfl⟩ := List.mem_map.mp hd
    exact shw_en (h i hi)
  have a := shw_tup k
  have b := shw_lst k
  rw [List.length_map] at a b
  exact ⟨a, b⟩
theorem shw_ent (p : Nat → Bool) : Shw (.tup (ent p)) 300 2 := by
  have hl : ((List.range 12).filter p).length ≤ 12 := Nat.le_trans (List.length_filter_le _ _) (by simp)
  exact (shw_ents (flt_lt p)).1.le (by omega) (by omega)
theorem shw_entL (p : Nat → Bool) : Shw (.lst (ent p)) 300 2 := by
  have hl : ((List.range 12).filter p).length ≤ 12 := Nat.le_trans (List.length_filter_le _ _) (by simp)
  exact (shw_ents (flt_lt p)).2.le (by omega) (by omega)
theorem shw_str {x : Str} (h : x ∈ (["white", "grey", "black", "once", "again"] : List Str)) : Shw (.str x) 10 0 := by
  simp only [List.mem_cons, List.not_mem_nil, or_false] at h
  rcases h with rfl | rfl | rfl | rfl | rfl <;> exact ⟨by kernel_rfl, by kernel_rfl, by decide, by decide +kernel⟩
theorem Shw.sho {d : D} {n k : Nat} (h : Shw d n k) (l : n ≤ 250000) (m : k ≤ 60) : d.sho = true := by
  unfold D.sho
  rw [h.si, h.nod, decide_eq_true (show d.dep ≤ 60 from Nat.le_trans h.dep m), decide_eq_true (show d.wt ≤ 250000 from Nat.le_trans h.wt l)]
  rfl
theorem Shw.repr {d : D} {n k : Nat} (h : Shw d n k) (l : n ≤ 250000) (m : k ≤ 60) : gReprA [d] = some (.str d.py.shown) := gReprA_r (h.sho l m)
theorem eqv_ents : ∀ {is : List Nat}, (∀ j ∈ is, j < 12) → PyData.eqvAll (pyL (is.map en)) (pyL (is.map en)) = true
  | [], _ => rfl
  | i :: is, h => by
    show (PyData.eqv (en i).py (en i).py && PyData.eqvAll (pyL (is.map en)) (pyL (is.map en))) = true
    rw [eqv_ents fun j hj => h j (List.mem_cons_of_mem _ hj)]
    have := eqD_en i (h i List.mem_cons_self) i (h i List.mem_cons_self)
    unfold eqD at this
    rw [this]
    simp
theorem ne_ent : gNeG (.tup (ent p)) (.tup (ent p)) = some (.bl false) := by
  have e : eqD (.tup (ent p)) (.tup (ent p)) = true := by
    show PyData.eqv (.tuple (pyL (ent p))) (.tuple (pyL (ent p))) = true
    rw [PyData.eqv]
    exact eqv_ents (flt_lt p)
  show (if (D.tup (ent p)).eqo && (D.tup (ent p)).eqo then some (D.bl (!eqD (.tup (ent p)) (.tup (ent p)))) else none) = _
  rw [show (D.tup (ent p)).eqo = true from (ens_eqo (flt_lt p)).1, e]
  rfl
theorem lc_E {vs : List Nat} {t : Tg} {ft : M Bool} {fe : M AV} {ρ : En} {p : Nat → Bool} (hw : wipeE ρ vs = ρ)
    (h : ∀ i, i < 12 → ∃ ρ1 ρ2, t.to (en i) ρ = some ρ1 ∧ ft ρ1 = .val (p i) ρ2 ∧ wipeE ρ2 vs = ρ ∧ (p i = true → ∃ ρ3, fe.st ρ2 = .val (en i) ρ3 ∧ wipeE ρ3 vs = ρ)) : lcL vs t ft fe E12 [] ρ = .val (ent p) ρ :=
  lc_ent hw (List.range 12) (fun j hj => List.mem_range.mp hj) (by simp) h
end
end PV
/-! more rules for simp: len, repr, str, bool by own methods; walks over a map; tables' entries compared and counted -/
namespace PV
open PySem PySem.Spec PyProof.Rows L2 VK
section
variable {α : Type} {ρ ρ' : En} {x : α} {d e : D} {cs : List Str} {c m : Str} {ms : List Bool} {Mf : Nat → Md} {fo : M AV} {g : GL} {ck : D → Bool} {fs : List (Str × D)}
def ownM (ck : D → Bool) : MR → Option D
  | .val z [] => if ck z = true then some z else none
  | _ => none
@[simp] theorem ownM_val {z : D} : ownM ck (.val z []) = if ck z = true then some z else none := rfl
@[simp] theorem ownA_ins : ownA cs Mf ck (.d (.ins c fs)) = if c ∈ cs then ownM ck (Mf 1 [.ins c fs]) else none := by
  show ownR cs Mf ck (.ins c fs) = _
  unfold ownR ownM
  rfl
def truK (o : Option D) (ρ : En) : Res Bool := match o with
  | some (.bl b) => .val b ρ
  | _ => .bad
@[simp] theorem truO_a {x : AV} : PV.truO cs Mf x ρ = truK (ownA cs Mf ckBl x) ρ := rfl
@[simp] theorem truK_bl {b : Bool} : truK (some (.bl b)) ρ = .val b ρ := rfl
theorem ckLen_int {n : Int} : ckLen (.int n) = decide (0 ≤ n ∧ n < 2 ^ 63) := rfl
@[simp] theorem ckStr_str {z : Str} : ckStr (.str z) = true := rfl
@[simp] theorem ckBl_bl {b : Bool} : ckBl (.bl b) = true := rfl
@[simp] theorem gBoolA_tup {xs : List D} : gBoolA [.tup xs] = some (.bl (!xs.isEmpty)) := rfl
@[simp] theorem gBoolA_lst {xs : List D} : gBoolA [.lst xs] = some (.bl (!xs.isEmpty)) := rfl
@[simp] theorem gBoolA_bl {b : Bool} : gBoolA [.bl b] = some (.bl b) := rfl
@[simp] theorem gBoolA_int {i : Int} : gBoolA [.int i] = some (.bl (i != 0)) := rfl
end
/-- a walk over so many things, each with its test and what it gives -/
theorem lc_map {ι : Type} {vs : List Nat} {t : Tg} {ft : M Bool} {fe : M AV} {ρ : En} {e g : ι → D} {p : ι → Bool} (hw : wipeE ρ vs = ρ) : ∀ (is : List ι) (acc : List D),
    (∀ i ∈ is, ∃ ρ1 ρ2, t.to (e i) ρ = some ρ1 ∧ ft ρ1 = .val (p i) ρ2 ∧ wipeE ρ2 vs = ρ ∧ (p i = true → ∃ ρ3, fe.st ρ2 = .val (g i) ρ3 ∧ wipeE ρ3 vs = ρ)) → acc.length + is.length ≤ sizeLine →
    lcL vs t ft fe (is.map e) acc ρ = .val (acc ++ (is.filter p).map g) ρ
  | [], acc, _, _ => by simp
  | i :: is, acc, h, hl => by
    obtain ⟨ρ1, ρ2, h1, h2, h3, h4⟩ := h i List.mem_cons_self
    rw [List.length_cons] at hl
    rw [List.map_cons, lcL_cons, h1]
    show (ft ρ1).bind _ = _
    rw [h2]
    show lcK (p i) vs t ft fe (is.map e) acc ρ2 = _
    cases hp : p i with
    | false =>
      rw [lcK_f, h3, lc_map hw is acc (fun j hj => h j (List.mem_cons_of_mem _ hj)) (by omega), List.filter_cons_of_neg (by simp [hp])]
    | true =>
      obtain ⟨ρ3, h5, h6⟩ := h4 hp
      rw [lcK_t, h5]
      show (if acc.length < sizeLine then lcL vs t ft fe (is.map e) (acc ++ [g i]) (wipeE ρ3 vs) else .bad) = _
      rw [if_pos (by omega), h6, lc_map hw is _ (fun j hj => h j (List.mem_cons_of_mem _ hj)) (by rw [List.length_append]; show acc.length + 1 + is.length ≤ _; omega), List.filter_cons_of_pos hp]
      simp
/-- a walk over some entries -/
theorem lc_ents {vs : List Nat} {t : Tg} {ft : M Bool} {fe : M AV} {ρ : En} {g : Nat → D} {P p : Nat → Bool} (hw : wipeE ρ vs = ρ)
    (h : ∀ i, i < 12 → ∃ ρ1 ρ2, t.to (en i) ρ = some ρ1 ∧ ft ρ1 = .val (p i) ρ2 ∧ wipeE ρ2 vs = ρ ∧ (p i = true → ∃ ρ3, fe.st ρ2 = .val (g i) ρ3 ∧ wipeE ρ3 vs = ρ)) :
    lcL vs t ft fe (ent P) [] ρ = .val (((List.range 12).filter fun i => P i && p i).map g) ρ := by
  rw [ent, lc_map hw _ [] (fun i hi => h i (flt_lt P i hi)) (by have := List.length_filter_le P (List.range 12); exact small_r (by simp at this ⊢; omega)), List.nil_append, List.filter_filter]
  congr 2
  exact List.filter_congr fun i _ => Bool.and_comm _ _
/-! ### entries alike, within, counted -/
def esame (p q : Nat → Bool) : Bool := (List.range 12).all fun i => p i == q i
def subs (p q : Nat → Bool) : Bool := (List.range 12).all fun i => !p i || q i
def ecnt (p : Nat → Bool) : Nat := (ent p).length
section
variable {p q : Nat → Bool}
theorem esame_iff : esame p q = true ↔ ∀ i, i < 12 → p i = q i := by simp [esame]
theorem subs_iff : subs p q = true ↔ ∀ i, i < 12 → p i = true → q i = true := by
  simp only [subs, List.all_eq_true, List.mem_range, Bool.or_eq_true, Bool.not_eq_true']
  exact ⟨fun h i hi hp => (h i hi).elim (fun z => by rw [hp] at z; cases z) id, fun h i hi => by cases hp : p i with
    | false => exact .inl rfl
    | true => exact .inr (h i hi hp)⟩
theorem eqv_map : ∀ {is js : List Nat}, (∀ j ∈ is, j < 12) → (∀ j ∈ js, j < 12) → PyData.eqvAll (pyL (is.map en)) (pyL (js.map en)) = decide (is = js)
  | [], [], _, _ => rfl
  | [], _ :: _, _, _ => rfl
  | _ :: _, [], _, _ => rfl
  | i :: is, j :: js, h, k => by
    show (PyData.eqv (en i).py (en j).py && PyData.eqvAll (pyL (is.map en)) (pyL (js.map en))) = _
    rw [eqv_map (is := is) (js := js) (fun z hz => h z (List.mem_cons_of_mem _ hz)) fun z hz => k z (List.mem_cons_of_mem _ hz)]
    have := eqD_en i (h i List.mem_cons_self) j (k j List.mem_cons_self)
    unfold eqD at this
    rw [this]
    simp
theorem flt_same : decide ((List.range 12).filter p = (List.range 12).filter q) = esame p q := by
  rw [Bool.eq_iff_iff, decide_eq_true_iff, esame_iff]
  exact ⟨fun h => ent_inj (show ent p = ent q by unfold ent; rw [h]), fun h => List.filter_congr fun i hi => h i (List.mem_range.mp hi)⟩
theorem eqD_ent : eqD (.tup (ent p)) (.tup (ent q)) = esame p q ∧ eqD (.lst (ent p)) (.lst (ent q)) = esame p q := by
  rw [← flt_same]
  constructor
  · show PyData.eqv (.tuple (pyL (ent p))) (.tuple (pyL (ent q))) = _
    rw [PyData.eqv]
    exact eqv_map (flt_lt p) (flt_lt q)
  · show PyData.eqv (.list (pyL (ent p))) (.list (pyL (ent q))) = _
    rw [PyData.eqv]
    exact eqv_map (flt_lt p) (flt_lt q)
theorem eqT : gEqG (.tup (ent p)) (.tup (ent q)) = some (.bl (esame p q)) := by
  show (if (D.tup (ent p)).eqo && (D.tup (ent q)).eqo then some (D.bl (eqD (.tup (ent p)) (.tup (ent q)))) else none) = _
  rw [show (D.tup (ent p)).eqo = true from (ens_eqo (flt_lt p)).1, show (D.tup (ent q)).eqo = true from (ens_eqo (flt_lt q)).1, eqD_ent.1]
  rfl
theorem eqL : gEqG (.lst (ent p)) (.lst (ent q)) = some (.bl (esame p q)) := by
  show (if (D.lst (ent p)).eqo && (D.lst (ent q)).eqo then some (D.bl (eqD (.lst (ent p)) (.lst (ent q)))) else none) = _
  rw [show (D.lst (ent p)).eqo = true from (ens_eqo (flt_lt p)).2, show (D.lst (ent q)).eqo = true from (ens_eqo (flt_lt q)).2, eqD_ent.2]
  rfl
theorem ecnt_le : ecnt p ≤ 12 := ent_len p
theorem ecnt_eq : ecnt p = ((List.range 12).filter p).length := List.length_map ..
theorem ecnt_zero : (ecnt p = 0) = (esame p (fun _ => false) = true) := by
  rw [ecnt_eq, List.length_eq_zero_iff, List.filter_eq_nil_iff, eq_iff_iff, esame_iff]
  simp
theorem ecnt_sum : ecnt (fun i => p i && q i) + ecnt (fun i => p i || q i) = ecnt p + ecnt q := by
  simp only [ecnt_eq]
  generalize List.range 12 = l
  induction l with
  | nil => rfl
  | cons i l ih => cases hp : p i <;> cases hq : q i <;> simp [List.filter_cons, hp, hq] <;> omega
end
/-! ### stores -/
theorem ixN_in {n : Nat} {j : Int} (h0 : 0 ≤ j) (h1 : j < n) : ixN n j = some j.toNat := by
  unfold ixN
  simp [h0, h1]
theorem sto_own {i : Nat} {ρ : En} {xs : List D} {j : Int} {d : D} (h : ρ.at i = .own (.lst xs)) (h0 : 0 ≤ j) (h1 : j < xs.length) : stoR i (some (.lst xs)) (.int j) d ρ = .val .nx (ρ.set i (.own (.lst (xs.set j.toNat d)))) := by
  unfold stoR
  simp only [ixN_in h0 h1, h]
  rfl
/-! ### lists of lists of entries -/
def EL (q : Nat → Bool) : D := .lst (ent q)
theorem eqv_els : ∀ {qs : List (Nat → Bool)}, PyData.eqvAll (pyL (qs.map EL)) (pyL (qs.map EL)) = true
  | [] => rfl
  | q :: qs => by
    show (PyData.eqv (EL q).py (EL q).py && PyData.eqvAll (pyL (qs.map EL)) (pyL (qs.map EL))) = true
    rw [eqv_els (qs := qs)]
    have := (eqD_ent (p := q) (q := q)).2
    unfold eqD at this
    rw [show PyData.eqv (EL q).py (EL q).py = esame q q from this, esame_iff.mpr fun _ _ => rfl]
    rfl
theorem els_eqo {qs : List (Nat → Bool)} : (D.lst (qs.map EL)).eqo = true := by
  have one : ∀ q, (EL q).dat = true ∧ (EL q).nod = true ∧ (EL q).dep ≤ 2 := fun q => by
    have k : datL (ent q) = true ∧ nodL (ent q) = true ∧ depL (ent q) ≤ 1 := by
      unfold ent
      have h := flt_lt q
      generalize (List.range 12).filter q = is at h
      induction is with
      | nil => exact ⟨rfl, rfl, Nat.zero_le _⟩
      | cons j r ih =>
        obtain ⟨a, b, c⟩ := ih fun k hk => h k (List.mem_cons_of_mem _ hk)
        have e := en_eqo j (h j List.mem_cons_self)
        simp only [Bool.and_eq_true, decide_eq_true_eq] at e
        refine ⟨?_, ?_, ?_⟩
        · show ((en j).dat && datL (r.map en)) = true
          rw [e.1.1, a]
          rfl
        · show ((en j).nod && nodL (r.map en)) = true
          rw [e.1.2, b]
          rfl
        · show max (en j).dep (depL (r.map en)) ≤ 1
          exact Nat.max_le.mpr ⟨e.2, c⟩
    exact ⟨k.1, k.2.1, by show depL (ent q) + 1 ≤ 2; have := k.2.2; omega⟩
  have key : datL (qs.map EL) = true ∧ nodL (qs.map EL) = true ∧ depL (qs.map EL) ≤ 2 := by
    induction qs with
    | nil => exact ⟨rfl, rfl, Nat.zero_le _⟩
    | cons q r ih =>
      obtain ⟨a, b, c⟩ := ih
      obtain ⟨x, y, z⟩ := one q
      refine ⟨?_, ?_, ?_⟩
      · show ((EL q).dat && datL (r.map EL)) = true
        rw [x, a]
        rfl
      · show ((EL q).nod && nodL (r.map EL)) = true
        rw [y, b]
        rfl
      · show max (EL q).dep (depL (r.map EL)) ≤ 2
        exact Nat.max_le.mpr ⟨z, c⟩
  obtain ⟨a, b, c⟩ := key
  show (datL (qs.map EL) && nodL (qs.map EL) && decide (depL (qs.map EL) + 1 ≤ 60)) = true
  rw [a, b, decide_eq_true (by omega)]
  rfl
theorem ne_els {qs : List (Nat → Bool)} : gNeG (.lst (qs.map EL)) (.lst (qs.map EL)) = some (.bl false) := by
  show (if (D.lst (qs.map EL)).eqo && (D.lst (qs.map EL)).eqo then some (D.bl (!eqD (.lst (qs.map EL)) (.lst (qs.map EL)))) else none) = _
  rw [els_eqo, show eqD (.lst (qs.map EL)) (.lst (qs.map EL)) = true by
    show PyData.eqv (.list (pyL (qs.map EL))) (.list (pyL (qs.map EL))) = true
    rw [PyData.eqv]
    exact eqv_els]
  rfl
end PV
/-! texts: joined words, split again; f-strings; lists of texts compared -/
namespace PV
open PySem PySem.Spec PyProof.Rows L2 VK
open TL (tl tl_append ext_tl mk_tl)
/-- " " and a word, for each -/
def gl : List Str → Str
  | [] => ""
  | w :: ws => " " ++ w ++ gl ws
theorem app_assoc (a b c : Str) : a ++ b ++ c = a ++ (b ++ c) := Str.append_assoc a b c
theorem app_emp (a : Str) : a ++ "" = a := ext_tl (by rw [tl_append]; show tl a ++ [] = _; rw [List.append_nil])
theorem emp_app (a : Str) : Str.empty ++ a = a := Str.empty_append a
theorem len_app (a b : Str) : (a ++ b).length = a.length + b.length := Str.length_append a b
theorem gl_app : ∀ (a b : List Str), gl (a ++ b) = gl a ++ gl b
  | [], b => (Str.empty_append _).symm
  | w :: a, b => by
    show " " ++ w ++ gl (a ++ b) = " " ++ w ++ gl a ++ gl b
    rw [gl_app a b, app_assoc, app_assoc, app_assoc]
theorem join_gl : ∀ (ws : List Str) (a : Str), Txt.join " " (a :: ws) = a ++ gl ws
  | [], a => by
    rw [TL.join_eq]
    show a = a ++ ""
    rw [app_emp]
  | w :: ws, a => by
    have h := join_gl ws w
    rw [TL.join_eq] at h ⊢
    show a ++ " " ++ Str.join " " (w :: ws) = a ++ (" " ++ w ++ gl ws)
    rw [h, app_assoc, app_assoc]
theorem gl_len : ∀ {ws : List Str} {n : Nat}, (∀ w ∈ ws, w.length ≤ n) → (gl ws).length ≤ (n + 1) * ws.length
  | [], _, _ => Nat.zero_le _
  | w :: ws, n, h => by
    show (" " ++ w ++ gl ws).length ≤ _
    rw [len_app, len_app, List.length_cons, Nat.mul_succ]
    have := gl_len (ws := ws) fun x hx => h x (List.mem_cons_of_mem _ hx)
    have := h w List.mem_cons_self
    have e : (" " : Str).length = 1 := rfl
    omega
theorem split_gl {a : Str} {ws : List Str} (ha : (32 : Nat) ∉ tl a) (h : ∀ w ∈ ws, (32 : Nat) ∉ tl w) : Txt.split (a ++ gl ws) " " = a :: ws := by
  rw [← join_gl]
  exact TL.split_join (s := 32) (S := []) rfl (by decide +kernel) (by simp) fun p hp => by
    rcases List.mem_cons.mp hp with rfl | hp
    · exact ha
    · exact h p hp
theorem split_one {a : Str} (ha : (10 : Nat) ∉ tl a) : Txt.split a "\n" = [a] := by
  have := TL.split_join (y := "\n") (s := 10) (S := []) rfl (by decide +kernel) (parts := [a]) (by simp) fun p hp => by
    rw [List.mem_singleton.mp hp]
    exact ha
  rwa [TL.join_eq] at this
theorem gl_free {c : Nat} (hc : c ≠ 32) : ∀ {ws : List Str}, (∀ w ∈ ws, c ∉ tl w) → c ∉ tl (gl ws)
  | [], _ => by
    show c ∉ ([] : List Nat)
    simp
  | w :: ws, h => by
    show c ∉ tl (" " ++ w ++ gl ws)
    rw [tl_append, tl_append]
    have e : tl (" " : Str) = [32] := rfl
    rw [e]
    simp only [List.mem_append, List.mem_singleton, not_or]
    exact ⟨⟨hc, h w List.mem_cons_self⟩, gl_free hc fun x hx => h x (List.mem_cons_of_mem _ hx)⟩
/-! ### the rules for simp -/
section
variable {ρ : En} {x : AV} {d : D} {y : Str} {fs : List (M AV)} {f : M AV} {acc : Str}
def jsR (fs : List (M AV)) (acc : Str) (o : Option D) (ρ : En) : Res AV := match o with
  | some (.str y) => if (acc ++ y).length ≤ sizeLine then eJs fs (acc ++ y) ρ else .bad
  | _ => .bad
@[simp] theorem eJs_nil : eJs [] acc ρ = .val (.d (.str acc)) ρ := rfl
@[simp] theorem eJs_cons : eJs (f :: fs) acc ρ = (f ρ).bind fun x ρ1 => jsR fs acc (der x ρ1) ρ1 := by
  conv => lhs; unfold eJs
  refine congrArg (Res.bind _) (funext fun x => funext fun ρ1 => ?_)
  unfold jsR
  cases der x ρ1 with
  | none => rfl
  | some d => cases d <;> rfl
theorem jsR_str (h : (acc ++ y).length ≤ 16777216) : jsR fs acc (some (.str y)) ρ = eJs fs (acc ++ y) ρ := by
  unfold jsR
  simp only []
  rw [if_pos (by rw [sizeLine_eq]; exact h)]
theorem gFmt_str (h : y.length ≤ 16777216) : gFmt (.str y) = some (.str y) := by
  unfold gFmt
  simp only []
  rw [if_pos (by rw [sizeLine_eq]; exact h)]
theorem gPlus_str {a b : Str} (h : a.length + b.length ≤ 16777216) : gPlus (.str a) (.str b) = some (.str (a ++ b)) := by
  show orG gAdd (orG gAddS (orG gCatT gCatL)) _ _ = _
  unfold orG
  show (match (none : Option D) with | some z => some z | none => _) = _
  simp only []
  have : gAddS (.str a) (.str b) = some (.str (a ++ b)) := by
    unfold gAddS
    simp only []
    rw [if_pos (by rw [sizeLine_eq]; exact h)]
  rw [this]
@[simp] theorem isS_str {a : Str} : isS (.d (.str a)) ρ = true := rfl
@[simp] theorem eM1_r {g : G2} {fo fa : M AV} : eM1 g fo fa ρ = (fo ρ).bind fun x ρ1 => if isS x ρ1 = true then (fa ρ1).bind fun y ρ2 => op2 g x y ρ2 else .bad := rfl
end
/-! ### lists of texts compared -/
theorem eqv_str {x y : Str} : PyData.eqv (.str x) (.str y) = decide (x = y) := by
  rw [PyData.eqv, Bool.eq_iff_iff]
  simp
theorem eqv_strs : ∀ {xs ys : List Str}, PyData.eqvAll (pyL (xs.map D.str)) (pyL (ys.map D.str)) = decide (xs = ys)
  | [], [] => rfl
  | [], _ :: _ => rfl
  | _ :: _, [] => rfl
  | x :: xs, y :: ys => by
    show (PyData.eqv (.str x) (.str y) && PyData.eqvAll (pyL (xs.map D.str)) (pyL (ys.map D.str))) = _
    rw [eqv_strs (xs := xs) (ys := ys), eqv_str]
    simp
/-- signs that there are -/
def sOk (x : Str) : Prop := ∀ c ∈ tl x, c < 0x110000
theorem sOk.ok {x : Str} (h : sOk x) : PyData.strOk x = true := by
  unfold PyData.strOk
  rw [Array.all_eq_true']
  exact fun c hc => decide_eq_true (h c (Array.mem_toList_iff.mpr hc))
theorem sOk.app {x y : Str} (h : sOk x) (k : sOk y) : sOk (x ++ y) := fun c hc => by
  rw [tl_append] at hc
  exact (List.mem_append.mp hc).elim (h c) (k c)
theorem sOk_of {x : Str} (h : (tl x).all (fun c => decide (c < 0x110000)) = true) : sOk x := fun c hc => of_decide_eq_true (List.all_eq_true.mp h c hc)
theorem sOk_gl : ∀ {ws : List Str}, (∀ w ∈ ws, sOk w) → sOk (gl ws)
  | [], _ => fun c hc => nomatch (show c ∈ ([] : List Nat) from hc)
  | w :: ws, h => ((sOk_of (x := " ") (by decide +kernel)).app (h w List.mem_cons_self)).app (sOk_gl fun x hx => h x (List.mem_cons_of_mem _ hx))
theorem strs_eqo {xs : List Str} (h : ∀ x ∈ xs, sOk x) : (D.lst (xs.map D.str)).eqo = true := by
  have key : datL (xs.map D.str) = true ∧ nodL (xs.map D.str) = true ∧ depL (xs.map D.str) = 0 := by
    induction xs with
    | nil => exact ⟨rfl, rfl, rfl⟩
    | cons x r ih =>
      obtain ⟨a, b, c⟩ := ih fun y hy => h y (List.mem_cons_of_mem _ hy)
      refine ⟨?_, ?_, ?_⟩
      · show (true && datL (r.map D.str)) = true
        rw [a]
        rfl
      · show (PyData.strOk x && nodL (r.map D.str)) = true
        rw [b, (h x List.mem_cons_self).ok]
        rfl
      · show max 0 (depL (r.map D.str)) = 0
        rw [c]
        rfl
  obtain ⟨a, b, c⟩ := key
  show (datL (xs.map D.str) && nodL (xs.map D.str) && decide (depL (xs.map D.str) + 1 ≤ 60)) = true
  rw [a, b, c]
  rfl
theorem eqD_strs {xs ys : List Str} : eqD (.lst (xs.map D.str)) (.lst (ys.map D.str)) = decide (xs = ys) := by
  show PyData.eqv (.list (pyL (xs.map D.str))) (.list (pyL (ys.map D.str))) = _
  rw [PyData.eqv]
  exact eqv_strs
theorem eq_strs {xs ys : List Str} (h : ∀ x ∈ xs, sOk x) (k : ∀ y ∈ ys, sOk y) : gEqG (.lst (xs.map D.str)) (.lst (ys.map D.str)) = some (.bl (decide (xs = ys))) := by
  show (if (D.lst (xs.map D.str)).eqo && (D.lst (ys.map D.str)).eqo then some (D.bl (eqD (.lst (xs.map D.str)) (.lst (ys.map D.str)))) else none) = _
  rw [strs_eqo h, strs_eqo k, eqD_strs]
  rfl
theorem ne_strs {xs ys : List Str} (h : ∀ x ∈ xs, sOk x) (k : ∀ y ∈ ys, sOk y) : gNeG (.lst (xs.map D.str)) (.lst (ys.map D.str)) = some (.bl (!decide (xs = ys))) := by
  show (if (D.lst (xs.map D.str)).eqo && (D.lst (ys.map D.str)).eqo then some (D.bl (!eqD (.lst (xs.map D.str)) (.lst (ys.map D.str)))) else none) = _
  rw [strs_eqo h, strs_eqo k, eqD_strs]
  rfl
theorem gSplit_r {a b : Str} (hb : (b.length == 0) = false) (h : a.length ≤ 10000000) : gSplit (.str a) (.str b) = some (.lst ((Txt.split a b).map D.str)) := by
  unfold gSplit
  simp only []
  rw [if_pos ⟨hb, by rw [sizeLine_eq]; omega⟩]
theorem strsD_map : ∀ {ws : List Str}, strsD (ws.map D.str) = some ws
  | [] => rfl
  | w :: ws => by
    show (strsD (ws.map D.str)).map (w :: ·) = _
    rw [strsD_map]
    rfl
theorem gJoin_r {a : Str} {ws : List Str} (h : (ws.map (·.length)).sum + ws.length * a.length ≤ 16777216) : gJoin (.str a) (.lst (ws.map D.str)) = some (.str (Txt.join a ws)) := by
  show joinD a _ = _
  unfold joinD
  rw [strsD_map]
  simp only []
  rw [if_pos h]
/-! ### the entries' words -/
def wd (i : Nat) : Str := kinds4.getD (i / 3) "" ++ "-" ++ hues3.getD (i % 3) ""
theorem wd_len : ∀ i, i < 12 → (wd i).length ≤ 12 := by decide +kernel
theorem wd_free : ∀ i, i < 12 → (32 : Nat) ∉ tl (wd i) ∧ (10 : Nat) ∉ tl (wd i) := by decide +kernel
theorem wd_ne : ∀ i, i < 12 → wd i ≠ "-" := by decide +kernel
/-- the words behind a table's roots -/
theorem wd_ok : ∀ i, i < 12 → (tl (wd i)).all (fun c => decide (c < 0x110000)) = true := by decide +kernel
def wds (p : Nat → Bool) : List Str := if ent p = [] then ["-"] else ((List.range 12).filter p).map wd
theorem wds_len {p : Nat → Bool} : (wds p).length ≤ 12 ∧ ∀ w ∈ wds p, w.length ≤ 12 ∧ sOk w ∧ (32 : Nat) ∉ tl w ∧ (10 : Nat) ∉ tl w := by
  unfold wds
  split
  · exact ⟨by decide, fun w hw => by rw [List.mem_singleton.mp hw]; exact ⟨by decide +kernel, sOk_of (by decide +kernel), by decide +kernel⟩⟩
  · refine ⟨by rw [List.length_map]; exact Nat.le_trans (List.length_filter_le _ _) (by simp), fun w hw => ?_⟩
    obtain ⟨i, hi, rfl⟩ := List.mem_map.mp hw
    have h := flt_lt p i hi
    exact ⟨wd_len i h, sOk_of (wd_ok i h), wd_free i h⟩
end PV
/-! numbers in lists, piles of objects: for the values' part -/
namespace PV
open PySem PySem.Spec PyProof.Rows L2 VK
theorem shw_int {i : Int} (h : i.natAbs < 10 ^ 60) : Shw (.int i) 200 0 := ⟨decide_eq_true h, rfl, Nat.le_refl 0, Nat.le_refl _⟩
theorem shw_non : Shw .non 200 0 := ⟨rfl, rfl, Nat.le_refl 0, Nat.zero_le _⟩
theorem small60 {i : Int} (h0 : 0 ≤ i) (h1 : i < 1000000) : i.natAbs < 10 ^ 60 := Nat.lt_of_lt_of_le (show i.natAbs < 1000000 by omega) (by decide)
theorem int_eqo {i : Int} : (D.int i).eqo = true := rfl
theorem tints_eqo (c : List Int) : (D.tup (c.map .int)).eqo = true := by
  show (datL (c.map .int) && nodL (c.map .int) && decide (depL (c.map .int) + 1 ≤ 60)) = true
  rw [datL_ints, nodL_ints, depL_ints]
  rfl
theorem eqv_ints : ∀ {a b : List Int}, PyData.eqvAll (pyL (a.map .int)) (pyL (b.map .int)) = decide (a = b)
  | [], [] => rfl
  | [], _ :: _ => rfl
  | _ :: _, [] => rfl
  | x :: a, y :: b => by
    show (PyData.eqv (.int x) (.int y) && PyData.eqvAll (pyL (a.map .int)) (pyL (b.map .int))) = _
    rw [eqv_ints]
    show (decide (x = y) && decide (a = b)) = _
    by_cases h : x = y <;> by_cases g : a = b <;> simp [h, g]
theorem neL_ints {a b : List Int} : gNeG (.lst (a.map .int)) (.lst (b.map .int)) = some (.bl (!decide (a = b))) := by
  show (match gNeS (.lst (a.map .int)) (.lst (b.map .int)) with | some z => some z | none => gNe (.lst (a.map .int)) (.lst (b.map .int))) = _
  show gNe (.lst (a.map .int)) (.lst (b.map .int)) = _
  unfold gNe
  rw [eqo_ints, eqo_ints]
  show some (D.bl (!PyData.eqvAll (pyL (a.map .int)) (pyL (b.map .int)))) = _
  rw [eqv_ints]
theorem eqT_ints {a b : List Int} : gEqG (.tup (a.map .int)) (.tup (b.map .int)) = some (.bl (decide (a = b))) := by
  show gEq (.tup (a.map .int)) (.tup (b.map .int)) = _
  unfold gEq
  rw [tints_eqo, tints_eqo]
  show some (D.bl (PyData.eqvAll (pyL (a.map .int)) (pyL (b.map .int)))) = _
  rw [eqv_ints]
theorem eqD_int {i j : Int} : eqD (.int i) (.int j) = decide (i = j) := rfl
theorem mem_ints {i : Int} : ∀ {ns : List Int}, memD (.int i) (ns.map .int) = decide (i ∈ ns)
  | [] => rfl
  | j :: r => by
    have ih := mem_ints (i := i) (ns := r)
    unfold memD at ih ⊢
    rw [List.map_cons, List.any_cons, ih]
    show (_ || decide (i ∈ r)) = _
    have e : eqD (.int i) (.int j) = decide (i = j) := rfl
    by_cases h : i = j <;> by_cases g : i ∈ r <;> simp [h, g, eqD_int, e, Ne.symm]
theorem inT_ints {i : Int} {ns : List Int} : gIn (.int i) (.tup (ns.map .int)) = some (.bl (decide (i ∈ ns))) := by
  show (if (D.int i).eqo && (D.tup (ns.map .int)).eqo then some (D.bl (memD (.int i) (ns.map .int))) else none) = _
  rw [int_eqo, tints_eqo, mem_ints]
  rfl
theorem ninT_ints {i : Int} {ns : List Int} : gNin (.int i) (.tup (ns.map .int)) = some (.bl (!decide (i ∈ ns))) := by
  show (if (D.int i).eqo && (D.tup (ns.map .int)).eqo then some (D.bl (!memD (.int i) (ns.map .int))) else none) = _
  rw [int_eqo, tints_eqo, mem_ints]
  rfl
def upto (n : Nat) : List Int := (List.range n).map fun i : Nat => (i : Int)
theorem rng_upto {n : Nat} : rng 0 n = (upto n).map .int := by
  unfold rng upto
  rw [List.map_map]
  refine List.map_congr_left fun i _ => ?_
  show D.int _ = D.int _
  congr 1
  show (0 : Int) + (i : Nat) = (i : Nat)
  omega
theorem mem_upto {n : Nat} {k : Int} : k ∈ upto n ↔ 0 ≤ k ∧ k < n := by
  unfold upto
  rw [List.mem_map]
  constructor
  · rintro ⟨i, h, rfl⟩
    have := List.mem_range.mp h
    omega
  · rintro ⟨h0, h1⟩
    exact ⟨k.toNat, List.mem_range.mpr (by omega), by omega⟩
theorem len_upto {n : Nat} : (upto n).length = n := by simp [upto]
section
variable {ρ : En} {i j : Nat}
/-- [x for x in cells if x is not None] -/
theorem lc_some {z : Int} {cells : List D} (h : ∀ d ∈ cells, okc z d) (hl : cells.length ≤ 1000000) (hw : wipeE ρ [i] = ρ) (h2 : ∀ d, wipeE (ρ.set i (.sh d)) [i] = ρ) (h3 : ∀ d, En.at (ρ.set i (.sh d)) i = .sh d) :
    lcL [i] (gNm i) (M.tb (eOp gNotN (eVar i) (eC .non))) (eVar i) cells [] ρ = .val ((nums cells).map .int) ρ := by
  have := lc_map (ι := D) (vs := [i]) (t := gNm i) (ft := M.tb (eOp gNotN (eVar i) (eC .non))) (fe := eVar i) (e := id) (g := id) (p := fun d => !isN d) hw cells [] (fun d hd => ⟨_, _, to_nm, by simp [h3], h2 d, fun _ => ⟨_, by simp [h3], h2 d⟩⟩) (by have := small_r hl; simpa using this)
  rw [List.map_id, List.nil_append, List.map_id] at this
  rw [this]
  congr 1
  clear this hl
  induction cells with
  | nil => rfl
  | cons d r ih =>
    have ih := ih fun x hx => h x (List.mem_cons_of_mem _ hx)
    rcases h d List.mem_cons_self with e | ⟨k, e, _, _⟩ <;> subst e
    · rw [List.filter_cons_of_neg (by simp [isN])]
      exact ih
    · rw [List.filter_cons_of_pos (by simp [isN]), ih]
      rfl
/-- [x for x in range(n) if x not in r] -/
theorem lc_nin {n : Nat} {r : List Int} (hn : n ≤ 1000000) (hj : i ≠ j) (hr : ρ.at j = .sh (.tup (r.map .int))) (hw : wipeE ρ [i] = ρ) (h2 : ∀ d, wipeE (ρ.set i (.sh d)) [i] = ρ) (h3 : ∀ d, En.at (ρ.set i (.sh d)) i = .sh d) :
    lcL [i] (gNm i) (M.tb (eOp gNin (eVar i) (eVar j))) (eVar i) (rng 0 n) [] ρ = .val (((upto n).filter fun k => !decide (k ∈ r)).map .int) ρ := by
  have h4 : ∀ d, En.at (ρ.set i (.sh d)) j = .sh (.tup (r.map .int)) := fun d => by rw [En.at_ne hj, hr]
  have := lc_map (ι := Int) (vs := [i]) (t := gNm i) (ft := M.tb (eOp gNin (eVar i) (eVar j))) (fe := eVar i) (e := .int) (g := .int) (p := fun k => !decide (k ∈ r)) hw (upto n) [] (fun d hd => ⟨ρ.set i (.sh (.int d)), ρ.set i (.sh (.int d)), to_nm, by simp [h3, h4, ninT_ints], h2 _, fun _ => ⟨ρ.set i (.sh (.int d)), by simp [h3], h2 _⟩⟩) (by have := small_r hn; rw [len_upto]; simpa using this)
  rw [rng_upto, this, List.nil_append]
end
/-! ### the call of reach_from -/
theorem reach_r {w : D} {rows : List D} {xs : List Int} (h : PileOk rows (xs.map .int) xs) : mdA true [false] [] [] 7 F_reach (xs.length + 1) (.tup [w, .tup rows] :: xs.map .int) = .val (.tup ((rchL rows xs).map .int)) [] := by
  unfold mdA
  have e1 : ((D.tup [w, .tup rows] :: xs.map D.int).take (xs.length + 1)).drop [false].length = xs.map D.int := by
    rw [List.take_succ_cons]
    show List.take xs.length (xs.map D.int) = _
    rw [List.take_of_length_le (by simp)]
  simp only [e1]
  rw [if_pos (by rw [List.length_map]; exact small_r (by have := h.len; omega))]
  refine runM_eq ?_
  show ok (F_reach [.sh (.tup [w, .tup rows]), .sh (.tup (xs.map .int)), .no, .no, .no, .no, .no]) _ _
  rw [F_reach_val h]
  exact ⟨rfl, rfl⟩
theorem reach_0 {w : D} {rows : List D} (h : PileOk rows [] []) : mdA0 [] [0] 7 F_reach 0 [.tup [w, .tup rows]] = .val (.tup ((rchL rows []).map .int)) [] := by
  unfold mdA0
  rw [if_pos (by rfl)]
  refine runM_eq ?_
  show ok (F_reach [.sh (.tup [w, .tup rows]), .sh (.tup []), .no, .no, .no, .no, .no]) _ _
  rw [F_reach_val h]
  exact ⟨rfl, rfl⟩
theorem callA_star {d0 : D} {ds : List D} {Mf : Nat → Md} {ρ : En} : callA [false] 0 Mf (.d d0 :: ds.map AV.d, []) ρ = callR (Mf (ds.length + 1) (d0 :: ds)) [] ρ := by
  have := callP_ds (ρ := ρ) (ds := d0 :: ds) (Mf := Mf (ds.length + 1))
  rw [← this]
  rw [callA_r, if_pos (by rfl)]
  simp only [List.append_nil, List.length_cons, List.length_map, List.length_nil, Nat.add_zero]
  congr 2
theorem callA_ints {d0 : D} {ns : List Int} {Mf : Nat → Md} {ρ : En} : callA [false] 0 Mf (.d d0 :: ns.map (AV.d ∘ D.int), []) ρ = callR (Mf (ns.length + 1) (d0 :: ns.map .int)) [] ρ := by
  have := callA_star (d0 := d0) (ds := ns.map .int) (Mf := Mf) (ρ := ρ)
  rw [List.map_map, List.length_map] at this
  exact this
/-! ### rising lists, a walk's end -/
theorem rise_lt {e f : List Int} (he : e.Pairwise (· < ·)) (hf : f.Pairwise (· < ·)) (s : ∀ k ∈ e, k ∈ f) (ne : e ≠ f) : e.length < f.length := by
  by_cases h : e.length < f.length
  · exact h
  · refine (ne (rise_same he hf fun k => ⟨s k, fun hk => ?_⟩)).elim
    by_cases hke : k ∈ e
    · exact hke
    · have := nodup_len (L := k :: e) (M := f) (List.nodup_cons.mpr ⟨hke, rise_nodup he⟩) fun x hx => by
        rcases List.mem_cons.mp hx with rfl | hx
        · exact hk
        · exact s x hx
      rw [List.length_cons] at this
      omega
theorem rise_short {f : List Int} {z : Nat} (hf : f.Pairwise (· < ·)) (h : ∀ k ∈ f, 0 ≤ k ∧ k < z) : f.length ≤ z := few z f (rise_nodup hf) h
theorem outs_at {rows : List D} {k : Int} {cs : List D} (h : rows[k.toNat]? = some (.tup cs)) : outs rows k = cs := by
  unfold outs
  rw [h]
end PV
/-! dicts whose keys are numbers and texts: d[k], k in d, d.get(k), d[k] = v, list(d), dict(pairs) -/
namespace PV
open PySem PySem.Spec PyProof.Rows L2 VK
def dK : Key → D
  | .inl i => .int i
  | .inr s => .str s
def keyOf : D → Option Key
  | .int i => some (.inl i)
  | .str s => some (.inr s)
  | _ => none
theorem keyOf_dK : ∀ k : Key, keyOf (dK k) = some k
  | .inl _ => rfl
  | .inr _ => rfl
theorem keyOf_eq {d : D} {k : Key} (h : keyOf d = some k) : d = dK k := by
  cases d <;> cases h <;> rfl
def lookD : List (D × D) → Key → Option D
  | [], _ => none
  | (a, b) :: r, k => if keyOf a = some k then some b else lookD r k
def replD : List (D × D) → Key → D → List (D × D)
  | [], _, _ => []
  | (a, b) :: r, k, x => (if keyOf a = some k then (a, x) else (a, b)) :: replD r k x
def putE (es : List (D × D)) (k : Key) (x : D) : List (D × D) := if (lookD es k).isSome then replD es k x else es ++ [(dK k, x)]
section
variable {K : PySem.W.Frag} {mg : Str → Option Value} {G : Hp}
theorem R.keyV {k : Key} {a : D} (h : R K mg G (kV k) a) : a = dK k := by
  cases k <;> cases h <;> rfl
theorem R.vKey {k : Key} {v : V} (h : R K mg G v (dK k)) : v = kV k := by
  cases k <;> cases h <;> rfl
theorem R.dK (k : Key) : R K mg G (kV k) (dK k) := by
  cases k
  · exact .int _
  · exact .str _
theorem RK.look {k : Key} : ∀ {kvs : List (Key × V)} {es : List (D × D)}, RK K mg G kvs es → (∀ b, lookD es k = some b → ∃ v, valV kvs k = some v ∧ R K mg G v b) ∧ (lookD es k = none → valV kvs k = none)
  | _, _, .nil => ⟨fun b h => (nomatch h), fun _ => rfl⟩
  | _, _, @RK.cons _ _ _ j v kvs a b es h1 h2 t => by
    have e := h1.keyV
    subst e
    unfold lookD
    rw [keyOf_dK]
    by_cases c : j = k
    · subst c
      rw [if_pos rfl]
      exact ⟨fun x h => ⟨v, valV_pos rfl, by cases h; exact h2⟩, fun h => (nomatch h)⟩
    · rw [if_neg (fun z => c (Option.some.inj z)), valV_neg (p := (j, v)) c]
      exact RK.look t
theorem RK.someEq {k : Key} {kvs : List (Key × V)} {es : List (D × D)} (h : RK K mg G kvs es) : (valV kvs k).isSome = (lookD es k).isSome := by
  obtain ⟨h1, h2⟩ := h.look (k := k)
  cases q : lookD es k with
  | none =>
    rw [h2 q]
    rfl
  | some b =>
    obtain ⟨v, e, _⟩ := h1 b q
    rw [e]
    rfl
theorem RK.repl {k : Key} {v : V} {x : D} (hv : R K mg G v x) : ∀ {kvs : List (Key × V)} {es : List (D × D)}, RK K mg G kvs es → RK K mg G (kvs.map fun kv => if kv.1 = k then (kv.1, v) else kv) (replD es k x)
  | _, _, .nil => .nil
  | _, _, @RK.cons _ _ _ j u kvs a b es h1 h2 t => by
    have e := h1.keyV
    subst e
    unfold replD
    rw [keyOf_dK, List.map_cons]
    by_cases c : j = k
    · subst c
      rw [if_pos rfl, if_pos rfl]
      exact .cons h1 hv (RK.repl hv t)
    · rw [if_neg (fun z => c (Option.some.inj z)), if_neg c]
      exact .cons h1 h2 (RK.repl hv t)
theorem RK.snoc {k : Key} {v : V} {a x : D} (ha : R K mg G (kV k) a) (hv : R K mg G v x) : ∀ {kvs : List (Key × V)} {es : List (D × D)}, RK K mg G kvs es → RK K mg G (kvs ++ [(k, v)]) (es ++ [(a, x)])
  | _, _, .nil => .cons ha hv .nil
  | _, _, .cons h1 h2 t => .cons h1 h2 (RK.snoc ha hv t)
theorem RK.put {k : Key} {v : V} {x : D} {kvs : List (Key × V)} {es : List (D × D)} (h : RK K mg G kvs es) (hv : R K mg G v x) : RK K mg G (putK kvs k v) (putE es k x) := by
  unfold putK putE
  rw [valV_any, h.someEq]
  cases (lookD es k).isSome with
  | true => exact h.repl hv
  | false => exact h.snoc (R.dK k) hv
theorem RK.len : ∀ {kvs : List (Key × V)} {es : List (D × D)}, RK K mg G kvs es → kvs.length = es.length
  | _, _, .nil => rfl
  | _, _, .cons _ _ t => by rw [List.length_cons, List.length_cons, RK.len t]
theorem RK.keys : ∀ {kvs : List (Key × V)} {es : List (D × D)}, RK K mg G kvs es → RL K mg G (kvs.map fun kv => kV kv.1) (es.map (·.1))
  | _, _, .nil => .nil
  | _, _, .cons h _ t => .cons h (RK.keys t)
/-! ### d[k], k in d, list(d) -/
def gGetD : G2 := fun d k => match d, keyOf k with
  | .dic es, some k => lookD es k
  | _, _ => none
def rDGet : R2 := fun x y H Q => ∃ a v, x = .ref a ∧ DGet H a y (some v) ∧ Q v H
theorem ok_getD : OkA K mg rDGet gGetD := by
  intro F H v w d e z Q s hv hw hg q
  unfold gGetD at hg
  split at hg
  · rename_i es k hk
    obtain ⟨a, kvs, rfl, h1, h2⟩ := hv.dic s
    have e1 := keyOf_eq hk
    subst e1
    have hw2 : w = kV k := by
      rcases hw with h | ⟨b, _, _, h⟩
      · exact h.vKey
      · cases k <;> exact (show False from h).elim
    subst hw2
    obtain ⟨v, h3, h4⟩ := h2.look.1 z hg
    exact ⟨a, v, rfl, by rw [← h3]; exact DGet.k h1, okQ s q h4⟩
  · cases hg
def gInDk (neg : Bool) : G2 := fun k d => match d, keyOf k with
  | .dic es, some k => some (.bl (if neg then !(lookD es k).isSome else (lookD es k).isSome))
  | _, _ => none
def rDIn (neg : Bool) : R2 := fun y x H Q => ∃ a o, x = .ref a ∧ DGet H a y o ∧ Q (.bl (if neg then !o.isSome else o.isSome)) H
theorem ok_inDk {neg : Bool} : OkA K mg (rDIn neg) (gInDk neg) := by
  intro F H w v e d z Q s hw hv hg q
  unfold gInDk at hg
  split at hg
  · rename_i es k hk
    cases hg
    obtain ⟨a, kvs, rfl, h1, h2⟩ := hv.dic s
    have e1 := keyOf_eq hk
    subst e1
    have hw2 : w = kV k := by
      rcases hw with h | ⟨b, _, _, h⟩
      · exact h.vKey
      · cases k <;> exact (show False from h).elim
    subst hw2
    refine ⟨a, _, rfl, DGet.k h1, ?_⟩
    rw [h2.someEq]
    exact okQ s q (.bl _)
  · cases hg
def gListD : GN
  | [.dic es] => some (es.map (·.1))
  | _ => none
theorem ok_listD : OkN K mg rListD gListD := by
  intro F H vs ds zs Q s h hg q
  match ds, h, hg with
  | [.dic es], .cons h1 .nil, hg =>
    cases hg
    obtain ⟨a, kvs, rfl, h2, h3⟩ := h1.dic s
    exact ⟨a, kvs, rfl, h2, fun p np => q p _ np h3.keys⟩
end
section
variable {X : Cx} {Z : Zone} {W : WX} {o e : Expr} {fo fe : M AV} {pos apos p : Pos}
theorem ev_getD (hu : X.A.units + 1 < cLine) (ho : PV X Z W o fo) (he : PV X Z W e fe) (hs : NoSl e) : PV X Z W (.Subscript o e pos) (eOp gGetD fo fe) := PE.weak (pe_dget hu ho he hs) (op_le (r := rDGet) ok_getD)
theorem ev_inDk (hu : X.A.units + 1 < cLine) (he : PV X Z W e fe) (ho : PV X Z W o fo) (h1 : behindInMarks .In o = false) : PV X Z W (.Compare e [.In] [o] pos) (eOp (gInDk false) fe fo) := PE.weak (pe_cmp (pc_din hu he ho) h1) (op_le (r := rDIn false) ok_inDk)
theorem ev_ninDk (hu : X.A.units + 1 < cLine) (he : PV X Z W e fe) (ho : PV X Z W o fo) (h1 : behindInMarks .NotIn o = false) : PV X Z W (.Compare e [.NotIn] [o] pos) (eOp (gInDk true) fe fo) := PE.weak (pe_cmp (pc_dnotin hu he ho) h1) (op_le (r := rDIn true) ok_inDk)
theorem et_inDk (hu : X.A.units + 1 < cLine) (he : PV X Z W e fe) (ho : PV X Z W o fo) (h1 : behindInMarks .In o = false) : PB X Z W (.Compare e [.In] [o] pos) (eOp (gInDk false) fe fo).tb := PT.weak (pt_cmp (pc_din hu he ho) h1) (tb_le (op_le (r := rDIn false) ok_inDk))
theorem et_ninDk (hu : X.A.units + 1 < cLine) (he : PV X Z W e fe) (ho : PV X Z W o fo) (h1 : behindInMarks .NotIn o = false) : PB X Z W (.Compare e [.NotIn] [o] pos) (eOp (gInDk true) fe fo).tb := PT.weak (pt_cmp (pc_dnotin hu he ho) h1) (tb_le (op_le (r := rDIn true) ok_inDk))
/-! ### d.get(k) -/
def gGetN : G2 := fun d k => match d, keyOf k with
  | .dic es, some k => some ((lookD es k).getD .non)
  | _, _ => none
def rGetN : R2 := fun x y H Q => ∃ a o, x = .ref a ∧ DGet H a y o ∧ Q (o.getD .non) H
theorem ok_getN {K : PySem.W.Frag} {mg : Str → Option Value} : OkA K mg rGetN gGetN := by
  intro F H v w d e z Q s hv hw hg q
  unfold gGetN at hg
  split at hg
  · rename_i es k hk
    cases hg
    obtain ⟨a, kvs, rfl, h1, h2⟩ := hv.dic s
    have e1 := keyOf_eq hk
    subst e1
    have hw2 : w = kV k := by
      rcases hw with h | ⟨b, _, _, h⟩
      · exact h.vKey
      · cases k <;> exact (show False from h).elim
    subst hw2
    refine ⟨a, _, rfl, DGet.k h1, ?_⟩
    cases c : lookD es k with
    | none =>
      rw [c] at q
      rw [h2.look.2 c]
      exact okQ s q .non
    | some b =>
      rw [c] at q
      obtain ⟨v, h3, h4⟩ := h2.look.1 b c
      rw [h3]
      exact okQ s q h4
  · cases hg
def isD (x : AV) (ρ : En) : Bool := match der x ρ with
  | some (.dic _) => true
  | _ => false
def eGetN (fo fa : M AV) : M AV := fun ρ => (fo ρ).bind fun x ρ1 => if isD x ρ1 = true then (fa ρ1).bind fun y ρ2 => op2 gGetN x y ρ2 else .bad
theorem isD_ok {σ : L2.St} {H F : Hp} {ρ : En} {x : AV} {v : V} (r : Rel X.K X.mg Z σ H ρ F) (h : AR X.K X.mg F σ v x) (q : isD x ρ = true) : ∃ a, v = .ref a ∧ IsD H a := by
  unfold isD at q
  cases hx : der x ρ with
  | none =>
    rw [hx] at q
    cases q
  | some d =>
    rw [hx] at q
    cases d <;> first | cases q | skip
    obtain ⟨a, vs, rfl, h1, _⟩ := (der_ok r h hx).dic r.same
    exact ⟨a, rfl, .inl ⟨_, .inl h1⟩⟩
theorem ev_getN (hu : X.A.units + 1 < cLine) (ho : PV X Z W o fo) (he : PV X Z W e fe) (m : M1 X o "get" apos e pos := by exact ⟨rfl, rfl, rfl, rfl⟩) : PV X Z W (.Call (.Attribute o "get" apos) [e] [] pos) (eGetN fo fe) := by
  refine PE.weak (pe_dget1 hu ho he m) fun σ H Q ⟨ρ, F, rel, q⟩ => ⟨ρ, F, rel, (Post.bind q).imp fun x H1 ρ1 F1 g1 q1 v hv => ?_⟩
  by_cases c : isD x ρ1 = true
  · rw [if_pos c] at q1
    obtain ⟨a, rfl, hd⟩ := isD_ok g1.rel hv c
    refine ⟨a, rfl, hd, ρ1, F1, g1.rel, (Post.bind q1).imp fun y H2 ρ2 F2 g2 q2 w hw => ?_⟩
    obtain ⟨a', o, e1, h1, h2⟩ := op2_ok ok_getN g2.rel (hv.go g2.fr) hw q2
    cases e1
    exact ⟨o, h1, h2⟩
  · rw [if_neg c] at q1
    exact q1.elim
/-! ### d[k] = v -/
def stoDI (i : Nat) (k x : D) (ρ : En) : Option En := match (ρ.at i).mu, keyOf k with
  | some (.dic es), some k => if es.length < sizeLine then ((ρ.at i).re (.dic (putE es k x))).map fun s => ρ.set i s else none
  | _, _ => none
def sStoD (i : Nat) (fi fe : M AV) : M Fl := fun ρ => (fe.st ρ).bind fun d ρ1 => match (ρ1.at i).mu with
  | some _ => (fi.st ρ1).bind fun k ρ2 => match stoDI i k d ρ2 with
    | some ρ3 => .val .nx ρ3
    | none => .bad
  | none => .bad
theorem cs_stoD {i : Nat} {st : Stmt} {fi : M AV} (h : PS X st (sDPut (tVar i) (tD X.K X.mg Z W fi.st) (tD X.K X.mg Z W fe.st))) : PC1 X Z W st (sStoD i fi fe) := by
  refine PS.weak h fun De σ H ⟨ρ, F, r, q⟩ => ⟨ρ, F, r, (PostS.bind q).imp fun d H1 ρ1 F1 g q1 v hv => ?_⟩
  cases hm : (ρ1.at i).mu with
  | none =>
    simp only [hm] at q1
    exact q1.elim
  | some c =>
    simp only [hm] at q1
    obtain ⟨a, h1, _, _⟩ := g.rel.mu i c hm
    refine ⟨_, h1, ρ1, F1, g.rel, (PostS.bind q1).imp fun k H2 ρ2 F2 g2 q2 w hw => ?_⟩
    cases hs : stoDI i k d ρ2 with
    | none =>
      simp only [hs] at q2
      exact q2.elim
    | some ρ3 =>
      simp only [hs] at q2
      unfold stoDI at hs
      split at hs
      · rename_i es kk hm2 hk
        by_cases hz : es.length < sizeLine
        · rw [if_pos hz] at hs
          obtain ⟨s, hr, rfl⟩ := Option.map_eq_some_iff.mp hs
          obtain ⟨a', g1, g2', us, g3, g4⟩ := g2.rel.mu i _ hm2
          rw [h1] at g1
          cases g1
          have e1 := keyOf_eq hk
          subst e1
          have e2 := R.vKey hw
          subst e2
          exact ⟨a, _, rfl, DPut.k g3 (by rw [g4.len]; exact hz), q2.val_ (g2.rel.change hm2 h1 hr ⟨_, upd_same, g4.put (hv.mono g2.fr)⟩).rel⟩
        · rw [if_neg hz] at hs
          cases hs
      · cases hs
end
/-! ### dict(pairs) -/
def pairsD : List D → Option (List (Key × D))
  | [] => some []
  | .tup [a, b] :: r => match keyOf a, pairsD r with
    | some k, some q => some ((k, b) :: q)
    | _, _ => none
  | _ => none
def mergeE (es : List (D × D)) (ps : List (Key × D)) : List (D × D) := ps.foldl (fun acc p => putE acc p.1 p.2) es
section
variable {K : PySem.W.Frag} {mg : Str → Option Value} {F H : Hp}
theorem RK.merge : ∀ {kvs : List (Key × V)} {ps : List (Key × D)} {acc : List (Key × V)} {es : List (D × D)}, Paired (fun kv p => kv.1 = p.1 ∧ R K mg F kv.2 p.2) kvs ps → RK K mg F acc es → RK K mg F (mergeK acc kvs) (mergeE es ps)
  | _, _, _, _, .nil, r => r
  | kv :: kvs, p :: ps, acc, es, .cons h t, r => by
    obtain ⟨e, h2⟩ := h
    have := RK.merge t (r.put (k := p.1) h2)
    unfold mergeK mergeE at this ⊢
    rw [List.foldl_cons, List.foldl_cons, e]
    exact this
theorem RL.pairs (s : Same F H) : ∀ {vs : List V} {ds : List D} {ps : List (Key × D)}, RL K mg F vs ds → pairsD ds = some ps → ∃ (as : List Addr) (kvs : List (Key × V)), vs = as.map V.ref ∧ Paired (fun p kv => SqT K H p [kV kv.1, kv.2]) as kvs ∧ Paired (fun kv p => kv.1 = p.1 ∧ R K mg F kv.2 p.2) kvs ps
  | _, _, _, .nil, h => by
    cases h
    exact ⟨[], [], rfl, .nil, .nil⟩
  | v :: vs, d :: ds, ps, .cons h t, e => by
    unfold pairsD at e
    split at e
    · rename_i hh
      exact absurd hh (List.cons_ne_nil _ _)
    · rename_i a b r hd
      cases hd
      split at e
      · rename_i k q hk hq
        cases e
        obtain ⟨as, kvs, rfl, p1, p2⟩ := RL.pairs s t hq
        obtain ⟨c, us, rfl, h1, h2⟩ := h.tupE
        cases h2 with
        | cons ha h2 =>
        cases h2 with
        | cons hb h2 =>
        cases h2
        have e1 := keyOf_eq hk
        subst e1
        have e2 := ha.vKey
        subst e2
        exact ⟨c :: as, (k, _) :: kvs, rfl, .cons (same_seqT s h1) p1, .cons ⟨rfl, hb⟩ p2⟩
      · cases e
    · cases e
end
def dicL (o : Option (List D)) (ρ : En) : Res D := match o with
  | some [.lst ds] => (match pairsD ds with
    | some ps => .val (.dic (mergeE [] ps)) ρ
    | none => .bad)
  | _ => .bad
def nDicL (fs : M (List AV)) : M D := fun ρ => (fs ρ).bind fun xs ρ1 => dicL (derL xs ρ1) ρ1
section
variable {X : Cx} {Z : Zone} {W : WX} {e : Expr} {es : List Expr} {fs : M (List AV)} {p pos : Pos} {x : Str}
theorem en_dicL (hc : X.calm = true) (hg : Gl X x) (hm : X.mg x = none) (hv : bootBuiltins x = some (.type "dict")) (ha : PL X Z W (e :: es) fs) (hn : x ≠ "__name__" := by decide) (hdb : (x == ("__debug__" : Str)) = false := by decide)
    (he : starEach (e :: es) X.env = (false, eval e X.env) :: starEach es X.env := by rfl) (hpl : (backTo pos (starEach es X.env)).any (·.1) = false := by rfl) : PN X Z W (.Call (.Name x p) (e :: es) [] pos) (nDicL fs) := by
  refine PE.weak (pe_callTy (call_dictP hc) hg hm hv ha hn hdb he hpl) fun σ H Q ⟨ρ, F, rel, q⟩ => ⟨ρ, F, rel, (Post.bind q).imp fun xs H1 ρ1 F1 g1 q1 vs hvs => ?_⟩
  unfold dicL at q1
  split at q1
  · rename_i ds hx
    split at q1
    · rename_i ps hp
      have hr := derL_ok g1.rel hvs hx
      cases hr with
      | cons h1 h2 =>
      cases h2
      obtain ⟨a, us, rfl, h3, h4⟩ := h1.lst g1.rel.same
      obtain ⟨as, kvs, rfl, p1, p2⟩ := h4.pairs g1.rel.same hp
      refine ⟨a, as, kvs, rfl, .inl (.inl h3), p1, fun t nt => ?_⟩
      have s1 : Same H1 (upd H1 t (.dK (mergeK [] kvs))) := same_new nt
      exact q1 _ _ (.new g1.rel s1) t (g1.free nt) (g1.rel.h0 nt) (g1.rel.same.free nt) ⟨_, upd_same, RK.merge p2 .nil⟩ (new_ne g1.rel nt)
    · exact q1.elim
  · exact q1.elim
end
@[simp] theorem nDicL_r {fs : M (List AV)} {ρ : En} : nDicL fs ρ = (fs ρ).bind fun xs ρ1 => dicL (derL xs ρ1) ρ1 := rfl
theorem dicL_r {ds : List D} {ps : List (Key × D)} {ρ : En} (h : pairsD ds = some ps) : dicL (some [.lst ds]) ρ = .val (.dic (mergeE [] ps)) ρ := by
  simp only [dicL, h]
section
variable {ρ : En} {fo fa : M AV}
def stoDR (i : Nat) (m : Option D) (k d : D) (ρ : En) : Res Fl := match m, keyOf k with
  | some (.dic es), some k => if es.length < sizeLine then (match (ρ.at i).re (.dic (putE es k d)) with
    | some s => .val .nx (ρ.set i s)
    | none => .bad) else .bad
  | _, _ => .bad
theorem sStoD_r {i : Nat} : sStoD i fo fa ρ = (fa.st ρ).bind fun d ρ1 => if ((ρ1.at i).mu).isSome = true then (fo.st ρ1).bind fun k ρ2 => stoDR i (ρ2.at i).mu k d ρ2 else .bad := by
  unfold sStoD
  congr 1
  funext d ρ1
  cases hm : (ρ1.at i).mu with
  | none => rfl
  | some c =>
    show Res.bind _ _ = Res.bind _ _
    congr 1
    funext k ρ2
    unfold stoDI stoDR
    generalize (ρ2.at i).mu = m
    cases m with
    | none => rfl
    | some c2 =>
      cases c2 with
      | dic es =>
        cases keyOf k with
        | none => rfl
        | some kk =>
          by_cases hz : es.length < sizeLine
          · simp only [if_pos hz]
            cases (ρ2.at i).re (.dic (putE es kk d)) <;> rfl
          · simp only [if_neg hz]
      | _ => rfl
def isDo : Option D → Bool
  | some (.dic _) => true
  | _ => false
@[simp] theorem isDo_dic {es : List (D × D)} : isDo (some (.dic es)) = true := rfl
@[simp] theorem eGetN_r : eGetN fo fa ρ = (fo ρ).bind fun x ρ1 => if isDo (der x ρ1) = true then (fa ρ1).bind fun y ρ2 => opR2 (der x ρ2) (der y ρ2) gGetN ρ2 else .bad := by
  unfold eGetN
  simp only [op2_r]
  rfl
@[simp] theorem gGetD_int {es : List (D × D)} {i : Int} : gGetD (.dic es) (.int i) = lookD es (.inl i) := rfl
@[simp] theorem gGetD_str {es : List (D × D)} {i : Str} : gGetD (.dic es) (.str i) = lookD es (.inr i) := rfl
@[simp] theorem gGetN_int {es : List (D × D)} {i : Int} : gGetN (.dic es) (.int i) = some ((lookD es (.inl i)).getD .non) := rfl
@[simp] theorem gInDk_int {es : List (D × D)} {i : Int} {b : Bool} : gInDk b (.int i) (.dic es) = some (.bl (if b then !(lookD es (.inl i)).isSome else (lookD es (.inl i)).isSome)) := rfl
@[simp] theorem gInDk_str {es : List (D × D)} {i : Str} {b : Bool} : gInDk b (.str i) (.dic es) = some (.bl (if b then !(lookD es (.inr i)).isSome else (lookD es (.inr i)).isSome)) := rfl
@[simp] theorem gListD_r {es : List (D × D)} : gListD [.dic es] = some (es.map (·.1)) := rfl
end
end PV
namespace K13
open PySem PySem.Spec PyProof.Rows L2 VK PV
def topS (i : Nat) : Stmt := PySem.Challenge.pw_shadeguards_k13_shortest_paths.main.body.getD i (.Pass ⟨0, 0, 0, 0⟩)
def zs : List Str := ["IndexError", "KeyError", "ValueError", "abs", "bool", "dict", "enumerate", "int", "isinstance", "len", "list", "min", "range", "repr", "tuple"]
def TB : Tabs := ⟨[("ShadeError", [("IndexError", false), ("KeyError", false), ("NoInvariant", false), ("NoObject", false), ("NothingToUndo", false), ("ShadeError", true), ("TooMany", false), ("ValueError", true)]), ("NoObject", [("IndexError", true), ("KeyError", false), ("NoInvariant", false), ("NoObject", true), ("NothingToUndo", false), ("ShadeError", false), ("TooMany", false), ("ValueError", false)]), ("NothingToUndo", [("IndexError", false), ("KeyError", false), ("NoInvariant", false), ("NoObject", false), ("NothingToUndo", true), ("ShadeError", false), ("TooMany", false), ("ValueError", false)]), ("TooMany", [("IndexError", false), ("KeyError", false), ("NoInvariant", false), ("NoObject", false), ("NothingToUndo", false), ("ShadeError", false), ("TooMany", true), ("ValueError", false)])], [], [("NoneType", [("IndexError", false), ("KeyError", false), ("NoInvariant", false), ("NoObject", false), ("NothingToUndo", false), ("ShadeError", false), ("TooMany", false), ("ValueError", false), ("bool", false), ("int", false), ("list", false), ("tuple", false)]), ("bool", [("IndexError", false), ("KeyError", false), ("NoInvariant", false), ("NoObject", false), ("NothingToUndo", false), ("ShadeError", false), ("TooMany", false), ("ValueError", false), ("bool", true), ("int", true), ("list", false), ("tuple", false)]), ("int", [("IndexError", false), ("KeyError", false), ("NoInvariant", false), ("NoObject", false), ("NothingToUndo", false), ("ShadeError", false), ("TooMany", false), ("ValueError", false), ("bool", false), ("int", true), ("list", false), ("tuple", false)]), ("str", [("IndexError", false), ("KeyError", false), ("NoInvariant", false), ("NoObject", false), ("NothingToUndo", false), ("ShadeError", false), ("TooMany", false), ("ValueError", false), ("bool", false), ("int", false), ("list", false), ("tuple", false)]), ("list", [("IndexError", false), ("KeyError", false), ("NoInvariant", false), ("NoObject", false), ("NothingToUndo", false), ("ShadeError", false), ("TooMany", false), ("ValueError", false), ("bool", false), ("int", false), ("list", true), ("tuple", false)]), ("tuple", [("IndexError", false), ("KeyError", false), ("NoInvariant", false), ("NoObject", false), ("NothingToUndo", false), ("ShadeError", false), ("TooMany", false), ("ValueError", false), ("bool", false), ("int", false), ("list", false), ("tuple", true)]), ("dict", [("IndexError", false), ("KeyError", false), ("NoInvariant", false), ("NoObject", false), ("NothingToUndo", false), ("ShadeError", false), ("TooMany", false), ("ValueError", false), ("bool", false), ("int", false), ("list", false), ("tuple", false)])]⟩
section
variable {P : Program} {w : World} {K : PySem.W.Frag} {mg : Str → Option Value} {base : Heap}
variable {C_NoInvariant C_NoObject C_NothingToUndo C_ShadeError C_TooMany : Addr}
/-! `is_number` -/
abbrev s_is_number : Stmt := topS 1
theorem sc_is_number : FnScope ["thing"] ["thing"] (defScope s_is_number) := ⟨rfl, rfl, rfl, by decide +kernel, rfl, by decide +kernel, by decide +kernel⟩
/- slots: 0 thing -/
def F_is_number : M Fl :=
      (sRet (eAnd (eB gIsi (eL1 (eVar 0) (eL1 (eC (.ty "int")) eL0))) (eNot (eB gIsi (eL1 (eVar 0) (eL1 (eC (.ty "bool")) eL0))))))
def M_is_number : Md := runM [false] 1 F_is_number
theorem bd_is_number (z : ∀ x, x ∈ zs → mg x = none) : Bdy P w K mg base 0 "is_number" s_is_number ["thing"] F_is_number := fun f cdv A outer s H E Z hr hgd =>
    (cs_one (cs_ret (ev_and (ev_B (r := rIsi K) call_isi ok_isi (by rfl) (z "isinstance" (by decide)) PyProof.Rows.boot_isinstance (el_cons (ev_var (pv 0)) (el_cons (ev_c (pe_bltn (v := .ty "int") (by rfl) (z "int" (by decide)) PyProof.Rows.boot_int rfl) fun _ => .ty _) el_nil))) (ev_one (ev_not (ev_B (r := rIsi K) call_isi ok_isi (by rfl) (z "isinstance" (by decide)) PyProof.Rows.boot_isinstance (el_cons (ev_var (pv 0)) (el_cons (ev_c (pe_bltn (v := .ty "bool") (by rfl) (z "bool" (by decide)) PyProof.Rows.boot_bool rfl) fun _ => .ty _) el_nil))))))))

/-! `is_index` -/
abbrev s_is_index : Stmt := topS 2
theorem sc_is_index : FnScope ["thing", "many"] ["thing", "many"] (defScope s_is_index) := ⟨rfl, rfl, rfl, by decide +kernel, rfl, by decide +kernel, by decide +kernel⟩
/- slots: 0 thing, 1 many -/
def F_is_index : M Fl :=
      (sRet (eAnd (eCall [false] M_is_number (eL1 (eVar 0) eL0)) (eChain gLe gLt (eC (.int 0)) (eVar 0) (eVar 1))))
def M_is_index : Md := runM [false, false] 2 F_is_index
theorem bd_is_index (z : ∀ x, x ∈ zs → mg x = none) (c_is_number : CalX P w K mg base 1 "is_number" [false] M_is_number) : Bdy P w K mg base 1 "is_index" s_is_index ["thing", "many"] F_is_index := fun f cdv A outer s H E Z hr hgd =>
    (cs_one (cs_ret (ev_and (ev_call c_is_number hr hgd (by decide) (takes_of rfl rfl rfl rfl) (by rfl) (el_cons (ev_var (pv 0)) el_nil)) (ev_one (ev_chain op_le ok_le op_lt ok_lt (ev_c pe_int fun _ => .int _) (ev_var (pv 0)) (ev_var (pv 1)))))))

/-! `path_to` -/
abbrev s_path_to : Stmt := topS 10
theorem sc_path_to : FnScope ["heap", "registers", "x", "fields", "paths", "r", "held", "latest", "further", "y", "f"] ["heap", "registers", "x"] (defScope s_path_to) := ⟨rfl, rfl, rfl, by decide +kernel, rfl, by decide +kernel, by decide +kernel⟩
/- slots: 0 heap, 1 registers, 2 x, 3 fields, 4 paths, 5 r, 6 held, 7 latest, 8 further, 9 y, 10 f -/
def B_path_to_1 : M Fl :=
      (sIf (bAnd (M.tb (eOp gNotN (eVar 6) (eC .non))) (M.tb (eOp (gInDk true) (eVar 6) (eVar 4)))) (sStoD 4 (eVar 6) (eTup (eL1 (eVar 5) eL0))) sNx)
def B_path_to_2 : M Fl :=
      (sIf (bAnd (M.tb (eOp gNotN (eVar 6) (eC .non))) (M.tb (eOp (gInDk true) (eVar 6) (eVar 4)))) (sSeq (sStoD 4 (eVar 6) (eOp gPlus (eOp gGetD (eVar 4) (eVar 9)) (eTup (eL1 (eVar 10) eL0))))
              (sExp (eMt "list" 8 gApp (eL1 (eVar 6) eL0)))) sNx)
def B_path_to_3 : M Fl :=
      (sFor (iEnA (eL1 (eOp gIx (eVar 3) (eVar 9)) eL0)) (gTu [(gNm 10), (gNm 6)]) B_path_to_2)
def B_path_to_4 : M Fl :=
      (sSeq (sNew 8 (nLst eL0))
        (sSeq (sFor (iSq (eVar 7)) (gNm 9) B_path_to_3)
        (sSet 7 (eVar 8))))
def F_path_to : M Fl :=
      (sSeq (sSet 3 (eOp gIx (eVar 0) (eC (.int 1))))
      (sSeq (sIf (bNot (M.tru (eCall [false, false] M_is_index (eL1 (eVar 2) (eL1 (eB gLenA (eL1 (eVar 3) eL0)) eL0))))) (sRaise "NoObject" ["index"] (eL1 (eVar 2) eL0)) sNx)
      (sSeq (sNew 4 nDic0)
      (sSeq (sFor (iEnA (eL1 (eVar 1) eL0)) (gTu [(gNm 5), (gNm 6)]) B_path_to_1)
      (sSeq (sSet 7 (eNew (nB gListD (eL1 (eVar 4) eL0))))
      (sSeq (sWhile 100000 (bAnd (M.tru (eVar 7)) (M.tb (eOp (gInDk true) (eVar 2) (eVar 4)))) B_path_to_4)
      (sRet (eGetN (eVar 4) (eVar 2)))))))))
def M_path_to : Md := runM [false, false, false] 11 F_path_to
theorem bd_path_to (z : ∀ x, x ∈ zs → mg x = none) (x_NoObject : ExI K mg "NoObject" ["index"]) (c_is_index : CalX P w K mg base 2 "is_index" [false, false] M_is_index) : Bdy P w K mg base 2 "path_to" s_path_to ["heap", "registers", "x", "fields", "paths", "r", "held", "latest", "further", "y", "f"] F_path_to := fun f cdv A outer s H E Z hr hgd =>
    (cs_cons (cs_set (ps_set (i := 3) sc_path_to.nd rfl (Or.inl rfl) (ed (ev_ix ix_all ok_ix (ev_var (pv 0)) (ev_c pe_int fun _ => .int _) (fun _ _ => rfl)))))
      (cs_cons (cs_if (et_not (et_tru (ev_call c_is_index hr hgd (by decide) (takes_of rfl rfl rfl rfl) (by rfl) (el_cons (ev_var (pv 2)) (el_cons (ev_B call_lenA ok_lenA (by rfl) (z "len" (by decide)) PySem.boot_len (el_cons (ev_var (pv 3)) el_nil)) el_nil))))) (cs_one (cs_raise x_NoObject hr (by decide) (takes_of rfl rfl rfl rfl) rfl (by rfl) (el_cons (ev_var (pv 2)) el_nil))) cs_nil)
      (cs_cons (cs_new (ps_set (i := 4) sc_path_to.nd rfl (Or.inl rfl) en_dic0))
      (cs_cons (cs_for (passes_of rfl) rfl (it_enumA (by rfl) (z "enumerate" (by decide)) (el_cons (ev_var (pv 1)) el_nil)) (tg_tup rfl (tgs_cons (tg_name (pg_name (i := 5) sc_path_to.nd rfl (Or.inl rfl))) (tgs_cons (tg_name (pg_name (i := 6) sc_path_to.nd rfl (Or.inl rfl))) tgs_nil)))
        (cs_one (cs_if (et_w (ew_and (et_cmp op_notN ok_notN (ev_var (pv 6)) (ev_c pe_non fun _ => .non) (nomark _)) (ew_and1 (et_ninDk (hu1 hr) (ev_var (pv 6)) (ev_var (pv 4)) (by rfl))))) (cs_one (cs_stoD (ps_dput (hu1 hr) (pv 4) (ed (ev_var (pv 6))) (ed (ev_tup (el_cons (ev_var (pv 5)) el_nil))) (by rfl)))) cs_nil)))
      (cs_cons (cs_set (ps_set (i := 7) sc_path_to.nd rfl (Or.inl rfl) (ed (ev_new (en_Ty (call_list_dK rfl) ok_listD (by rfl) (z "list" (by decide)) PyProof.Rows.boot_list (el_cons (ev_var (pv 4)) el_nil))))))
      (cs_cons (cs_while 100000 (passes_of rfl) (et_w (ew_and (et_tru (ev_var (pv 7))) (ew_and1 (et_ninDk (hu1 hr) (ev_var (pv 2)) (ev_var (pv 4)) (by rfl))))) (cs_cons (cs_new (ps_set (i := 8) sc_path_to.nd rfl (Or.inl rfl) (en_lst el_nil)))
        (cs_cons (cs_for (passes_of rfl) rfl (it_sq (ev_var (pv 7))) (tg_name (pg_name (i := 9) sc_path_to.nd rfl (Or.inl rfl)))
          (cs_one (cs_for (passes_of rfl) rfl (it_enumA (by rfl) (z "enumerate" (by decide)) (el_cons (ev_ix ix_all ok_ix (ev_var (pv 3)) (ev_var (pv 9)) (fun _ _ => rfl)) el_nil)) (tg_tup rfl (tgs_cons (tg_name (pg_name (i := 10) sc_path_to.nd rfl (Or.inl rfl))) (tgs_cons (tg_name (pg_name (i := 6) sc_path_to.nd rfl (Or.inl rfl))) tgs_nil)))
            (cs_one (cs_if (et_w (ew_and (et_cmp op_notN ok_notN (ev_var (pv 6)) (ev_c pe_non fun _ => .non) (nomark _)) (ew_and1 (et_ninDk (hu1 hr) (ev_var (pv 6)) (ev_var (pv 4)) (by rfl))))) (cs_cons (cs_stoD (ps_dput (hu1 hr) (pv 4) (ed (ev_var (pv 6))) (ed (ev_op op_plus ok_plus (ev_getD (hu1 hr) (ev_var (pv 4)) (ev_var (pv 9)) (fun _ _ => rfl)) (ev_tup (el_cons (ev_var (pv 10)) el_nil)))) (by rfl)))
              (cs_one (cs_exp (ps_expr (ev_mt (T := "list") ok_app (fun _ ht => pe_bm PySem.F.plainAttrs_list PySem.F.slot_list_append PySem.F.type_list_append mt_append (pv 8) ht) (el_cons (ev_var (pv 6)) el_nil)))))) cs_nil)))))
        (cs_one (cs_set (ps_set (i := 7) sc_path_to.nd rfl (Or.inl rfl) (ed (ev_var (pv 8)))))))))
      (cs_one (cs_ret (ev_getN (hu1 hr) (ev_var (pv 4)) (ev_var (pv 2)))))))))))

/-! `_law_pen` -/
abbrev s_law_pen : Stmt := topS 12
theorem sc_law_pen : FnScope ["_law_script"] ["_law_script"] (defScope s_law_pen) := ⟨rfl, rfl, rfl, by decide +kernel, rfl, by decide +kernel, by decide +kernel⟩
/- slots: 0 _law_script -/
def E_law_pen : M D := (nLst (eL1 (eNew (nB nList (eL1 (eSl gSl (eVar 0) pNo (pIn (eC (.int 63)))) eL0))) (eL1 (eC (.int 0)) (eL1 (eC (.int 0)) eL0))))
def N_law_pen : List D → Option D := runN 1 1 E_law_pen
theorem ok_law_pen (z : ∀ x, x ∈ zs → mg x = none) (D : Df K mg "_law_pen" s_law_pen) : CalN P w K mg base 1 "_law_pen" N_law_pen :=
  PV.Df.calN (N := ["_law_script"]) (fN := E_law_pen) D sc_law_pen rfl (fun _ _ _ _ _ _ us hl => match us, hl with | [_], _ => rfl) fun f cdv A outer s H E Z hr hgd =>
    (en_lst (el_cons (ev_new (en_Ty (r := rListOf K) call_listOf ok_list (by rfl) (z "list" (by decide)) PyProof.Rows.boot_list (el_cons (ev_sl sl_all ok_sl (ev_var (pv 0)) ep_no (ep_in (ev_c pe_int fun _ => .int _))) el_nil))) (el_cons (ev_c pe_int fun _ => .int _) (el_cons (ev_c pe_int fun _ => .int _) el_nil))))

/-! `_law_pick` -/
abbrev s_law_pick : Stmt := topS 13
theorem sc_law_pick : FnScope ["_law_pen_here", "_law_upto", "_law_digit", "_law_at", "_law_cell", "_law_great", "_law_first", "_law_second"] ["_law_pen_here", "_law_upto"] (defScope s_law_pick) := ⟨rfl, rfl, rfl, by decide +kernel, rfl, by decide +kernel, by decide +kernel⟩
/- slots: 0 _law_pen_here, 1 _law_upto, 2 _law_digit, 3 _law_at, 4 _law_cell, 5 _law_great, 6 _law_first, 7 _law_second -/
def F_law_pick : M Fl :=
      (sSeq (sIf (M.tb (eOp gGt (eOp gIx (eVar 0) (eC (.int 2))) (eC (.int 0)))) (sSeq (sSet 2 (eOp gMod (eOp gIx (eVar 0) (eC (.int 2))) (eVar 1)))
        (sSeq (sSto 0 (eC (.int 2)) (eOp gDiv (eOp gIx (eVar 0) (eC (.int 2))) (eVar 1)))
        (sRet (eVar 2)))) sNx)
      (sSeq (sSet 3 (eOp gIx (eVar 0) (eC (.int 1))))
      (sSeq (sSto 0 (eC (.int 1)) (eOp gPlus (eVar 3) (eC (.int 1))))
      (sSeq (sSet 4 (eOp gPlus (eOp gTimes (eC (.int 8017)) (eVar 3)) (eC (.int 131))))
      (sSeq (sIf (M.tb (eOp gNeG (eOp gIx (eVar 0) (eC (.int 0))) (eNew (nLst eL0)))) (sSet 4 (eOp gIx (eOp gIx (eVar 0) (eC (.int 0))) (eOp gMod (eVar 3) (eB gLenA (eL1 (eOp gIx (eVar 0) (eC (.int 0))) eL0))))) sNx)
      (sSeq (sIf (bAnd (M.tb (eOp gLt (eVar 3) (eB gLenA (eL1 (eOp gIx (eVar 0) (eC (.int 0))) eL0)))) (M.tb (eOp gGe (eB gAbs (eL1 (eVar 4) eL0)) (eOp gPow (eC (.int 10)) (eC (.int 18)))))) (sSeq (sSet 5 (eOp gPlus (eOp gTimes (eC (.int 2)) (eOp gSub (eB gAbs (eL1 (eVar 4) eL0)) (eOp gPow (eC (.int 10)) (eC (.int 18))))) (eB gInt1 (eL1 (eOp gLt (eVar 4) (eC (.int 0))) eL0))))
        (sSeq (sSto 0 (eC (.int 2)) (eOp gDiv (eVar 5) (eVar 1)))
        (sRet (eOp gMod (eVar 5) (eVar 1))))) sNx)
      (sSeq (sSet 6 (eOp gMod (eOp gPow (eOp gPlus (eOp gPlus (eOp gPlus (eOp gMod (eVar 4) (eC (.int 2147483563))) (eOp gTimes (eOp gTimes (eC (.int 51043)) (eVar 3)) (eVar 3))) (eOp gTimes (eC (.int 30011)) (eVar 3))) (eC (.int 71))) (eC (.int 3))) (eC (.int 2147483647))))
      (sSeq (sSet 7 (eOp gMod (eOp gPow (eOp gPlus (eOp gTimes (eVar 6) (eOp gPlus (eOp gTimes (eC (.int 2)) (eVar 3)) (eC (.int 29)))) (eC (.int 70009))) (eC (.int 5))) (eC (.int 2147483549))))
      (sRet (eOp gMod (eOp gDiv (eVar 7) (eC (.int 64))) (eVar 1)))))))))))
def M_law_pick : Md := runM [true, false] 8 F_law_pick
theorem bd_law_pick (z : ∀ x, x ∈ zs → mg x = none) : Bdy P w K mg base 0 "_law_pick" s_law_pick ["_law_pen_here", "_law_upto", "_law_digit", "_law_at", "_law_cell", "_law_great", "_law_first", "_law_second"] F_law_pick := fun f cdv A outer s H E Z hr hgd =>
    (cs_cons (cs_if (et_cmp op_gt ok_gt (ev_ix ix_all ok_ix (ev_var (pv 0)) (ev_c pe_int fun _ => .int _) (fun _ _ => rfl)) (ev_c pe_int fun _ => .int _) (nomark _)) (cs_cons (cs_set (ps_set (i := 2) sc_law_pick.nd rfl (Or.inl rfl) (ed (ev_op op_mod ok_mod (ev_ix ix_all ok_ix (ev_var (pv 0)) (ev_c pe_int fun _ => .int _) (fun _ _ => rfl)) (ev_var (pv 1))))))
        (cs_cons (cs_sto (ps_asg (ed (ev_op op_fdiv ok_div (ev_ix ix_all ok_ix (ev_var (pv 0)) (ev_c pe_int fun _ => .int _) (fun _ _ => rfl)) (ev_var (pv 1)))) (pg_sub (pv 0) (ed (ev_c pe_int fun _ => .int _)) set_list)))
        (cs_one (cs_ret (ev_var (pv 2)))))) cs_nil)
      (cs_cons (cs_set (ps_set (i := 3) sc_law_pick.nd rfl (Or.inl rfl) (ed (ev_ix ix_all ok_ix (ev_var (pv 0)) (ev_c pe_int fun _ => .int _) (fun _ _ => rfl)))))
      (cs_cons (cs_sto (ps_asg (ed (ev_op op_plus ok_plus (ev_var (pv 3)) (ev_c pe_int fun _ => .int _))) (pg_sub (pv 0) (ed (ev_c pe_int fun _ => .int _)) set_list)))
      (cs_cons (cs_set (ps_set (i := 4) sc_law_pick.nd rfl (Or.inl rfl) (ed (ev_op op_plus ok_plus (ev_op op_times ok_times (ev_c pe_int fun _ => .int _) (ev_var (pv 3))) (ev_c pe_int fun _ => .int _)))))
      (cs_cons (cs_if (et_cmp (op_neG hr.units) ok_neG (ev_ix ix_all ok_ix (ev_var (pv 0)) (ev_c pe_int fun _ => .int _) (fun _ _ => rfl)) (ev_new (en_lst el_nil)) (nomark _)) (cs_one (cs_set (ps_set (i := 4) sc_law_pick.nd rfl (Or.inl rfl) (ed (ev_ix ix_all ok_ix (ev_ix ix_all ok_ix (ev_var (pv 0)) (ev_c pe_int fun _ => .int _) (fun _ _ => rfl)) (ev_op op_mod ok_mod (ev_var (pv 3)) (ev_B call_lenA ok_lenA (by rfl) (z "len" (by decide)) PySem.boot_len (el_cons (ev_ix ix_all ok_ix (ev_var (pv 0)) (ev_c pe_int fun _ => .int _) (fun _ _ => rfl)) el_nil))) (fun _ _ => rfl)))))) cs_nil)
      (cs_cons (cs_if (et_w (ew_and (et_cmp op_lt ok_lt (ev_var (pv 3)) (ev_B call_lenA ok_lenA (by rfl) (z "len" (by decide)) PySem.boot_len (el_cons (ev_ix ix_all ok_ix (ev_var (pv 0)) (ev_c pe_int fun _ => .int _) (fun _ _ => rfl)) el_nil)) (nomark _)) (ew_and1 (et_cmp op_ge ok_ge (ev_B call_abs ok_abs (by rfl) (z "abs" (by decide)) PyProof.Rows.boot_abs (el_cons (ev_var (pv 4)) el_nil)) (ev_op op_pow ok_pow (ev_c pe_int fun _ => .int _) (ev_c pe_int fun _ => .int _)) (nomark _))))) (cs_cons (cs_set (ps_set (i := 5) sc_law_pick.nd rfl (Or.inl rfl) (ed (ev_op op_plus ok_plus (ev_op op_times ok_times (ev_c pe_int fun _ => .int _) (ev_op op_sub ok_sub (ev_B call_abs ok_abs (by rfl) (z "abs" (by decide)) PyProof.Rows.boot_abs (el_cons (ev_var (pv 4)) el_nil)) (ev_op op_pow ok_pow (ev_c pe_int fun _ => .int _) (ev_c pe_int fun _ => .int _)))) (ev_Ty call_int1 ok_int1 (by rfl) (z "int" (by decide)) PyProof.Rows.boot_int (el_cons (ev_cmp op_lt ok_lt (ev_var (pv 4)) (ev_c pe_int fun _ => .int _) (nomark _)) el_nil))))))
        (cs_cons (cs_sto (ps_asg (ed (ev_op op_fdiv ok_div (ev_var (pv 5)) (ev_var (pv 1)))) (pg_sub (pv 0) (ed (ev_c pe_int fun _ => .int _)) set_list)))
        (cs_one (cs_ret (ev_op op_mod ok_mod (ev_var (pv 5)) (ev_var (pv 1))))))) cs_nil)
      (cs_cons (cs_set (ps_set (i := 6) sc_law_pick.nd rfl (Or.inl rfl) (ed (ev_op op_mod ok_mod (ev_op op_pow ok_pow (ev_op op_plus ok_plus (ev_op op_plus ok_plus (ev_op op_plus ok_plus (ev_op op_mod ok_mod (ev_var (pv 4)) (ev_c pe_int fun _ => .int _)) (ev_op op_times ok_times (ev_op op_times ok_times (ev_c pe_int fun _ => .int _) (ev_var (pv 3))) (ev_var (pv 3)))) (ev_op op_times ok_times (ev_c pe_int fun _ => .int _) (ev_var (pv 3)))) (ev_c pe_int fun _ => .int _)) (ev_c pe_int fun _ => .int _)) (ev_c pe_int fun _ => .int _)))))
      (cs_cons (cs_set (ps_set (i := 7) sc_law_pick.nd rfl (Or.inl rfl) (ed (ev_op op_mod ok_mod (ev_op op_pow ok_pow (ev_op op_plus ok_plus (ev_op op_times ok_times (ev_var (pv 6)) (ev_op op_plus ok_plus (ev_op op_times ok_times (ev_c pe_int fun _ => .int _) (ev_var (pv 3))) (ev_c pe_int fun _ => .int _))) (ev_c pe_int fun _ => .int _)) (ev_c pe_int fun _ => .int _)) (ev_c pe_int fun _ => .int _)))))
      (cs_one (cs_ret (ev_op op_mod ok_mod (ev_op op_fdiv ok_div (ev_var (pv 7)) (ev_c pe_int fun _ => .int _)) (ev_var (pv 1)))))))))))))

/-! `_law_pile` -/
abbrev s_law_pile : Stmt := topS 14
theorem sc_law_pile : FnScope ["_law_pen_here", "_law_most", "_law_wides", "_law_wide", "_law_size", "_law_way", "_law_objects", "_law_me", "_law_fields", "_law_f", "_law_any_one", "_law_some", "_law_one"] ["_law_pen_here", "_law_most", "_law_wides"] (defScope s_law_pile) := ⟨rfl, rfl, rfl, by decide +kernel, rfl, by decide +kernel, by decide +kernel⟩
/- slots: 0 _law_pen_here, 1 _law_most, 2 _law_wides, 3 _law_wide, 4 _law_size, 5 _law_way, 6 _law_objects, 7 _law_me, 8 _law_fields, 9 _law_f, 10 _law_any_one, 11 _law_some, 12 _law_one -/
def B_law_pile_1 : M Fl :=
      (sSeq (sSet 10 (eCall [true, false] M_law_pick (eL1 (eVar 0) (eL1 (eVar 4) eL0))))
          (sSeq (sSet 11 (eNew (nLst (eL1 (eVar 10) (eL1 (eIf (M.tb (eOp gLt (eOp gPlus (eVar 7) (eC (.int 1))) (eVar 4))) (eOp gPlus (eVar 7) (eC (.int 1))) (eC .non)) (eL1 (eOp gMod (eOp gPlus (eVar 7) (eC (.int 1))) (eVar 4)) (eL1 (eC .non) (eL1 (eOp gPlus (eOp gPlus (eOp gTimes (eVar 3) (eVar 7)) (eVar 9)) (eC (.int 1))) (eL1 (eVar 7) eL0)))))))))
          (sSeq (sSet 12 (eOp gIx (eNew (nLst (eL1 (eOp gIx (eVar 11) (eVar 5)) (eL1 (eC .non) (eL1 (eVar 10) eL0))))) (eOp gIx (eNew (nLst (eL1 (eC (.int 0)) (eL1 (eC (.int 0)) (eL1 (eC (.int 0)) (eL1 (eC (.int 0)) (eL1 (eC (.int 1)) (eL1 (eC (.int 2)) eL0)))))))) (eCall [true, false] M_law_pick (eL1 (eVar 0) (eL1 (eC (.int 6)) eL0))))))
          (sExp (eMt "list" 8 gApp (eL1 (eIf (bAnd (M.tb (eOp gNotN (eVar 12) (eC .non))) (M.tb (eOp gGe (eVar 12) (eVar 4)))) (eC .non) (eVar 12)) eL0))))))
def B_law_pile_2 : M Fl :=
      (sSeq (sNew 8 (nLst eL0))
        (sSeq (sFor (iR1 (eL1 (eVar 3) eL0)) (gNm 9) B_law_pile_1)
        (sExp (eMt "list" 6 gApp (eL1 (eB gTuple (eL1 (eVar 8) eL0)) eL0)))))
def F_law_pile : M Fl :=
      (sSeq (sSet 3 (eOp gIx (eVar 2) (eCall [true, false] M_law_pick (eL1 (eVar 0) (eL1 (eB gLenA (eL1 (eVar 2) eL0)) eL0)))))
      (sSeq (sSet 4 (eOp gIx (eNew (nLst (eL1 (eCall [true, false] M_law_pick (eL1 (eVar 0) (eL1 (eB gMin2 (eL1 (eC (.int 7)) (eL1 (eOp gPlus (eVar 1) (eC (.int 1))) eL0))) eL0))) (eL1 (eCall [true, false] M_law_pick (eL1 (eVar 0) (eL1 (eOp gPlus (eVar 1) (eC (.int 1))) eL0))) (eL1 (eVar 1) eL0))))) (eCall [true, false] M_law_pick (eL1 (eVar 0) (eL1 (eC (.int 3)) eL0)))))
      (sSeq (sSet 5 (eCall [true, false] M_law_pick (eL1 (eVar 0) (eL1 (eC (.int 6)) eL0))))
      (sSeq (sNew 6 (nLst eL0))
      (sSeq (sFor (iR1 (eL1 (eVar 4) eL0)) (gNm 7) B_law_pile_2)
      (sRet (eTup (eL1 (eVar 3) (eL1 (eB gTuple (eL1 (eVar 6) eL0)) eL0)))))))))
def M_law_pile : Md := runM [true, false, false] 13 F_law_pile
theorem bd_law_pile (z : ∀ x, x ∈ zs → mg x = none) (c_law_pick : CalX P w K mg base 1 "_law_pick" [true, false] M_law_pick) : Bdy P w K mg base 1 "_law_pile" s_law_pile ["_law_pen_here", "_law_most", "_law_wides", "_law_wide", "_law_size", "_law_way", "_law_objects", "_law_me", "_law_fields", "_law_f", "_law_any_one", "_law_some", "_law_one"] F_law_pile := fun f cdv A outer s H E Z hr hgd =>
    (cs_cons (cs_set (ps_set (i := 3) sc_law_pile.nd rfl (Or.inl rfl) (ed (ev_ix ix_all ok_ix (ev_var (pv 2)) (ev_call c_law_pick hr hgd (by decide) (takes_of rfl rfl rfl rfl) (by rfl) (el_cons (ev_var (pv 0)) (el_cons (ev_B call_lenA ok_lenA (by rfl) (z "len" (by decide)) PySem.boot_len (el_cons (ev_var (pv 2)) el_nil)) el_nil))) (fun _ _ => rfl)))))
      (cs_cons (cs_set (ps_set (i := 4) sc_law_pile.nd rfl (Or.inl rfl) (ed (ev_ix ix_all ok_ix (ev_new (en_lst (el_cons (ev_call c_law_pick hr hgd (by decide) (takes_of rfl rfl rfl rfl) (by rfl) (el_cons (ev_var (pv 0)) (el_cons (ev_B (call_min2 rfl) ok_min2 (by rfl) (z "min" (by decide)) PyProof.Rows.boot_min (el_cons (ev_c pe_int fun _ => .int _) (el_cons (ev_op op_plus ok_plus (ev_var (pv 1)) (ev_c pe_int fun _ => .int _)) el_nil))) el_nil))) (el_cons (ev_call c_law_pick hr hgd (by decide) (takes_of rfl rfl rfl rfl) (by rfl) (el_cons (ev_var (pv 0)) (el_cons (ev_op op_plus ok_plus (ev_var (pv 1)) (ev_c pe_int fun _ => .int _)) el_nil))) (el_cons (ev_var (pv 1)) el_nil))))) (ev_call c_law_pick hr hgd (by decide) (takes_of rfl rfl rfl rfl) (by rfl) (el_cons (ev_var (pv 0)) (el_cons (ev_c pe_int fun _ => .int _) el_nil))) (fun _ _ => rfl)))))
      (cs_cons (cs_set (ps_set (i := 5) sc_law_pile.nd rfl (Or.inl rfl) (ed (ev_call c_law_pick hr hgd (by decide) (takes_of rfl rfl rfl rfl) (by rfl) (el_cons (ev_var (pv 0)) (el_cons (ev_c pe_int fun _ => .int _) el_nil))))))
      (cs_cons (cs_new (ps_set (i := 6) sc_law_pile.nd rfl (Or.inl rfl) (en_lst el_nil)))
      (cs_cons (cs_for (passes_of rfl) rfl (it_r1 (by rfl) (z "range" (by decide)) (el_cons (ev_var (pv 4)) el_nil)) (tg_name (pg_name (i := 7) sc_law_pile.nd rfl (Or.inl rfl)))
        (cs_cons (cs_new (ps_set (i := 8) sc_law_pile.nd rfl (Or.inl rfl) (en_lst el_nil)))
        (cs_cons (cs_for (passes_of rfl) rfl (it_r1 (by rfl) (z "range" (by decide)) (el_cons (ev_var (pv 3)) el_nil)) (tg_name (pg_name (i := 9) sc_law_pile.nd rfl (Or.inl rfl)))
          (cs_cons (cs_set (ps_set (i := 10) sc_law_pile.nd rfl (Or.inl rfl) (ed (ev_call c_law_pick hr hgd (by decide) (takes_of rfl rfl rfl rfl) (by rfl) (el_cons (ev_var (pv 0)) (el_cons (ev_var (pv 4)) el_nil))))))
          (cs_cons (cs_set (ps_set (i := 11) sc_law_pile.nd rfl (Or.inl rfl) (ed (ev_new (en_lst (el_cons (ev_var (pv 10)) (el_cons (ev_if (et_cmp op_lt ok_lt (ev_op op_plus ok_plus (ev_var (pv 7)) (ev_c pe_int fun _ => .int _)) (ev_var (pv 4)) (nomark _)) (ev_op op_plus ok_plus (ev_var (pv 7)) (ev_c pe_int fun _ => .int _)) (ev_c pe_non fun _ => .non)) (el_cons (ev_op op_mod ok_mod (ev_op op_plus ok_plus (ev_var (pv 7)) (ev_c pe_int fun _ => .int _)) (ev_var (pv 4))) (el_cons (ev_c pe_non fun _ => .non) (el_cons (ev_op op_plus ok_plus (ev_op op_plus ok_plus (ev_op op_times ok_times (ev_var (pv 3)) (ev_var (pv 7))) (ev_var (pv 9))) (ev_c pe_int fun _ => .int _)) (el_cons (ev_var (pv 7)) el_nil)))))))))))
          (cs_cons (cs_set (ps_set (i := 12) sc_law_pile.nd rfl (Or.inl rfl) (ed (ev_ix ix_all ok_ix (ev_new (en_lst (el_cons (ev_ix ix_all ok_ix (ev_var (pv 11)) (ev_var (pv 5)) (fun _ _ => rfl)) (el_cons (ev_c pe_non fun _ => .non) (el_cons (ev_var (pv 10)) el_nil))))) (ev_ix ix_all ok_ix (ev_new (en_lst (el_cons (ev_c pe_int fun _ => .int _) (el_cons (ev_c pe_int fun _ => .int _) (el_cons (ev_c pe_int fun _ => .int _) (el_cons (ev_c pe_int fun _ => .int _) (el_cons (ev_c pe_int fun _ => .int _) (el_cons (ev_c pe_int fun _ => .int _) el_nil)))))))) (ev_call c_law_pick hr hgd (by decide) (takes_of rfl rfl rfl rfl) (by rfl) (el_cons (ev_var (pv 0)) (el_cons (ev_c pe_int fun _ => .int _) el_nil))) (fun _ _ => rfl)) (fun _ _ => rfl)))))
          (cs_one (cs_exp (ps_expr (ev_mt (T := "list") ok_app (fun _ ht => pe_bm PySem.F.plainAttrs_list PySem.F.slot_list_append PySem.F.type_list_append mt_append (pv 8) ht) (el_cons (ev_if (et_w (ew_and (et_cmp op_notN ok_notN (ev_var (pv 12)) (ev_c pe_non fun _ => .non) (nomark _)) (ew_and1 (et_cmp op_ge ok_ge (ev_var (pv 12)) (ev_var (pv 4)) (nomark _))))) (ev_c pe_non fun _ => .non) (ev_var (pv 12))) el_nil)))))))))
        (cs_one (cs_exp (ps_expr (ev_mt (T := "list") ok_app (fun _ ht => pe_bm PySem.F.plainAttrs_list PySem.F.slot_list_append PySem.F.type_list_append mt_append (pv 6) ht) (el_cons (ev_Ty (r := rTup1 K) call_tup1 ok_tuple (by rfl) (z "tuple" (by decide)) PyProof.Rows.boot_tuple (el_cons (ev_var (pv 8)) el_nil)) el_nil))))))))
      (cs_one (cs_ret (ev_tup (el_cons (ev_var (pv 3)) (el_cons (ev_Ty (r := rTup1 K) call_tup1 ok_tuple (by rfl) (z "tuple" (by decide)) PyProof.Rows.boot_tuple (el_cons (ev_var (pv 6)) el_nil)) el_nil))))))))))

/-! `_law_spots` -/
abbrev s_law_spots : Stmt := topS 15
theorem sc_law_spots : FnScope ["_law_pen_here", "_law_size", "_law_most", "_law_found", "_law_k", "_law_one"] ["_law_pen_here", "_law_size", "_law_most"] (defScope s_law_spots) := ⟨rfl, rfl, rfl, by decide +kernel, rfl, by decide +kernel, by decide +kernel⟩
/- slots: 0 _law_pen_here, 1 _law_size, 2 _law_most, 3 _law_found, 4 _law_k, 5 _law_one -/
def B_law_spots_1 : M Fl :=
      (sSeq (sSet 5 (eCall [true, false] M_law_pick (eL1 (eVar 0) (eL1 (eOp gPlus (eVar 1) (eC (.int 1))) eL0))))
        (sExp (eMt "list" 3 gApp (eL1 (eIf (M.tb (eOp gLt (eVar 5) (eVar 1))) (eVar 5) (eC .non)) eL0))))
def F_law_spots : M Fl :=
      (sSeq (sNew 3 (nLst eL0))
      (sSeq (sFor (iR1 (eL1 (eOp gPlus (eC (.int 1)) (eCall [true, false] M_law_pick (eL1 (eVar 0) (eL1 (eVar 2) eL0)))) eL0)) (gNm 4) B_law_spots_1)
      (sRet (eB gTuple (eL1 (eVar 3) eL0)))))
def M_law_spots : Md := runM [true, false, false] 6 F_law_spots
theorem bd_law_spots (z : ∀ x, x ∈ zs → mg x = none) (c_law_pick : CalX P w K mg base 1 "_law_pick" [true, false] M_law_pick) : Bdy P w K mg base 1 "_law_spots" s_law_spots ["_law_pen_here", "_law_size", "_law_most", "_law_found", "_law_k", "_law_one"] F_law_spots := fun f cdv A outer s H E Z hr hgd =>
    (cs_cons (cs_new (ps_set (i := 3) sc_law_spots.nd rfl (Or.inl rfl) (en_lst el_nil)))
      (cs_cons (cs_for (passes_of rfl) rfl (it_r1 (by rfl) (z "range" (by decide)) (el_cons (ev_op op_plus ok_plus (ev_c pe_int fun _ => .int _) (ev_call c_law_pick hr hgd (by decide) (takes_of rfl rfl rfl rfl) (by rfl) (el_cons (ev_var (pv 0)) (el_cons (ev_var (pv 2)) el_nil)))) el_nil)) (tg_name (pg_name (i := 4) sc_law_spots.nd rfl (Or.inl rfl)))
        (cs_cons (cs_set (ps_set (i := 5) sc_law_spots.nd rfl (Or.inl rfl) (ed (ev_call c_law_pick hr hgd (by decide) (takes_of rfl rfl rfl rfl) (by rfl) (el_cons (ev_var (pv 0)) (el_cons (ev_op op_plus ok_plus (ev_var (pv 1)) (ev_c pe_int fun _ => .int _)) el_nil))))))
        (cs_one (cs_exp (ps_expr (ev_mt (T := "list") ok_app (fun _ ht => pe_bm PySem.F.plainAttrs_list PySem.F.slot_list_append PySem.F.type_list_append mt_append (pv 3) ht) (el_cons (ev_if (et_cmp op_lt ok_lt (ev_var (pv 5)) (ev_var (pv 1)) (nomark _)) (ev_var (pv 5)) (ev_c pe_non fun _ => .non)) el_nil)))))))
      (cs_one (cs_ret (ev_Ty (r := rTup1 K) call_tup1 ok_tuple (by rfl) (z "tuple" (by decide)) PyProof.Rows.boot_tuple (el_cons (ev_var (pv 3)) el_nil))))))

/-! `_law_levels` -/
abbrev s_law_levels : Stmt := topS 16
theorem sc_law_levels : FnScope ["_law_objects", "_law_spots_here", "_law_me", "_law_found", "_law_level", "_law_later", "_law_y"] ["_law_objects", "_law_spots_here"] (defScope s_law_levels) := ⟨rfl, rfl, rfl, by decide +kernel, rfl, by decide +kernel, by decide +kernel⟩
/- slots: 0 _law_objects, 1 _law_spots_here, 2 _law_me, 3 _law_found, 4 _law_level, 5 _law_later, 6 _law_y -/
def B_law_levels_1 : M Fl :=
      (sIf (bAnd (M.tb (eOp gNotN (eVar 6) (eC .non))) (M.tb (eOp (gInDk true) (eVar 6) (eVar 3)))) (sSeq (sStoD 3 (eVar 6) (eOp gPlus (eOp gGetD (eVar 3) (eVar 2)) (eC (.int 1))))
              (sExp (eMt "list" 5 gApp (eL1 (eVar 6) eL0)))) sNx)
def B_law_levels_2 : M Fl :=
      (sFor (iSq (eOp gIx (eVar 0) (eVar 2))) (gNm 6) B_law_levels_1)
def B_law_levels_3 : M Fl :=
      (sSeq (sNew 5 (nLst eL0))
        (sSeq (sFor (iSq (eVar 4)) (gNm 2) B_law_levels_2)
        (sSet 4 (eVar 5))))
def F_law_levels : M Fl :=
      (sSeq (sNew 3 (nDicL (eL1 (eNew (nLc [2] (iSq (eVar 1)) (gNm 2) (M.tb (eOp gNotN (eVar 2) (eC .non))) (eTup (eL1 (eVar 2) (eL1 (eC (.int 1)) eL0))))) eL0)))
      (sSeq (sSet 4 (eNew (nB gListD (eL1 (eVar 3) eL0))))
      (sSeq (sWhile 100000 (M.tb (eOp gNeZ (eVar 4) (eNew (nLst eL0)))) B_law_levels_3)
      (sRet (eVar 3)))))
def M_law_levels : Md := runM [false, false] 7 F_law_levels
theorem bd_law_levels (z : ∀ x, x ∈ zs → mg x = none) : Bdy P w K mg base 0 "_law_levels" s_law_levels ["_law_objects", "_law_spots_here", "_law_me", "_law_found", "_law_level", "_law_later", "_law_y"] F_law_levels := fun f cdv A outer s H E Z hr hgd =>
    (cs_cons (cs_new (ps_set (i := 3) sc_law_levels.nd rfl (Or.inl rfl) (en_dicL rfl (by rfl) (z "dict" (by decide)) PyProof.Rows.boot_dict (el_cons (ev_new (en_lc (t := (gNm 2)) (own := [("_law_me", 2)]) rfl sc_law_levels.nd (it_sq (ev_var (pv 1))) (blkOk_by (own := [("_law_me", 2)]) (N := ["_law_objects", "_law_spots_here", "_law_me", "_law_found", "_law_level", "_law_later", "_law_y"]) (sc := defScope s_law_levels) (by decide +kernel)) (by decide) (fun _ _ _ h => h) (fun _ _ _ _ _ => (tg_name (pg_name (i := 2) sc_law_levels.nd rfl (Or.inl rfl)))) (fun _ _ _ _ _ => (ets_one (et_cmp op_notN ok_notN (ev_var (pv 2)) (ev_c pe_non fun _ => .non) (nomark _)))) (fun _ _ _ _ _ => (ev_tup (el_cons (ev_var (pv 2)) (el_cons (ev_c pe_int fun _ => .int _) el_nil)))))) el_nil))))
      (cs_cons (cs_set (ps_set (i := 4) sc_law_levels.nd rfl (Or.inl rfl) (ed (ev_new (en_Ty (call_list_dK rfl) ok_listD (by rfl) (z "list" (by decide)) PyProof.Rows.boot_list (el_cons (ev_var (pv 3)) el_nil))))))
      (cs_cons (cs_while 100000 (passes_of rfl) (et_cmp (op_neZG hr.units) ok_neZG (ev_var (pv 4)) (ev_new (en_lst el_nil)) (nomark _)) (cs_cons (cs_new (ps_set (i := 5) sc_law_levels.nd rfl (Or.inl rfl) (en_lst el_nil)))
        (cs_cons (cs_for (passes_of rfl) rfl (it_sq (ev_var (pv 4))) (tg_name (pg_name (i := 2) sc_law_levels.nd rfl (Or.inl rfl)))
          (cs_one (cs_for (passes_of rfl) rfl (it_sq (ev_ix ix_all ok_ix (ev_var (pv 0)) (ev_var (pv 2)) (fun _ _ => rfl))) (tg_name (pg_name (i := 6) sc_law_levels.nd rfl (Or.inl rfl)))
            (cs_one (cs_if (et_w (ew_and (et_cmp op_notN ok_notN (ev_var (pv 6)) (ev_c pe_non fun _ => .non) (nomark _)) (ew_and1 (et_ninDk (hu1 hr) (ev_var (pv 6)) (ev_var (pv 3)) (by rfl))))) (cs_cons (cs_stoD (ps_dput (hu1 hr) (pv 3) (ed (ev_var (pv 6))) (ed (ev_op op_plus ok_plus (ev_getD (hu1 hr) (ev_var (pv 3)) (ev_var (pv 2)) (fun _ _ => rfl)) (ev_c pe_int fun _ => .int _))) (by rfl)))
              (cs_one (cs_exp (ps_expr (ev_mt (T := "list") ok_app (fun _ ht => pe_bm PySem.F.plainAttrs_list PySem.F.slot_list_append PySem.F.type_list_append mt_append (pv 5) ht) (el_cons (ev_var (pv 6)) el_nil)))))) cs_nil)))))
        (cs_one (cs_set (ps_set (i := 4) sc_law_levels.nd rfl (Or.inl rfl) (ed (ev_var (pv 5)))))))))
      (cs_one (cs_ret (ev_var (pv 3)))))))

/-! `_law_end` -/
abbrev s_law_end : Stmt := topS 17
theorem sc_law_end : FnScope ["_law_pile_here", "_law_spots_here", "_law_path", "_law_one", "_law_here", "_law_f"] ["_law_pile_here", "_law_spots_here", "_law_path"] (defScope s_law_end) := ⟨rfl, rfl, rfl, by decide +kernel, rfl, by decide +kernel, by decide +kernel⟩
/- slots: 0 _law_pile_here, 1 _law_spots_here, 2 _law_path, 3 _law_one, 4 _law_here, 5 _law_f -/
def B_law_end_1 : M Fl :=
      (sIf (bOr (bNot (M.tb (eB gIsi (eL1 (eVar 3) (eL1 (eC (.ty "int")) eL0))))) (bOr (M.tb (eB gIsi (eL1 (eVar 3) (eL1 (eC (.ty "bool")) eL0)))) (M.tb (eOp gLt (eVar 3) (eC (.int 0)))))) (sRet (eC .non)) sNx)
def B_law_end_2 : M Fl :=
      (sSeq (sIf (bOr (M.tb (eOp gIsN (eVar 4) (eC .non))) (M.tb (eOp gGe (eVar 5) (eOp gIx (eVar 0) (eC (.int 0)))))) (sRet (eC .non)) sNx)
        (sSet 4 (eOp gIx (eOp gIx (eOp gIx (eVar 0) (eC (.int 1))) (eVar 4)) (eVar 5))))
def F_law_end : M Fl :=
      (sSeq (sIf (bOr (bNot (M.tb (eB gIsi (eL1 (eVar 2) (eL1 (eC (.ty "tuple")) eL0))))) (M.tb (eOp gEqZ (eVar 2) (eTup eL0)))) (sRet (eC .non)) sNx)
      (sSeq (sFor (iSq (eVar 2)) (gNm 3) B_law_end_1)
      (sSeq (sIf (M.tb (eOp gGe (eOp gIx (eVar 2) (eC (.int 0))) (eB gLenA (eL1 (eVar 1) eL0)))) (sRet (eC .non)) sNx)
      (sSeq (sSet 4 (eOp gIx (eVar 1) (eOp gIx (eVar 2) (eC (.int 0)))))
      (sSeq (sFor (iSq (eSl gSl (eVar 2) (pIn (eC (.int 1))) pNo)) (gNm 5) B_law_end_2)
      (sRet (eVar 4)))))))
def M_law_end : Md := runM [false, false, false] 6 F_law_end
theorem bd_law_end (z : ∀ x, x ∈ zs → mg x = none) : Bdy P w K mg base 0 "_law_end" s_law_end ["_law_pile_here", "_law_spots_here", "_law_path", "_law_one", "_law_here", "_law_f"] F_law_end := fun f cdv A outer s H E Z hr hgd =>
    (cs_cons (cs_if (et_w (ew_or (et_not (et_val (ev_B (r := rIsi K) call_isi ok_isi (by rfl) (z "isinstance" (by decide)) PyProof.Rows.boot_isinstance (el_cons (ev_var (pv 2)) (el_cons (ev_c (pe_bltn (v := .ty "tuple") (by rfl) (z "tuple" (by decide)) PyProof.Rows.boot_tuple rfl) fun _ => .ty _) el_nil))))) (ew_or1 (et_cmp (op_eqZG hr.units) ok_eqZG (ev_var (pv 2)) (ev_tup el_nil) (nomark _))))) (cs_one (cs_ret (ev_c pe_non fun _ => .non))) cs_nil)
      (cs_cons (cs_for (passes_of rfl) rfl (it_sq (ev_var (pv 2))) (tg_name (pg_name (i := 3) sc_law_end.nd rfl (Or.inl rfl)))
        (cs_one (cs_if (et_w (ew_or (et_not (et_val (ev_B (r := rIsi K) call_isi ok_isi (by rfl) (z "isinstance" (by decide)) PyProof.Rows.boot_isinstance (el_cons (ev_var (pv 3)) (el_cons (ev_c (pe_bltn (v := .ty "int") (by rfl) (z "int" (by decide)) PyProof.Rows.boot_int rfl) fun _ => .ty _) el_nil))))) (ew_or (et_val (ev_B (r := rIsi K) call_isi ok_isi (by rfl) (z "isinstance" (by decide)) PyProof.Rows.boot_isinstance (el_cons (ev_var (pv 3)) (el_cons (ev_c (pe_bltn (v := .ty "bool") (by rfl) (z "bool" (by decide)) PyProof.Rows.boot_bool rfl) fun _ => .ty _) el_nil)))) (ew_or1 (et_cmp op_lt ok_lt (ev_var (pv 3)) (ev_c pe_int fun _ => .int _) (nomark _)))))) (cs_one (cs_ret (ev_c pe_non fun _ => .non))) cs_nil)))
      (cs_cons (cs_if (et_cmp op_ge ok_ge (ev_ix ix_all ok_ix (ev_var (pv 2)) (ev_c pe_int fun _ => .int _) (fun _ _ => rfl)) (ev_B call_lenA ok_lenA (by rfl) (z "len" (by decide)) PySem.boot_len (el_cons (ev_var (pv 1)) el_nil)) (nomark _)) (cs_one (cs_ret (ev_c pe_non fun _ => .non))) cs_nil)
      (cs_cons (cs_set (ps_set (i := 4) sc_law_end.nd rfl (Or.inl rfl) (ed (ev_ix ix_all ok_ix (ev_var (pv 1)) (ev_ix ix_all ok_ix (ev_var (pv 2)) (ev_c pe_int fun _ => .int _) (fun _ _ => rfl)) (fun _ _ => rfl)))))
      (cs_cons (cs_for (passes_of rfl) rfl (it_sq (ev_sl sl_all ok_sl (ev_var (pv 2)) (ep_in (ev_c pe_int fun _ => .int _)) ep_no)) (tg_name (pg_name (i := 5) sc_law_end.nd rfl (Or.inl rfl)))
        (cs_cons (cs_if (et_w (ew_or (et_cmp op_isN ok_isN (ev_var (pv 4)) (ev_c pe_non fun _ => .non) (nomark _)) (ew_or1 (et_cmp op_ge ok_ge (ev_var (pv 5)) (ev_ix ix_all ok_ix (ev_var (pv 0)) (ev_c pe_int fun _ => .int _) (fun _ _ => rfl)) (nomark _))))) (cs_one (cs_ret (ev_c pe_non fun _ => .non))) cs_nil)
        (cs_one (cs_set (ps_set (i := 4) sc_law_end.nd rfl (Or.inl rfl) (ed (ev_ix ix_all ok_ix (ev_ix ix_all ok_ix (ev_ix ix_all ok_ix (ev_var (pv 0)) (ev_c pe_int fun _ => .int _) (fun _ _ => rfl)) (ev_var (pv 4)) (fun _ _ => rfl)) (ev_var (pv 5)) (fun _ _ => rfl))))))))
      (cs_one (cs_ret (ev_var (pv 4)))))))))

/-! `_law_heard` -/
abbrev s_law_heard : Stmt := topS 18
theorem sc_law_heard : FnScope ["_law_pile_here", "_law_spots_here", "_law_item", "_law_caught", "_law_found", "e", "_law_others"] ["_law_pile_here", "_law_spots_here", "_law_item"] (defScope s_law_heard) := ⟨rfl, rfl, rfl, by decide +kernel, rfl, by decide +kernel, by decide +kernel⟩
/- slots: 0 _law_pile_here, 1 _law_spots_here, 2 _law_item, 3 _law_caught, 4 _law_found, 5 e, 6 _law_others -/
def B_law_heard_1 : M Fl :=
      (sSet 4 (eCall [false, false, false] M_path_to (eL1 (eVar 0) (eL1 (eVar 1) (eL1 (eVar 2) eL0)))))
def F_law_heard : M Fl :=
      (sSeq (sSet 3 (eC .non))
      (sSeq (sSet 4 (eC .non))
      (sSeq (sTry TB.e ["ShadeError", "NoObject", "NoInvariant", "NothingToUndo", "TooMany"] 5 3 B_law_heard_1)
      (sSeq (sIf (M.tb (eOp gIsN (eVar 3) (eC .non))) (sRet (eNew (nLst (eL1 (eVar 4) eL0)))) sNx)
      (sSeq (sSet 6 (eB (gIsiT TB) (eL1 (eVar 3) (eL1 (eTup (eL1 (eC (.gl "ShadeError")) (eL1 (eC (.ty "ValueError")) (eL1 (eC (.ty "KeyError")) (eL1 (eC (.gl "NothingToUndo")) (eL1 (eC (.gl "TooMany")) eL0)))))) eL0))))
      (sSeq (sIf (bOr (M.tru (eVar 6)) (bOr (bNot (M.tb (eB (gIsiT TB) (eL1 (eVar 3) (eL1 (eC (.gl "NoObject")) eL0))))) (bNot (M.tb (eB (gIsiT TB) (eL1 (eVar 3) (eL1 (eC (.ty "IndexError")) eL0))))))) (sRet (eC (.str "odd"))) sNx)
      (sRet (eTup (eL1 (eC (.str "object")) (eL1 (eUn (gFldX ["NoObject"] "index") (eVar 3)) eL0))))))))))
def M_law_heard : Md := runM [false, false, false] 7 F_law_heard
theorem bd_law_heard (z : ∀ x, x ∈ zs → mg x = none) (tb : TabsOk K mg TB) (m_TooMany : mg "TooMany" = some (.ref C_TooMany)) (m_NothingToUndo : mg "NothingToUndo" = some (.ref C_NothingToUndo)) (m_NoInvariant : mg "NoInvariant" = some (.ref C_NoInvariant)) (m_NoObject : mg "NoObject" = some (.ref C_NoObject)) (m_ShadeError : mg "ShadeError" = some (.ref C_ShadeError)) (nf_index : NoF K mg ["NoObject"] "index") (c_path_to : CalX P w K mg base 3 "path_to" [false, false, false] M_path_to) : Bdy P w K mg base 3 "_law_heard" s_law_heard ["_law_pile_here", "_law_spots_here", "_law_item", "_law_caught", "_law_found", "e", "_law_others"] F_law_heard := fun f cdv A outer s H E Z hr hgd =>
    (cs_cons (cs_set (ps_set (i := 3) sc_law_heard.nd rfl (Or.inl rfl) (ed (ev_c pe_non fun _ => .non))))
      (cs_cons (cs_set (ps_set (i := 4) sc_law_heard.nd rfl (Or.inl rfl) (ed (ev_c pe_non fun _ => .non))))
      (cs_cons (cs_try tb rfl rfl rfl sc_law_heard.nd rfl rfl rfl rfl (.cons (.inl ⟨_, m_ShadeError, rfl⟩) (.cons (.inl ⟨_, m_NoObject, rfl⟩) (.cons (.inl ⟨_, m_NoInvariant, rfl⟩) (.cons (.inl ⟨_, m_NothingToUndo, rfl⟩) (.cons (.inl ⟨_, m_TooMany, rfl⟩) .nil))))) (ct_tup (.cons ⟨by rfl, by decide, .inl m_ShadeError⟩ (.cons ⟨by rfl, by decide, .inl m_NoObject⟩ (.cons ⟨by rfl, by decide, .inl m_NoInvariant⟩ (.cons ⟨by rfl, by decide, .inl m_NothingToUndo⟩ (.cons ⟨by rfl, by decide, .inl m_TooMany⟩ .nil rfl) rfl) rfl) rfl) rfl) (by simp)) (takes_of rfl rfl rfl rfl) (fun _ _ _ tk1 pp1 => (cs_one (cs_set (ps_set (i := 4) sc_law_heard.nd rfl (Or.inl rfl) (ed (ev_call c_path_to hr hgd (by decide) tk1 (by rfl) (el_cons (ev_var (pv 0)) (el_cons (ev_var (pv 1)) (el_cons (ev_var (pv 2)) el_nil))))))))))
      (cs_cons (cs_if (et_cmp op_isN ok_isN (ev_var (pv 3)) (ev_c pe_non fun _ => .non) (nomark _)) (cs_one (cs_ret (ev_new (en_lst (el_cons (ev_var (pv 4)) el_nil))))) cs_nil)
      (cs_cons (cs_set (ps_set (i := 6) sc_law_heard.nd rfl (Or.inl rfl) (ed (ev_B (r := rIsY K) call_isY (ok_isiT tb) (by rfl) (z "isinstance" (by decide)) PyProof.Rows.boot_isinstance (el_cons (ev_var (pv 3)) (el_cons (ev_tup (el_cons (ev_gl (by rfl) m_ShadeError) (el_cons (ev_c (pe_bltn (v := .ty "ValueError") (by rfl) (z "ValueError" (by decide)) PyProof.Rows.Boot.«ValueError» rfl) fun _ => .ty _) (el_cons (ev_c (pe_bltn (v := .ty "KeyError") (by rfl) (z "KeyError" (by decide)) PyProof.Rows.Boot.«KeyError» rfl) fun _ => .ty _) (el_cons (ev_gl (by rfl) m_NothingToUndo) (el_cons (ev_gl (by rfl) m_TooMany) el_nil)))))) el_nil))))))
      (cs_cons (cs_if (et_w (ew_or (et_tru (ev_var (pv 6))) (ew_or (et_not (et_val (ev_B (r := rIsY K) call_isY (ok_isiT tb) (by rfl) (z "isinstance" (by decide)) PyProof.Rows.boot_isinstance (el_cons (ev_var (pv 3)) (el_cons (ev_gl (by rfl) m_NoObject) el_nil))))) (ew_or1 (et_not (et_val (ev_B (r := rIsY K) call_isY (ok_isiT tb) (by rfl) (z "isinstance" (by decide)) PyProof.Rows.boot_isinstance (el_cons (ev_var (pv 3)) (el_cons (ev_c (pe_bltn (v := .ty "IndexError") (by rfl) (z "IndexError" (by decide)) PyProof.Rows.Boot.«IndexError» rfl) fun _ => .ty _) el_nil))))))))) (cs_one (cs_ret (ev_c pe_str fun _ => .str _))) cs_nil)
      (cs_one (cs_ret (ev_tup (el_cons (ev_c pe_str fun _ => .str _) (el_cons (ev_fldX nf_index (ev_var (pv 3))) el_nil)))))))))))

/-! `_law_right` -/
abbrev s_law_right : Stmt := topS 19
theorem sc_law_right : FnScope ["_law_pile_here", "_law_spots_here", "_law_far", "_law_me", "_law_found"] ["_law_pile_here", "_law_spots_here"] (defScope s_law_right) := ⟨rfl, rfl, rfl, by decide +kernel, rfl, by decide +kernel, by decide +kernel⟩
/- slots: 0 _law_pile_here, 1 _law_spots_here, 2 _law_far, 3 _law_me, 4 _law_found -/
def B_law_right_1 : M Fl :=
      (sSeq (sSet 4 (eCall [false, false, false] M_law_heard (eL1 (eVar 0) (eL1 (eVar 1) (eL1 (eVar 3) eL0)))))
        (sSeq (sIf (bOr (bNot (M.tb (eB gIsi (eL1 (eVar 4) (eL1 (eC (.ty "list")) eL0))))) (M.tb (eOp gNeG (eOp gIsN (eOp gIx (eVar 4) (eC (.int 0))) (eC .non)) (eOp (gInDk true) (eVar 3) (eVar 2))))) (sRet (eC (.bl false))) sNx)
        (sSeq (sIf (bAnd (M.tb (eOp gNotN (eOp gIx (eVar 4) (eC (.int 0))) (eC .non))) (M.tb (eOp gNeG (eB gLenA (eL1 (eOp gIx (eVar 4) (eC (.int 0))) eL0)) (eOp gGetD (eVar 2) (eVar 3))))) (sRet (eC (.bl false))) sNx)
        (sSeq (sIf (bAnd (M.tb (eOp gNotN (eOp gIx (eVar 4) (eC (.int 0))) (eC .non))) (M.tb (eOp gNeG (eCall [false, false, false] M_law_end (eL1 (eVar 0) (eL1 (eVar 1) (eL1 (eOp gIx (eVar 4) (eC (.int 0))) eL0)))) (eVar 3)))) (sRet (eC (.bl false))) sNx)
        (sIf (M.tb (eOp gNeG (eCallK 0 (List.length (["x", "registers", "heap"] : List Str)) [false, false, false] M_path_to [] [2, 1, 0] eL0 (eL1 (eVar 3) (eL1 (eVar 1) (eL1 (eVar 0) eL0)))) (eOp gIx (eVar 4) (eC (.int 0))))) (sRet (eC (.bl false))) sNx)))))
def F_law_right : M Fl :=
      (sSeq (sSet 2 (eCall [false, false] M_law_levels (eL1 (eOp gIx (eVar 0) (eC (.int 1))) (eL1 (eVar 1) eL0))))
      (sSeq (sFor (iR1 (eL1 (eB gLenA (eL1 (eOp gIx (eVar 0) (eC (.int 1))) eL0)) eL0)) (gNm 3) B_law_right_1)
      (sRet (eC (.bl true)))))
def M_law_right : Md := runM [false, false] 5 F_law_right
theorem bd_law_right (z : ∀ x, x ∈ zs → mg x = none) (c_law_levels : CalX P w K mg base 1 "_law_levels" [false, false] M_law_levels) (c_law_end : CalX P w K mg base 1 "_law_end" [false, false, false] M_law_end) (c_law_heard : CalX P w K mg base 4 "_law_heard" [false, false, false] M_law_heard) (k_path_to_0_x_registers_heap : CalK P w K mg base 3 0 "path_to" [false, false, false] M_path_to ["x", "registers", "heap"] [] [2, 1, 0]) : Bdy P w K mg base 4 "_law_right" s_law_right ["_law_pile_here", "_law_spots_here", "_law_far", "_law_me", "_law_found"] F_law_right := fun f cdv A outer s H E Z hr hgd =>
    (cs_cons (cs_set (ps_set (i := 2) sc_law_right.nd rfl (Or.inl rfl) (ed (ev_call c_law_levels hr hgd (by decide) (takes_of rfl rfl rfl rfl) (by rfl) (el_cons (ev_ix ix_all ok_ix (ev_var (pv 0)) (ev_c pe_int fun _ => .int _) (fun _ _ => rfl)) (el_cons (ev_var (pv 1)) el_nil))))))
      (cs_cons (cs_for (passes_of rfl) rfl (it_r1 (by rfl) (z "range" (by decide)) (el_cons (ev_B call_lenA ok_lenA (by rfl) (z "len" (by decide)) PySem.boot_len (el_cons (ev_ix ix_all ok_ix (ev_var (pv 0)) (ev_c pe_int fun _ => .int _) (fun _ _ => rfl)) el_nil)) el_nil)) (tg_name (pg_name (i := 3) sc_law_right.nd rfl (Or.inl rfl)))
        (cs_cons (cs_set (ps_set (i := 4) sc_law_right.nd rfl (Or.inl rfl) (ed (ev_call c_law_heard hr hgd (by decide) (takes_of rfl rfl rfl rfl) (by rfl) (el_cons (ev_var (pv 0)) (el_cons (ev_var (pv 1)) (el_cons (ev_var (pv 3)) el_nil)))))))
        (cs_cons (cs_if (et_w (ew_or (et_not (et_val (ev_B (r := rIsi K) call_isi ok_isi (by rfl) (z "isinstance" (by decide)) PyProof.Rows.boot_isinstance (el_cons (ev_var (pv 4)) (el_cons (ev_c (pe_bltn (v := .ty "list") (by rfl) (z "list" (by decide)) PyProof.Rows.boot_list rfl) fun _ => .ty _) el_nil))))) (ew_or1 (et_cmp (op_neG hr.units) ok_neG (ev_cmp op_isN ok_isN (ev_ix ix_all ok_ix (ev_var (pv 4)) (ev_c pe_int fun _ => .int _) (fun _ _ => rfl)) (ev_c pe_non fun _ => .non) (nomark _)) (ev_ninDk (hu1 hr) (ev_var (pv 3)) (ev_var (pv 2)) (by rfl)) (nomark _))))) (cs_one (cs_ret (ev_c pe_bl fun _ => .bl _))) cs_nil)
        (cs_cons (cs_if (et_w (ew_and (et_cmp op_notN ok_notN (ev_ix ix_all ok_ix (ev_var (pv 4)) (ev_c pe_int fun _ => .int _) (fun _ _ => rfl)) (ev_c pe_non fun _ => .non) (nomark _)) (ew_and1 (et_cmp (op_neG hr.units) ok_neG (ev_B call_lenA ok_lenA (by rfl) (z "len" (by decide)) PySem.boot_len (el_cons (ev_ix ix_all ok_ix (ev_var (pv 4)) (ev_c pe_int fun _ => .int _) (fun _ _ => rfl)) el_nil)) (ev_getD (hu1 hr) (ev_var (pv 2)) (ev_var (pv 3)) (fun _ _ => rfl)) (nomark _))))) (cs_one (cs_ret (ev_c pe_bl fun _ => .bl _))) cs_nil)
        (cs_cons (cs_if (et_w (ew_and (et_cmp op_notN ok_notN (ev_ix ix_all ok_ix (ev_var (pv 4)) (ev_c pe_int fun _ => .int _) (fun _ _ => rfl)) (ev_c pe_non fun _ => .non) (nomark _)) (ew_and1 (et_cmp (op_neG hr.units) ok_neG (ev_call c_law_end hr hgd (by decide) (takes_of rfl rfl rfl rfl) (by rfl) (el_cons (ev_var (pv 0)) (el_cons (ev_var (pv 1)) (el_cons (ev_ix ix_all ok_ix (ev_var (pv 4)) (ev_c pe_int fun _ => .int _) (fun _ _ => rfl)) el_nil)))) (ev_var (pv 3)) (nomark _))))) (cs_one (cs_ret (ev_c pe_bl fun _ => .bl _))) cs_nil)
        (cs_one (cs_if (et_cmp (op_neG hr.units) ok_neG (ev_callKw k_path_to_0_x_registers_heap hr hgd (by decide) (takes_of rfl rfl rfl rfl) (by rfl) (ek_cons (ev_var (pv 3)) (ek_cons (ev_var (pv 1)) (ek_cons (ev_var (pv 0)) ek_nil)))) (ev_ix ix_all ok_ix (ev_var (pv 4)) (ev_c pe_int fun _ => .int _) (fun _ _ => rfl)) (nomark _)) (cs_one (cs_ret (ev_c pe_bl fun _ => .bl _))) cs_nil)))))))
      (cs_one (cs_ret (ev_c pe_bl fun _ => .bl _)))))

/-! `law` -/
abbrev s_law : Stmt := topS 20
theorem sc_law : FnScope ["_law_script", "_law_pen_here", "_law_turn", "_law_pile_here", "_law_spots_here", "_law_kept", "_law_odd", "_law_me"] ["_law_script"] (defScope s_law) := ⟨rfl, rfl, rfl, by decide +kernel, rfl, by decide +kernel, by decide +kernel⟩
/- slots: 0 _law_script, 1 _law_pen_here, 2 _law_turn, 3 _law_pile_here, 4 _law_spots_here, 5 _law_kept, 6 _law_odd, 7 _law_me -/
def B_law_1 : M Fl :=
      (sIf (M.tb (eOp gNeG (eB gReprA (eL1 (eCall [false, false, false] M_law_heard (eL1 (eVar 3) (eL1 (eVar 4) (eL1 (eVar 6) eL0)))) eL0)) (eB gReprA (eL1 (eTup (eL1 (eC (.str "object")) (eL1 (eVar 6) eL0))) eL0)))) (sRet (eC (.bl false))) sNx)
def B_law_2 : M Fl :=
      (sSeq (sSet 3 (eCall [true, false, false] M_law_pile (eL1 (eVar 1) (eL1 (eOp gIx (eNew (nLst (eL1 (eC (.int 6)) (eL1 (eC (.int 12)) (eL1 (eC (.int 40)) eL0))))) (eOp gMod (eVar 2) (eC (.int 3)))) (eL1 (eNew (nLst (eL1 (eC (.int 1)) (eL1 (eC (.int 2)) (eL1 (eC (.int 3)) (eL1 (eC (.int 4)) eL0)))))) eL0)))))
        (sSeq (sSet 4 (eCall [true, false, false] M_law_spots (eL1 (eVar 1) (eL1 (eB gLenA (eL1 (eOp gIx (eVar 3) (eC (.int 1))) eL0)) (eL1 (eC (.int 6)) eL0)))))
        (sSeq (sSet 5 (eB gReprA (eL1 (eTup (eL1 (eVar 3) (eL1 (eVar 4) eL0))) eL0)))
        (sSeq (sIf (bOr (bNot (M.tru (eCall [false, false] M_law_right (eL1 (eVar 3) (eL1 (eVar 4) eL0))))) (bNot (M.tru (eCall [false, false] M_law_right (eL1 (eVar 3) (eL1 (eCall [true, false, false] M_law_spots (eL1 (eVar 1) (eL1 (eB gLenA (eL1 (eOp gIx (eVar 3) (eC (.int 1))) eL0)) (eL1 (eC (.int 6)) eL0)))) eL0)))))) (sRet (eC (.bl false))) sNx)
        (sSeq (sFor (iSq (eNew (nLst (eL1 (eB gLenA (eL1 (eOp gIx (eVar 3) (eC (.int 1))) eL0)) (eL1 (eUn gNeg (eC (.int 1))) (eL1 (eC (.bl true)) (eL1 (eC (.bl false)) (eL1 (eC .non) (eL1 (eC (.str "0")) (eL1 (eTup (eL1 (eC (.int 0)) eL0)) (eL1 (eNew (nLst (eL1 (eC (.int 0)) eL0))) (eL1 (eOp gPow (eC (.int 10)) (eC (.int 50))) (eL1 (eNew nDic0) eL0))))))))))))) (gNm 6) B_law_1)
        (sIf (M.tb (eOp gNeG (eB gReprA (eL1 (eTup (eL1 (eVar 3) (eL1 (eVar 4) eL0))) eL0)) (eVar 5))) (sRet (eC (.bl false))) sNx))))))
def F_law : M Fl :=
      (sSeq (sNew 1 (nCall N_law_pen (eL1 (eVar 0) eL0)))
      (sSeq (sFor (iR1 (eL1 (eC (.int 6)) eL0)) (gNm 2) B_law_2)
      (sRet (eCall [false, false] M_law_right (eL1 (eTup (eL1 (eC (.int 1)) (eL1 (eOp gPlus (eB gTuple (eL1 (eNew (nLc [7] (iR1 (eL1 (eC (.int 39)) eL0)) (gNm 7) bYes (eTup (eL1 (eOp gPlus (eVar 7) (eC (.int 1))) eL0)))) eL0)) (eTup (eL1 (eTup (eL1 (eC (.int 0)) eL0)) eL0))) eL0))) (eL1 (eTup (eL1 (eC .non) (eL1 (eC (.int 3)) eL0))) eL0))))))
def M_law : Md := runM [false] 8 F_law
theorem bd_law (z : ∀ x, x ∈ zs → mg x = none) (c_law_pile : CalX P w K mg base 2 "_law_pile" [true, false, false] M_law_pile) (c_law_spots : CalX P w K mg base 2 "_law_spots" [true, false, false] M_law_spots) (c_law_heard : CalX P w K mg base 4 "_law_heard" [false, false, false] M_law_heard) (c_law_right : CalX P w K mg base 5 "_law_right" [false, false] M_law_right) (n_law_pen : CalN P w K mg base 1 "_law_pen" N_law_pen) : Bdy P w K mg base 5 "law" s_law ["_law_script", "_law_pen_here", "_law_turn", "_law_pile_here", "_law_spots_here", "_law_kept", "_law_odd", "_law_me"] F_law := fun f cdv A outer s H E Z hr hgd =>
    (cs_cons (cs_new (ps_set (i := 1) sc_law.nd rfl (Or.inl rfl) (en_call n_law_pen hr hgd (by decide) (takes_of rfl rfl rfl rfl) (by rfl) (el_cons (ev_var (pv 0)) el_nil))))
      (cs_cons (cs_for (passes_of rfl) rfl (it_r1 (by rfl) (z "range" (by decide)) (el_cons (ev_c pe_int fun _ => .int _) el_nil)) (tg_name (pg_name (i := 2) sc_law.nd rfl (Or.inl rfl)))
        (cs_cons (cs_set (ps_set (i := 3) sc_law.nd rfl (Or.inl rfl) (ed (ev_call c_law_pile hr hgd (by decide) (takes_of rfl rfl rfl rfl) (by rfl) (el_cons (ev_var (pv 1)) (el_cons (ev_ix ix_all ok_ix (ev_new (en_lst (el_cons (ev_c pe_int fun _ => .int _) (el_cons (ev_c pe_int fun _ => .int _) (el_cons (ev_c pe_int fun _ => .int _) el_nil))))) (ev_op op_mod ok_mod (ev_var (pv 2)) (ev_c pe_int fun _ => .int _)) (fun _ _ => rfl)) (el_cons (ev_new (en_lst (el_cons (ev_c pe_int fun _ => .int _) (el_cons (ev_c pe_int fun _ => .int _) (el_cons (ev_c pe_int fun _ => .int _) (el_cons (ev_c pe_int fun _ => .int _) el_nil)))))) el_nil)))))))
        (cs_cons (cs_set (ps_set (i := 4) sc_law.nd rfl (Or.inl rfl) (ed (ev_call c_law_spots hr hgd (by decide) (takes_of rfl rfl rfl rfl) (by rfl) (el_cons (ev_var (pv 1)) (el_cons (ev_B call_lenA ok_lenA (by rfl) (z "len" (by decide)) PySem.boot_len (el_cons (ev_ix ix_all ok_ix (ev_var (pv 3)) (ev_c pe_int fun _ => .int _) (fun _ _ => rfl)) el_nil)) (el_cons (ev_c pe_int fun _ => .int _) el_nil)))))))
        (cs_cons (cs_set (ps_set (i := 5) sc_law.nd rfl (Or.inl rfl) (ed (ev_B (r := fun x H Q => rRepr K x H Q ∨ rReprM K x H Q) (call_reprA hgd hr.units) ok_reprA (by rfl) (z "repr" (by decide)) PyProof.Rows.boot_repr (el_cons (ev_tup (el_cons (ev_var (pv 3)) (el_cons (ev_var (pv 4)) el_nil))) el_nil)))))
        (cs_cons (cs_if (et_w (ew_or (et_not (et_tru (ev_call c_law_right hr hgd (by decide) (takes_of rfl rfl rfl rfl) (by rfl) (el_cons (ev_var (pv 3)) (el_cons (ev_var (pv 4)) el_nil))))) (ew_or1 (et_not (et_tru (ev_call c_law_right hr hgd (by decide) (takes_of rfl rfl rfl rfl) (by rfl) (el_cons (ev_var (pv 3)) (el_cons (ev_call c_law_spots hr hgd (by decide) (takes_of rfl rfl rfl rfl) (by rfl) (el_cons (ev_var (pv 1)) (el_cons (ev_B call_lenA ok_lenA (by rfl) (z "len" (by decide)) PySem.boot_len (el_cons (ev_ix ix_all ok_ix (ev_var (pv 3)) (ev_c pe_int fun _ => .int _) (fun _ _ => rfl)) el_nil)) (el_cons (ev_c pe_int fun _ => .int _) el_nil)))) el_nil)))))))) (cs_one (cs_ret (ev_c pe_bl fun _ => .bl _))) cs_nil)
        (cs_cons (cs_for (passes_of rfl) rfl (it_sq (ev_new (en_lst (el_cons (ev_B call_lenA ok_lenA (by rfl) (z "len" (by decide)) PySem.boot_len (el_cons (ev_ix ix_all ok_ix (ev_var (pv 3)) (ev_c pe_int fun _ => .int _) (fun _ _ => rfl)) el_nil)) (el_cons (ev_un un_neg ok_neg (ev_c pe_int fun _ => .int _)) (el_cons (ev_c pe_bl fun _ => .bl _) (el_cons (ev_c pe_bl fun _ => .bl _) (el_cons (ev_c pe_non fun _ => .non) (el_cons (ev_c pe_str fun _ => .str _) (el_cons (ev_tup (el_cons (ev_c pe_int fun _ => .int _) el_nil)) (el_cons (ev_new (en_lst (el_cons (ev_c pe_int fun _ => .int _) el_nil))) (el_cons (ev_op op_pow ok_pow (ev_c pe_int fun _ => .int _) (ev_c pe_int fun _ => .int _)) (el_cons (ev_new en_dic0) el_nil))))))))))))) (tg_name (pg_name (i := 6) sc_law.nd rfl (Or.inl rfl)))
          (cs_one (cs_if (et_cmp (op_neG hr.units) ok_neG (ev_B (r := fun x H Q => rRepr K x H Q ∨ rReprM K x H Q) (call_reprA hgd hr.units) ok_reprA (by rfl) (z "repr" (by decide)) PyProof.Rows.boot_repr (el_cons (ev_call c_law_heard hr hgd (by decide) (takes_of rfl rfl rfl rfl) (by rfl) (el_cons (ev_var (pv 3)) (el_cons (ev_var (pv 4)) (el_cons (ev_var (pv 6)) el_nil)))) el_nil)) (ev_B (r := fun x H Q => rRepr K x H Q ∨ rReprM K x H Q) (call_reprA hgd hr.units) ok_reprA (by rfl) (z "repr" (by decide)) PyProof.Rows.boot_repr (el_cons (ev_tup (el_cons (ev_c pe_str fun _ => .str _) (el_cons (ev_var (pv 6)) el_nil))) el_nil)) (nomark _)) (cs_one (cs_ret (ev_c pe_bl fun _ => .bl _))) cs_nil)))
        (cs_one (cs_if (et_cmp (op_neG hr.units) ok_neG (ev_B (r := fun x H Q => rRepr K x H Q ∨ rReprM K x H Q) (call_reprA hgd hr.units) ok_reprA (by rfl) (z "repr" (by decide)) PyProof.Rows.boot_repr (el_cons (ev_tup (el_cons (ev_var (pv 3)) (el_cons (ev_var (pv 4)) el_nil))) el_nil)) (ev_var (pv 5)) (nomark _)) (cs_one (cs_ret (ev_c pe_bl fun _ => .bl _))) cs_nil))))))))
      (cs_one (cs_ret (ev_call c_law_right hr hgd (by decide) (takes_of rfl rfl rfl rfl) (by rfl) (el_cons (ev_tup (el_cons (ev_c pe_int fun _ => .int _) (el_cons (ev_op op_plus ok_plus (ev_Ty (r := rTup1 K) call_tup1 ok_tuple (by rfl) (z "tuple" (by decide)) PyProof.Rows.boot_tuple (el_cons (ev_new (en_lc (t := (gNm 7)) (own := [("_law_me", 7)]) rfl sc_law.nd (it_r1 (by rfl) (z "range" (by decide)) (el_cons (ev_c pe_int fun _ => .int _) el_nil)) (blkOk_by (own := [("_law_me", 7)]) (N := ["_law_script", "_law_pen_here", "_law_turn", "_law_pile_here", "_law_spots_here", "_law_kept", "_law_odd", "_law_me"]) (sc := defScope s_law) (by decide +kernel)) (by decide) tYes_le (fun _ _ _ _ _ => (tg_name (pg_name (i := 7) sc_law.nd rfl (Or.inl rfl)))) (fun _ _ _ _ _ => ets_nil) (fun _ _ _ _ _ => (ev_tup (el_cons (ev_op op_plus ok_plus (ev_var (pv 7)) (ev_c pe_int fun _ => .int _)) el_nil))))) el_nil)) (ev_tup (el_cons (ev_tup (el_cons (ev_c pe_int fun _ => .int _) el_nil)) el_nil))) el_nil))) (el_cons (ev_tup (el_cons (ev_c pe_non fun _ => .non) (el_cons (ev_c pe_int fun _ => .int _) el_nil))) el_nil)))))))
end
end K13
namespace K13
open PySem PySem.Spec PyProof.Rows L2 VK PV
def wRows (w sz : Int) (rows : List D) : Prop := ∀ r ∈ rows, ∃ cs : List D, r = .tup cs ∧ cs.length = w.toNat ∧ ∀ d ∈ cs, okc sz d
theorem pick_ok : DrawOk M_law_pick := DrawOk.of (k1 := 8017) (k2 := 131) (gr := grLess) (mix := mixP 2147483563 51043 30011 71 2147483647 29 70009 2147483549 64) (by decide) grLess_ok (mixP_ok (by decide) (by decide) (by decide) (by decide) (by decide) (by decide) (by decide) (by decide) (by decide)) (by decide)
theorem shw_c {z : Int} (hz : z ≤ 1000) {d : D} (h : okc z d) : Shw d 200 0 := by
  rcases h with e | ⟨k, e, h0, h1⟩ <;> subst e
  · exact shw_non
  · exact shw_int (small60 h0 (by omega))
theorem shw_cs {z : Int} (hz : z ≤ 1000) {cs : List D} {n : Nat} (h : ∀ d ∈ cs, okc z d) (hl : cs.length ≤ n) : Shw (.tup cs) (201 * n) 1 := (shw_tup fun d hd => shw_c hz (h d hd)).le (by have := Nat.mul_le_mul_left 201 hl; omega) (by omega)
theorem shw_pile {w : Int} (h0 : 0 ≤ w) (h1 : w ≤ 4) {rows : List D} (h : wRows w rows.length rows) (hz : rows.length ≤ 40) : Shw (.tup [.int w, .tup rows]) 64500 3 := by
  have h2 : Shw (.tup rows) 32200 2 := (shw_tup (n := 804) (k := 1) fun d hd => by
    obtain ⟨cs, rfl, c4, ok⟩ := h d hd
    exact (shw_cs (n := 4) (by omega) ok (by omega)).le (by omega) (by omega)).le (by omega) (by omega)
  exact (shw_tup (n := 32200) (k := 2) fun d hd => by
    simp only [List.mem_cons, List.not_mem_nil, or_false] at hd
    rcases hd with rfl | rfl
    · exact (shw_int (small60 h0 (by omega))).le (by omega) (by omega)
    · exact h2).le (by simp) (by omega)
def T1 : M Fl := (sSeq (sSet 12 (eOp gIx (eNew (nLst (eL1 (eOp gIx (eVar 11) (eVar 5)) (eL1 (eC .non) (eL1 (eVar 10) eL0))))) (eOp gIx (eNew (nLst (eL1 (eC (.int 0)) (eL1 (eC (.int 0)) (eL1 (eC (.int 0)) (eL1 (eC (.int 0)) (eL1 (eC (.int 1)) (eL1 (eC (.int 2)) eL0)))))))) (eCall [true, false] M_law_pick (eL1 (eVar 0) (eL1 (eC (.int 6)) eL0))))))
          (sExp (eMt "list" 8 gApp (eL1 (eIf (bAnd (M.tb (eOp gNotN (eVar 12) (eC .non))) (M.tb (eOp gGe (eVar 12) (eVar 4)))) (eC .non) (eVar 12)) eL0))))
theorem B1_eq : B_law_pile_1 = (sSeq (sSet 10 (eCall [true, false] M_law_pick (eL1 (eVar 0) (eL1 (eVar 4) eL0))))
          (sSeq (sSet 11 (eNew (nLst (eL1 (eVar 10) (eL1 (eIf (M.tb (eOp gLt (eOp gPlus (eVar 7) (eC (.int 1))) (eVar 4))) (eOp gPlus (eVar 7) (eC (.int 1))) (eC .non)) (eL1 (eOp gMod (eOp gPlus (eVar 7) (eC (.int 1))) (eVar 4)) (eL1 (eC .non) (eL1 (eOp gPlus (eOp gPlus (eOp gTimes (eVar 3) (eVar 7)) (eVar 9)) (eC (.int 1))) (eL1 (eVar 7) eL0)))))))))
          T1)) := rfl
def nnv (v : D) : Prop := v = .non ∨ ∃ k : Int, v = .int k ∧ 0 ≤ k
theorem tail_r {p : D} {n : Int} (hp : PenD p n) (hn : n ≤ 1000000) {a b c d e f : D} (h : ∀ x ∈ [a, b, c, d, e, f], nnv x) {any sz way : Int} (y0 : 0 ≤ any) (w0 : 0 ≤ way) (w1 : way < 6) {s1 s2 s3 s6 s7 s9 s12 : Sl} {cs : List D} (hc : cs.length ≤ 4) :
    ∃ p' one cell, T1 [.pin p, s1, s2, s3, .sh (.int sz), .sh (.int way), s6, s7, .own (.lst cs), s9, .sh (.int any), .sh (.lst [a, b, c, d, e, f]), s12] = .val .nx [.pin p', s1, s2, s3, .sh (.int sz), .sh (.int way), s6, s7, .own (.lst (cs ++ [cell])), s9, .sh (.int any), .sh (.lst [a, b, c, d, e, f]), .sh one] ∧ okc sz cell ∧ PenD p' (n + 1) := by
  obtain ⟨r, p', e1, r0, r1, hp'⟩ := pick_ok p n 6 hp (by omega) (by decide) (by decide)
  obtain ⟨v, _, v1, v2⟩ := ixL_r (xs := [a, b, c, d, e, f]) (r := way) w0 (by show way < 6; omega)
  obtain ⟨x, _, x1, x2⟩ := ixL_r (xs := [.int 0, .int 0, .int 0, .int 0, .int 1, .int 2]) (r := r) r0 (by show r < 6; omega)
  have hx : ∃ j : Int, x = .int j ∧ 0 ≤ j ∧ j < 3 := by
    simp only [List.mem_cons, List.not_mem_nil, or_false] at x1
    rcases x1 with h | h | h | h | h | h <;> exact ⟨_, h, by omega, by omega⟩
  obtain ⟨j, rfl, j0, j1⟩ := hx
  obtain ⟨one, _, o1, o2⟩ := ixL_r (xs := [v, .non, .int any]) (r := j) j0 (by show j < 3; omega)
  have ho : nnv one := by
    simp only [List.mem_cons, List.not_mem_nil, or_false] at o1
    rcases o1 with h1 | h1 | h1 <;> subst h1
    · exact h _ v1
    · exact .inl rfl
    · exact .inr ⟨_, rfl, y0⟩
  have ap : ∀ z : D, gApp (.lst cs) [z] = some (.non, .lst (cs ++ [z])) := fun z => gApp_r (by omega)
  have := ok_ex (r := T1 [.pin p, s1, s2, s3, .sh (.int sz), .sh (.int way), s6, s7, .own (.lst cs), s9, .sh (.int any), .sh (.lst [a, b, c, d, e, f]), s12])
    (Q := fun fl ρ => fl = .nx ∧ ∃ p' one cell, ρ = [.pin p', s1, s2, s3, .sh (.int sz), .sh (.int way), s6, s7, .own (.lst (cs ++ [cell])), s9, .sh (.int any), .sh (.lst [a, b, c, d, e, f]), .sh one] ∧ okc sz cell ∧ PenD p' (n + 1)) ?_
  · obtain ⟨fl, ρ, e, rfl, p', one, cell, rfl, h⟩ := this
    exact ⟨p', one, cell, e, h⟩
  · rcases ho with e | ⟨k, e, k0⟩ <;> subst e
    · simp -implicitDefEqProofs [T1, e1, v2, x2, o2, ap, sl_small (n := 3) (by decide), sl_small (n := 6) (by decide), isN]
      exact ⟨_, _, _, ⟨rfl, rfl, rfl⟩, .inl rfl, hp'⟩
    · by_cases hk : sz ≤ k
      · simp -implicitDefEqProofs [T1, e1, v2, x2, o2, ap, sl_small (n := 3) (by decide), sl_small (n := 6) (by decide), isN, hk]
        exact ⟨_, _, _, ⟨rfl, rfl, rfl⟩, .inl rfl, hp'⟩
      · simp -implicitDefEqProofs [T1, e1, v2, x2, o2, ap, sl_small (n := 3) (by decide), sl_small (n := 6) (by decide), isN, hk]
        exact ⟨_, _, _, ⟨rfl, rfl, rfl⟩, .inr ⟨k, rfl, k0, by omega⟩, hp'⟩
theorem B1_r {p : D} {n : Int} (hp : PenD p n) (hn : n + 2 ≤ 1000000) {i j w sz way : Int} (i0 : 0 ≤ i) (i1 : i < sz) (z1 : sz ≤ 40) (j0 : 0 ≤ j) (w0 : 0 ≤ w) (w1 : w ≤ 4) (y0 : 0 ≤ way) (y1 : way < 6) {s1 s2 s6 s10 s11 s12 : Sl} {cs : List D} (hc : cs.length ≤ 4) :
    ∃ p' x10 x11 x12 cell, B_law_pile_1 [.pin p, s1, s2, .sh (.int w), .sh (.int sz), .sh (.int way), s6, .sh (.int i), .own (.lst cs), .sh (.int j), s10, s11, s12] = .val .nx [.pin p', s1, s2, .sh (.int w), .sh (.int sz), .sh (.int way), s6, .sh (.int i), .own (.lst (cs ++ [cell])), .sh (.int j), x10, x11, x12] ∧ okc sz cell ∧ PenD p' (n + 2) := by
  obtain ⟨any, p1, e1, a0, a1, h1⟩ := pick_ok p n sz hp (by omega) (by omega) (by omega)
  have m1 : gMod (.int (i + 1)) (.int sz) = some (.int ((i + 1) % sz)) := gMod_r (by omega)
  have t1 : gTimes (.int w) (.int i) = some (.int (w * i)) := gTimes_r (.inr (by omega))
  have m0 : 0 ≤ (i + 1) % sz := Int.emod_nonneg _ (by omega)
  have wi : 0 ≤ w * i := Int.mul_nonneg w0 i0
  have key : ∀ b : D, nnv b → ∀ x ∈ [.int any, b, .int ((i + 1) % sz), .non, .int (w * i + j + 1), .int i], nnv x := fun b hb x hx => by
    simp only [List.mem_cons, List.not_mem_nil, or_false] at hx
    rcases hx with h | h | h | h | h | h <;> subst h
    · exact .inr ⟨_, rfl, a0⟩
    · exact hb
    · exact .inr ⟨_, rfl, m0⟩
    · exact .inl rfl
    · exact .inr ⟨_, rfl, by omega⟩
    · exact .inr ⟨_, rfl, i0⟩
  have := ok_ex (r := B_law_pile_1 [.pin p, s1, s2, .sh (.int w), .sh (.int sz), .sh (.int way), s6, .sh (.int i), .own (.lst cs), .sh (.int j), s10, s11, s12])
    (Q := fun fl ρ => fl = .nx ∧ ∃ p' x10 x11 x12 cell, ρ = [.pin p', s1, s2, .sh (.int w), .sh (.int sz), .sh (.int way), s6, .sh (.int i), .own (.lst (cs ++ [cell])), .sh (.int j), x10, x11, x12] ∧ okc sz cell ∧ PenD p' (n + 2)) ?_
  · obtain ⟨fl, ρ, e, rfl, p', x10, x11, x12, cell, rfl, h⟩ := this
    exact ⟨p', x10, x11, x12, cell, e, h⟩
  · rw [B1_eq]
    by_cases hk : i + 1 < sz
    · obtain ⟨p', one, cell, e2, h2, h3⟩ := tail_r (sz := sz) (s1 := s1) (s2 := s2) (s3 := .sh (.int w)) (s6 := s6) (s7 := .sh (.int i)) (s9 := .sh (.int j)) (s12 := s12) h1 (by omega) (key (.int (i + 1)) (.inr ⟨_, rfl, by omega⟩)) a0 y0 y1 hc
      simp -implicitDefEqProofs [e1, m1, t1, hk, e2, sl_small (n := 6) (by decide)]
      exact ⟨_, _, _, _, _, ⟨rfl, rfl, rfl, rfl, rfl⟩, h2, h3.le (by omega)⟩
    · obtain ⟨p', one, cell, e2, h2, h3⟩ := tail_r (sz := sz) (s1 := s1) (s2 := s2) (s3 := .sh (.int w)) (s6 := s6) (s7 := .sh (.int i)) (s9 := .sh (.int j)) (s12 := s12) h1 (by omega) (key .non (.inl rfl)) a0 y0 y1 hc
      simp -implicitDefEqProofs [e1, m1, t1, hk, e2, sl_small (n := 6) (by decide)]
      exact ⟨_, _, _, _, _, ⟨rfl, rfl, rfl, rfl, rfl⟩, h2, h3.le (by omega)⟩
theorem get_rng {m i : Nat} {d : D} (h : (rng 0 m)[i]? = some d) : d = .int i ∧ i < m := by
  rw [rng_upto, List.getElem?_map] at h
  obtain ⟨k, hk, rfl⟩ := Option.map_eq_some_iff.mp h
  unfold upto at hk
  rw [List.getElem?_map] at hk
  obtain ⟨j, hj, rfl⟩ := Option.map_eq_some_iff.mp hk
  obtain ⟨hl, e⟩ := List.getElem?_eq_some_iff.mp hj
  rw [List.getElem_range] at e
  rw [List.length_range] at hl
  exact ⟨by rw [e], hl⟩
theorem len_rng {m : Nat} : (rng 0 m).length = m := by simp [rng]
theorem row_r {p : D} {n : Int} (hp : PenD p n) (hn : n + 8 ≤ 1000000) {i w sz way : Int} (i0 : 0 ≤ i) (i1 : i < sz) (z1 : sz ≤ 40) (w0 : 0 ≤ w) (w1 : w ≤ 4) (y0 : 0 ≤ way) (y1 : way < 6) {s1 s2 s6 s9 s10 s11 s12 : Sl} :
    ∃ p' x9 x10 x11 x12 cs, forL (gNm 9) B_law_pile_1 (rng 0 w.toNat) [.pin p, s1, s2, .sh (.int w), .sh (.int sz), .sh (.int way), s6, .sh (.int i), .own (.lst []), s9, s10, s11, s12] = .val .nx [.pin p', s1, s2, .sh (.int w), .sh (.int sz), .sh (.int way), s6, .sh (.int i), .own (.lst cs), x9, x10, x11, x12] ∧ (∀ d ∈ cs, okc sz d) ∧ cs.length = w.toNat ∧ PenD p' (n + 8) := by
  have := ok_ex (ok_inv (t := gNm 9) (f := B_law_pile_1) (ds := rng 0 w.toNat) (ρ := [.pin p, s1, s2, .sh (.int w), .sh (.int sz), .sh (.int way), s6, .sh (.int i), .own (.lst []), s9, s10, s11, s12]) (E := noE)
    (R := fun x ρ => x = .nx ∧ ∃ (p' : D) (x9 x10 x11 x12 : Sl) (cs : List D), ρ = [.pin p', s1, s2, .sh (.int w), .sh (.int sz), .sh (.int way), s6, .sh (.int i), .own (.lst cs), x9, x10, x11, x12] ∧ (∀ d ∈ cs, okc sz d) ∧ cs.length = w.toNat ∧ PenD p' (n + 8))
    (fun j ρ => ∃ (p' : D) (x9 x10 x11 x12 : Sl) (cs : List D), ρ = [.pin p', s1, s2, .sh (.int w), .sh (.int sz), .sh (.int way), s6, .sh (.int i), .own (.lst cs), x9, x10, x11, x12] ∧ (∀ d ∈ cs, okc sz d) ∧ cs.length = j ∧ PenD p' (n + 2 * j))
    ⟨p, s9, s10, s11, s12, [], rfl, by simp, rfl, hp.le (by omega)⟩ (fun j d ρ hd ⟨p1, x9, x10, x11, x12, cs, h1, h2, h3, h4⟩ => ?_) fun ρ ⟨p1, x9, x10, x11, x12, cs, h1, h2, h3, h4⟩ => ?_)
  · obtain ⟨x, ρ, e, rfl, p', x9, x10, x11, x12, cs, rfl, h⟩ := this
    exact ⟨p', x9, x10, x11, x12, cs, e, h⟩
  · subst h1
    obtain ⟨rfl, hj⟩ := get_rng hd
    obtain ⟨p', y10, y11, y12, cell, e, c1, c2⟩ := B1_r (s1 := s1) (s2 := s2) (s6 := s6) (s10 := x10) (s11 := x11) (s12 := x12) (j := (j : Int)) h4 (by omega) i0 i1 z1 (by omega) w0 w1 y0 y1 (cs := cs) (by omega)
    refine ⟨_, to_nm, ?_⟩
    simp -implicitDefEqProofs [e]
    refine ⟨p', _, _, _, _, cs ++ [cell], ⟨rfl, rfl, rfl, rfl, rfl, rfl⟩, fun d hd => ?_, by simp [h3], c2.le (by omega)⟩
    rcases List.mem_append.mp hd with hd | hd
    · exact h2 d hd
    · rw [List.mem_singleton.mp hd]
      exact c1
  · rw [len_rng] at h3 h4
    exact ⟨rfl, p1, x9, x10, x11, x12, cs, h1, h2, h3, h4.le (by omega)⟩
theorem rows_r {p : D} {n : Int} (hp : PenD p n) (hn : n + 320 ≤ 1000000) {w sz way : Int} (z0 : 0 ≤ sz) (z1 : sz ≤ 40) (w0 : 0 ≤ w) (w1 : w ≤ 4) (y0 : 0 ≤ way) (y1 : way < 6) {s1 s2 s7 s8 s9 s10 s11 s12 : Sl} :
    ∃ p' x7 x8 x9 x10 x11 x12 rows, forL (gNm 7) B_law_pile_2 (rng 0 sz.toNat) [.pin p, s1, s2, .sh (.int w), .sh (.int sz), .sh (.int way), .own (.lst []), s7, s8, s9, s10, s11, s12] = .val .nx [.pin p', s1, s2, .sh (.int w), .sh (.int sz), .sh (.int way), .own (.lst rows), x7, x8, x9, x10, x11, x12] ∧ wRows w rows.length rows ∧ rows.length = sz.toNat ∧ PenD p' (n + 320) := by
  have rg : ∀ ρ, rngR (some [.int w]) ρ = .val (rng 0 w.toNat) ρ := fun ρ => rngR_r w0 (by omega)
  have := ok_ex (ok_inv (t := gNm 7) (f := B_law_pile_2) (ds := rng 0 sz.toNat) (ρ := [.pin p, s1, s2, .sh (.int w), .sh (.int sz), .sh (.int way), .own (.lst []), s7, s8, s9, s10, s11, s12]) (E := noE)
    (R := fun x ρ => x = .nx ∧ ∃ (p' : D) (x7 x8 x9 x10 x11 x12 : Sl) (rows : List D), ρ = [.pin p', s1, s2, .sh (.int w), .sh (.int sz), .sh (.int way), .own (.lst rows), x7, x8, x9, x10, x11, x12] ∧ wRows w rows.length rows ∧ rows.length = sz.toNat ∧ PenD p' (n + 320))
    (fun j ρ => ∃ (p' : D) (x7 x8 x9 x10 x11 x12 : Sl) (rows : List D), ρ = [.pin p', s1, s2, .sh (.int w), .sh (.int sz), .sh (.int way), .own (.lst rows), x7, x8, x9, x10, x11, x12] ∧ wRows w sz rows ∧ rows.length = j ∧ PenD p' (n + 8 * j))
    ⟨p, s7, s8, s9, s10, s11, s12, [], rfl, fun r hr => (nomatch hr), rfl, hp.le (by omega)⟩ (fun j d ρ hd ⟨p1, x7, x8, x9, x10, x11, x12, rows, h1, h2, h3, h4⟩ => ?_) fun ρ ⟨p1, x7, x8, x9, x10, x11, x12, rows, h1, h2, h3, h4⟩ => ?_)
  · obtain ⟨x, ρ, e, rfl, p', x7, x8, x9, x10, x11, x12, rows, rfl, h⟩ := this
    exact ⟨p', x7, x8, x9, x10, x11, x12, rows, e, h⟩
  · subst h1
    obtain ⟨rfl, hj⟩ := get_rng hd
    obtain ⟨p', y9, y10, y11, y12, cs, e, c1, c2, c3⟩ := row_r (s1 := s1) (s2 := s2) (s6 := .own (.lst rows)) (s9 := x9) (s10 := x10) (s11 := x11) (s12 := x12) (i := (j : Int)) h4 (by omega) (by omega) (by omega) z1 w0 w1 y0 y1
    have ap : gApp (.lst rows) [.tup cs] = some (.non, .lst (rows ++ [.tup cs])) := gApp_r (by omega)
    refine ⟨_, to_nm, ?_⟩
    simp -implicitDefEqProofs [B_law_pile_2, rg, kFor_r, e, ap]
    refine ⟨p', _, _, _, _, _, _, rows ++ [.tup cs], ⟨rfl, rfl, rfl, rfl, rfl, rfl, rfl, rfl⟩, fun d hd => ?_, by simp [h3], c3.le (by omega)⟩
    rcases List.mem_append.mp hd with hd | hd
    · exact h2 d hd
    · rw [List.mem_singleton.mp hd]
      exact ⟨cs, rfl, c2, c1⟩
  · rw [len_rng] at h3 h4
    exact ⟨rfl, p1, x7, x8, x9, x10, x11, x12, rows, h1, (by rw [show ((rows.length : Nat) : Int) = sz by omega]; exact h2), h3, h4.le (by omega)⟩
theorem pile_r {p : D} {n m : Int} (hp : PenD p n) (hn : n + 325 ≤ 1000000) (m0 : 0 < m) (m1 : m ≤ 40) :
    ∃ w rows p', M_law_pile [p, .int m, .lst [.int 1, .int 2, .int 3, .int 4]] = .val (.tup [.int w, .tup rows]) [p'] ∧ 0 ≤ w ∧ w ≤ 4 ∧ wRows w rows.length rows ∧ rows.length ≤ 40 ∧ PenD p' (n + 325) := by
  obtain ⟨a, p1, e1, a0, a1, h1⟩ := pick_ok p n 4 hp (by omega) (by decide) (by decide)
  obtain ⟨x, _, x1, x2⟩ := ixL_r (xs := [.int 1, .int 2, .int 3, .int 4]) (r := a) a0 (by show a < 4; omega)
  have hx : ∃ j : Int, x = .int j ∧ 0 ≤ j ∧ j ≤ 4 := by
    simp only [List.mem_cons, List.not_mem_nil, or_false] at x1
    rcases x1 with h | h | h | h <;> exact ⟨_, h, by omega, by omega⟩
  obtain ⟨w, rfl, w0, w1⟩ := hx
  have hmin : 0 < (if m + 1 < 7 then m + 1 else 7) ∧ (if m + 1 < 7 then m + 1 else 7) ≤ 7 := by split <;> omega
  obtain ⟨b, p2, e2, b0, b1, h2⟩ := pick_ok p1 (n + 1) (if m + 1 < 7 then m + 1 else 7) h1 (by omega) hmin.1 (by omega)
  obtain ⟨c, p3, e3, c0, c1, h3⟩ := pick_ok p2 (n + 1 + 1) (m + 1) h2 (by omega) (by omega) (by omega)
  obtain ⟨d, p4, e4, d0, d1, h4⟩ := pick_ok p3 (n + 1 + 1 + 1) 3 h3 (by omega) (by decide) (by decide)
  obtain ⟨y, _, y1, y2⟩ := ixL_r (xs := [.int b, .int c, .int m]) (r := d) d0 (by show d < 3; omega)
  have hy : ∃ j : Int, y = .int j ∧ 0 ≤ j ∧ j ≤ 40 := by
    simp only [List.mem_cons, List.not_mem_nil, or_false] at y1
    rcases y1 with h | h | h
    · exact ⟨_, h, by omega, by omega⟩
    · exact ⟨_, h, by omega, by omega⟩
    · exact ⟨_, h, by omega, by omega⟩
  obtain ⟨sz, rfl, z0, z1⟩ := hy
  obtain ⟨way, p5, e5, v0, v1, h5⟩ := pick_ok p4 (n + 1 + 1 + 1 + 1) 6 h4 (by omega) (by decide) (by decide)
  obtain ⟨p6, x7, x8, x9, x10, x11, x12, rows, e6, r1, r2, r3⟩ := rows_r (s1 := .sh (.int m)) (s2 := .sh (.lst [.int 1, .int 2, .int 3, .int 4])) (s7 := .no) (s8 := .no) (s9 := .no) (s10 := .no) (s11 := .no) (s12 := .no) h5 (by omega) z0 z1 w0 w1 v0 v1
  have rg : ∀ ρ, rngR (some [.int sz]) ρ = .val (rng 0 sz.toNat) ρ := fun ρ => rngR_r z0 (by omega)
  have mn : gMin2 [.int 7, .int (m + 1)] = some (.int (if m + 1 < 7 then m + 1 else 7)) := rfl
  have := runM_ex (ms := [true, false, false]) (n := 13) (f := F_law_pile) (ds := [p, .int m, .lst [.int 1, .int 2, .int 3, .int 4]]) (P := fun d cs => ∃ w rows p', d = .tup [.int w, .tup rows] ∧ cs = [p'] ∧ 0 ≤ w ∧ w ≤ 4 ∧ wRows w rows.length rows ∧ rows.length ≤ 40 ∧ PenD p' (n + 325)) ?_
  · obtain ⟨d, cs, e, w, rows, p', rfl, rfl, h⟩ := this
    exact ⟨w, rows, p', e, h⟩
  · simp -implicitDefEqProofs [F_law_pile, stE, e1, x2, mn, e2, e3, e4, y2, e5, rg, kFor_r, e6, sl_small (n := 3) (by decide), sl_small (n := 2) (by decide)]
    exact ⟨_, _, ⟨rfl, rfl⟩, w0, by omega, r1, by omega, r3.le (by omega)⟩
theorem spots_r {p : D} {n sz : Int} (hp : PenD p n) (hn : n + 7 ≤ 1000000) (z0 : 0 ≤ sz) (z1 : sz ≤ 40) : ∃ cells p', M_law_spots [p, .int sz, .int 6] = .val (.tup cells) [p'] ∧ (∀ d ∈ cells, okc sz d) ∧ cells.length ≤ 10 ∧ PenD p' (n + 7) := by
  obtain ⟨a, p1, e1, a0, a1, h1⟩ := pick_ok p n 6 hp (by omega) (by decide) (by decide)
  have walk : ∃ p' x4 x5 cells, forL (gNm 4) B_law_spots_1 (rng 0 (1 + a).toNat) [.pin p1, .sh (.int sz), .sh (.int 6), .own (.lst []), .no, .no] = .val .nx [.pin p', .sh (.int sz), .sh (.int 6), .own (.lst cells), x4, x5] ∧ (∀ d ∈ cells, okc sz d) ∧ cells.length = (1 + a).toNat ∧ PenD p' (n + 7) := by
    have := ok_ex (ok_inv (t := gNm 4) (f := B_law_spots_1) (ds := rng 0 (1 + a).toNat) (ρ := [.pin p1, .sh (.int sz), .sh (.int 6), .own (.lst []), .no, .no]) (E := noE)
      (R := fun x ρ => x = .nx ∧ ∃ (p' : D) (x4 x5 : Sl) (cells : List D), ρ = [.pin p', .sh (.int sz), .sh (.int 6), .own (.lst cells), x4, x5] ∧ (∀ d ∈ cells, okc sz d) ∧ cells.length = (1 + a).toNat ∧ PenD p' (n + 7))
      (fun j ρ => ∃ (p' : D) (x4 x5 : Sl) (cells : List D), ρ = [.pin p', .sh (.int sz), .sh (.int 6), .own (.lst cells), x4, x5] ∧ (∀ d ∈ cells, okc sz d) ∧ cells.length = j ∧ PenD p' (n + 1 + j))
      ⟨p1, .no, .no, [], rfl, by simp, rfl, h1.le (by omega)⟩ (fun j d ρ hd ⟨p2, x4, x5, cells, g1, g2, g3, g4⟩ => ?_) fun ρ ⟨p2, x4, x5, cells, g1, g2, g3, g4⟩ => ?_)
    · obtain ⟨x, ρ, e, rfl, p', x4, x5, cells, rfl, h⟩ := this
      exact ⟨p', x4, x5, cells, e, h⟩
    · subst g1
      obtain ⟨rfl, hj⟩ := get_rng hd
      obtain ⟨b, p', e2, b0, b1, h2⟩ := pick_ok p2 (n + 1 + j) (sz + 1) g4 (by omega) (by omega) (by omega)
      have ap : ∀ z : D, gApp (.lst cells) [z] = some (.non, .lst (cells ++ [z])) := fun z => gApp_r (by omega)
      refine ⟨_, to_nm, ?_⟩
      by_cases hb : b < sz
      · simp -implicitDefEqProofs [B_law_spots_1, e2, hb, ap]
        refine ⟨_, _, _, cells ++ [.int b], ⟨rfl, rfl, rfl, rfl⟩, fun d hd => ?_, by simp [g3], h2.le (by omega)⟩
        rcases List.mem_append.mp hd with hd | hd
        · exact g2 d hd
        · rw [List.mem_singleton.mp hd]
          exact .inr ⟨b, rfl, b0, hb⟩
      · simp -implicitDefEqProofs [B_law_spots_1, e2, hb, ap]
        refine ⟨_, _, _, cells ++ [.non], ⟨rfl, rfl, rfl, rfl⟩, fun d hd => ?_, by simp [g3], h2.le (by omega)⟩
        rcases List.mem_append.mp hd with hd | hd
        · exact g2 d hd
        · rw [List.mem_singleton.mp hd]
          exact .inl rfl
    · rw [len_rng] at g3 g4
      exact ⟨rfl, p2, x4, x5, cells, g1, g2, g3, g4.le (by omega)⟩
  obtain ⟨p', x4, x5, cells, e2, c1, c2, c3⟩ := walk
  have rg : ∀ ρ, rngR (some [.int (1 + a)]) ρ = .val (rng 0 (1 + a).toNat) ρ := fun ρ => rngR_r (by omega) (by omega)
  have := runM_ex (ms := [true, false, false]) (n := 6) (f := F_law_spots) (ds := [p, .int sz, .int 6]) (P := fun d cs => ∃ cells p', d = .tup cells ∧ cs = [p'] ∧ (∀ d ∈ cells, okc sz d) ∧ cells.length ≤ 10 ∧ PenD p' (n + 7)) ?_
  · obtain ⟨d, cs, e, cells, p', rfl, rfl, h⟩ := this
    exact ⟨cells, p', e, h⟩
  · simp -implicitDefEqProofs [F_law_spots, stE, e1, rg, kFor_r, e2]
    exact ⟨c1, by omega, c3⟩
end K13
namespace K13
open PySem PySem.Spec PyProof.Rows L2 VK PV
/-! ### the search, level by level -/
abbrev Ents := List (Int × List Int)
abbrev St := Ents × List Int
def look : Ents → Int → Option (List Int)
  | [], _ => none
  | (j, p) :: r, k => if j = k then some p else look r k
def enc (g : List Int → D) (es : Ents) : List (D × D) := es.map fun e => (.int e.1, g e.2)
def gP (p : List Int) : D := .tup (p.map .int)
def gL (p : List Int) : D := .int p.length
theorem lookD_enc (g : List Int → D) : ∀ (es : Ents) (k : Int), lookD (enc g es) (.inl k) = (look es k).map g
  | [], _ => rfl
  | (j, p) :: r, k => by
    have ih := lookD_enc g r k
    show (if (some (Sum.inl j) : Option Key) = some (.inl k) then some (g p) else lookD (enc g r) (.inl k)) = _
    unfold look
    by_cases h : j = k
    · subst h
      rw [if_pos rfl, if_pos rfl]
      rfl
    · rw [if_neg (fun z => h (Sum.inl.inj (Option.some.inj z))), if_neg h, ih]
theorem putE_new {g : List Int → D} {es : Ents} {k : Int} {p : List Int} (h : look es k = none) : putE (enc g es) (.inl k) (g p) = enc g (es ++ [(k, p)]) := by
  unfold putE
  rw [lookD_enc, h]
  simp [enc, PV.dK]
theorem enc_keys {g : List Int → D} {es : Ents} : (enc g es).map (·.1) = (es.map (·.1)).map .int := by simp [enc]
theorem enc_len {g : List Int → D} {es : Ents} : (enc g es).length = es.length := by simp [enc]
theorem look_app {k : Int} {p : List Int} : ∀ {es : Ents} (more : Ents), look es k = some p → look (es ++ more) k = some p
  | [], _, h => nomatch h
  | (j, q) :: r, more, h => by
    show (if j = k then some q else look (r ++ more) k) = _
    unfold look at h
    by_cases c : j = k
    · rw [if_pos c] at h ⊢
      exact h
    · rw [if_neg c] at h ⊢
      exact look_app more h
theorem look_snoc {k : Int} {p : List Int} : ∀ {es : Ents}, look es k = none → look (es ++ [(k, p)]) k = some p
  | [], _ => by simp [look]
  | (j, q) :: r, h => by
    show (if j = k then some q else look (r ++ [(k, p)]) k) = _
    unfold look at h
    by_cases c : j = k
    · rw [if_pos c] at h
      cases h
    · rw [if_neg c] at h ⊢
      exact look_snoc h
theorem look_mem {k : Int} {p : List Int} : ∀ {es : Ents}, look es k = some p → (k, p) ∈ es
  | [], h => nomatch h
  | (j, q) :: r, h => by
    unfold look at h
    by_cases c : j = k
    · rw [if_pos c] at h
      cases h
      rw [c]
      exact List.mem_cons_self
    · rw [if_neg c] at h
      exact List.mem_cons_of_mem _ (look_mem h)
theorem mem_look {k : Int} : ∀ {es : Ents}, k ∈ es.map (·.1) → ∃ p, look es k = some p
  | (j, q) :: r, h => by
    unfold look
    by_cases c : j = k
    · exact ⟨q, if_pos c⟩
    · rw [if_neg c]
      rcases List.mem_cons.mp h with e | h
      · exact (c e.symm).elim
      · exact mem_look h
theorem look_no {k : Int} {es : Ents} (h : look es k = none) : k ∉ es.map (·.1) := fun m => by
  obtain ⟨p, e⟩ := mem_look m
  rw [h] at e
  cases e
def one (p : List Int) (f : Nat) (c : D) (s : St) : St := match c with
  | .int h => if (look s.1 h).isSome then s else (s.1 ++ [(h, p ++ [(f : Int)])], s.2 ++ [h])
  | _ => s
def row (p : List Int) : List D → Nat → St → St
  | [], _, s => s
  | c :: r, f, s => row p r (f + 1) (one p f c s)
theorem row_snoc {p : List Int} : ∀ {xs : List D} {c : D} {f : Nat} {s : St}, row p (xs ++ [c]) f s = one p (f + xs.length) c (row p xs f s)
  | [], _, _, _ => rfl
  | x :: xs, c, f, s => by
    show row p (xs ++ [c]) (f + 1) (one p f x s) = _
    rw [row_snoc]
    show _ = one p (f + (xs.length + 1)) c (row p xs (f + 1) (one p f x s))
    rw [show f + 1 + xs.length = f + (xs.length + 1) by omega]
def pathOf (s : St) (y : Int) : List Int := (look s.1 y).getD []
def walk (rows : List D) : List Int → St → St
  | [], s => s
  | y :: r, s => walk rows r (row (pathOf s y) (outs rows y) 0 s)
theorem walk_snoc {rows : List D} : ∀ {xs : List Int} {y : Int} {s : St}, walk rows (xs ++ [y]) s = row (pathOf (walk rows xs s) y) (outs rows y) 0 (walk rows xs s)
  | [], _, _ => rfl
  | x :: xs, y, s => by
    show walk rows (xs ++ [y]) (row (pathOf s x) (outs rows x) 0 s) = _
    rw [walk_snoc]
    rfl
def turn (rows : List D) (s : St) : St := walk rows s.2 (s.1, [])
def turns (rows : List D) : Nat → St → St
  | 0, s => s
  | n + 1, s => turn rows (turns rows n s)
/-- the first level -/
def first (cells : List D) : St := row [] cells 0 ([], [])
/-! ### what holds along -/
inductive Hop (rows : List D) : Int → List Int → Int → Prop
  | nil {k : Int} : Hop rows k [] k
  | cons {h k j : Int} {f : Nat} {fs : List Int} (a : (outs rows h)[f]? = some (.int k)) (b : Hop rows k fs j) : Hop rows h ((f : Int) :: fs) j
theorem Hop.snoc {rows : List D} {h y k : Int} {f : Nat} {fs : List Int} (w : Hop rows h fs y) (a : (outs rows y)[f]? = some (.int k)) : Hop rows h (fs ++ [(f : Int)]) k := by
  induction w with
  | nil => exact .cons a .nil
  | cons b _ ih => exact .cons b (ih a)
def Leads (cells rows : List D) (p : List Int) (k : Int) : Prop := ∃ (r : Nat) (fs : List Int) (h : Int), p = (r : Int) :: fs ∧ cells[r]? = some (.int h) ∧ Hop rows h fs k
structure Good (cells rows : List D) (s : St) : Prop where
  nd : (s.1.map (·.1)).Nodup
  rg : ∀ k : Int, k ∈ s.1.map (·.1) → 0 ≤ k ∧ k < rows.length
  sub : ∀ k : Int, k ∈ s.2 → k ∈ s.1.map (·.1)
  ld : ∀ k p, (k, p) ∈ s.1 → Leads cells rows p k
  sz : s.2.length ≤ s.1.length
  pl : ∀ k p, (k, p) ∈ s.1 → p.length ≤ s.1.length
theorem Good.le {cells rows : List D} {s : St} (g : Good cells rows s) : s.1.length ≤ rows.length := by
  have := few rows.length _ g.nd g.rg
  rwa [List.length_map] at this
/-- one thing added or not -/
theorem Good.one {cells rows : List D} {s : St} (g : Good cells rows s) {p : List Int} {f : Nat} {c : D} (hc : okc rows.length c) (hpl : p.length ≤ s.1.length) (hl : ∀ k, c = .int k → Leads cells rows (p ++ [(f : Int)]) k) : Good cells rows (one p f c s) := by
  rcases hc with e | ⟨k, e, k0, k1⟩ <;> subst e
  · exact g
  · unfold K13.one
    show Good cells rows (if (look s.1 k).isSome = true then s else (s.1 ++ [(k, p ++ [(f : Int)])], s.2 ++ [k]))
    by_cases q : (look s.1 k).isSome = true
    · rw [if_pos q]
      exact g
    · rw [if_neg q]
      have hn := look_no (Option.not_isSome_iff_eq_none.mp q)
      refine ⟨?_, fun j hj => ?_, fun j hj => ?_, fun j r hj => ?_, ?_, fun j r hj => ?_⟩
      · rw [List.map_append, List.nodup_append]
        refine ⟨g.nd, by simp, fun a ha b hb => ?_⟩
        rw [show b = k by simpa using hb]
        exact fun z => hn (z ▸ ha)
      · rw [List.map_append] at hj
        rcases List.mem_append.mp hj with hj | hj
        · exact g.rg j hj
        · rw [show j = k by simpa using hj]
          exact ⟨k0, k1⟩
      · rw [List.map_append]
        rcases List.mem_append.mp hj with hj | hj
        · exact List.mem_append_left _ (g.sub j hj)
        · exact List.mem_append_right _ (by simpa using hj)
      · rcases List.mem_append.mp hj with hj | hj
        · exact g.ld j r hj
        · have e : j = k ∧ r = p ++ [(f : Int)] := by simpa using hj
          rw [e.1, e.2]
          exact hl k rfl
      · rw [List.length_append, List.length_append]
        have := g.sz
        simp only [List.length_cons, List.length_nil]
        omega
      · rw [List.length_append, List.length_singleton]
        rcases List.mem_append.mp hj with hj | hj
        · have := g.pl j r hj
          omega
        · have e : j = k ∧ r = p ++ [(f : Int)] := by simpa using hj
          rw [e.2, List.length_append, List.length_singleton]
          omega
/-- later entries stand behind -/
def Ext (s t : St) : Prop := ∃ more, t.1 = s.1 ++ more
theorem Ext.rfl {s : St} : Ext s s := ⟨[], (List.append_nil _).symm⟩
theorem Ext.trans {s t u : St} (a : Ext s t) (b : Ext t u) : Ext s u := by
  obtain ⟨x, hx⟩ := a
  obtain ⟨y, hy⟩ := b
  exact ⟨x ++ y, by rw [hy, hx, List.append_assoc]⟩
theorem Ext.look {s t : St} (a : Ext s t) {k : Int} {p : List Int} (h : look s.1 k = some p) : look t.1 k = some p := by
  obtain ⟨m, e⟩ := a
  rw [e]
  exact look_app m h
theorem Ext.len {s t : St} (a : Ext s t) : s.1.length ≤ t.1.length := by
  obtain ⟨m, e⟩ := a
  rw [e, List.length_append]
  omega
theorem one_ext {p : List Int} {f : Nat} {c : D} {s : St} : Ext s (one p f c s) := by
  unfold one
  split
  · split
    · exact .rfl
    · exact ⟨_, rfl⟩
  · exact .rfl
theorem row_ext {p : List Int} : ∀ {xs : List D} {f : Nat} {s : St}, Ext s (row p xs f s)
  | [], _, _ => .rfl
  | x :: xs, f, s => one_ext.trans (row_ext (xs := xs))
theorem walk_ext {rows : List D} : ∀ {xs : List Int} {s : St}, Ext s (walk rows xs s)
  | [], _ => .rfl
  | x :: xs, s => row_ext.trans (walk_ext (xs := xs))
theorem row_good {cells rows : List D} {p : List Int} {ys : List D} (h : ∀ d ∈ ys, okc rows.length d) (hl : ∀ (f : Nat) k, ys[f]? = some (.int k) → Leads cells rows (p ++ [(f : Int)]) k) :
    ∀ {xs : List D} {f : Nat} {s : St}, (∀ i, xs[i]? = ys[f + i]?) → p.length ≤ s.1.length → Good cells rows s → Good cells rows (row p xs f s)
  | [], _, _, _, _, g => g
  | x :: xs, f, s, e, hp, g => by
    have e0 : ys[f]? = some x := (e 0).symm
    refine row_good h hl (xs := xs) (f := f + 1) (fun i => ?_) (Nat.le_trans hp one_ext.len) (g.one (h x (List.mem_of_getElem? e0)) hp fun k hk => hl f k (by rw [e0, hk]))
    have := e (i + 1)
    rw [List.getElem?_cons_succ] at this
    rw [this]
    congr 1
    omega
theorem Leads.more {cells rows : List D} {p : List Int} {y k : Int} {f : Nat} (h : Leads cells rows p y) (a : (outs rows y)[f]? = some (.int k)) : Leads cells rows (p ++ [(f : Int)]) k := by
  obtain ⟨r, fs, j, rfl, h1, h2⟩ := h
  exact ⟨r, fs ++ [(f : Int)], j, rfl, h1, h2.snoc a⟩
theorem walk_good {cells rows : List D} {w : Int} (hr : wRows w rows.length rows) : ∀ {xs : List Int} {s : St}, (∀ y ∈ xs, y ∈ s.1.map (·.1)) → Good cells rows s → Good cells rows (walk rows xs s)
  | [], _, _, g => g
  | y :: xs, s, h, g => by
    have hy := h y List.mem_cons_self
    obtain ⟨p, hp⟩ := mem_look hy
    obtain ⟨y0, y1⟩ := g.rg y hy
    have ok : ∀ d ∈ outs rows y, okc rows.length d := fun d hd => by
      unfold outs at hd
      split at hd
      · rename_i cs e
        obtain ⟨cs', e', _, ok⟩ := hr _ (List.mem_of_getElem? e)
        cases e'
        exact ok d hd
      · cases hd
    refine walk_good hr (xs := xs) (fun z hz => ?_) (row_good (ys := outs rows y) ok (fun f k e => ?_) (fun i => by rw [Nat.zero_add]) (by unfold pathOf; rw [hp]; exact g.pl y p (look_mem hp)) g)
    · obtain ⟨q, hq⟩ := mem_look (h z (List.mem_cons_of_mem _ hz))
      exact List.mem_map.mpr ⟨_, look_mem ((row_ext (s := s)).look hq), rfl⟩
    · unfold pathOf
      rw [hp]
      exact (g.ld y p (look_mem hp)).more e
theorem turn_good {cells rows : List D} {w : Int} (hr : wRows w rows.length rows) {s : St} (g : Good cells rows s) : Good cells rows (turn rows s) := walk_good hr g.sub ⟨g.nd, g.rg, fun k hk => (nomatch hk), g.ld, Nat.zero_le _, g.pl⟩
theorem first_good {cells rows : List D} (hc : ∀ d ∈ cells, okc rows.length d) : Good cells rows (first cells) :=
  row_good (p := []) (ys := cells) hc (fun f k e => ⟨f, [], k, rfl, e, .nil⟩) (fun i => by rw [Nat.zero_add]) (Nat.zero_le _) ⟨List.nodup_nil, (fun k hk => nomatch hk), (fun k hk => nomatch hk), (fun k p hk => nomatch hk), Nat.le_refl _, (fun k p hk => nomatch hk)⟩
theorem turns_good {cells rows : List D} {w : Int} (hr : wRows w rows.length rows) {s : St} (g : Good cells rows s) : ∀ n, Good cells rows (turns rows n s)
  | 0 => g
  | n + 1 => turn_good hr (turns_good hr g n)
theorem turns_ext {rows : List D} {s : St} : ∀ {n m : Nat}, n ≤ m → Ext (turns rows n s) (turns rows m s) := by
  intro n m h
  induction m with
  | zero =>
    rw [show n = 0 by omega]
    exact .rfl
  | succ m ih =>
    by_cases e : n = m + 1
    · rw [e]
      exact .rfl
    · exact (ih (by omega)).trans ⟨_, (walk_ext (s := ((turns rows m s).1, []))).choose_spec⟩
theorem turns_end {rows : List D} {s : St} {n : Nat} (h : (turns rows n s).2 = []) : ∀ m, n ≤ m → turns rows m s = turns rows n s := by
  intro m hm
  induction m with
  | zero => rw [show n = 0 by omega]
  | succ m ih =>
    by_cases e : n = m + 1
    · rw [e]
    · have := ih (by omega)
      show turn rows (turns rows m s) = _
      rw [this]
      unfold turn
      rw [h]
      show ((turns rows n s).1, ([] : List Int)) = _
      rw [← h]
/-- a turn that finds nothing ends; else there are more entries -/
theorem one_grow {p : List Int} {f : Nat} {c : D} {s : St} : (one p f c s).1.length + s.2.length = s.1.length + (one p f c s).2.length := by
  unfold one
  split
  · split
    · rfl
    · simp only [List.length_append, List.length_cons, List.length_nil]
      omega
  · rfl
theorem row_grow {p : List Int} : ∀ {xs : List D} {f : Nat} {s : St}, (row p xs f s).1.length + s.2.length = s.1.length + (row p xs f s).2.length
  | [], _, _ => rfl
  | x :: xs, f, s => by
    have a := row_grow (p := p) (xs := xs) (f := f + 1) (s := one p f x s)
    have b := one_grow (p := p) (f := f) (c := x) (s := s)
    show (row p xs (f + 1) (one p f x s)).1.length + _ = _ + (row p xs (f + 1) (one p f x s)).2.length
    omega
theorem walk_grow {rows : List D} : ∀ {xs : List Int} {s : St}, (walk rows xs s).1.length + s.2.length = s.1.length + (walk rows xs s).2.length
  | [], _ => rfl
  | x :: xs, s => by
    have a := walk_grow (rows := rows) (xs := xs) (s := row (pathOf s x) (outs rows x) 0 s)
    have b := row_grow (p := pathOf s x) (xs := outs rows x) (f := 0) (s := s)
    show (walk rows xs (row (pathOf s x) (outs rows x) 0 s)).1.length + _ = _ + (walk rows xs (row (pathOf s x) (outs rows x) 0 s)).2.length
    omega
theorem keys_one {p : List Int} {f : Nat} {c : D} {s : St} (h : s.2 = s.1.map (·.1)) : (one p f c s).2 = (one p f c s).1.map (·.1) := by
  unfold one
  split
  · split
    · exact h
    · simp [h]
  · exact h
theorem keys_row {p : List Int} : ∀ {xs : List D} {f : Nat} {s : St}, s.2 = s.1.map (·.1) → (row p xs f s).2 = (row p xs f s).1.map (·.1)
  | [], _, _, h => h
  | x :: xs, f, s, h => keys_row (xs := xs) (keys_one h)
theorem keys_first {cells : List D} : (first cells).2 = (first cells).1.map (·.1) := keys_row rfl
theorem turn_grow {rows : List D} {s : St} : (turn rows s).1.length = s.1.length + (turn rows s).2.length := by
  have := walk_grow (rows := rows) (xs := s.2) (s := (s.1, []))
  exact this
end K13
namespace PV
open PySem PySem.Spec PyProof.Rows L2 VK
theorem forL_step {t : Tg} {f : M Fl} {d : D} {r : List D} {ρ ρ1 ρ2 : En} (h1 : t.to d ρ = some ρ1) (h2 : f ρ1 = .val .nx ρ2) : forL t f (d :: r) ρ = forL t f r ρ2 := by
  rw [forL_cons, h1]
  show (f ρ1).bind _ = _
  rw [h2]
  rfl
@[simp] theorem keyOf_int {i : Int} : keyOf (.int i) = some (.inl i) := rfl
theorem stoDR_own {i : Nat} {ρ : En} {es : List (D × D)} {k : Int} {d : D} (h : ρ.at i = .own (.dic es)) (hz : es.length ≤ 1000000) : stoDR i (some (.dic es)) (.int k) d ρ = .val .nx (ρ.set i (.own (.dic (putE es (.inl k) d)))) := by
  unfold stoDR
  simp only [keyOf_int]
  rw [if_pos (by have := small_r (n := es.length + 1) ; exact Nat.lt_of_le_of_lt hz (by decide)), h]
  rfl
end PV
namespace K13
open PySem PySem.Spec PyProof.Rows L2 VK PV
theorem one_non {p : List Int} {f : Nat} {s : St} : one p f .non s = s := rfl
theorem one_in {p : List Int} {f : Nat} {s : St} {k : Int} {v : List Int} (h : look s.1 k = some v) : one p f (.int k) s = s := by
  show (if (look s.1 k).isSome = true then s else _) = s
  rw [h]
  rfl
theorem one_new {p : List Int} {f : Nat} {s : St} {k : Int} (h : look s.1 k = none) : one p f (.int k) s = (s.1 ++ [(k, p ++ [(f : Int)])], s.2 ++ [k]) := by
  show (if (look s.1 k).isSome = true then s else _) = _
  rw [h]
  rfl
theorem one_len {p : List Int} {f : Nat} {c : D} {s : St} : (one p f c s).1.length ≤ s.1.length + 1 ∧ (one p f c s).2.length ≤ s.2.length + 1 := by
  unfold one
  split
  · split
    · omega
    · simp
  · omega
section
variable {h rg x fl x7 x8 x9 x10 : Sl} {z : Int}
theorem init_1 {s : St} {f : Nat} {c : D} (hc : okc z c) (hl : s.1.length ≤ 1000) : B_path_to_1 [h, rg, x, fl, .own (.dic (enc gP s.1)), .sh (.int f), .sh c, x7, x8, x9, x10] = .val .nx [h, rg, x, fl, .own (.dic (enc gP (one [] f c s).1)), .sh (.int f), .sh c, x7, x8, x9, x10] := by
  rcases hc with e | ⟨k, e, _, _⟩ <;> subst e
  · rw [one_non]
    simp -implicitDefEqProofs [B_path_to_1, sIf_r, isN]
  · cases q : look s.1 k with
    | some v =>
      rw [one_in q]
      simp -implicitDefEqProofs [B_path_to_1, sIf_r, isN, lookD_enc, q]
    | none =>
      rw [one_new q]
      have pn := putE_new (g := gP) (p := [(f : Int)]) q
      have st : ∀ ρ : En, ρ.at 4 = .own (.dic (enc gP s.1)) → stoDR 4 (some (.dic (enc gP s.1))) (.int k) (.tup [.int f]) ρ = .val .nx (ρ.set 4 (.own (.dic (enc gP (s.1 ++ [(k, [(f : Int)])]))))) := fun ρ hρ => by
        rw [stoDR_own hρ (by rw [enc_len]; omega), ← pn]
        rfl
      simp -implicitDefEqProofs [B_path_to_1, sIf_r, isN, lookD_enc, q, sStoD_r, st, sl_small (n := 1) (by decide)]
theorem init_r : ∀ (xs : List D) (f : Nat) (s : St) (x5 x6 : Sl), (∀ d ∈ xs, okc z d) → s.1.length + xs.length ≤ 1000 →
    ∃ y5 y6, forL (gTu [gNm 5, gNm 6]) B_path_to_1 (enumL f xs) [h, rg, x, fl, .own (.dic (enc gP s.1)), x5, x6, x7, x8, x9, x10] = .val .nx [h, rg, x, fl, .own (.dic (enc gP (row [] xs f s).1)), y5, y6, x7, x8, x9, x10]
  | [], f, s, x5, x6, _, _ => ⟨x5, x6, rfl⟩
  | c :: xs, f, s, x5, x6, hc, hl => by
    rw [List.length_cons] at hl
    have ol := (one_len (p := []) (f := f) (c := c) (s := s)).1
    obtain ⟨y5, y6, e⟩ := init_r xs (f + 1) (one [] f c s) (.sh (.int f)) (.sh c) (fun d hd => hc d (List.mem_cons_of_mem _ hd)) (by omega)
    refine ⟨y5, y6, ?_⟩
    rw [show enumL f (c :: xs) = .tup [.int f, c] :: enumL (f + 1) xs from rfl, forL_step to_tu2 (init_1 (hc c List.mem_cons_self) (by omega)), e]
    rfl
theorem row_1 {s : St} {f : Nat} {c : D} {y : Int} {p : List Int} {x5 : Sl} (hc : okc z c) (hl : s.1.length ≤ 1000) (hl2 : s.2.length ≤ 1000) (hp : look s.1 y = some p) (hpl : p.length ≤ 1000) :
    B_path_to_2 [h, rg, x, fl, .own (.dic (enc gP s.1)), x5, .sh c, x7, .own (.lst (s.2.map .int)), .sh (.int y), .sh (.int f)] = .val .nx [h, rg, x, fl, .own (.dic (enc gP (one p f c s).1)), x5, .sh c, x7, .own (.lst ((one p f c s).2.map .int)), .sh (.int y), .sh (.int f)] := by
  rcases hc with e | ⟨k, e, _, _⟩ <;> subst e
  · rw [one_non]
    simp -implicitDefEqProofs [B_path_to_2, sIf_r, isN]
  · cases q : look s.1 k with
    | some v =>
      rw [one_in q]
      simp -implicitDefEqProofs [B_path_to_2, sIf_r, isN, lookD_enc, q]
    | none =>
      rw [one_new q]
      have pn := putE_new (g := gP) (p := p ++ [(f : Int)]) q
      have ap : gApp (.lst (s.2.map .int)) [.int k] = some (.non, .lst (s.2.map .int ++ [.int k])) := gApp_r (by simp; omega)
      have pl : gPlus (gP p) (.tup [.int f]) = some (gP (p ++ [(f : Int)])) := by
        unfold gP
        rw [gPlus_tup (by simp; omega), List.map_append]
        rfl
      have st : ∀ ρ : En, ρ.at 4 = .own (.dic (enc gP s.1)) → stoDR 4 (some (.dic (enc gP s.1))) (.int k) (gP (p ++ [(f : Int)])) ρ = .val .nx (ρ.set 4 (.own (.dic (enc gP (s.1 ++ [(k, p ++ [(f : Int)])]))))) := fun ρ hρ => by
        rw [stoDR_own hρ (by rw [enc_len]; omega), ← pn]
      simp -implicitDefEqProofs [B_path_to_2, sIf_r, sSeq_r, isN, lookD_enc, q, hp, sStoD_r, st, pl, ap, sl_small (n := 1) (by decide)]
theorem prow_r {y : Int} {p : List Int} {x5 : Sl} (hpl : p.length ≤ 1000) : ∀ (xs : List D) (f : Nat) (s : St) (x6 x10 : Sl), (∀ d ∈ xs, okc z d) → s.1.length + xs.length ≤ 1000 → s.2.length + xs.length ≤ 1000 → look s.1 y = some p →
    ∃ y6 y10, forL (gTu [gNm 10, gNm 6]) B_path_to_2 (enumL f xs) [h, rg, x, fl, .own (.dic (enc gP s.1)), x5, x6, x7, .own (.lst (s.2.map .int)), .sh (.int y), x10] = .val .nx [h, rg, x, fl, .own (.dic (enc gP (row p xs f s).1)), x5, y6, x7, .own (.lst ((row p xs f s).2.map .int)), .sh (.int y), y10]
  | [], f, s, x6, x10, _, _, _, _ => ⟨x6, x10, rfl⟩
  | c :: xs, f, s, x6, x10, hc, hl, hl2, hp => by
    rw [List.length_cons] at hl hl2
    have ol := one_len (p := p) (f := f) (c := c) (s := s)
    obtain ⟨y6, y10, e⟩ := prow_r hpl xs (f + 1) (one p f c s) (.sh c) (.sh (.int f)) (fun d hd => hc d (List.mem_cons_of_mem _ hd)) (by omega) (by omega) (one_ext.look hp)
    refine ⟨y6, y10, ?_⟩
    rw [show enumL f (c :: xs) = .tup [.int f, c] :: enumL (f + 1) xs from rfl, forL_step to_tu2 (row_1 (hc c List.mem_cons_self) (by omega) (by omega) hp hpl), e]
    rfl
end
theorem wr_outs {w : Int} {rows : List D} (hr : wRows w rows.length rows) {y : Int} (y0 : 0 ≤ y) (y1 : y < rows.length) : ∃ cs, gIx (.tup rows) (.int y) = some (.tup cs) ∧ outs rows y = cs ∧ cs.length = w.toNat ∧ ∀ d ∈ cs, okc rows.length d := by
  obtain ⟨r, r1, r2, r3⟩ := ixT_r (xs := rows) y0 y1
  obtain ⟨cs, rfl, c4, cok⟩ := hr r r2
  exact ⟨cs, r3, outs_at r1, c4, cok⟩
section
variable {h rg x x5 x7 : Sl} {cells rows : List D} {w : Int}
theorem pwalk_r (hr : wRows w rows.length rows) (hw : w ≤ 4) (hz : rows.length ≤ 40) : ∀ (ys : List Int) (s : St) (x6 x9 x10 : Sl), (∀ y ∈ ys, y ∈ s.1.map (·.1)) → Good cells rows s →
    ∃ y6 y9 y10, forL (gNm 9) B_path_to_3 (ys.map .int) [h, rg, x, .sh (.tup rows), .own (.dic (enc gP s.1)), x5, x6, x7, .own (.lst (s.2.map .int)), x9, x10] = .val .nx [h, rg, x, .sh (.tup rows), .own (.dic (enc gP (walk rows ys s).1)), x5, y6, x7, .own (.lst ((walk rows ys s).2.map .int)), y9, y10]
  | [], s, x6, x9, x10, _, _ => ⟨x6, x9, x10, rfl⟩
  | y :: ys, s, x6, x9, x10, hy, g => by
    obtain ⟨p, hp⟩ := mem_look (hy y List.mem_cons_self)
    obtain ⟨y0, y1⟩ := g.rg y (hy y List.mem_cons_self)
    obtain ⟨cs, c1, c2, c3, c4⟩ := wr_outs hr y0 y1
    have gl := g.le
    have gs := g.sz
    have pl := g.pl y p (look_mem hp)
    have po : pathOf s y = p := by
      unfold pathOf
      rw [hp]
      rfl
    obtain ⟨y6, y10, e⟩ := prow_r (h := h) (rg := rg) (x := x) (fl := .sh (.tup rows)) (x7 := x7) (x5 := x5) (y := y) (p := p) (by omega) cs 0 s x6 x10 c4 (by omega) (by omega) hp
    have g2 : Good cells rows (row p cs 0 s) := by
      have := walk_good hr (xs := [y]) (s := s) (fun z hz => by rw [List.mem_singleton.mp hz]; exact hy y List.mem_cons_self) g
      unfold walk at this
      rw [po, c2] at this
      exact this
    obtain ⟨z6, z9, z10, e2⟩ := pwalk_r hr hw hz ys (row p cs 0 s) y6 (.sh (.int y)) y10 (fun k hk => by
      obtain ⟨q, hq⟩ := mem_look (hy k (List.mem_cons_of_mem _ hk))
      exact List.mem_map.mpr ⟨_, look_mem ((row_ext (s := s)).look hq), rfl⟩) g2
    refine ⟨z6, z9, z10, ?_⟩
    have st : B_path_to_3 [h, rg, x, .sh (.tup rows), .own (.dic (enc gP s.1)), x5, x6, x7, .own (.lst (s.2.map .int)), .sh (.int y), x10] = .val .nx [h, rg, x, .sh (.tup rows), .own (.dic (enc gP (row p cs 0 s).1)), x5, y6, x7, .own (.lst ((row p cs 0 s).2.map .int)), .sh (.int y), y10] := by
      simp -implicitDefEqProofs [B_path_to_3, sFor_r, c1, e]
    rw [List.map_cons, forL_step to_nm st, e2]
    show _ = Res.val Fl.nx [h, rg, x, .sh (.tup rows), .own (.dic (enc gP (walk rows ys (row (pathOf s y) (outs rows y) 0 s)).1)), x5, z6, x7, .own (.lst ((walk rows ys (row (pathOf s y) (outs rows y) 0 s)).2.map .int)), z9, z10]
    rw [po, c2]
end
end K13
namespace K13
open PySem PySem.Spec PyProof.Rows L2 VK PV
def dLen (ρ : En) (i : Nat) : Nat := match ρ.at i with
  | .own (.dic es) => es.length
  | _ => 0
def lLen (ρ : En) (i : Nat) : Nat := match ρ.at i with
  | .sh (.lst es) => if es.length = 0 then 0 else 1
  | _ => 0
theorem num_r {d : D} : M_is_number [d] = .val (.bl (isInt d.py && !isBool d.py)) [] ∨ d.dat = false := by
  cases h : d.dat with
  | false => exact .inr rfl
  | true =>
    refine .inl (runM_eq ?_)
    have e1 : gIsi [d, .ty "int"] = some (.bl (isInt d.py)) := by simp [gIsi, isTy, h]
    have e2 : gIsi [d, .ty "bool"] = some (.bl (isBool d.py)) := by simp [gIsi, isTy, h]
    cases c : isInt d.py <;> simp -implicitDefEqProofs [F_is_number, stE, e1, e2, c]
theorem idx_int {i n : Int} : M_is_index [.int i, .int n] = .val (.bl (decide (0 ≤ i ∧ i < n))) [] := by
  have e1 : M_is_number [.int i] = .val (.bl true) [] := by
    rcases num_r (d := .int i) with e | e
    · exact e
    · cases e
  refine runM_eq ?_
  by_cases h0 : 0 ≤ i
  · simp -implicitDefEqProofs [F_is_index, stE, e1, h0]
  · simp -implicitDefEqProofs [F_is_index, stE, e1, h0]
section
variable {cells rows : List D} {w x : Int}
theorem pturn_r (hr : wRows w rows.length rows) (hw : w ≤ 4) (hz : rows.length ≤ 40) {h rg x2 x5 x6 x8 x9 x10 : Sl} {s : St} (g : Good cells rows s) :
    ∃ y6 y8 y9 y10, B_path_to_4 [h, rg, x2, .sh (.tup rows), .own (.dic (enc gP s.1)), x5, x6, .sh (.lst (s.2.map .int)), x8, x9, x10] = .val .nx [h, rg, x2, .sh (.tup rows), .own (.dic (enc gP (turn rows s).1)), x5, y6, .sh (.lst ((turn rows s).2.map .int)), y8, y9, y10] := by
  obtain ⟨y6, y9, y10, e⟩ := pwalk_r (h := h) (rg := rg) (x := x2) (x5 := x5) (x7 := .sh (.lst (s.2.map .int))) (cells := cells) hr hw hz s.2 (s.1, []) x6 x9 x10 g.sub ⟨g.nd, g.rg, fun k hk => (nomatch hk), g.ld, Nat.zero_le _, g.pl⟩
  have e' : forL (gNm 9) B_path_to_3 (s.2.map .int) [h, rg, x2, .sh (.tup rows), .own (.dic (enc gP s.1)), x5, x6, .sh (.lst (s.2.map .int)), .own (.lst []), x9, x10] = _ := e
  have r1 : (walk rows s.2 (s.1, [])) = turn rows s := rfl
  rw [r1] at e'
  refine ⟨y6, .sh (.lst ((turn rows s).2.map .int)), y9, y10, ?_⟩
  simp -implicitDefEqProofs [B_path_to_4, sSeq_r, sFor_r, e']
theorem path_r (hr : wRows w rows.length rows) (hw : w ≤ 4) (hz : rows.length ≤ 40) (hc : ∀ d ∈ cells, okc rows.length d) (hl : cells.length ≤ 100) (x0 : 0 ≤ x) (x1 : x < rows.length) :
    ∃ n, M_path_to [.tup [.int w, .tup rows], .tup cells, .int x] = .val (((look (turns rows n (first cells)).1 x).map gP).getD .non) [] ∧ ((turns rows n (first cells)).2 = [] ∨ (look (turns rows n (first cells)).1 x).isSome = true) := by
  have ix : gIx (.tup [.int w, .tup rows]) (.int 1) = some (.tup rows) := rfl
  have i1 := idx_int (i := x) (n := rows.length)
  rw [decide_eq_true (show 0 ≤ x ∧ x < (rows.length : Int) from ⟨x0, x1⟩)] at i1
  have tb : ∀ ρ, truR (some (.bl true)) ρ = .val true ρ := fun _ => rfl
  obtain ⟨y5, y6, e1⟩ := init_r (h := .sh (.tup [.int w, .tup rows])) (rg := .sh (.tup cells)) (x := .sh (.int x)) (fl := .sh (.tup rows)) (x7 := .no) (x8 := .no) (x9 := .no) (x10 := .no) cells 0 ([], []) .no .no hc (by simp; omega)
  have e1' : forL (gTu [gNm 5, gNm 6]) B_path_to_1 (enumL 0 cells) [.sh (.tup [.int w, .tup rows]), .sh (.tup cells), .sh (.int x), .sh (.tup rows), .own (.dic []), .no, .no, .no, .no, .no, .no] = .val .nx [.sh (.tup [.int w, .tup rows]), .sh (.tup cells), .sh (.int x), .sh (.tup rows), .own (.dic (enc gP (first cells).1)), y5, y6, .no, .no, .no, .no] := e1
  have ks : (enc gP (first cells).1).map (·.1) = (first cells).2.map .int := by rw [enc_keys, keys_first]
  have g0 := first_good (cells := cells) (rows := rows) hc
  have := runM_ex (ms := [false, false, false]) (n := 11) (f := F_path_to) (ds := [.tup [.int w, .tup rows], .tup cells, .int x]) (P := fun d cs => cs = [] ∧ ∃ n, d = ((look (turns rows n (first cells)).1 x).map gP).getD .non ∧ ((turns rows n (first cells)).2 = [] ∨ (look (turns rows n (first cells)).1 x).isSome = true)) ?_
  · obtain ⟨d, cs, e, rfl, n, rfl, h⟩ := this
    exact ⟨n, e, h⟩
  · simp -implicitDefEqProofs [F_path_to, stE, ix, i1, tb, kFor_r, e1', ks]
    refine ok_wh (fun ρ => ∃ (n : Nat) (x5 x6 x8 x9 x10 : Sl), ρ = [.sh (.tup [.int w, .tup rows]), .sh (.tup cells), .sh (.int x), .sh (.tup rows), .own (.dic (enc gP (turns rows n (first cells)).1)), x5, x6, .sh (.lst ((turns rows n (first cells)).2.map .int)), x8, x9, x10])
      (fun ρ => 2 * (rows.length - dLen ρ 4) + lLen ρ 7) ⟨0, _, _, _, _, _, rfl⟩ (by have : lLen [.sh (.tup [.int w, .tup rows]), .sh (.tup cells), .sh (.int x), .sh (.tup rows), .own (.dic (enc gP (first cells).1)), y5, y6, .sh (.lst ((first cells).2.map .int)), .no, .no, .no] 7 ≤ 1 := (by unfold lLen; simp only [En.at]; split <;> omega); omega) ?_
    rintro ρ ⟨n, x5, x6, x8, x9, x10, rfl⟩
    have g := turns_good hr g0 n
    generalize hs : turns rows n (first cells) = s at *
    have tl : ∀ (xs : List D) (ρ : En), truR (some (.lst xs)) ρ = .val (!xs.isEmpty) ρ := fun _ _ => rfl
    by_cases hn : s.2 = []
    · have e0 : (s.2.map D.int).isEmpty = true := by rw [hn]; rfl
      simp -implicitDefEqProofs [tl, e0, lookD_enc]
      exact ⟨n, by rw [hs], .inl (by rw [hs]; exact hn)⟩
    · have hne : (s.2.map D.int).isEmpty = false := by
        cases h : s.2 with
        | nil => exact (hn h).elim
        | cons _ _ => rfl
      cases q : look s.1 x with
      | some v =>
        simp -implicitDefEqProofs [tl, hne, lookD_enc, q]
        exact ⟨n, by rw [hs, q]; rfl, .inr (by rw [hs, q]; rfl)⟩
      | none =>
        obtain ⟨y6, y8, y9, y10, e2⟩ := pturn_r (h := .sh (.tup [.int w, .tup rows])) (rg := .sh (.tup cells)) (x2 := .sh (.int x)) (x5 := x5) (x6 := x6) (x8 := x8) (x9 := x9) (x10 := x10) hr hw hz g
        have g2 := turn_good hr g
        have gr := turn_grow (rows := rows) (s := s)
        have l2 := g2.le
        simp -implicitDefEqProofs [tl, hne, lookD_enc, q, e2]
        have ht : turns rows (n + 1) (first cells) = turn rows s := by
          show turn rows (turns rows n (first cells)) = _
          rw [hs]
        refine ⟨⟨n + 1, by rw [ht]; simp⟩, ?_⟩
        have d1 : dLen [.sh (.tup [.int w, .tup rows]), .sh (.tup cells), .sh (.int x), .sh (.tup rows), .own (.dic (enc gP (turn rows s).1)), x5, y6, .sh (.lst ((turn rows s).2.map .int)), y8, y9, y10] 4 = (turn rows s).1.length := enc_len
        have d2 : dLen [.sh (.tup [.int w, .tup rows]), .sh (.tup cells), .sh (.int x), .sh (.tup rows), .own (.dic (enc gP s.1)), x5, x6, .sh (.lst (s.2.map .int)), x8, x9, x10] 4 = s.1.length := enc_len
        have d3 : lLen [.sh (.tup [.int w, .tup rows]), .sh (.tup cells), .sh (.int x), .sh (.tup rows), .own (.dic (enc gP (turn rows s).1)), x5, y6, .sh (.lst ((turn rows s).2.map .int)), y8, y9, y10] 7 ≤ (turn rows s).2.length := by
          show (if ((turn rows s).2.map D.int).length = 0 then 0 else 1) ≤ _
          rw [List.length_map]
          split <;> omega
        have d3' : lLen [.sh (.tup [.int w, .tup rows]), .sh (.tup cells), .sh (.int x), .sh (.tup rows), .own (.dic (enc gP (turn rows s).1)), x5, y6, .sh (.lst ((turn rows s).2.map .int)), y8, y9, y10] 7 ≤ 1 := by
          show (if ((turn rows s).2.map D.int).length = 0 then 0 else 1) ≤ 1
          split <;> omega
        have d4 : lLen [.sh (.tup [.int w, .tup rows]), .sh (.tup cells), .sh (.int x), .sh (.tup rows), .own (.dic (enc gP s.1)), x5, x6, .sh (.lst (s.2.map .int)), x8, x9, x10] 7 = 1 := by
          show (if (s.2.map D.int).length = 0 then 0 else 1) = 1
          rw [if_neg (by rw [List.length_map]; intro z; exact hn (List.eq_nil_of_length_eq_zero z))]
        rw [d1, d2, d4]
        by_cases z0 : (turn rows s).2.length = 0 <;> omega
end
end K13
namespace K13
open PySem PySem.Spec PyProof.Rows L2 VK PV
theorem gL_snoc {p : List Int} {f : Int} : gL (p ++ [f]) = .int ((p.length : Int) + 1) := by simp [gL]
section
variable {ob sp x4 : Sl} {z : Int}
theorem lv_1 {s : St} {f : Nat} {c : D} {y : Int} {p : List Int} (hc : okc z c) (hl : s.1.length ≤ 1000) (hl2 : s.2.length ≤ 1000) (hp : look s.1 y = some p) :
    B_law_levels_1 [ob, sp, .sh (.int y), .own (.dic (enc gL s.1)), x4, .own (.lst (s.2.map .int)), .sh c] = .val .nx [ob, sp, .sh (.int y), .own (.dic (enc gL (one p f c s).1)), x4, .own (.lst ((one p f c s).2.map .int)), .sh c] := by
  rcases hc with e | ⟨k, e, _, _⟩ <;> subst e
  · rw [one_non]
    simp -implicitDefEqProofs [B_law_levels_1, sIf_r, isN]
  · cases q : look s.1 k with
    | some v =>
      rw [one_in q]
      simp -implicitDefEqProofs [B_law_levels_1, sIf_r, isN, lookD_enc, q]
    | none =>
      rw [one_new q]
      have pn := putE_new (g := gL) (p := p ++ [(f : Int)]) q
      have ap : gApp (.lst (s.2.map .int)) [.int k] = some (.non, .lst (s.2.map .int ++ [.int k])) := gApp_r (by simp; omega)
      have pl : gPlus (gL p) (.int 1) = some (.int ((p.length : Int) + 1)) := rfl
      have st : ∀ ρ : En, ρ.at 3 = .own (.dic (enc gL s.1)) → stoDR 3 (some (.dic (enc gL s.1))) (.int k) (.int ((p.length : Int) + 1)) ρ = .val .nx (ρ.set 3 (.own (.dic (enc gL (s.1 ++ [(k, p ++ [(f : Int)])]))))) := fun ρ hρ => by
        rw [stoDR_own hρ (by rw [enc_len]; omega), ← pn, gL_snoc]
      simp -implicitDefEqProofs [B_law_levels_1, sIf_r, sSeq_r, isN, lookD_enc, q, hp, sStoD_r, st, pl, ap]
theorem lv_row {y : Int} {p : List Int} : ∀ (xs : List D) (f : Nat) (s : St) (x6 : Sl), (∀ d ∈ xs, okc z d) → s.1.length + xs.length ≤ 1000 → s.2.length + xs.length ≤ 1000 → look s.1 y = some p →
    ∃ y6, forL (gNm 6) B_law_levels_1 xs [ob, sp, .sh (.int y), .own (.dic (enc gL s.1)), x4, .own (.lst (s.2.map .int)), x6] = .val .nx [ob, sp, .sh (.int y), .own (.dic (enc gL (row p xs f s).1)), x4, .own (.lst ((row p xs f s).2.map .int)), y6]
  | [], f, s, x6, _, _, _, _ => ⟨x6, rfl⟩
  | c :: xs, f, s, x6, hc, hl, hl2, hp => by
    rw [List.length_cons] at hl hl2
    have ol := one_len (p := p) (f := f) (c := c) (s := s)
    obtain ⟨y6, e⟩ := lv_row xs (f + 1) (one p f c s) (.sh c) (fun d hd => hc d (List.mem_cons_of_mem _ hd)) (by omega) (by omega) (one_ext.look hp)
    refine ⟨y6, ?_⟩
    rw [forL_step to_nm (lv_1 (f := f) (hc c List.mem_cons_self) (by omega) (by omega) hp), e]
    rfl
end
section
variable {sp x4 : Sl} {cells rows : List D} {w : Int}
theorem lv_walk (hr : wRows w rows.length rows) (hw : w ≤ 4) (hz : rows.length ≤ 40) : ∀ (ys : List Int) (s : St) (x2 x6 : Sl), (∀ y ∈ ys, y ∈ s.1.map (·.1)) → Good cells rows s →
    ∃ y2 y6, forL (gNm 2) B_law_levels_2 (ys.map .int) [.sh (.tup rows), sp, x2, .own (.dic (enc gL s.1)), x4, .own (.lst (s.2.map .int)), x6] = .val .nx [.sh (.tup rows), sp, y2, .own (.dic (enc gL (walk rows ys s).1)), x4, .own (.lst ((walk rows ys s).2.map .int)), y6]
  | [], s, x2, x6, _, _ => ⟨x2, x6, rfl⟩
  | y :: ys, s, x2, x6, hy, g => by
    obtain ⟨p, hp⟩ := mem_look (hy y List.mem_cons_self)
    obtain ⟨y0, y1⟩ := g.rg y (hy y List.mem_cons_self)
    obtain ⟨cs, c1, c2, c3, c4⟩ := wr_outs hr y0 y1
    have gl := g.le
    have gs := g.sz
    have po : pathOf s y = p := by
      unfold pathOf
      rw [hp]
      rfl
    obtain ⟨y6, e⟩ := lv_row (ob := .sh (.tup rows)) (sp := sp) (x4 := x4) (y := y) (p := p) cs 0 s x6 c4 (by omega) (by omega) hp
    have g2 : Good cells rows (row p cs 0 s) := by
      have := walk_good hr (xs := [y]) (s := s) (fun z hz => by rw [List.mem_singleton.mp hz]; exact hy y List.mem_cons_self) g
      unfold walk at this
      rw [po, c2] at this
      exact this
    obtain ⟨z2, z6, e2⟩ := lv_walk hr hw hz ys (row p cs 0 s) (.sh (.int y)) y6 (fun k hk => by
      obtain ⟨q, hq⟩ := mem_look (hy k (List.mem_cons_of_mem _ hk))
      exact List.mem_map.mpr ⟨_, look_mem ((row_ext (s := s)).look hq), rfl⟩) g2
    refine ⟨z2, z6, ?_⟩
    have st : B_law_levels_2 [.sh (.tup rows), sp, .sh (.int y), .own (.dic (enc gL s.1)), x4, .own (.lst (s.2.map .int)), x6] = .val .nx [.sh (.tup rows), sp, .sh (.int y), .own (.dic (enc gL (row p cs 0 s).1)), x4, .own (.lst ((row p cs 0 s).2.map .int)), y6] := by
      simp -implicitDefEqProofs [B_law_levels_2, sFor_r, c1, e]
    rw [List.map_cons, forL_step to_nm st, e2]
    show _ = Res.val Fl.nx [.sh (.tup rows), sp, z2, .own (.dic (enc gL (walk rows ys (row (pathOf s y) (outs rows y) 0 s)).1)), x4, .own (.lst ((walk rows ys (row (pathOf s y) (outs rows y) 0 s)).2.map .int)), z6]
    rw [po, c2]
theorem lv_turn (hr : wRows w rows.length rows) (hw : w ≤ 4) (hz : rows.length ≤ 40) {x2 x5 x6 : Sl} {s : St} (g : Good cells rows s) :
    ∃ y2 y5 y6, B_law_levels_3 [.sh (.tup rows), sp, x2, .own (.dic (enc gL s.1)), .sh (.lst (s.2.map .int)), x5, x6] = .val .nx [.sh (.tup rows), sp, y2, .own (.dic (enc gL (turn rows s).1)), .sh (.lst ((turn rows s).2.map .int)), y5, y6] := by
  obtain ⟨y2, y6, e⟩ := lv_walk (sp := sp) (x4 := .sh (.lst (s.2.map .int))) (cells := cells) hr hw hz s.2 (s.1, []) x2 x6 g.sub ⟨g.nd, g.rg, fun k hk => (nomatch hk), g.ld, Nat.zero_le _, g.pl⟩
  have e' : forL (gNm 2) B_law_levels_2 (s.2.map .int) [.sh (.tup rows), sp, x2, .own (.dic (enc gL s.1)), .sh (.lst (s.2.map .int)), .own (.lst []), x6] = _ := e
  have r1 : (walk rows s.2 (s.1, [])) = turn rows s := rfl
  rw [r1] at e'
  refine ⟨y2, .sh (.lst ((turn rows s).2.map .int)), y6, ?_⟩
  simp -implicitDefEqProofs [B_law_levels_3, sSeq_r, sFor_r, e']
theorem repl_same {k : Int} : ∀ {es : Ents}, (∀ j p, (j, p) ∈ es → p.length = 1) → replD (enc gL es) (.inl k) (.int 1) = enc gL es
  | [], _ => rfl
  | (j, p) :: r, h => by
    have ih := repl_same (k := k) (es := r) fun a b m => h a b (List.mem_cons_of_mem _ m)
    have hp := h j p List.mem_cons_self
    show (if (some (Sum.inl j) : Option Key) = some (.inl k) then (D.int j, D.int 1) else (.int j, gL p)) :: replD (enc gL r) (.inl k) (.int 1) = _
    rw [ih]
    have : gL p = .int 1 := by
      unfold gL
      rw [hp]
      rfl
    rw [this, ite_self]
    show _ = (D.int j, gL p) :: enc gL r
    rw [this]
theorem merge_first {z : Int} : ∀ {xs : List D} {f : Nat} {s : St}, (∀ d ∈ xs, okc z d) → (∀ j p, (j, p) ∈ s.1 → p.length = 1) → mergeE (enc gL s.1) ((nums xs).map fun k => ((.inl k : Key), D.int 1)) = enc gL (row [] xs f s).1
  | [], _, _, _, _ => rfl
  | c :: xs, f, s, hc, h1 => by
    have hx := fun d hd => hc d (List.mem_cons_of_mem c hd)
    rcases hc c List.mem_cons_self with e | ⟨k, e, _, _⟩ <;> subst e
    · exact merge_first (xs := xs) (f := f + 1) (s := s) hx h1
    · show mergeE (putE (enc gL s.1) (.inl k) (.int 1)) ((nums xs).map fun k => ((.inl k : Key), D.int 1)) = enc gL (row [] xs (f + 1) (one [] f (.int k) s)).1
      cases q : look s.1 k with
      | some v =>
        rw [one_in q, ← merge_first (xs := xs) (f := f + 1) (s := s) hx h1]
        congr 1
        unfold putE
        rw [lookD_enc, q]
        exact repl_same h1
      | none =>
        rw [one_new q, ← merge_first (xs := xs) (f := f + 1) (s := (s.1 ++ [(k, [] ++ [(f : Int)])], s.2 ++ [k])) hx fun j p m => by
          rcases List.mem_append.mp m with m | m
          · exact h1 j p m
          · have : j = k ∧ p = [] ++ [(f : Int)] := by simpa using m
            rw [this.2]
            rfl]
        congr 1
        exact putE_new (g := gL) (p := [] ++ [(f : Int)]) q
end
theorem pairs_r : ∀ ks : List Int, pairsD (ks.map fun k => D.tup [.int k, .int 1]) = some (ks.map fun k => ((.inl k : Key), D.int 1))
  | [] => rfl
  | k :: r => by
    show (match keyOf (.int k), pairsD (r.map fun k => D.tup [.int k, .int 1]) with | some k, some q => some ((k, D.int 1) :: q) | _, _ => none) = _
    rw [pairs_r r]
    rfl
end K13
namespace K13
open PySem PySem.Spec PyProof.Rows L2 VK PV
section
variable {cells rows : List D} {w x : Int}
theorem lc_ones {ρ : En} {cells : List D} {z : Int} (h : ∀ d ∈ cells, okc z d) (hl : cells.length ≤ 1000000) (hw : wipeE ρ [2] = ρ) (h2 : ∀ d, wipeE (ρ.set 2 (.sh d)) [2] = ρ) (h3 : ∀ d, En.at (ρ.set 2 (.sh d)) 2 = .sh d) :
    lcL [2] (gNm 2) (M.tb (eOp gNotN (eVar 2) (eC .non))) (eTup (eL1 (eVar 2) (eL1 (eC (.int 1)) eL0))) cells [] ρ = .val ((nums cells).map fun k => D.tup [.int k, .int 1]) ρ := by
  have := lc_map (ι := D) (vs := [2]) (t := gNm 2) (ft := M.tb (eOp gNotN (eVar 2) (eC .non))) (fe := eTup (eL1 (eVar 2) (eL1 (eC (.int 1)) eL0))) (e := id) (g := fun d => D.tup [d, .int 1]) (p := fun d => !isN d) hw cells []
    (fun d hd => ⟨ρ.set 2 (.sh d), ρ.set 2 (.sh d), to_nm, by simp [h3], h2 d, fun _ => ⟨ρ.set 2 (.sh d), by simp [h3, sl_small (n := 2) (by decide)], h2 d⟩⟩) (by have := small_r hl; simpa using this)
  rw [List.map_id, List.nil_append] at this
  rw [this]
  congr 1
  clear this hl
  induction cells with
  | nil => rfl
  | cons d r ih =>
    have ih := ih fun x hx => h x (List.mem_cons_of_mem _ hx)
    rcases h d List.mem_cons_self with e | ⟨k, e, _, _⟩ <;> subst e
    · rw [List.filter_cons_of_neg (by simp [isN])]
      exact ih
    · rw [List.filter_cons_of_pos (by simp [isN]), List.map_cons, ih]
      rfl
theorem levels_r (hr : wRows w rows.length rows) (hw : w ≤ 4) (hz : rows.length ≤ 40) (hc : ∀ d ∈ cells, okc rows.length d) (hl : cells.length ≤ 100) :
    ∃ m, M_law_levels [.tup rows, .tup cells] = .val (.dic (enc gL (turns rows m (first cells)).1)) [] ∧ (turns rows m (first cells)).2 = [] := by
  have lc := lc_ones (ρ := [.sh (.tup rows), .sh (.tup cells), .no, .no, .no, .no, .no]) hc (by omega) rfl (fun _ => rfl) (fun _ => rfl)
  have mg : mergeE [] ((nums cells).map fun k => ((.inl k : Key), D.int 1)) = enc gL (first cells).1 := merge_first (z := rows.length) (xs := cells) (f := 0) (s := ([], [])) hc (fun j p m => nomatch m)
  have dl : ∀ ρ, dicL (some [.lst ((nums cells).map fun k => D.tup [.int k, .int 1])]) ρ = .val (.dic (enc gL (first cells).1)) ρ := fun ρ => by rw [dicL_r (pairs_r _), mg]
  have ks : (enc gL (first cells).1).map (·.1) = (first cells).2.map .int := by rw [enc_keys, keys_first]
  have g0 := first_good (cells := cells) (rows := rows) hc
  have := runM_ex (ms := [false, false]) (n := 7) (f := F_law_levels) (ds := [.tup rows, .tup cells]) (P := fun d cs => cs = [] ∧ ∃ n, d = .dic (enc gL (turns rows n (first cells)).1) ∧ (turns rows n (first cells)).2 = []) ?_
  · obtain ⟨d, cs, e, rfl, n, rfl, h⟩ := this
    exact ⟨n, e, h⟩
  · simp -implicitDefEqProofs [F_law_levels, stE, lc, dl, ks]
    refine ok_wh (fun ρ => ∃ (n : Nat) (x2 x5 x6 : Sl), ρ = [.sh (.tup rows), .sh (.tup cells), x2, .own (.dic (enc gL (turns rows n (first cells)).1)), .sh (.lst ((turns rows n (first cells)).2.map .int)), x5, x6])
      (fun ρ => 2 * (rows.length - dLen ρ 3) + lLen ρ 4) ⟨0, _, _, _, rfl⟩ (by have : lLen [.sh (.tup rows), .sh (.tup cells), .no, .own (.dic (enc gL (first cells).1)), .sh (.lst ((first cells).2.map .int)), .no, .no] 4 ≤ 1 := (by unfold lLen; simp only [En.at]; split <;> omega); omega) ?_
    rintro ρ ⟨n, x2, x5, x6, rfl⟩
    have g := turns_good hr g0 n
    generalize hs : turns rows n (first cells) = s at *
    by_cases hn : s.2 = []
    · have e0 : (s.2.map D.int).isEmpty = true := by rw [hn]; rfl
      simp -implicitDefEqProofs [e0]
      exact ⟨n, by rw [hs], by rw [hs]; exact hn⟩
    · have hne : (s.2.map D.int).isEmpty = false := by
        cases h : s.2 with
        | nil => exact (hn h).elim
        | cons _ _ => rfl
      obtain ⟨y2, y5, y6, e2⟩ := lv_turn (sp := .sh (.tup cells)) (x2 := x2) (x5 := x5) (x6 := x6) hr hw hz g
      have g2 := turn_good hr g
      have gr := turn_grow (rows := rows) (s := s)
      have l2 := g2.le
      simp -implicitDefEqProofs [hne, e2]
      have ht : turns rows (n + 1) (first cells) = turn rows s := by
        show turn rows (turns rows n (first cells)) = _
        rw [hs]
      refine ⟨⟨n + 1, by rw [ht]; simp⟩, ?_⟩
      have d1 : dLen [.sh (.tup rows), .sh (.tup cells), y2, .own (.dic (enc gL (turn rows s).1)), .sh (.lst ((turn rows s).2.map .int)), y5, y6] 3 = (turn rows s).1.length := enc_len
      have d2 : dLen [.sh (.tup rows), .sh (.tup cells), x2, .own (.dic (enc gL s.1)), .sh (.lst (s.2.map .int)), x5, x6] 3 = s.1.length := enc_len
      have d3 : lLen [.sh (.tup rows), .sh (.tup cells), y2, .own (.dic (enc gL (turn rows s).1)), .sh (.lst ((turn rows s).2.map .int)), y5, y6] 4 ≤ (turn rows s).2.length := by
        show (if ((turn rows s).2.map D.int).length = 0 then 0 else 1) ≤ _
        rw [List.length_map]
        split <;> omega
      have d3' : lLen [.sh (.tup rows), .sh (.tup cells), y2, .own (.dic (enc gL (turn rows s).1)), .sh (.lst ((turn rows s).2.map .int)), y5, y6] 4 ≤ 1 := by
        show (if ((turn rows s).2.map D.int).length = 0 then 0 else 1) ≤ 1
        split <;> omega
      have d4 : lLen [.sh (.tup rows), .sh (.tup cells), x2, .own (.dic (enc gL s.1)), .sh (.lst (s.2.map .int)), x5, x6] 4 = 1 := by
        show (if (s.2.map D.int).length = 0 then 0 else 1) = 1
        rw [if_neg (by rw [List.length_map]; intro z; exact hn (List.eq_nil_of_length_eq_zero z))]
      rw [d1, d2, d4]
      by_cases z0 : (turn rows s).2.length = 0 <;> omega
/-- all that a path tells is a number, not negative -/
theorem end_1 {x0 x1 x2 x4 x5 : Sl} : ∀ (p : List Int) (x3 : Sl), (∀ i ∈ p, 0 ≤ i) → ∃ y3, forL (gNm 3) B_law_end_1 (p.map .int) [x0, x1, x2, x3, x4, x5] = .val .nx [x0, x1, x2, y3, x4, x5]
  | [], x3, _ => ⟨x3, rfl⟩
  | i :: p, x3, h => by
    have e1 : gIsi [.int i, .ty "int"] = some (.bl true) := rfl
    have e2 : gIsi [.int i, .ty "bool"] = some (.bl false) := rfl
    have e3 : decide (i < 0) = false := decide_eq_false (by have := h i List.mem_cons_self; omega)
    obtain ⟨y3, e⟩ := end_1 (x0 := x0) (x1 := x1) (x2 := x2) (x4 := x4) (x5 := x5) p (.sh (.int i)) fun j hj => h j (List.mem_cons_of_mem _ hj)
    refine ⟨y3, ?_⟩
    have st : B_law_end_1 [x0, x1, x2, .sh (.int i), x4, x5] = .val .nx [x0, x1, x2, .sh (.int i), x4, x5] := by
      simp -implicitDefEqProofs [B_law_end_1, sIf_r, e1, e2, e3]
    rw [List.map_cons, forL_step to_nm st, e]
theorem hop_nn {h k : Int} {fs : List Int} (a : Hop rows h fs k) : ∀ i ∈ fs, 0 ≤ i := by
  induction a with
  | nil => exact fun i hi => nomatch hi
  | cons _ _ ih =>
    intro i hi
    rcases List.mem_cons.mp hi with rfl | hi
    · omega
    · exact ih i hi
theorem end_2 {x1 x2 x3 : Sl} (hr : wRows w rows.length rows) (w0 : 0 ≤ w) {h k : Int} {fs : List Int} (a : Hop rows h fs k) : ∀ (x5 : Sl), 0 ≤ h → h < rows.length → ∃ y5, forL (gNm 5) B_law_end_2 (fs.map .int) [.sh (.tup [.int w, .tup rows]), x1, x2, x3, .sh (.int h), x5] = .val .nx [.sh (.tup [.int w, .tup rows]), x1, x2, x3, .sh (.int k), y5] := by
  induction a with
  | nil => exact fun x5 _ _ => ⟨x5, rfl⟩
  | cons a b ih =>
    rename_i h k j f fs
    intro x5 h0 h1
    obtain ⟨cs, c1, c2, c3, c4⟩ := wr_outs hr h0 h1
    rw [c2] at a
    have fl := (List.getElem?_eq_some_iff.mp a).1
    have kk : 0 ≤ k ∧ k < rows.length := by
      rcases c4 _ (List.mem_of_getElem? a) with z | ⟨i, e, i0, i1⟩
      · cases z
      · cases e
        exact ⟨i0, i1⟩
    obtain ⟨v, v1, _, v3⟩ := ixT_r (xs := cs) (r := (f : Int)) (by omega) (by omega)
    rw [Int.toNat_natCast, a] at v1
    cases v1
    have ix0 : gIx (.tup [.int w, .tup rows]) (.int 0) = some (.int w) := rfl
    have ix1 : gIx (.tup [.int w, .tup rows]) (.int 1) = some (.tup rows) := rfl
    have e3 : decide (w ≤ (f : Int)) = false := decide_eq_false (by omega)
    obtain ⟨y5, e⟩ := ih (.sh (.int f)) kk.1 kk.2
    refine ⟨y5, ?_⟩
    have st : B_law_end_2 [.sh (.tup [.int w, .tup rows]), x1, x2, x3, .sh (.int h), .sh (.int f)] = .val .nx [.sh (.tup [.int w, .tup rows]), x1, x2, x3, .sh (.int k), .sh (.int f)] := by
      simp -implicitDefEqProofs [B_law_end_2, sIf_r, sSeq_r, isN, ix0, ix1, e3, c1, v3]
    rw [List.map_cons, forL_step to_nm st, e]
theorem isi_tup {xs : List D} (hx : datL xs = true) : gIsi [.tup xs, .ty "tuple"] = some (.bl true) := by
  have : (D.tup xs).dat = true := hx
  simp [gIsi, isTy, this, D.py, VK.isTup]
theorem end_r (hr : wRows w rows.length rows) (w0 : 0 ≤ w) (hc : ∀ d ∈ cells, okc rows.length d) {p : List Int} {k : Int} (a : Leads cells rows p k) : M_law_end [.tup [.int w, .tup rows], .tup cells, gP p] = .val (.int k) [] := by
  obtain ⟨r, fs, h, rfl, h1, h2⟩ := a
  have hh : 0 ≤ h ∧ h < rows.length := by
    rcases hc _ (List.mem_of_getElem? h1) with z | ⟨i, e, i0, i1⟩
    · cases z
    · cases e
      exact ⟨i0, i1⟩
  have rl := (List.getElem?_eq_some_iff.mp h1).1
  obtain ⟨v, v1, _, v3⟩ := ixT_r (xs := cells) (r := (r : Int)) (by omega) (by omega)
  rw [Int.toNat_natCast, h1] at v1
  cases v1
  have nn : ∀ i ∈ (r : Int) :: fs, 0 ≤ i := fun i hi => by
    rcases List.mem_cons.mp hi with rfl | hi
    · omega
    · exact hop_nn h2 i hi
  obtain ⟨y3, e1⟩ := end_1 (x0 := .sh (.tup [.int w, .tup rows])) (x1 := .sh (.tup cells)) (x2 := .sh (gP ((r : Int) :: fs))) (x4 := .no) (x5 := .no) ((r : Int) :: fs) .no nn
  obtain ⟨y5, e2⟩ := end_2 (x1 := .sh (.tup cells)) (x2 := .sh (gP ((r : Int) :: fs))) (x3 := y3) hr w0 h2 .no hh.1 hh.2
  have it : gIsi [gP ((r : Int) :: fs), .ty "tuple"] = some (.bl true) := by
    exact isi_tup (datL_ints ((r : Int) :: fs))
  have ez : gEqZ (gP ((r : Int) :: fs)) (.tup []) = some (.bl false) := rfl
  have i0 : gIx (gP ((r : Int) :: fs)) (.int 0) = some (.int r) := by
    obtain ⟨v, v1, _, v3⟩ := ixT_r (xs := ((r : Int) :: fs).map D.int) (r := 0) (by omega) (by simp)
    cases v1
    exact v3
  have ln : gLenA [.tup cells] = some (.int cells.length) := rfl
  have e3 : decide ((cells.length : Int) ≤ (r : Int)) = false := decide_eq_false (by omega)
  have e3n : decide (cells.length ≤ r) = false := decide_eq_false (by omega)
  have sq : ∀ ρ, seqR (gP ((r : Int) :: fs)) ρ = .val (((r : Int) :: fs).map .int) ρ := fun _ => rfl
  have sl : gSl (gP ((r : Int) :: fs)) (some 1) none = some (.tup (fs.map .int)) := by
    show gSl (.tup (((r : Int) :: fs).map .int)) (some 1) none = _
    rw [gSl_tup, cutG_d1]
    rfl
  rw [List.map_cons] at e1
  generalize hg : gP ((r : Int) :: fs) = G at *
  refine runM_eq ?_
  simp -implicitDefEqProofs [F_law_end, stE, it, ez, sq, kFor_r, e1, i0, e3, e3n, v3, sl, e2]
/-- what path_to does with what is no index -/
theorem path_x {d : D} (hd : M_is_index [d, .int rows.length] = .val (.bl false) []) : M_path_to [.tup [.int w, .tup rows], .tup cells, d] = .exc "NoObject" [("index", d)] [] := by
  have ix : gIx (.tup [.int w, .tup rows]) (.int 1) = some (.tup rows) := rfl
  have tb : ∀ ρ, truR (some (.bl false)) ρ = .val false ρ := fun _ => rfl
  refine runM_exq ?_
  simp -implicitDefEqProofs [F_path_to, stE, ix, hd, tb]
theorem heard_v {d v : D} (h : M_path_to [.tup [.int w, .tup rows], .tup cells, d] = .val v []) : M_law_heard [.tup [.int w, .tup rows], .tup cells, d] = .val (.lst [v]) [] := by
  refine runM_eq ?_
  simp -implicitDefEqProofs [F_law_heard, B_law_heard_1, stE, h, isN, sl_small (n := 1) (by decide)]
theorem x1 : anyT TB.e "NoObject" ["ShadeError", "NoObject", "NoInvariant", "NothingToUndo", "TooMany"] = some true := rfl
theorem heard_x {d : D} (h : M_path_to [.tup [.int w, .tup rows], .tup cells, d] = .exc "NoObject" [("index", d)] []) : M_law_heard [.tup [.int w, .tup rows], .tup cells, d] = .val (.tup [.str "object", d]) [] := by
  refine runM_eq ?_
  have nX : ∀ (c : Str) (fs : List (Str × D)), isN (.exn c fs) = false := fun _ _ => rfl
  have tb : ∀ ρ, truR (some (.bl false)) ρ = .val false ρ := fun _ => rfl
  have x2 : gIsiT TB [.exn "NoObject" [("index", d)], .gl "NoObject"] = some (.bl true) := rfl
  have x3 : gIsiT TB [.exn "NoObject" [("index", d)], .ty "IndexError"] = some (.bl true) := rfl
  have x4 : gIsiT TB [.exn "NoObject" [("index", d)], .tup [.gl "ShadeError", .ty "ValueError", .ty "KeyError", .gl "NothingToUndo", .gl "TooMany"]] = some (.bl false) := rfl
  have x5 : gFldX ["NoObject"] "index" (.exn "NoObject" [("index", d)]) = some d := by kernel_rfl
  simp -implicitDefEqProofs [F_law_heard, B_law_heard_1, stE, h, kTry, x1, nX, tb, x2, x3, x4, x5, sl_small (n := 1) (by decide), sl_small (n := 2) (by decide), sl_small (n := 5) (by decide)]
end
end K13
namespace K13
open PySem PySem.Spec PyProof.Rows L2 VK PV
theorem isi_lst {xs : List D} (hx : datL xs = true) : gIsi [.lst xs, .ty "list"] = some (.bl true) := by
  have : (D.lst xs).dat = true := hx
  simp [gIsi, isTy, this, D.py, VK.isLst]
theorem neT_ints {a b : List Int} : gNeG (.tup (a.map .int)) (.tup (b.map .int)) = some (.bl (!decide (a = b))) := by
  show (match gNeS (.tup (a.map .int)) (.tup (b.map .int)) with | some z => some z | none => gNe (.tup (a.map .int)) (.tup (b.map .int))) = _
  show gNe (.tup (a.map .int)) (.tup (b.map .int)) = _
  unfold gNe
  rw [tints_eqo, tints_eqo]
  show some (D.bl (!PyData.eqvAll (pyL (a.map .int)) (pyL (b.map .int)))) = _
  rw [eqv_ints]
theorem same_look {rows : List D} {s : St} {n m : Nat} {x : Int} (hm : (turns rows m s).2 = []) (hn : (turns rows n s).2 = [] ∨ (look (turns rows n s).1 x).isSome = true) : look (turns rows n s).1 x = look (turns rows m s).1 x := by
  rcases Nat.le_total n m with h | h
  · rcases hn with e | e
    · rw [turns_end e m h]
    · obtain ⟨p, hp⟩ := Option.isSome_iff_exists.mp e
      rw [hp, (turns_ext h).look hp]
  · rw [turns_end hm n h]
section
variable {cells rows : List D} {w : Int}
theorem right_1 (hr : wRows w rows.length rows) (w0 : 0 ≤ w) (hw : w ≤ 4) (hz : rows.length ≤ 40) (hc : ∀ d ∈ cells, okc rows.length d) (hl : cells.length ≤ 100) {m : Nat} (hm : (turns rows m (first cells)).2 = []) {me : Nat} (h1 : me < rows.length) (x4 : Sl) :
    ∃ y4, B_law_right_1 [.sh (.tup [.int w, .tup rows]), .sh (.tup cells), .sh (.dic (enc gL (turns rows m (first cells)).1)), .sh (.int me), x4] = .val .nx [.sh (.tup [.int w, .tup rows]), .sh (.tup cells), .sh (.dic (enc gL (turns rows m (first cells)).1)), .sh (.int me), y4] := by
  obtain ⟨n, e1, e2⟩ := path_r (x := (me : Int)) hr hw hz hc hl (by omega) (by omega)
  rw [same_look hm e2] at e1
  have hh := heard_v e1
  have g := turns_good hr (first_good (cells := cells) (rows := rows) hc) m
  cases q : look (turns rows m (first cells)).1 (me : Int) with
  | none =>
    rw [q] at e1 hh
    have e1 : M_path_to [.tup [.int w, .tup rows], .tup cells, .int me] = .val .non [] := e1
    have hh : M_law_heard [.tup [.int w, .tup rows], .tup cells, .int me] = .val (.lst [.non]) [] := hh
    have il := isi_lst (xs := [.non]) rfl
    have ix : gIx (.lst [.non]) (.int 0) = some .non := rfl
    have nn : gNeG .non .non = some (.bl false) := by kernel_rfl
    refine ⟨.sh (.lst [.non]), ?_⟩
    simp -implicitDefEqProofs [B_law_right_1, sSeq_r, sIf_r, hh, il, ix, e1, nn, isN, lookD_enc, q, pick]
  | some p =>
    rw [q] at e1 hh
    have e1 : M_path_to [.tup [.int w, .tup rows], .tup cells, .int me] = .val (gP p) [] := e1
    have hh : M_law_heard [.tup [.int w, .tup rows], .tup cells, .int me] = .val (.lst [gP p]) [] := hh
    have il := isi_lst (xs := [gP p]) (by show (datL (p.map .int) && true) = true; rw [datL_ints]; rfl)
    have ix : gIx (.lst [gP p]) (.int 0) = some (gP p) := by
      obtain ⟨v, v1, _, v3⟩ := ixL_r (xs := [gP p]) (r := 0) (by omega) (by simp)
      cases v1
      exact v3
    have nn : gNeG (gP p) (gP p) = some (.bl false) := by
      unfold gP
      rw [neT_ints]
      simp
    have i0 : isN (gP p) = false := rfl
    have ln : gLenA [gP p] = some (.int p.length) := by
      show gLenA [.tup (p.map .int)] = _
      rw [gLenA_tup, List.length_map]
    have gl : gL p = .int p.length := rfl
    have en := end_r (w := w) hr w0 hc (g.ld _ _ (look_mem q))
    refine ⟨.sh (.lst [gP p]), ?_⟩
    simp -implicitDefEqProofs [B_law_right_1, sSeq_r, sIf_r, hh, il, ix, e1, nn, i0, ln, gl, en, lookD_enc, q, pick]
theorem right_r (hr : wRows w rows.length rows) (w0 : 0 ≤ w) (hw : w ≤ 4) (hz : rows.length ≤ 40) (hc : ∀ d ∈ cells, okc rows.length d) (hl : cells.length ≤ 100) : M_law_right [.tup [.int w, .tup rows], .tup cells] = .val (.bl true) [] := by
  obtain ⟨m, e1, hm⟩ := levels_r hr hw hz hc hl
  have ix : gIx (.tup [.int w, .tup rows]) (.int 1) = some (.tup rows) := rfl
  have rg : ∀ ρ, rngR (some [.int rows.length]) ρ = .val (rng 0 rows.length) ρ := fun ρ => by
    have := rngR_r (m := (rows.length : Int)) (ρ := ρ) (by omega) (by omega)
    rwa [Int.toNat_natCast] at this
  obtain ⟨y3, y4, e2⟩ : ∃ y3 y4, forL (gNm 3) B_law_right_1 (rng 0 rows.length) [.sh (.tup [.int w, .tup rows]), .sh (.tup cells), .sh (.dic (enc gL (turns rows m (first cells)).1)), .no, .no] = .val .nx [.sh (.tup [.int w, .tup rows]), .sh (.tup cells), .sh (.dic (enc gL (turns rows m (first cells)).1)), y3, y4] := by
    have := ok_ex (ok_inv (t := gNm 3) (f := B_law_right_1) (ds := rng 0 rows.length) (ρ := [.sh (.tup [.int w, .tup rows]), .sh (.tup cells), .sh (.dic (enc gL (turns rows m (first cells)).1)), .no, .no]) (E := noE)
      (R := fun fl ρ => fl = .nx ∧ ∃ (y3 y4 : Sl), ρ = [.sh (.tup [.int w, .tup rows]), .sh (.tup cells), .sh (.dic (enc gL (turns rows m (first cells)).1)), y3, y4])
      (fun j ρ => ∃ (y3 y4 : Sl), ρ = [.sh (.tup [.int w, .tup rows]), .sh (.tup cells), .sh (.dic (enc gL (turns rows m (first cells)).1)), y3, y4]) ⟨_, _, rfl⟩ (fun j d ρ hd ⟨y3, y4, h1⟩ => ?_) fun ρ ⟨y3, y4, h1⟩ => ⟨rfl, y3, y4, h1⟩)
    · obtain ⟨fl, ρ, e, rfl, y3, y4, rfl⟩ := this
      exact ⟨y3, y4, e⟩
    · subst h1
      obtain ⟨rfl, hj⟩ := get_rng hd
      obtain ⟨z4, e⟩ := right_1 hr w0 hw hz hc hl hm hj y4
      refine ⟨_, to_nm, ?_⟩
      simp -implicitDefEqProofs [e]
  refine runM_eq ?_
  simp -implicitDefEqProofs [F_law_right, stE, ix, e1, rg, kFor_r, e2]
theorem idx_no {d : D} {n : Int} (h : M_is_number [d] = .val (.bl false) []) : M_is_index [d, .int n] = .val (.bl false) [] := by
  refine runM_eq ?_
  simp -implicitDefEqProofs [F_is_index, stE, h]
theorem num_no {d : D} (h1 : d.dat = true) (h2 : (isInt d.py && !isBool d.py) = false) : M_is_number [d] = .val (.bl false) [] := by
  rcases num_r (d := d) with e | e
  · rw [e, h2]
  · rw [h1] at e
    cases e
theorem odd_loop {p : D} {s0 s2 s5 : Sl} : ∀ (ds : List D) (x6 : Sl), (∀ d ∈ ds, ∃ s, M_law_heard [.tup [.int w, .tup rows], .tup cells, d] = .val (.tup [.str "object", d]) [] ∧ gReprA [.tup [.str "object", d]] = some (.str s)) →
    ∃ y6, forL (gNm 6) B_law_1 ds [s0, .own p, s2, .sh (.tup [.int w, .tup rows]), .sh (.tup cells), s5, x6, .no] = .val .nx [s0, .own p, s2, .sh (.tup [.int w, .tup rows]), .sh (.tup cells), s5, y6, .no]
  | [], x6, _ => ⟨x6, rfl⟩
  | d :: ds, x6, h => by
    obtain ⟨s, h1, h2⟩ := h d List.mem_cons_self
    obtain ⟨y6, e⟩ := odd_loop (p := p) (s0 := s0) (s2 := s2) (s5 := s5) ds (.sh d) fun x hx => h x (List.mem_cons_of_mem _ hx)
    refine ⟨y6, ?_⟩
    have st : B_law_1 [s0, .own p, s2, .sh (.tup [.int w, .tup rows]), .sh (.tup cells), s5, .sh d, .no] = .val .nx [s0, .own p, s2, .sh (.tup [.int w, .tup rows]), .sh (.tup cells), s5, .sh d, .no] := by
      simp -implicitDefEqProofs [B_law_1, sIf_r, h1, h2, sl_small (n := 2) (by decide)]
    rw [forL_step to_nm st, e]
theorem odd_ok (hz : rows.length ≤ 40) : ∀ d ∈ [D.int rows.length, .int (-1), .bl true, .bl false, .non, .str "0", .tup [.int 0], .lst [.int 0], .int (10 ^ 50), .dic []], ∃ s, M_law_heard [.tup [.int w, .tup rows], .tup cells, d] = .val (.tup [.str "object", d]) [] ∧ gReprA [.tup [.str "object", d]] = some (.str s) := by
  intro d hd
  have go : ∀ d, M_is_index [d, .int rows.length] = .val (.bl false) [] → (D.tup [.str "object", d]).sho = true → ∃ s, M_law_heard [.tup [.int w, .tup rows], .tup cells, d] = .val (.tup [.str "object", d]) [] ∧ gReprA [.tup [.str "object", d]] = some (.str s) := fun d h1 h2 => ⟨_, heard_x (path_x h1), gReprA_r h2⟩
  have ob : Shw (.str "object") 300 0 := ⟨by kernel_rfl, by kernel_rfl, by decide, by decide +kernel⟩
  have shi : ∀ i : Int, i.natAbs < 10 ^ 60 → (D.tup [.str "object", .int i]).sho = true := fun i hi => (shw_tup (n := 300) (k := 0) fun x hx => by
    simp only [List.mem_cons, List.not_mem_nil, or_false] at hx
    rcases hx with rfl | rfl
    · exact ob
    · exact (shw_int hi).le (by omega) (by omega)).sho (by simp) (by omega)
  simp only [List.mem_cons, List.not_mem_nil, or_false] at hd
  rcases hd with rfl | rfl | rfl | rfl | rfl | rfl | rfl | rfl | rfl | rfl
  · exact go _ (by rw [idx_int, decide_eq_false (by omega)]) (shi _ (small60 (by omega) (by omega)))
  · exact go _ (by rw [idx_int, decide_eq_false (by omega)]) (shi _ (by decide))
  · exact go _ (idx_no (num_no rfl rfl)) (by decide +kernel)
  · exact go _ (idx_no (num_no rfl rfl)) (by decide +kernel)
  · exact go _ (idx_no (num_no rfl rfl)) (by decide +kernel)
  · exact go _ (idx_no (num_no (by kernel_rfl) (by kernel_rfl))) (by decide +kernel)
  · exact go _ (idx_no (num_no rfl rfl)) (by decide +kernel)
  · exact go _ (idx_no (num_no rfl rfl)) (by decide +kernel)
  · exact go _ (by rw [idx_int, decide_eq_false (by omega)]) (shi _ (by decide +kernel))
  · exact go _ (idx_no (num_no rfl rfl)) (by decide +kernel)
end
end K13
namespace K13
open PySem PySem.Spec PyProof.Rows L2 VK PV
theorem turn_r {p : D} {n t : Int} (hp : PenD p n) (hn : n + 400 ≤ 1000000) (t0 : 0 ≤ t) {s0 x3 x4 x5 x6 : Sl} :
    ∃ p' y3 y4 y5 y6, B_law_2 [s0, .own p, .sh (.int t), x3, x4, x5, x6, .no] = .val .nx [s0, .own p', .sh (.int t), y3, y4, y5, y6, .no] ∧ PenD p' (n + 400) := by
  have m1 : gMod (.int t) (.int 3) = some (.int (t % 3)) := gMod_r (by decide)
  have t3 : 0 ≤ t % 3 ∧ t % 3 < 3 := ⟨Int.emod_nonneg _ (by decide), Int.emod_lt_of_pos _ (by decide)⟩
  obtain ⟨x, _, q1, q2⟩ := ixL_r (xs := [.int 6, .int 12, .int 40]) (r := t % 3) t3.1 (by show t % 3 < 3; omega)
  have hx : ∃ j : Int, x = .int j ∧ 0 < j ∧ j ≤ 40 := by
    simp only [List.mem_cons, List.not_mem_nil, or_false] at q1
    rcases q1 with h | h | h <;> exact ⟨_, h, by omega, by omega⟩
  obtain ⟨m, rfl, m0, m2⟩ := hx
  obtain ⟨w, rows, p1, e1, w0, w1, ok, hz, h1⟩ := pile_r hp (by omega) m0 m2
  obtain ⟨cells, p2, e2, hc, hl, h2⟩ := spots_r (sz := rows.length) h1 (by omega) (by omega) (by omega)
  obtain ⟨cells2, p3, e3, hc2, hl2, h3⟩ := spots_r (sz := rows.length) h2 (by omega) (by omega) (by omega)
  have r1 := right_r ok w0 w1 hz hc (by omega)
  have r2 := right_r ok w0 w1 hz hc2 (by omega)
  have ix : gIx (.tup [.int w, .tup rows]) (.int 1) = some (.tup rows) := rfl
  have tb : ∀ ρ, truR (some (.bl true)) ρ = .val true ρ := fun _ => rfl
  have rp : gReprA [.tup [.tup [.int w, .tup rows], .tup cells]] = some (.str (D.tup [.tup [.int w, .tup rows], .tup cells]).py.shown) := (shw_tup (n := 64500) (k := 3) fun d hd => by
    simp only [List.mem_cons, List.not_mem_nil, or_false] at hd
    rcases hd with rfl | rfl
    · exact shw_pile w0 w1 ok hz
    · exact (shw_cs (by omega) hc hl).le (by omega) (by omega)).repr (by simp) (by omega)
  generalize (D.tup [.tup [.int w, .tup rows], .tup cells]).py.shown = tx at *
  have ng : gNeg (.int 1) = some (.int (-1)) := rfl
  have pw : gPow (.int 10) (.int 50) = some (.int (10 ^ 50)) := gPow_r (by decide) (by decide) (by decide)
  obtain ⟨y6, e4⟩ := odd_loop (w := w) (rows := rows) (cells := cells) (p := p3) (s0 := s0) (s2 := .sh (.int t)) (s5 := .sh (.str tx)) _ x6 (odd_ok hz)
  simp only [Int.reducePow] at e4
  have := ok_ex (r := B_law_2 [s0, .own p, .sh (.int t), x3, x4, x5, x6, .no])
    (Q := fun fl ρ => fl = .nx ∧ ∃ (p' : D) (y3 y4 y5 y6 : Sl), ρ = [s0, .own p', .sh (.int t), y3, y4, y5, y6, .no] ∧ PenD p' (n + 400)) ?_
  · obtain ⟨fl, ρ, e, rfl, p', y3, y4, y5, y6, rfl, h⟩ := this
    exact ⟨p', y3, y4, y5, y6, e, h⟩
  · simp -implicitDefEqProofs [B_law_2, m1, q2, e1, e2, e3, r1, r2, ix, tb, rp, ng, pw, kFor_r, e4, sl_small (n := 3) (by decide), sl_small (n := 4) (by decide), sl_small (n := 1) (by decide), sl_small (n := 2) (by decide), sl_small (n := 10) (by decide)]
    exact h3.le (by omega)
theorem turns_law {p : D} {s0 : Sl} (hp : PenD p 0) : ∃ p' y2 y3 y4 y5 y6, forL (gNm 2) B_law_2 (rng 0 6) [s0, .own p, .no, .no, .no, .no, .no, .no] = .val .nx [s0, .own p', y2, y3, y4, y5, y6, .no] := by
  have := ok_ex (ok_inv (t := gNm 2) (f := B_law_2) (ds := rng 0 6) (ρ := [s0, .own p, .no, .no, .no, .no, .no, .no]) (E := noE)
    (R := fun x ρ => x = .nx ∧ ∃ (p' : D) (y2 y3 y4 y5 y6 : Sl), ρ = [s0, .own p', y2, y3, y4, y5, y6, .no])
    (fun j ρ => ∃ (p' : D) (y2 y3 y4 y5 y6 : Sl), ρ = [s0, .own p', y2, y3, y4, y5, y6, .no] ∧ PenD p' (400 * j))
    ⟨p, .no, .no, .no, .no, .no, rfl, hp.le (by omega)⟩ (fun j d ρ hd ⟨p1, y2, y3, y4, y5, y6, h1, h2⟩ => ?_) fun ρ ⟨p1, y2, y3, y4, y5, y6, h1, h2⟩ => ⟨rfl, p1, y2, y3, y4, y5, y6, h1⟩)
  · obtain ⟨x, ρ, e, rfl, p', y2, y3, y4, y5, y6, rfl⟩ := this
    exact ⟨p', y2, y3, y4, y5, y6, e⟩
  · subst h1
    obtain ⟨rfl, hj⟩ := get_rng hd
    obtain ⟨p', z3, z4, z5, z6, e, h⟩ := turn_r (t := (j : Int)) (s0 := s0) (x3 := y3) (x4 := y4) (x5 := y5) (x6 := y6) h2 (by omega) (by omega)
    refine ⟨_, to_nm, ?_⟩
    simp -implicitDefEqProofs [e]
    exact h.le (by omega)
def chain : List D := (upto 39).map (fun k => D.tup [.int (k + 1)]) ++ [.tup [.int 0]]
theorem chain_len : chain.length = 40 := by simp [chain, len_upto]
theorem chain_ok : wRows 1 chain.length chain := by
  intro r hr
  rw [chain_len]
  rcases List.mem_append.mp hr with h | h
  · obtain ⟨k, hk, rfl⟩ := List.mem_map.mp h
    have := mem_upto.mp hk
    exact ⟨_, rfl, by simp, fun d hd => by rw [List.mem_singleton.mp hd]; exact .inr ⟨k + 1, rfl, by omega, by omega⟩⟩
  · rw [List.mem_singleton.mp h]
    exact ⟨_, rfl, by simp, fun d hd => by rw [List.mem_singleton.mp hd]; exact .inr ⟨0, rfl, by omega, by omega⟩⟩
theorem law_ok (ns : List Int) : M_law [.scr ns] = .val (.bl true) [] := by
  obtain ⟨p, hp, h0⟩ := pen_ok (N := N_law_pen) penE_ok ns
  obtain ⟨p', y2, y3, y4, y5, y6, e⟩ := turns_law (s0 := .sh (.scr ns)) h0
  have rg6 : ∀ ρ, rngR (some [.int 6]) ρ = .val (rng 0 6) ρ := fun ρ => rngR_r (by decide) (by decide)
  have rg39 : ∀ ρ, rngR (some [.int 39]) ρ = .val (rng 0 39) ρ := fun ρ => rngR_r (by decide) (by decide)
  have lc : lcL [7] (gNm 7) bYes (eTup (eL1 (eOp gPlus (eVar 7) (eC (.int 1))) eL0)) (rng 0 39) [] [.sh (.scr ns), .own p', y2, y3, y4, y5, y6, .no] = .val ((upto 39).map fun k => D.tup [.int (k + 1)]) [.sh (.scr ns), .own p', y2, y3, y4, y5, y6, .no] := by
    have := lc_map (ι := Int) (vs := [7]) (t := gNm 7) (ft := bYes) (fe := eTup (eL1 (eOp gPlus (eVar 7) (eC (.int 1))) eL0)) (ρ := [.sh (.scr ns), .own p', y2, y3, y4, y5, y6, .no]) (e := .int) (g := fun k => D.tup [.int (k + 1)]) (p := fun _ => true) rfl (upto 39) []
      (fun d hd => ⟨[.sh (.scr ns), .own p', y2, y3, y4, y5, y6, .sh (.int d)], [.sh (.scr ns), .own p', y2, y3, y4, y5, y6, .sh (.int d)], rfl, rfl, rfl, fun _ => ⟨[.sh (.scr ns), .own p', y2, y3, y4, y5, y6, .sh (.int d)], by simp [sl_small (n := 1) (by decide)], rfl⟩⟩) (by rw [len_upto]; exact small_r (by decide))
    rw [rng_upto, this, List.nil_append, List.filter_eq_self.mpr (fun _ _ => rfl)]
  have pl : gPlus (.tup ((upto 39).map fun k => D.tup [.int (k + 1)])) (.tup [.tup [.int 0]]) = some (.tup chain) := gPlus_tup (by simp [len_upto])
  have r1 := right_r (w := 1) (rows := chain) (cells := [.non, .int 3]) chain_ok (by decide) (by decide) (by rw [chain_len]; omega) (fun d hd => by
    simp only [List.mem_cons, List.not_mem_nil, or_false] at hd
    rcases hd with rfl | rfl
    · exact .inl rfl
    · rw [chain_len]
      exact .inr ⟨3, rfl, by omega, by omega⟩) (by simp)
  refine runM_eq ?_
  simp -implicitDefEqProofs [F_law, stE, hp, rg6, kFor_r, e, rg39, lc, pl, r1, sl_small (n := 1) (by decide), sl_small (n := 2) (by decide)]
end K13
namespace K13
open PySem PySem.Spec PyProof.Rows L2 VK PV
theorem sx_NoObject : FnScope ["self", "index"] ["self", "index"] (defScope (clsS (topS 5) 0)) := ⟨rfl, rfl, rfl, by decide +kernel, rfl, by decide +kernel, by decide +kernel⟩
section
variable {P : Program} {w : World} {K : PySem.W.Frag} {mg : Str → Option Value} {base : Heap}
variable {C_NoInvariant C_NoObject C_NothingToUndo C_ShadeError C_TooMany : Addr}
theorem all_ok (z : ∀ x, x ∈ zs → mg x = none) (x_NoObject : ExI K mg "NoObject" ["index"]) (tb : TabsOk K mg TB) (m_TooMany : mg "TooMany" = some (.ref C_TooMany)) (m_NothingToUndo : mg "NothingToUndo" = some (.ref C_NothingToUndo)) (m_NoInvariant : mg "NoInvariant" = some (.ref C_NoInvariant)) (m_NoObject : mg "NoObject" = some (.ref C_NoObject)) (m_ShadeError : mg "ShadeError" = some (.ref C_ShadeError)) (nf_index : NoF K mg ["NoObject"] "index") (d_is_number : Df K mg "is_number" s_is_number) (d_is_index : Df K mg "is_index" s_is_index) (d_path_to : Df K mg "path_to" s_path_to) (d_law_pen : Df K mg "_law_pen" s_law_pen) (d_law_pick : Df K mg "_law_pick" s_law_pick) (d_law_pile : Df K mg "_law_pile" s_law_pile) (d_law_spots : Df K mg "_law_spots" s_law_spots) (d_law_levels : Df K mg "_law_levels" s_law_levels) (d_law_end : Df K mg "_law_end" s_law_end) (d_law_heard : Df K mg "_law_heard" s_law_heard) (d_law_right : Df K mg "_law_right" s_law_right) (d_law : Df K mg "law" s_law) :
    DX P w K mg base 6 "law" s_law ["_law_script"] [false] M_law := by
  have b_is_number := bd_is_number (P := P) (w := w) (K := K) (base := base) z
  have o_is_number : DX P w K mg base 1 "is_number" s_is_number ["thing"] [false] M_is_number := PV.Bdy.dx b_is_number d_is_number sc_is_number rfl (fun _ _ => rfl)
  have c_is_number := o_is_number.cal (fun _ _ _ _ _ _ us hl => match us, hl with | [_], _ => rfl)
  have b_is_index := bd_is_index (P := P) (w := w) (K := K) (base := base) z c_is_number
  have o_is_index : DX P w K mg base 2 "is_index" s_is_index ["thing", "many"] [false, false] M_is_index := PV.Bdy.dx b_is_index d_is_index sc_is_index rfl (fun _ _ => rfl)
  have c_is_index := o_is_index.cal (fun _ _ _ _ _ _ us hl => match us, hl with | [_, _], _ => rfl)
  have b_path_to := bd_path_to (P := P) (w := w) (K := K) (base := base) z x_NoObject c_is_index
  have o_path_to : DX P w K mg base 3 "path_to" s_path_to ["heap", "registers", "x"] [false, false, false] M_path_to := PV.Bdy.dx b_path_to d_path_to sc_path_to rfl (fun _ _ => rfl)
  have c_path_to := o_path_to.cal (fun _ _ _ _ _ _ us hl => match us, hl with | [_, _, _], _ => rfl)
  have k_path_to_0_x_registers_heap := o_path_to.calK (n := 0) (ks := ["x", "registers", "heap"]) (perm := [2, 1, 0]) (fun _ _ _ _ _ _ us ws h1 h2 => match us, ws, h1, h2 with | [], [_, _, _], _, _ => rfl)
  have n_law_pen := ok_law_pen (P := P) (w := w) (K := K) (base := base) z d_law_pen
  have b_law_pick := bd_law_pick (P := P) (w := w) (K := K) (base := base) z
  have o_law_pick : DX P w K mg base 1 "_law_pick" s_law_pick ["_law_pen_here", "_law_upto"] [true, false] M_law_pick := PV.Bdy.dx b_law_pick d_law_pick sc_law_pick rfl (fun _ _ => rfl)
  have c_law_pick := o_law_pick.cal (fun _ _ _ _ _ _ us hl => match us, hl with | [_, _], _ => rfl)
  have b_law_pile := bd_law_pile (P := P) (w := w) (K := K) (base := base) z c_law_pick
  have o_law_pile : DX P w K mg base 2 "_law_pile" s_law_pile ["_law_pen_here", "_law_most", "_law_wides"] [true, false, false] M_law_pile := PV.Bdy.dx b_law_pile d_law_pile sc_law_pile rfl (fun _ _ => rfl)
  have c_law_pile := o_law_pile.cal (fun _ _ _ _ _ _ us hl => match us, hl with | [_, _, _], _ => rfl)
  have b_law_spots := bd_law_spots (P := P) (w := w) (K := K) (base := base) z c_law_pick
  have o_law_spots : DX P w K mg base 2 "_law_spots" s_law_spots ["_law_pen_here", "_law_size", "_law_most"] [true, false, false] M_law_spots := PV.Bdy.dx b_law_spots d_law_spots sc_law_spots rfl (fun _ _ => rfl)
  have c_law_spots := o_law_spots.cal (fun _ _ _ _ _ _ us hl => match us, hl with | [_, _, _], _ => rfl)
  have b_law_levels := bd_law_levels (P := P) (w := w) (K := K) (base := base) z
  have o_law_levels : DX P w K mg base 1 "_law_levels" s_law_levels ["_law_objects", "_law_spots_here"] [false, false] M_law_levels := PV.Bdy.dx b_law_levels d_law_levels sc_law_levels rfl (fun _ _ => rfl)
  have c_law_levels := o_law_levels.cal (fun _ _ _ _ _ _ us hl => match us, hl with | [_, _], _ => rfl)
  have b_law_end := bd_law_end (P := P) (w := w) (K := K) (base := base) z
  have o_law_end : DX P w K mg base 1 "_law_end" s_law_end ["_law_pile_here", "_law_spots_here", "_law_path"] [false, false, false] M_law_end := PV.Bdy.dx b_law_end d_law_end sc_law_end rfl (fun _ _ => rfl)
  have c_law_end := o_law_end.cal (fun _ _ _ _ _ _ us hl => match us, hl with | [_, _, _], _ => rfl)
  have b_law_heard := bd_law_heard (P := P) (w := w) (K := K) (base := base) z tb m_TooMany m_NothingToUndo m_NoInvariant m_NoObject m_ShadeError nf_index c_path_to
  have o_law_heard : DX P w K mg base 4 "_law_heard" s_law_heard ["_law_pile_here", "_law_spots_here", "_law_item"] [false, false, false] M_law_heard := PV.Bdy.dx b_law_heard d_law_heard sc_law_heard rfl (fun _ _ => rfl)
  have c_law_heard := o_law_heard.cal (fun _ _ _ _ _ _ us hl => match us, hl with | [_, _, _], _ => rfl)
  have b_law_right := bd_law_right (P := P) (w := w) (K := K) (base := base) z c_law_levels c_law_end c_law_heard k_path_to_0_x_registers_heap
  have o_law_right : DX P w K mg base 5 "_law_right" s_law_right ["_law_pile_here", "_law_spots_here"] [false, false] M_law_right := PV.Bdy.dx b_law_right d_law_right sc_law_right rfl (fun _ _ => rfl)
  have c_law_right := o_law_right.cal (fun _ _ _ _ _ _ us hl => match us, hl with | [_, _], _ => rfl)
  exact PV.Bdy.dx (bd_law z c_law_pile c_law_spots c_law_heard c_law_right n_law_pen) d_law sc_law rfl (fun _ _ => rfl)
end
end K13
open PySem PySem.W PyProof.Rows
set_option maxHeartbeats 0 in
theorem PySem.Challenge.cw_shadeguards_k13_shortest_paths_holds : PySem.Challenge.rw_shadeguards_k13_shortest_paths.Holds := by
  w_on; o_law; k_head; (case hw => w_witness2)
  k_fill
  refine PV.walk_ofX (l := PySem.Challenge.rw_shadeguards_k13_shortest_paths) (n := 63) (k := 6) (x := "_law_script") (Mf := K13.M_law) rfl (by decide) rfl ⟨rfl, by decide, by decide⟩ (fun w h Y => PySem.W.kIn_of Y) ?F (fun ns _ => K13.law_ok ns)
  case F =>
    intro w mg fa h KX G hmg
    have hz : ∀ x, x ∈ K13.zs → mg x = none := by
      intro x hx
      simp only [K13.zs, List.mem_cons, List.not_mem_nil, or_false] at hx
      rcases hx with e | e | e | e | e | e | e | e | e | e | e | e | e | e | e <;> rw [e] <;> exact PySem.W.mg_none_of KX G (by k_is)
    have m_ShadeError := PySem.W.mg_of (n := "ShadeError") KX G (by k_is)
    have t_ShadeError := PV.exk_mkm KX m_ShadeError PySem.F.excBase_ValueError PySem.F.pass_ValueError (by k_is) (by decide +kernel) (by decide) (by k_is) (by k_is) (by k_is) (by k_is) (by k_is) (by k_is) (by k_is) (by k_is) (by k_is) (by k_is) (by k_is)
    have m_NoObject := PySem.W.mg_of (n := "NoObject") KX G (by k_is)
    have t_NoObject := PV.exk_mkm KX m_NoObject PySem.F.excBase_IndexError PySem.F.pass_IndexError (by k_is) (by decide +kernel) (by decide) (by k_is) (by k_is) (by k_is) (by k_is) (by k_is) (by k_is) (by k_is) (by k_is) (by k_is) (by k_is) (by k_is)
    have m_NoInvariant := PySem.W.mg_of (n := "NoInvariant") KX G (by k_is)
    have m_NothingToUndo := PySem.W.mg_of (n := "NothingToUndo") KX G (by k_is)
    have t_NothingToUndo := PV.exk_mkm KX m_NothingToUndo PySem.F.excBase_LookupError PySem.F.pass_LookupError (by k_is) (by decide +kernel) (by decide) (by k_is) (by k_is) (by k_is) (by k_is) (by k_is) (by k_is) (by k_is) (by k_is) (by k_is) (by k_is) (by k_is)
    have m_TooMany := PySem.W.mg_of (n := "TooMany") KX G (by k_is)
    have t_TooMany := PV.exk_mkm KX m_TooMany PySem.F.excBase_OverflowError PySem.F.pass_OverflowError (by k_is) (by decide +kernel) (by decide) (by k_is) (by k_is) (by k_is) (by k_is) (by k_is) (by k_is) (by k_is) (by k_is) (by k_is) (by k_is) (by k_is)
    have x_NoObject := PV.exi_1 KX (c := "NoObject") (st := PV.clsS (K13.topS 5) 0) (qual := "NoObject.__init__") m_NoObject t_NoObject (by k_is) (by k_is) (by k_is) (by k_is) (by k_is) K13.sx_NoObject rfl rfl rfl (fun _ _ _ _ _ _ us hl => match us, hl with | [_, _], _ => rfl)
    have nf_index : PV.NoFE KX mg ["NoObject"] "index" := by
      intro c hc
      simp only [List.mem_cons, List.not_mem_nil, or_false] at hc
      rcases hc with rfl
      · exact ⟨_, m_NoObject, t_NoObject, by k_is⟩
    have hy : ∀ n ∈ PV.tyNames, mg (Str.ofString n) = none := by
      intro n hn
      simp only [PV.tyNames, PV.dataTys, List.cons_append, List.nil_append, List.mem_cons, List.not_mem_nil, or_false] at hn
      rcases hn with e | e | e | e | e | e | e | e | e | e | e | e | e | e <;> rw [e] <;> exact PySem.W.mg_none_of KX G (by k_is)
    have tb : PV.TabsI KX mg K13.TB := ⟨(PV.TabE.cons m_ShadeError t_ShadeError (PV.RowOk.typ (T := "IndexError") (hy "IndexError" (by decide)) (by rfl) (by decide) (by decide +kernel) (by k_is) rfl (fun _ => by k_is) (PV.RowOk.typ (T := "KeyError") (hy "KeyError" (by decide)) (by rfl) (by decide) (by decide +kernel) (by k_is) rfl (fun _ => by k_is) (PV.RowOk.cls m_NoInvariant (by k_is) (by k_is) (by k_is) rfl (fun _ => by k_is) (PV.RowOk.cls m_NoObject (by k_is) (by k_is) (by k_is) rfl (fun _ => by k_is) (PV.RowOk.cls m_NothingToUndo (by k_is) (by k_is) (by k_is) rfl (fun _ => by k_is) (PV.RowOk.cls m_ShadeError (by k_is) (by k_is) (by k_is) rfl (fun _ => by k_is) (PV.RowOk.cls m_TooMany (by k_is) (by k_is) (by k_is) rfl (fun _ => by k_is) (PV.RowOk.typ (T := "ValueError") (hy "ValueError" (by decide)) (by rfl) (by decide) (by decide +kernel) (by k_is) rfl (fun _ => by k_is) PV.RowOk.nil)))))))) (PV.TabE.cons m_NoObject t_NoObject (PV.RowOk.typ (T := "IndexError") (hy "IndexError" (by decide)) (by rfl) (by decide) (by decide +kernel) (by k_is) rfl (fun _ => by k_is) (PV.RowOk.typ (T := "KeyError") (hy "KeyError" (by decide)) (by rfl) (by decide) (by decide +kernel) (by k_is) rfl (fun _ => by k_is) (PV.RowOk.cls m_NoInvariant (by k_is) (by k_is) (by k_is) rfl (fun _ => by k_is) (PV.RowOk.cls m_NoObject (by k_is) (by k_is) (by k_is) rfl (fun _ => by k_is) (PV.RowOk.cls m_NothingToUndo (by k_is) (by k_is) (by k_is) rfl (fun _ => by k_is) (PV.RowOk.cls m_ShadeError (by k_is) (by k_is) (by k_is) rfl (fun _ => by k_is) (PV.RowOk.cls m_TooMany (by k_is) (by k_is) (by k_is) rfl (fun _ => by k_is) (PV.RowOk.typ (T := "ValueError") (hy "ValueError" (by decide)) (by rfl) (by decide) (by decide +kernel) (by k_is) rfl (fun _ => by k_is) PV.RowOk.nil)))))))) (PV.TabE.cons m_NothingToUndo t_NothingToUndo (PV.RowOk.typ (T := "IndexError") (hy "IndexError" (by decide)) (by rfl) (by decide) (by decide +kernel) (by k_is) rfl (fun _ => by k_is) (PV.RowOk.typ (T := "KeyError") (hy "KeyError" (by decide)) (by rfl) (by decide) (by decide +kernel) (by k_is) rfl (fun _ => by k_is) (PV.RowOk.cls m_NoInvariant (by k_is) (by k_is) (by k_is) rfl (fun _ => by k_is) (PV.RowOk.cls m_NoObject (by k_is) (by k_is) (by k_is) rfl (fun _ => by k_is) (PV.RowOk.cls m_NothingToUndo (by k_is) (by k_is) (by k_is) rfl (fun _ => by k_is) (PV.RowOk.cls m_ShadeError (by k_is) (by k_is) (by k_is) rfl (fun _ => by k_is) (PV.RowOk.cls m_TooMany (by k_is) (by k_is) (by k_is) rfl (fun _ => by k_is) (PV.RowOk.typ (T := "ValueError") (hy "ValueError" (by decide)) (by rfl) (by decide) (by decide +kernel) (by k_is) rfl (fun _ => by k_is) PV.RowOk.nil)))))))) (PV.TabE.cons m_TooMany t_TooMany (PV.RowOk.typ (T := "IndexError") (hy "IndexError" (by decide)) (by rfl) (by decide) (by decide +kernel) (by k_is) rfl (fun _ => by k_is) (PV.RowOk.typ (T := "KeyError") (hy "KeyError" (by decide)) (by rfl) (by decide) (by decide +kernel) (by k_is) rfl (fun _ => by k_is) (PV.RowOk.cls m_NoInvariant (by k_is) (by k_is) (by k_is) rfl (fun _ => by k_is) (PV.RowOk.cls m_NoObject (by k_is) (by k_is) (by k_is) rfl (fun _ => by k_is) (PV.RowOk.cls m_NothingToUndo (by k_is) (by k_is) (by k_is) rfl (fun _ => by k_is) (PV.RowOk.cls m_ShadeError (by k_is) (by k_is) (by k_is) rfl (fun _ => by k_is) (PV.RowOk.cls m_TooMany (by k_is) (by k_is) (by k_is) rfl (fun _ => by k_is) (PV.RowOk.typ (T := "ValueError") (hy "ValueError" (by decide)) (by rfl) (by decide) (by decide +kernel) (by k_is) rfl (fun _ => by k_is) PV.RowOk.nil)))))))) PV.TabE.nil)))), PV.TabI.nil, (PV.TabD.cons (n := "NoneType") (PV.RowOk.typ (T := "IndexError") (hy "IndexError" (by decide)) (by rfl) (by decide) (by decide +kernel) (by k_is) rfl (fun h => nomatch h) (PV.RowOk.typ (T := "KeyError") (hy "KeyError" (by decide)) (by rfl) (by decide) (by decide +kernel) (by k_is) rfl (fun h => nomatch h) (PV.RowOk.cls m_NoInvariant (by k_is) (by k_is) (by k_is) rfl (fun h => nomatch h) (PV.RowOk.cls m_NoObject (by k_is) (by k_is) (by k_is) rfl (fun h => nomatch h) (PV.RowOk.cls m_NothingToUndo (by k_is) (by k_is) (by k_is) rfl (fun h => nomatch h) (PV.RowOk.cls m_ShadeError (by k_is) (by k_is) (by k_is) rfl (fun h => nomatch h) (PV.RowOk.cls m_TooMany (by k_is) (by k_is) (by k_is) rfl (fun h => nomatch h) (PV.RowOk.typ (T := "ValueError") (hy "ValueError" (by decide)) (by rfl) (by decide) (by decide +kernel) (by k_is) rfl (fun h => nomatch h) (PV.RowOk.typ (T := "bool") (hy "bool" (by decide)) (by rfl) (by decide) (by decide +kernel) (by k_is) rfl (fun h => nomatch h) (PV.RowOk.typ (T := "int") (hy "int" (by decide)) (by rfl) (by decide) (by decide +kernel) (by k_is) rfl (fun h => nomatch h) (PV.RowOk.typ (T := "list") (hy "list" (by decide)) (by rfl) (by decide) (by decide +kernel) (by k_is) rfl (fun h => nomatch h) (PV.RowOk.typ (T := "tuple") (hy "tuple" (by decide)) (by rfl) (by decide) (by decide +kernel) (by k_is) rfl (fun h => nomatch h) PV.RowOk.nil)))))))))))) (PV.TabD.cons (n := "bool") (PV.RowOk.typ (T := "IndexError") (hy "IndexError" (by decide)) (by rfl) (by decide) (by decide +kernel) (by k_is) rfl (fun h => nomatch h) (PV.RowOk.typ (T := "KeyError") (hy "KeyError" (by decide)) (by rfl) (by decide) (by decide +kernel) (by k_is) rfl (fun h => nomatch h) (PV.RowOk.cls m_NoInvariant (by k_is) (by k_is) (by k_is) rfl (fun h => nomatch h) (PV.RowOk.cls m_NoObject (by k_is) (by k_is) (by k_is) rfl (fun h => nomatch h) (PV.RowOk.cls m_NothingToUndo (by k_is) (by k_is) (by k_is) rfl (fun h => nomatch h) (PV.RowOk.cls m_ShadeError (by k_is) (by k_is) (by k_is) rfl (fun h => nomatch h) (PV.RowOk.cls m_TooMany (by k_is) (by k_is) (by k_is) rfl (fun h => nomatch h) (PV.RowOk.typ (T := "ValueError") (hy "ValueError" (by decide)) (by rfl) (by decide) (by decide +kernel) (by k_is) rfl (fun h => nomatch h) (PV.RowOk.typ (T := "bool") (hy "bool" (by decide)) (by rfl) (by decide) (by decide +kernel) (by k_is) rfl (fun h => nomatch h) (PV.RowOk.typ (T := "int") (hy "int" (by decide)) (by rfl) (by decide) (by decide +kernel) (by k_is) rfl (fun h => nomatch h) (PV.RowOk.typ (T := "list") (hy "list" (by decide)) (by rfl) (by decide) (by decide +kernel) (by k_is) rfl (fun h => nomatch h) (PV.RowOk.typ (T := "tuple") (hy "tuple" (by decide)) (by rfl) (by decide) (by decide +kernel) (by k_is) rfl (fun h => nomatch h) PV.RowOk.nil)))))))))))) (PV.TabD.cons (n := "int") (PV.RowOk.typ (T := "IndexError") (hy "IndexError" (by decide)) (by rfl) (by decide) (by decide +kernel) (by k_is) rfl (fun h => nomatch h) (PV.RowOk.typ (T := "KeyError") (hy "KeyError" (by decide)) (by rfl) (by decide) (by decide +kernel) (by k_is) rfl (fun h => nomatch h) (PV.RowOk.cls m_NoInvariant (by k_is) (by k_is) (by k_is) rfl (fun h => nomatch h) (PV.RowOk.cls m_NoObject (by k_is) (by k_is) (by k_is) rfl (fun h => nomatch h) (PV.RowOk.cls m_NothingToUndo (by k_is) (by k_is) (by k_is) rfl (fun h => nomatch h) (PV.RowOk.cls m_ShadeError (by k_is) (by k_is) (by k_is) rfl (fun h => nomatch h) (PV.RowOk.cls m_TooMany (by k_is) (by k_is) (by k_is) rfl (fun h => nomatch h) (PV.RowOk.typ (T := "ValueError") (hy "ValueError" (by decide)) (by rfl) (by decide) (by decide +kernel) (by k_is) rfl (fun h => nomatch h) (PV.RowOk.typ (T := "bool") (hy "bool" (by decide)) (by rfl) (by decide) (by decide +kernel) (by k_is) rfl (fun h => nomatch h) (PV.RowOk.typ (T := "int") (hy "int" (by decide)) (by rfl) (by decide) (by decide +kernel) (by k_is) rfl (fun h => nomatch h) (PV.RowOk.typ (T := "list") (hy "list" (by decide)) (by rfl) (by decide) (by decide +kernel) (by k_is) rfl (fun h => nomatch h) (PV.RowOk.typ (T := "tuple") (hy "tuple" (by decide)) (by rfl) (by decide) (by decide +kernel) (by k_is) rfl (fun h => nomatch h) PV.RowOk.nil)))))))))))) (PV.TabD.cons (n := "str") (PV.RowOk.typ (T := "IndexError") (hy "IndexError" (by decide)) (by rfl) (by decide) (by decide +kernel) (by k_is) rfl (fun h => nomatch h) (PV.RowOk.typ (T := "KeyError") (hy "KeyError" (by decide)) (by rfl) (by decide) (by decide +kernel) (by k_is) rfl (fun h => nomatch h) (PV.RowOk.cls m_NoInvariant (by k_is) (by k_is) (by k_is) rfl (fun h => nomatch h) (PV.RowOk.cls m_NoObject (by k_is) (by k_is) (by k_is) rfl (fun h => nomatch h) (PV.RowOk.cls m_NothingToUndo (by k_is) (by k_is) (by k_is) rfl (fun h => nomatch h) (PV.RowOk.cls m_ShadeError (by k_is) (by k_is) (by k_is) rfl (fun h => nomatch h) (PV.RowOk.cls m_TooMany (by k_is) (by k_is) (by k_is) rfl (fun h => nomatch h) (PV.RowOk.typ (T := "ValueError") (hy "ValueError" (by decide)) (by rfl) (by decide) (by decide +kernel) (by k_is) rfl (fun h => nomatch h) (PV.RowOk.typ (T := "bool") (hy "bool" (by decide)) (by rfl) (by decide) (by decide +kernel) (by k_is) rfl (fun h => nomatch h) (PV.RowOk.typ (T := "int") (hy "int" (by decide)) (by rfl) (by decide) (by decide +kernel) (by k_is) rfl (fun h => nomatch h) (PV.RowOk.typ (T := "list") (hy "list" (by decide)) (by rfl) (by decide) (by decide +kernel) (by k_is) rfl (fun h => nomatch h) (PV.RowOk.typ (T := "tuple") (hy "tuple" (by decide)) (by rfl) (by decide) (by decide +kernel) (by k_is) rfl (fun h => nomatch h) PV.RowOk.nil)))))))))))) (PV.TabD.cons (n := "list") (PV.RowOk.typ (T := "IndexError") (hy "IndexError" (by decide)) (by rfl) (by decide) (by decide +kernel) (by k_is) rfl (fun h => nomatch h) (PV.RowOk.typ (T := "KeyError") (hy "KeyError" (by decide)) (by rfl) (by decide) (by decide +kernel) (by k_is) rfl (fun h => nomatch h) (PV.RowOk.cls m_NoInvariant (by k_is) (by k_is) (by k_is) rfl (fun h => nomatch h) (PV.RowOk.cls m_NoObject (by k_is) (by k_is) (by k_is) rfl (fun h => nomatch h) (PV.RowOk.cls m_NothingToUndo (by k_is) (by k_is) (by k_is) rfl (fun h => nomatch h) (PV.RowOk.cls m_ShadeError (by k_is) (by k_is) (by k_is) rfl (fun h => nomatch h) (PV.RowOk.cls m_TooMany (by k_is) (by k_is) (by k_is) rfl (fun h => nomatch h) (PV.RowOk.typ (T := "ValueError") (hy "ValueError" (by decide)) (by rfl) (by decide) (by decide +kernel) (by k_is) rfl (fun h => nomatch h) (PV.RowOk.typ (T := "bool") (hy "bool" (by decide)) (by rfl) (by decide) (by decide +kernel) (by k_is) rfl (fun h => nomatch h) (PV.RowOk.typ (T := "int") (hy "int" (by decide)) (by rfl) (by decide) (by decide +kernel) (by k_is) rfl (fun h => nomatch h) (PV.RowOk.typ (T := "list") (hy "list" (by decide)) (by rfl) (by decide) (by decide +kernel) (by k_is) rfl (fun h => nomatch h) (PV.RowOk.typ (T := "tuple") (hy "tuple" (by decide)) (by rfl) (by decide) (by decide +kernel) (by k_is) rfl (fun h => nomatch h) PV.RowOk.nil)))))))))))) (PV.TabD.cons (n := "tuple") (PV.RowOk.typ (T := "IndexError") (hy "IndexError" (by decide)) (by rfl) (by decide) (by decide +kernel) (by k_is) rfl (fun h => nomatch h) (PV.RowOk.typ (T := "KeyError") (hy "KeyError" (by decide)) (by rfl) (by decide) (by decide +kernel) (by k_is) rfl (fun h => nomatch h) (PV.RowOk.cls m_NoInvariant (by k_is) (by k_is) (by k_is) rfl (fun h => nomatch h) (PV.RowOk.cls m_NoObject (by k_is) (by k_is) (by k_is) rfl (fun h => nomatch h) (PV.RowOk.cls m_NothingToUndo (by k_is) (by k_is) (by k_is) rfl (fun h => nomatch h) (PV.RowOk.cls m_ShadeError (by k_is) (by k_is) (by k_is) rfl (fun h => nomatch h) (PV.RowOk.cls m_TooMany (by k_is) (by k_is) (by k_is) rfl (fun h => nomatch h) (PV.RowOk.typ (T := "ValueError") (hy "ValueError" (by decide)) (by rfl) (by decide) (by decide +kernel) (by k_is) rfl (fun h => nomatch h) (PV.RowOk.typ (T := "bool") (hy "bool" (by decide)) (by rfl) (by decide) (by decide +kernel) (by k_is) rfl (fun h => nomatch h) (PV.RowOk.typ (T := "int") (hy "int" (by decide)) (by rfl) (by decide) (by decide +kernel) (by k_is) rfl (fun h => nomatch h) (PV.RowOk.typ (T := "list") (hy "list" (by decide)) (by rfl) (by decide) (by decide +kernel) (by k_is) rfl (fun h => nomatch h) (PV.RowOk.typ (T := "tuple") (hy "tuple" (by decide)) (by rfl) (by decide) (by decide +kernel) (by k_is) rfl (fun h => nomatch h) PV.RowOk.nil)))))))))))) (PV.TabD.cons (n := "dict") (PV.RowOk.typ (T := "IndexError") (hy "IndexError" (by decide)) (by rfl) (by decide) (by decide +kernel) (by k_is) rfl (fun h => nomatch h) (PV.RowOk.typ (T := "KeyError") (hy "KeyError" (by decide)) (by rfl) (by decide) (by decide +kernel) (by k_is) rfl (fun h => nomatch h) (PV.RowOk.cls m_NoInvariant (by k_is) (by k_is) (by k_is) rfl (fun h => nomatch h) (PV.RowOk.cls m_NoObject (by k_is) (by k_is) (by k_is) rfl (fun h => nomatch h) (PV.RowOk.cls m_NothingToUndo (by k_is) (by k_is) (by k_is) rfl (fun h => nomatch h) (PV.RowOk.cls m_ShadeError (by k_is) (by k_is) (by k_is) rfl (fun h => nomatch h) (PV.RowOk.cls m_TooMany (by k_is) (by k_is) (by k_is) rfl (fun h => nomatch h) (PV.RowOk.typ (T := "ValueError") (hy "ValueError" (by decide)) (by rfl) (by decide) (by decide +kernel) (by k_is) rfl (fun h => nomatch h) (PV.RowOk.typ (T := "bool") (hy "bool" (by decide)) (by rfl) (by decide) (by decide +kernel) (by k_is) rfl (fun h => nomatch h) (PV.RowOk.typ (T := "int") (hy "int" (by decide)) (by rfl) (by decide) (by decide +kernel) (by k_is) rfl (fun h => nomatch h) (PV.RowOk.typ (T := "list") (hy "list" (by decide)) (by rfl) (by decide) (by decide +kernel) (by k_is) rfl (fun h => nomatch h) (PV.RowOk.typ (T := "tuple") (hy "tuple" (by decide)) (by rfl) (by decide) (by decide +kernel) (by k_is) rfl (fun h => nomatch h) PV.RowOk.nil)))))))))))) PV.TabD.nil))))))), hy⟩
    have d_is_number := VK.df_mk (x := "is_number") (st := K13.s_is_number) KX G (by k_is) (by k_is) (by k_is) (by k_is)
    have d_is_index := VK.df_mk (x := "is_index") (st := K13.s_is_index) KX G (by k_is) (by k_is) (by k_is) (by k_is)
    have d_path_to := VK.df_mk (x := "path_to") (st := K13.s_path_to) KX G (by k_is) (by k_is) (by k_is) (by k_is)
    have d_law_pen := VK.df_mk (x := "_law_pen") (st := K13.s_law_pen) KX G (by k_is) (by k_is) (by k_is) (by k_is)
    have d_law_pick := VK.df_mk (x := "_law_pick") (st := K13.s_law_pick) KX G (by k_is) (by k_is) (by k_is) (by k_is)
    have d_law_pile := VK.df_mk (x := "_law_pile") (st := K13.s_law_pile) KX G (by k_is) (by k_is) (by k_is) (by k_is)
    have d_law_spots := VK.df_mk (x := "_law_spots") (st := K13.s_law_spots) KX G (by k_is) (by k_is) (by k_is) (by k_is)
    have d_law_levels := VK.df_mk (x := "_law_levels") (st := K13.s_law_levels) KX G (by k_is) (by k_is) (by k_is) (by k_is)
    have d_law_end := VK.df_mk (x := "_law_end") (st := K13.s_law_end) KX G (by k_is) (by k_is) (by k_is) (by k_is)
    have d_law_heard := VK.df_mk (x := "_law_heard") (st := K13.s_law_heard) KX G (by k_is) (by k_is) (by k_is) (by k_is)
    have d_law_right := VK.df_mk (x := "_law_right") (st := K13.s_law_right) KX G (by k_is) (by k_is) (by k_is) (by k_is)
    have d_law := VK.df_mk (x := "law") (st := K13.s_law) KX G (by k_is) (by k_is) (by k_is) (by k_is)
    exact PV.law_endX (fun base _ _ => K13.all_ok hz x_NoObject tb m_TooMany m_NothingToUndo m_NoInvariant m_NoObject m_ShadeError nf_index d_is_number d_is_index d_path_to d_law_pen d_law_pick d_law_pile d_law_spots d_law_levels d_law_end d_law_heard d_law_right d_law) hmg d_law (fun _ _ _ _ _ _ _ => rfl)
