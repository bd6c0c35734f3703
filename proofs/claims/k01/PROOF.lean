import PyProof.Rows.All
import Wide.All
import OpenK.AllK
import Wide.FinOn
import KE.KStateDown
import KE.KExcIs
import HandS.ForMost
import HandS.ExcInit
import HandS.ExcValue
import HandS.IsInst
import HandS.Defaults
import HandS.Evl
import HandS.EndBits
import HandS.WideBits
import HandS.Head0
import HandS.Head1
import HandS.Head2
import HandS.HeadEnd
import HandS.HeadHook1
import HandS.HeadHook2
import HandS.HeadHook3
import HandS.HeadHook4
import PySem.Challenge.RW_kindshifts_k01_errors_made
import HandS.MakeKw
import HandS.Style
set_option Elab.async false
set_option linter.all false
set_option maxRecDepth 100000
set_option maxHeartbeats 0
/-! Rules that any law of kindshifts may want: calls where no guard is under way, repr of data, errors as values. -/
namespace KS
open PySem PySem.Spec PyProof.Rows L2
/-! ### calls where no guard is under way -/
/-- the promise of a def, asked where nothing is being shown -/
structure GOk (P : Program) (w : World) (K : PySem.W.Frag) (mg : Str → Option Value) (base : Heap) (CX : CXT) (k : Nat) (f : Addr) (fd : FuncData) (ps : List Str) (sp : Sp) : Prop where
  many : ∀ vs H Q E, sp vs H Q E → vs.length = ps.length
  go : ∀ A outer s H args us vs Q E, A.guards = some [] → Room k A → Env0 P w K mg base A outer s H → BindsTo s fd args (ps.zip us) → Vals vs us → sp vs H Q E → codeAny (model P w) A (.call (.ref f) args) (CR CX outer P w H s Q E) s
section
variable {P : Program} {w : World} {K : PySem.W.Frag} {mg : Str → Option Value} {base : Heap} {CX : CXT} {k : Nat} {f : Addr} {fd : FuncData} {ps : List Str} {sp : Sp}
theorem GOk.of (F : FnOk P w K mg base CX k f fd ps sp) : GOk P w K mg base CX k f fd ps sp where
  many := F.len
  go := fun A outer s H args us vs Q E _ hr e b r h => F.run A outer s H args us vs Q E hr e b r h
def flowV : Flow → Value
  | .ret v => v
  | _ => .none
/-- how a body that has run ends a call -/
theorem ends_call {X : Cx} {pins : List (Addr × Obj)} {Q : VK} {E : XK} {fl : Flow} {s' : Shared} (hex : X.ex = []) (h : SP X pins { nx := fun _ H' => Q .non H', rt := Q } fl s') :
    CR CX X.outer X.prog X.w X.H_0 X.s_0 Q E (.ok (.ret (flowV fl))) s' := by
  have un : ∀ {H' : Hp}, Un X.fs X.ex X.H_0 H' X.s_0.heap s'.heap → Un (frs X.outer) [] X.H_0 H' X.s_0.heap s'.heap := fun u => hex ▸ u
  rcases fl with _ | _ | _ | u
  · obtain ⟨_, H', J, q⟩ := h
    exact ⟨.non, H', J.os, J.bare, un J.base, J.hok, rfl, q⟩
  · obtain ⟨_, _, _, q⟩ := h
    exact False.elim q
  · obtain ⟨_, _, _, q⟩ := h
    exact False.elim q
  · obtain ⟨v, _, H', J, rv, q⟩ := h
    exact ⟨v, H', J.os, J.bare, un J.base, J.hok, rv, q⟩
/-- a def keeps its promise where no guard is under way, by its body's walk -/
theorem GOk.body {x qual : Str} {params : Arguments} {body : List Stmt} {scope : Scope} {dvs : List V} {kws : List (Str × V)} {N : List Str} (F : FunD K x qual params body scope dvs kws f fd) (S : FnScope N ps scope)
    (many : ∀ vs H Q E, sp vs H Q E → vs.length = ps.length)
    (walk : ∀ cdv A outer s H vs Q E, A.guards = some [] → Room k (A.deeper (envOfC qual scope s.heap.objs.size f cdv)) → sp vs H Q E →
      ∃ t, PSs (cxOf CX P w K mg base N qual scope f cdv A outer s H E) body t ∧ t { nx := fun _ H' => Q .non H', rt := Q } (start N vs) H) : GOk P w K mg base CX (k + 1) f fd ps sp := by
  obtain ⟨oc, od, dV, kV, doc, pm, an, cdv, ct, osl, hfd, lk, hcd, -, -⟩ := F.ex
  subst hfd
  constructor
  · exact many
  intro A outer s H args us vs Q E hgd room env binds rel prom
  have old : ∀ b o, base.get? b = some o → s.heap.get? b = some o := fun b o e => (env.bs b o e).1
  have kin := env.mod.kin.keeps old
  have here : ∀ p ∈ ps.zip us, scope.names.lookup p.1 = some .local ∨ (scope.names.lookup p.1 = some .cell ∧ ((cellsFrom (s.heap.objs.size + 1) scope.names []).lookup p.1).isSome = true) := by
    rintro ⟨n, v⟩ hp
    refine (S.par n (List.of_mem_zip hp).1).imp id fun q => ⟨q, ?_⟩
    exact PySem.W.cellsFrom_some _ _ _ (.inl q)
  refine codeAny_call_function (hroom := room.depth) (ho := kin _ _ lk) (hd' := rfl) (hco := S.co) (hgen := S.gen) (hbody := rfl) (hcd := PySem.W.codeRec_of kin hcd) (h := binds _ _ _ _ ?_)
  refine wpAny_newFunctionEnv_cells S.kind here fun e1 he s1 made => ?_
  subst he
  obtain ⟨t, ht, ok⟩ := walk cdv A outer s H vs Q E hgd (room.deeper _) prom
  refine ⟨(env.mod.nolimit.keeps old).keeps made.toInCall.keep, codeAny_func (wpAny_mono (ht.run [] s1 _ H _ (inv_start S room.hd env (many _ _ _ _ prom) rel made) ok) (fun fl s2 h => ?_) fun e s2 h => h)⟩
  have z := ends_call (CX := CX) (E := E) (X := cxOf CX P w K mg base N qual scope f cdv A outer s H E) rfl h
  rcases fl with _ | _ | _ | u <;> exact z
end
section
variable {X : Cx} {CX : CXT} {k : Nat} {f : Addr} {fd : FuncData} {ps : List Str} {sp : Sp} {E : XK} {x : Str} {p pos : Pos} {e : Expr} {es : List Expr} {t : TA}
/-- a call by position of such a def -/
theorem pe_go (G : GOk X.prog X.w X.K X.mg X.base CX k f fd ps sp) (gd : X.A.guards = some []) (room : Room k X.A) (gl : Gl X x) (hm : X.mg x = some (.ref f)) (kp : PySem.W.keepIn X.K (.ref f) = true) (bi : Binds X.K fd ps []) (pass : Passes CX X E)
    (args : PA X (e :: es) t) (hdb : (x == ("__debug__" : Str)) = false := by decide) (hse : starEach (e :: es) X.env = (false, eval e X.env) :: starEach es X.env := by rfl) (hpl : (backTo pos (starEach es X.env)).any (·.1) = false := by rfl) :
    PE X (.Call (.Name x p) (e :: es) [] pos) (tCall sp [] E t) := by
  constructor
  intro pins s σ H Q I h
  refine wpAny_Call_Name_kw (ld_glob I gl hm (PySem.W.callWith_K I.ok.mod.kin kp (thn (args.run pos pins s σ H _ I h) ?_) hse hpl) hdb)
  rintro us s1 ⟨vs, H1, J, rel, prom⟩
  rw [List.append_nil] at prom
  have many : (us ++ ([] : List Value)).length = ps.length := by
    rw [List.append_nil, ← rel.length]
    exact G.many _ _ _ _ prom
  have bd := bi s1 us J.kIn many
  rw [List.append_nil] at bd
  refine ⟨J.kIn, wpAny_call (codeAny_mono (G.go X.A X.stack s1 H1 ⟨us, []⟩ us vs Q E gd room J.env0 bd rel prom) ?_)⟩
  intro r s2 h2
  match r, h2 with
  | .ok (.ret u), h2 => exact J.after h2
  | .error er, h2 => exact pass pins σ H1 s1 er s2 J h2
  | .ok .next, h2 => exact h2.elim
  | .ok .brk, h2 => exact h2.elim
  | .ok .cont, h2 => exact h2.elim
end
/-! ### the law's call -/
/-- what is tracked at the law's entry: the script, unless the module itself holds it -/
theorem script_in {P : Program} {w : World} {K : PySem.W.Frag} {h : Heap} {a : Addr} {vs : List Value} {ns : List Int} (kin : K.In h) (ha : h.get? a = some { cls := .type "list", data := .seq vs.toArray }) (hi : IntsAre vs ns) (hl : ns.length ≤ sizeLine) :
    ∃ H : Hp, Only H ∧ SqL K H a (ns.map V.int) ∧ HOk P w H h ∧ ∀ b, H b ≠ none → b = a ∧ K.lookup b = none := by
  have rel := vals_ints hi
  have len := hi.length
  rcases hk : K.lookup a with _ | o
  · let one : HO := .frz { cls := .type "list", data := .seq vs.toArray } (.lst (ns.map V.int))
    have at_a : (fun b => if b = a then some one else none : Hp) a = some one := if_pos rfl
    refine ⟨fun b => if b = a then some one else none, fun b => ?_, .inl (.inr ⟨_, at_a⟩), fun b u e => ?_, fun b nb => ?_⟩
    · by_cases e : b = a
      · exact .inr ⟨_, _, by simp only [e, if_true]; rfl⟩
      · exact .inl (by simp only [e, if_false])
    · by_cases eb : b = a
      · subst eb
        cases at_a.symm.trans e
        exact ⟨ha, by rw [List.length_map]; exact hl, vs, _, rel, ha⟩
      · simp only [eb, if_false] at e
        cases e
    · by_cases eb : b = a
      · exact ⟨eb, eb ▸ hk⟩
      · exact absurd (by simp only [eb, if_false]) nb
  · have eo := kin a o hk
    rw [ha] at eo
    cases eo
    refine ⟨fun _ => none, fun _ => .inl rfl, .inr ⟨_, vs.toArray, _, hk, rfl, rfl, rfl, ?_, by simpa using rel⟩, fun b u e => (nomatch e), fun b nb => absurd rfl nb⟩
    rw [List.size_toArray, len]
    exact hl
/-- the law's call ends in True and leaves what stood, by a promise that may ask that no guard is under way -/
theorem law_go {P : Program} {w : World} {K : PySem.W.Frag} {mg mb : Str → Option Value} {CX : CXT} {k : Nat} {fa a : Addr} {fd : FuncData} {x : Str} {sp : Sp} {s₁ : Shared} {vs : List Value} {ns : List Int} (kin : K.In s₁.heap) (gl : s₁.heap.Ns mainGlobals mg)
    (bl : s₁.heap.Ns builtinsNs mb ∧ ∀ y : Str, y ≠ "__name__" → mb y = bootBuiltins y) (lim : s₁.heap.NoLimit) (gens : s₁.gens = #[]) (ha : s₁.heap.get? a = some { cls := .type "list", data := .seq vs.toArray }) (hi : IntsAre vs ns) (hl : ns.length ≤ sizeLine)
    (room : Room k callerA) (F : ∀ base : Heap, K.In base → base.Ns mainGlobals mg → GOk P w K mg base CX k fa fd [x] sp) (bind : ∀ (s : Shared) (u : Value), BindsTo s fd ⟨[u], []⟩ [(x, u)])
    (prom : ∀ H : Hp, Only H → SqL K H a (ns.map V.int) → sp [.ref a] H (fun v _ => v = .bl true) fun _ _ _ => False) (none_out : ∀ H e s', CX [] H s₁ (fun _ _ _ => False) e s' → False) :
    codeAny (model P w) callerA (.call (.ref fa) ⟨[.ref a], []⟩) (fun r s' => r = .ok (.ret (.bool true)) ∧ OldK s₁.heap s'.heap ∧ s'.os = s₁.os ∧ AllBare s'.gens) s₁ := by
  obtain ⟨H, only, sq, hok, dom⟩ := script_in (P := P) (w := w) kin ha hi hl
  -- what is not the script is seen through the base
  have see : ∀ {b : Addr} {o : Obj}, s₁.heap.get? b = some o → (b = a → K.lookup b ≠ none ∨ ∀ its n, o.data ≠ .seq its n) → (hidT s₁.heap H).get? b = some o := fun {b o} e hb => by
    refine hidT_get e ?_
    cases q : H b with
    | none => rfl
    | some u =>
      obtain ⟨ea, kn⟩ := dom b (by rw [q]; exact fun z => nomatch z)
      rcases hb ea with z | z
      · exact absurd kn z
      · subst ea
        rw [ha] at e
        cases e
        exact absurd rfl (z _ _)
  have ns_see : ∀ {b : Addr} {m : Str → Option Value}, s₁.heap.Ns b m → (hidT s₁.heap H).Ns b m := fun {b m} z => by
    obtain ⟨o, es, ep, e1, e2, e3⟩ := z
    exact ⟨o, es, ep, see e1 fun _ => .inr fun its n q => (nomatch e2.symm.trans q), e2, e3⟩
  have kb : K.In (hidT s₁.heap H) := fun b o e => see (kin b o e) fun _ => .inl (by rw [e]; exact fun z => nomatch z)
  have md : Mod K mg (hidT s₁.heap H) := {
    kin := kb
    glob := ns_see gl
    blt := ⟨mb, ns_see bl.1, bl.2⟩
    nolimit := lim.imp fun mc h => ⟨ns_see h.1, h.2⟩ }
  have env : Env0 P w K mg (hidT s₁.heap H) callerA [] s₁ H := {
    frames := rfl
    mod := md
    bs := fun b o e => of_hidT e
    bsz := Nat.le_of_eq (hidT_size _ _)
    funs := trivial
    frf := fun b hb => (nomatch (show b ∈ ([] : List Addr) from hb))
    hok := hok
    bare := .of_eq gens }
  refine codeAny_mono ((F _ kb md.glob).go callerA [] s₁ H ⟨[.ref a], []⟩ [.ref a] [.ref a] _ _ rfl room env (bind s₁ (.ref a)) (.cons rfl .nil) (prom H only sq)) ?_
  intro r s' h
  match r, h with
  | .error e, h => exact (none_out H e s' h).elim
  | .ok .next, h => exact h.elim
  | .ok .brk, h => exact h.elim
  | .ok .cont, h => exact h.elim
  | .ok (.ret u), ⟨v, H', os, bare, un, hok', rv, ev⟩ =>
    subst ev
    obtain rfl : u = Value.bool true := rv
    refine ⟨rfl, OldK.of_keep fun b o e => ?_, os, bare⟩
    rcases only b with n | ⟨ob, xs, q⟩
    · exact un.keep b o e n (fun z => nomatch (show b ∈ ([] : List Addr) from z)) (fun z => nomatch z)
    · have e1 := (hok b _ q).1
      have e2 := (hok' b _ (un.frzs b ob _ q)).1
      rw [e] at e1
      cases e1
      exact e2
/-- the end of a law's proof, by a head whose facts give the written part and the law's promise -/
theorem walk_go {l : PySem.W.OpenLaw} {n k : Nat} {q : Program} {loose : List Str} {XP : (Str → Option Value) → Heap → Prop} {YP : World → Heap → Prop} {d : DefRec} {CX : CXT} {x : Str} (most : l.most = some n) (small : n ≤ sizeLine) (dfl : d.params.defaults = []) (room : Room k callerA)
    (F : ∀ (w : World) (mg : Str → Option Value) (fa : Addr) (h : Heap), YP w h → h.Ns mainGlobals mg → mg d.name = some (.ref fa) →
      ∃ (K : PySem.W.Frag) (fd : FuncData) (sp : Sp), K.In h ∧ (∀ (s : Shared) (u : Value), BindsTo s fd ⟨[u], []⟩ [(x, u)]) ∧
        (∀ (H : Hp) (a : Addr) (ns : List Int), ns.length ≤ n → Only H → SqL K H a (ns.map V.int) → sp [.ref a] H (fun v _ => v = .bl true) fun _ _ _ => False) ∧ ∀ base : Heap, K.In base → base.Ns mainGlobals mg → GOk l.prog w K mg base CX k fa fd [x] sp)
    (none_out : ∀ (H : Hp) (s : Shared) (e : Value) (s' : Shared), CX [] H s (fun _ _ _ => False) e s' → False) : PySem.W.WalkO q loose XP YP l.row.toRowW d [] (fun f vs => PySem.call f vs) := by
  refine Att.attach_call most dfl ?_
  intro w s₀ s₁ mg mb fa o pm cd doc a vs ns G Y ho hd hcd hmg hobj hints hlen hg
  obtain ⟨K, fd, sp, kin, bind, prom, ok⟩ := F w mg fa _ Y G.T.g hmg
  exact law_go kin G.T.g ⟨G.T.b, G.T.builtins⟩ G.T.nolimit hg hobj hints (Nat.le_trans hlen small) room ok bind (fun H o z => prom H a ns hlen o z) fun H e s' => none_out H s₁ e s'
end KS

namespace KS
open PySem PySem.Spec PyProof.Rows L2
/-! ### data in the heap, and how it is shown -/
def kD : Key → PyData
  | .inl i => .int i
  | .inr x => .str x
mutual
inductive Dq (H : Hp) : V → PyData → Prop
  | non : Dq H .non .none
  | bl (b : Bool) : Dq H (.bl b) (.bool b)
  | int (i : Int) : Dq H (.int i) (.int i)
  | str (x : Str) : Dq H (.str x) (.str x)
  | lst {a : Addr} {xs : List V} {ds : List PyData} : H a = some (.lst xs) → a ≠ sysModules → DqA H xs ds → Dq H (.ref a) (.list ds)
  | tup {a : Addr} {xs : List V} {ds : List PyData} : H a = some (.tup xs) → DqA H xs ds → Dq H (.ref a) (.tuple ds)
  | dic {a : Addr} {kvs : List (Key × V)} {ds : List (PyData × PyData)} : H a = some (.dK kvs) → DqK H kvs ds → Dq H (.ref a) (.dict ds)
inductive DqA (H : Hp) : List V → List PyData → Prop
  | nil : DqA H [] []
  | cons {v : V} {vs : List V} {d : PyData} {ds : List PyData} : Dq H v d → DqA H vs ds → DqA H (v :: vs) (d :: ds)
inductive DqK (H : Hp) : List (Key × V) → List (PyData × PyData) → Prop
  | nil : DqK H [] []
  | cons {k : Key} {v : V} {kvs : List (Key × V)} {d : PyData} {ds : List (PyData × PyData)} : Dq H v d → DqK H kvs ds → DqK H ((k, v) :: kvs) ((kD k, d) :: ds)
end
mutual
theorem Dq.mono {H H' : Hp} (e : Same H H') : ∀ {v : V} {d : PyData}, Dq H v d → Dq H' v d
  | _, _, .non => .non
  | _, _, .bl b => .bl b
  | _, _, .int i => .int i
  | _, _, .str x => .str x
  | _, _, .lst h n q => .lst (e _ _ h) n (DqA.mono e q)
  | _, _, .tup h q => .tup (e _ _ h) (DqA.mono e q)
  | _, _, .dic h q => .dic (e _ _ h) (DqK.mono e q)
theorem DqA.mono {H H' : Hp} (e : Same H H') : ∀ {vs : List V} {ds : List PyData}, DqA H vs ds → DqA H' vs ds
  | _, _, .nil => .nil
  | _, _, .cons h q => .cons (Dq.mono e h) (DqA.mono e q)
theorem DqK.mono {H H' : Hp} (e : Same H H') : ∀ {vs : List (Key × V)} {ds : List (PyData × PyData)}, DqK H vs ds → DqK H' vs ds
  | _, _, .nil => .nil
  | _, _, .cons h q => .cons (Dq.mono e h) (DqK.mono e q)
end
theorem reads_key {P : Program} {w : World} {h : Heap} {k : Key} {u : Value} (e : (mixKind P w).is k u = true) : Reads h u (kD k) [] := by
  rcases keyIs_shape (show keyIs k u = true from e) with ⟨i, t, rfl, rfl⟩ | ⟨x, t, rfl, rfl⟩
  · exact .int i t
  · exact .str x t
section
variable {X : Cx} {pins : List (Addr × Obj)} {σ : L2.St} {H : Hp} {s : Shared}
mutual
theorem Dq.reads (I : Inv X pins σ H s) : ∀ {v : V} {d : PyData} {u : Value}, Dq H v d → RelV v u → ∃ as, Reads s.heap u d as ∧ sysModules ∉ as
  | _, _, _, .non, r => by cases r; exact ⟨[], .none, List.not_mem_nil⟩
  | _, _, _, .bl b, r => by cases r; exact ⟨[], .bool b, List.not_mem_nil⟩
  | _, _, _, .int i, r => by obtain ⟨t, rfl⟩ := r; exact ⟨[], .int i t, List.not_mem_nil⟩
  | _, _, _, .str x, r => by obtain ⟨t, rfl⟩ := r; exact ⟨[], .str x t, List.not_mem_nil⟩
  | _, _, _, .lst h n q, r => by
    cases r
    obtain ⟨its, rv, ⟨o, m, ho, hc, _, hd⟩, _⟩ := I.list (SqL.of h)
    obtain ⟨as, hr, hn⟩ := DqA.reads I q rv
    exact ⟨_, .list ho hc hd hr, fun z => (List.mem_cons.mp z).elim (fun e => n e.symm) hn⟩
  | _, _, _, .tup h q, r => by
    cases r
    obtain ⟨its, rv, ⟨o, ho, hc, m, hd⟩, _⟩ := I.tuple (SqT.of h)
    obtain ⟨as, hr, hn⟩ := DqA.reads I q rv
    exact ⟨_, .tuple ho hc hd hr, hn⟩
  | _, _, _, .dic h q, r => by
    cases r
    obtain ⟨_, lo, vs, rel, o, es, ep, ho, hx, hd, _, pr, _⟩ := dk_of I.hok h
    obtain ⟨as, bs, h1, h2, n1, n2⟩ := DqK.reads I q rel pr
    refine ⟨_, .dict ho hx.1 hd h1 h2, fun z => ?_⟩
    rcases List.mem_append.mp z with z | z
    · rcases List.mem_cons.mp z with e | z
      · rw [e] at lo
        simp at lo
      · exact n1 z
    · exact n2 z
theorem DqA.reads (I : Inv X pins σ H s) : ∀ {vs : List V} {ds : List PyData} {us : List Value}, DqA H vs ds → Vals vs us → ∃ as, ReadsAll s.heap us ds as ∧ sysModules ∉ as
  | _, _, _, .nil, r => by cases r; exact ⟨[], .nil, List.not_mem_nil⟩
  | _, _, _, .cons h q, r => by
    cases r with
    | cons r1 r2 =>
      obtain ⟨as, h1, n1⟩ := Dq.reads I h r1
      obtain ⟨bs, h2, n2⟩ := DqA.reads I q r2
      exact ⟨_, .cons h1 h2, fun z => (List.mem_append.mp z).elim n1 n2⟩
theorem DqK.reads (I : Inv X pins σ H s) : ∀ {kvs : List (Key × V)} {ds : List (PyData × PyData)} {vs : List (Key × Value)} {el : List DictEntry}, DqK H kvs ds → KV kvs vs → Pairs (mixKind X.prog X.w) el vs →
    ∃ as bs, ReadsAll s.heap (el.map (·.key)) (ds.map (·.1)) as ∧ ReadsAll s.heap (el.map (·.val)) (ds.map (·.2)) bs ∧ sysModules ∉ as ∧ sysModules ∉ bs
  | _, _, _, _, .nil, r, p => by
    cases r
    cases p
    exact ⟨[], [], .nil, .nil, List.not_mem_nil, List.not_mem_nil⟩
  | _, _, _, _, .cons h q, r, p => by
    cases r with
    | cons r1 r2 =>
      rename_i y ys
      obtain ⟨k2, u2⟩ := y
      obtain ⟨e1, rv⟩ := r1
      cases p with
      | cons hk hv p2 =>
        obtain ⟨as, h1, n1⟩ := Dq.reads I h rv
        obtain ⟨bs, cs, h2, h3, n2, n3⟩ := DqK.reads I q r2 p2
        dsimp only at e1
        subst e1
        refine ⟨_, _, .cons (reads_key hk) h2, .cons (show Reads s.heap (DictEntry.val _) _ as from hv ▸ h1) h3, ?_, fun z => (List.mem_append.mp z).elim n1 n3⟩
        simpa using n2
end
/-- repr(v), v data -/
def rShow (H : Hp) (xs : List V) (Q : VK) : Prop := ∃ v d, xs = [v] ∧ Dq H v d ∧ d.showable = true ∧ (d.shown.length ≤ sizeLine ∨ ∃ i, d = .int i) ∧ d.depth ≤ 64 ∧ Q (.str d.shown) H
theorem call_show (gd : X.A.guards = some []) (hu : X.A.units + 80 < cLine) : CallR X (.builtin "repr") (fun xs H Q => rShow H xs Q) := by
  intro pins s σ H xs us Q I r h
  obtain ⟨v, d, rfl, hd, hs, hz, hp, q⟩ := h
  cases r with
  | cons r1 r2 =>
    cases r2
    obtain ⟨as, hr, hn⟩ := hd.reads I r1
    have fin : ∀ (h' : Heap) (u tk : Tok), (∀ b o, s.heap.get? b = some o → h'.get? b = some o) → EP X pins σ Q (.str d.shown u) { s with heap := h', toks := tk } :=
      fun h' u tk k => ⟨.str d.shown, H, I.kept k, ⟨u, rfl⟩, q⟩
    cases hr with
    | none => exact P.repr_of_none (fin _ _ _ fun _ _ e => e)
    | bool b => exact P.repr_of_bool (fin s.heap _ _ fun _ _ e => e)
    | int i t => exact P.repr_of_int (by simpa [PyData.showable] using hs) (fin s.heap _ _ fun _ _ e => e)
    | str x t => exact P.repr_of_str (fin s.heap _ _ fun _ _ e => e) (hz.resolve_right (by rintro ⟨i, e⟩; cases e))
    | list h1 h2 h3 h4 => exact repr_of_reads' (Reads.list h1 h2 h3 h4) hs (fun _ => hn) gd (by omega) (fun _ _ e => e) (fun h' u tk k => fin h' u tk k) (hz.resolve_right (by rintro ⟨i, e⟩; cases e))
    | tuple h1 h2 h3 h4 => exact repr_of_reads' (Reads.tuple h1 h2 h3 h4) hs (fun _ => hn) gd (by omega) (fun _ _ e => e) (fun h' u tk k => fin h' u tk k) (hz.resolve_right (by rintro ⟨i, e⟩; cases e))
    | dict h1 h2 h3 h4 h5 => exact repr_of_reads' (Reads.dict h1 h2 h3 h4 h5) hs (fun _ => hn) gd (by omega) (fun _ _ e => e) (fun h' u tk k => fin h' u tk k) (hz.resolve_right (by rintro ⟨i, e⟩; cases e))
end
/-- a new list, told to be no part of the interpreter -/
theorem pe_lstS {X : Cx} {es : List Expr} {t : TA} {pos : Pos} (h : PA X es t) : PE X (.List es pos) (fun σ H Q => t σ H fun xs H1 => xs.length ≤ sizeLine ∧ ∀ p, H1 p = none → p ≠ sysModules → Q (.ref p) (upd H1 p (.lst xs))) := by
  constructor
  intro pins s σ H Q I hq
  refine wpAny_List_spliced (thn (h.run pos pins s σ H _ I hq) ?_)
  rintro us s1 ⟨xs, H1, J, r, z, q⟩
  refine ⟨r.length ▸ z, .ref s1.heap.objs.size, _, J.laid (t' := s1.toks) (o := .lst xs) (fun b u e => Heap.get?_push_of_some _ e) (Nat.le_refl _) ⟨z, us, 0, r, Heap.get?_push_size _ rfl⟩, rfl, q _ (J.hok.fresh (Nat.le_refl _)) (Nat.ne_of_gt J.big)⟩
end KS

namespace KS
open PySem PySem.Spec PyProof.Rows L2
/-! ### errors as values: an own class over ValueError with one field -/
abbrev fV : Str := "value"
/-- at a: an error of the class at C that holds v -/
def ErrAt (H : Hp) (a C : Addr) (v : V) : Prop := ∃ d, H a = some (exo a C (some d)) ∧ H d = some (exd d [(fV, v)])
/-- at a: an error of the class at C, whatever it holds -/
def IsErr (H : Hp) (a C : Addr) : Prop := (∃ v, ErrAt H a C v) ∨ H a = some (ExO (.ref C) a)
theorem ErrAt.mono {H H' : Hp} {a C : Addr} {v : V} (e : Same H H') (h : ErrAt H a C v) : ErrAt H' a C v := let ⟨d, h1, h2⟩ := h; ⟨d, e _ _ h1, e _ _ h2⟩
theorem IsErr.mono {H H' : Hp} {a C : Addr} (e : Same H H') (h : IsErr H a C) : IsErr H' a C := h.imp (fun ⟨v, z⟩ => ⟨v, z.mono e⟩) (e _ _)
theorem ErrAt.is {H : Hp} {a C : Addr} {v : V} (h : ErrAt H a C v) : IsErr H a C := .inl ⟨v, h⟩
/-- what such a class must say: that its instances are asked rightly -/
structure EC (K : PySem.W.Frag) (C : Addr) : Prop where
  cl : (PySem.W.clsIn K C).isSome = true
  ga : PySem.W.findIn K (.ref C) "__getattribute__" = some (some (.builtin "BaseException.__getattribute__"))
  gt : PySem.W.findIn K (.ref C) "__getattr__" = some none
  sub : PySem.W.subIn K (.ref C) (.type "BaseException") = some true
  cc : PySem.W.findIn K (.ref C) "__class__" = some (some (.builtin "object.__class__"))
  ob : PySem.W.mroIn K C (.type "object") = some true
  gd : PySem.W.specialIn K (.builtin "object.__class__") "__get__" = some (some (.builtin "getset_descriptor.__get__"))
  tk : PySem.W.takesIn K (.builtin "object.__class__") = some true
  hd : PySem.W.hasDictIn K C = true
section
variable {X : Cx} {pins : List (Addr × Obj)} {σ : L2.St} {H : Hp} {s : Shared} {a C : Addr} {v : V}
theorem err_inst (I : Inv X pins σ H s) (h : ErrAt H a C v) : ∃ (ox od : Obj) (mA : Str → Option Value), PySem.W.InstAt s.heap a ox C (some od) ∧ (∀ f, PySem.W.lookIn f od = some (mA f)) ∧ ∀ f, RelO (([(fV, v)] : List (Str × V)).lookup f) (mA f) := by
  obtain ⟨d, h1, h2⟩ := h
  obtain ⟨t1, ho⟩ := exo_at I.hok h1
  obtain ⟨mA, hns, rel⟩ := exd_at I.hok h2
  obtain ⟨od, hod, hl⟩ := lookIn_ns hns
  exact ⟨_, od, mA, ⟨ho, rfl, rfl, hod⟩, hl, rel⟩
/-- isinstance(e, c), e such an error -/
def rIsE1 (K : PySem.W.Frag) (H : Hp) (xs : List V) (Q : VK) : Prop := ∃ (a C : Addr) (c : V) (u : Value) (b : Bool), xs = [.ref a, c] ∧ ClsV c u ∧ IsErr H a C ∧ EC K C ∧ PySem.W.kitOne K (.ref C) u = some b ∧ Q (.bl b) H
theorem call_isErr : CallR X (.builtin "isinstance") (fun xs H Q => rIsE1 X.K H xs Q) := by
  intro pins s σ H xs us Q I r h
  obtain ⟨a, C, c, u, b, rfl, k, he, ec, e, q⟩ := h
  obtain ⟨u1, u2, rfl, r1, r2⟩ := vals2 r
  obtain rfl : u1 = Value.ref a := r1
  have e2 := k.eq r2
  subst e2
  have fin : ∀ tk, EP X pins σ Q (.bool b) { s with toks := tk } := fun tk => ⟨.bl b, H, I.tok tk, rfl, q⟩
  rcases he with ⟨v, he⟩ | he
  · obtain ⟨ox, od, _, J, _⟩ := err_inst I he
    exact PySem.W.kia_one (PySem.W.kitx_exc ec.cl ec.ga ec.gt ec.sub ec.cc ec.gd ec.tk ec.ob) I.kIn J e (fun z => nomatch z) fin
  · obtain ⟨⟨oe, vs, ho, hz, hd, _⟩, _⟩ := I.hok a _ he
    have J : PySem.W.InstAt s.heap a oe C none := ⟨ho, hz.1, by unfold PySem.W.notCls; rw [hd] <;> rfl, by rw [hz.2]; trivial⟩
    exact PySem.W.kia_one (PySem.W.kitx_exc ec.cl ec.ga ec.gt ec.sub ec.cc ec.gd ec.tk ec.ob) I.kIn J e (fun z => nomatch z) fin
/-- e.value -/
def tErrV (K : PySem.W.Frag) (te : TE) : TE := fun σ H Q => te σ H fun x H1 => ∃ (a C : Addr) (v : V), x = .ref a ∧ EC K C ∧ PySem.W.findIn K (.ref C) fV = some none ∧ ErrAt H1 a C v ∧ Q v H1
theorem pe_errV {e : Expr} {te : TE} {pos : Pos} (he : PE X e te) (hb : attributeBase e fV X.env (eval e X.env) = eval e X.env := by rfl) : PE X (.Attribute e fV pos) (tErrV X.K te) := by
  constructor
  intro pins s σ H Q I h
  refine attr_of hb (thn (he.run pins s σ H _ I h) ?_)
  rintro u s1 ⟨x, H1, J, rx, a, C, v, ex, ec, no, hv, q⟩
  subst ex
  obtain rfl : u = Value.ref a := rx
  obtain ⟨ox, od, mA, inst, hl, rel⟩ := err_inst J hv
  obtain ⟨z, hz, rz⟩ := RelO.some_of (v := v) (o := mA fV) (by have := rel fV; rwa [lookup_put, if_pos rfl] at this)
  exact HandSPX.exc_get J.kIn inst ec.ga ec.gt ec.sub (PySem.W.findObj_own ec.hd no rfl (by rw [hl, hz])) (handed_of rz) ⟨v, H1, J.tok _, rz, q⟩
end
/-! ### such an error is made -/
/-- what __init__(self, value) promises -/
def spIni (C : Addr) : Sp := fun vs H Q _ => ∃ (a : Addr) (v : V), vs = [.ref a, v] ∧ H a = some (exo a C none) ∧ ∀ d, H d = none → d ≠ a → Q .non (upd (upd H d (exd d [(fV, v)])) a (exo a C (some d)))
/-- a class and its __init__ -/
structure MC (K : PySem.W.Frag) (mg : Str → Option Value) (x : Str) (C fI : Addr) : Prop where
  ec : EC K C
  oc : OexC K C
  no : PySem.W.findIn K (.ref C) fV = some none
  ini : PySem.W.findIn K (.ref C) "__init__" = some (some (.ref fI))
  tI : PySem.W.typeIn K (.ref fI) = some (.type "function")
  gC : mg x = some (.ref C)
section
variable {X : Cx} {CX : CXT} {pins : List (Addr × Obj)} {σ : L2.St} {H : Hp} {s : Shared} {C fI : Addr} {v : V} {u : Value} {k : Nat} {fd : FuncData} {Q : VK} {x : Str}
/-- __init__ has been called on the new error -/
theorem ini_done (F : FnOk X.prog X.w X.K X.mg X.base CX0 k fI fd ["self", "value"] (spIni C)) (room : Room (k + 1) X.A) {us : List Value} {kw : List (Str × Value)} (I : Inv X pins σ H s) (rv : RelV v u)
    (bind : ∀ s' : Shared, X.K.In s'.heap → ∀ z : Value, BindsTo s' fd ⟨z :: us, kw⟩ [("self", z), ("value", u)]) (t0 : Addr) {h' : Heap} (keep : ∀ b o, s.heap.get? b = some o → h'.get? b = some o) (new : h'.get? (s.heap.objs.size + 1) = some (PySem.HandSPX.excO C t0))
    (q : ∀ a H', H a = none → Same H H' → ErrAt H' a C v → Q (.ref a) H') {R : Result → Shared → Prop} (fin : ∀ z s', EP X pins σ Q z s' → R (.ok (.ret z)) s') :
    codeAny (model X.prog X.w) (X.A.under (.builtin "type.__call__" ⟨.ref C :: us, kw⟩)) (.call (.ref fI) ⟨.ref (s.heap.objs.size + 1) :: us, kw⟩)
      (PySem.W.InitBack (s.heap.objs.size + 1) R) { s with heap := h' } := by
  have free : H (s.heap.objs.size + 1) = none := I.hok.fresh (Nat.le_succ _)
  have J : Inv X pins σ (upd H (s.heap.objs.size + 1) (exo (s.heap.objs.size + 1) C none)) { s with heap := h' } := I.laid (t' := s.toks) keep (Nat.le_succ _) (exo_ok new)
  refine codeAny_mono (F.run _ X.stack _ _ ⟨.ref (s.heap.objs.size + 1) :: us, kw⟩ [.ref (s.heap.objs.size + 1), u] [.ref (s.heap.objs.size + 1), v] (fun w H2 => w = .non ∧ ∃ H', H2 = H' ∧ Q (.ref (s.heap.objs.size + 1)) H') (fun _ _ _ => False)
    (room.make C us kw) (J.env0.make C us kw) (bind _ J.kIn _) (.cons rfl (.cons rv .nil)) ⟨_, v, rfl, upd_same, fun d fd ne => ⟨rfl, _, rfl, q _ _ free (fun b o e => ?_) ⟨d, upd_same, ?_⟩⟩⟩) fun r s' hr => ?_
  · have n1 : b ≠ s.heap.objs.size + 1 := ne_of_none e free
    rw [upd_ne ne] at fd
    rw [upd_ne n1, upd_ne (ne_of_none e fd), upd_ne n1]
    exact e
  · rw [upd_ne ne, upd_same]
  · match r, hr with
    | .error e, hr => exact hr.elim
    | .ok .next, hr => exact hr.elim
    | .ok .brk, hr => exact hr.elim
    | .ok .cont, hr => exact hr.elim
    | .ok (.ret z), hr =>
      obtain ⟨w, H2, os, bare, un, hok, rz, ez, H', eH, q2⟩ := hr
      subst ez eH
      refine ⟨rz, fin _ _ ⟨.ref _, H2, ?_, rfl, q2⟩⟩
      refine I.call' (ch := []) os ?_ hok bare fun b z => (nomatch z)
      exact (Un.laid keep (Nat.le_succ _) free).trans un
/-- C(e) | C(): by position, or with the default -/
theorem run_err (M : MC X.K X.mg x C fI) (F : FnOk X.prog X.w X.K X.mg X.base CX0 k fI fd ["self", "value"] (spIni C)) (room : Room (k + 1) X.A) {us : List Value} (few : us.length ≤ 1) (I : Inv X pins σ H s) (rv : RelV v u)
    (bind : ∀ s' : Shared, X.K.In s'.heap → ∀ z : Value, BindsTo s' fd ⟨z :: us, []⟩ [("self", z), ("value", u)]) (q : ∀ a H', H a = none → Same H H' → ErrAt H' a C v → Q (.ref a) H') : wpAny (model X.prog X.w) X.A (call (.ref C) us) (EP X pins σ Q) X.xe s := by
  obtain ⟨nm, qn, N, bs, bm, sn, sub, ab, col, dd, k0, k1, k2, k3, k5, hC, hbm⟩ := M.oc.cls
  have small : us.length ≤ sizeLine := Nat.le_trans few (by decide)
  have keep : ∀ b o, s.heap.get? b = some o → ((s.heap.push (PySem.W.kdv_tup us)).push (PySem.HandSPX.excO C s.heap.objs.size)).get? b = some o := fun b o e => Heap.get?_push_of_some _ (Heap.get?_push_of_some _ e)
  have new : ((s.heap.push (PySem.W.kdv_tup us)).push (PySem.HandSPX.excO C s.heap.objs.size)).get? (s.heap.objs.size + 1) = some (PySem.HandSPX.excO C s.heap.objs.size) := by heap_get
  have main := fun (R : Result → Shared → Prop) fin => ini_done (R := R) F room I rv bind s.heap.objs.size keep new q fin
  have kin := I.kIn
  obtain ⟨hp, g, dr, tk, os⟩ := s
  exact wpAny_call (PySem.HandSPX.call_own PySem.F.excBase_ValueError (fun Y => PySem.HandSPX.refsVE_contains Y bm hbm) (kin _ _ hC) (PySem.W.looks_findIn kin M.ini) (fun self => PySem.W.bind_fn kin self M.tI) small (main _ fun _ _ z => z))
end
section
variable {X : Cx} {C fI : Addr} {k : Nat} {fd : FuncData} {x : Str} {e : Expr} {ta : TA} {p pos : Pos}
def tErr (C : Addr) (ta : TA) : TE := fun σ H Q => ta σ H fun vs H1 => ∃ v, vs = [v] ∧ ∀ a H', H1 a = none → Same H1 H' → ErrAt H' a C v → Q (.ref a) H'
def tErr0 (C : Addr) : TE := fun _ H Q => ∀ a H', H a = none → Same H H' → ErrAt H' a C .non → Q (.ref a) H'
theorem pe_err (M : MC X.K X.mg x C fI) (F : FnOk X.prog X.w X.K X.mg X.base CX0 k fI fd ["self", "value"] (spIni C)) (room : Room (k + 1) X.A) (bi : Binds X.K fd ["self", "value"] []) (ha : PA X [e] ta) (gl : Gl X x := by rfl)
    (hdb : (x == ("__debug__" : Str)) = false := by decide) (hs : starEach [e] X.env = (false, eval e X.env) :: starEach [] X.env := by rfl) (hpl : (backTo pos (starEach [] X.env)).any (·.1) = false := by rfl) : PE X (.Call (.Name x p) [e] [] pos) (tErr C ta) := by
  constructor
  intro pins s σ H Q I h
  refine wpAny_Call_Name_kw (ld_glob I gl M.gC (PySem.W.callWith_K I.ok.mod.kin M.oc.kC (thn (ha.run pos pins s σ H _ I h) ?_) hs hpl) hdb)
  rintro us s1 ⟨vs, H1, J, r, v, rfl, q⟩
  cases r with
  | cons r1 r2 =>
    cases r2
    rename_i u
    exact ⟨J.kIn, run_err M F room (Nat.le_refl 1) J r1 (fun s' kin z => bi s' [z, u] kin rfl) q⟩
theorem pe_err0 (M : MC X.K X.mg x C fI) (F : FnOk X.prog X.w X.K X.mg X.base CX0 k fI fd ["self", "value"] (spIni C)) (room : Room (k + 1) X.A) (bi : Binds X.K fd ["self", "value"] [.none]) (gl : Gl X x := by rfl)
    (hdb : (x == ("__debug__" : Str)) = false := by decide) : PE X (.Call (.Name x p) [] [] pos) (tErr0 C) := by
  constructor
  intro pins s σ H Q I h
  refine wpAny_Call_Name_kw (ld_glob I gl M.gC (PySem.W.callWith_K0 I.kIn M.oc.kC ?_) hdb)
  exact run_err M F room (Nat.zero_le 1) I (v := .non) (u := .none) rfl (fun s' kin z => bi s' [z] kin rfl) h
end
end KS

/-! ### an error made by its field's name: C(value=e) -/
namespace PySem
namespace KSN
open PySem.W PySem.Calls PyProof.Rows PySem.HandSPX
section
variable {prog : Program} {w : World} {A : Around} {E : Value → Shared → Prop} {R : Result → Shared → Prop} {h : Heap} {g : Array GenState} {dr : Drawn} {t : Nat} {os : OsState} {nm q n : Str} {C N fI : Addr} {bs bm : List Value} {sn : List Str} {sub : List Value} {ab : Bool}
  {col : Option Bool} {dd : Option Addr} {k0 k1 k2 k3 k5 : Option Value} {u : Value}
theorem has_of (tail : refsVE bm = true) (Y : String) : (Value.ref C :: bm).contains (.type Y) = ([.type "ValueError", .type "Exception", .type "BaseException", .type "object"] : List Value).contains (.type Y) := by
  rw [List.contains_cons, refsVE_contains Y bm tail]
  rfl
theorem kw_new (tail : refsVE bm = true) (hC : h.get? C = some (excClassObj nm q C N bs bm true sn sub ab col dd k0 k1 k2 k3 k5 "ValueError.__new__"))
    (hq : R (.ok (.ret (.ref (h.objs.size + 1)))) ⟨(h.push (kdv_tup [])).push (excO C h.objs.size), g, dr, t, os⟩) :
    codeAny (model prog w) A (.builtin "ValueError.__new__" ⟨[.ref C], [(n, u)]⟩) R ⟨h, g, dr, t, os⟩ := by
  have F := F.excBase_ValueError
  have h1 : (Value.ref C :: bm).contains (.type "ValueError") = true := has_of tail _
  have h2 : (Value.ref C :: bm).contains (.type "AttributeError") = false := has_of tail _
  have h3 : (Value.ref C :: bm).contains (.type "NameError") = false := has_of tail _
  have ends := F.ends
  refine codeAny_builtinAt F.entry ?_
  unfold Builtin.«BaseException.__new__»
  apply wpAt_bind
  show wpAt _ _ _ (stack >>= _) _ _ _
  apply wpAt_bind
  apply wpAt_stack
  intro p below
  apply wpAt_of_wpAny
  wp_walk
  apply wpAt_of_wpAny
  rw [F.owner]
  repeat (first
    | with_reducible refine wpAny_madeHere_exc F.canon hC ?_
    | with_reducible refine wpAny_loadPart_at hC ?_
    | (with_reducible refine wpAny_isSubtype_exc hC ?_; first | rw [h1] | rw [h2] | rw [h3])
    | wp_step)
  show R _ _
  rw [Heap.size_push]
  exact hq
theorem kw_check {M : Model} {Q : Unit → Shared → Prop} (tail : refsVE bm = true) (hC : h.get? C = some (excClassObj nm q C N bs bm true sn sub ab col dd k0 k1 k2 k3 k5 "ValueError.__new__")) (hq : Q () ⟨h, g, dr, t, os⟩) :
    wpAny M A (checkBuiltinCall "ValueError.__new__" ⟨[.ref C], [(n, u)]⟩) Q E ⟨h, g, dr, t, os⟩ := by
  have F := F.excBase_ValueError
  have h1 : (Value.ref C :: bm).contains (.type "ValueError") = true := has_of tail _
  have star := F.noStar
  simp only [checkBuiltinCall, F.newKind, F.newSplit, F.newRow]
  repeat (first
    | refine wpAny_loadPart_at hC ?_
    | (refine wpAny_isSubtype_exc hC ?_; rw [h1])
    | refine wpAny_staticBase_exc hC ?_
    | refine wpAny_madeBy_exc hC ?_
    | simp only [bne_self_eq_false, Bool.false_eq_true, if_false]
    | wp_step)
  exact hq
theorem kw_type {Q : Fin → Shared → Prop} (tail : refsVE bm = true) (hC : h.get? C = some (excClassObj nm q C N bs bm true sn sub ab col dd k0 k1 k2 k3 k5 "ValueError.__new__"))
    (hi : W.Looks (model prog w) h (typeLookup (.ref C) "__init__") (some (.ref fI))) (hb : ∀ self, W.Looks (model prog w) h (bindSpecial (.ref fI) self) (.ref fI, [self]))
    (hq : codeAny (model prog w) A (.call (.ref fI) ⟨[.ref (h.objs.size + 1)], [(n, u)]⟩)
      (fun r s' => match r with | .ok (.ret v) => v = .none ∧ Q (.done (.ret (.ref (h.objs.size + 1)))) s' | .ok _ => False | .error e => E e s') ⟨(h.push (kdv_tup [])).push (excO C h.objs.size), g, dr, t, os⟩) :
    wpAny (model prog w) A (Builtin.«type.__call__» ⟨[.ref C], [(n, u)]⟩) Q E ⟨h, g, dr, t, os⟩ := by
  repeat (first
    | with_reducible refine wpAny_loadPart_at hC ?_
    | with_reducible refine wpAny_madeBy_exc hC ?_
    | wp_step)
  refine codeAny_call_builtin_code (Code.quiet_builtin _ PySem.F.excBase_ValueError.quiet) (kw_check tail hC (kw_new tail hC ?_))
  show wpAny _ _ _ _ _ _
  have k : ∀ b o, h.get? b = some o → ((h.push (kdv_tup [])).push (excO C h.objs.size)).get? b = some o := fun b o e => Heap.get?_push_of_some _ (Heap.get?_push_of_some _ e)
  have kC := k _ _ hC
  have new : ((h.push (kdv_tup [])).push (excO C h.objs.size)).get? (h.objs.size + 1) = some (excO C h.objs.size) := by heap_get
  have self : (Value.ref C :: bm).contains (.ref C) = true := by simp
  unfold isInstance
  repeat (first
    | with_reducible refine wpAny_loadPart_at new ?_
    | (with_reducible refine wpAny_isSubtype_exc kC ?_; rw [self])
    | wp_step)
  show wpAny _ _ (typeLookup (.ref C) _) _ _ _
  refine (hi.keeps k).at (wpAny_holding (wpAny_bind (((hb (.ref (h.objs.size + 1))).keeps k).at ?_)))
  refine wpAny_bind (wpAny_call (codeAny_mono hq ?_))
  intro r s' z
  rcases r with e | (v | _ | _ | _)
  · exact z
  · exact z.elim
  · exact z.elim
  · exact z.elim
  · obtain ⟨rfl, z⟩ := z
    wp_walk
    exact z
theorem kw_call (tail : refsVE bm = true) (hC : h.get? C = some (excClassObj nm q C N bs bm true sn sub ab col dd k0 k1 k2 k3 k5 "ValueError.__new__"))
    (hi : W.Looks (model prog w) h (typeLookup (.ref C) "__init__") (some (.ref fI))) (hb : ∀ self, W.Looks (model prog w) h (bindSpecial (.ref fI) self) (.ref fI, [self]))
    (hq : codeAny (model prog w) (A.under (.builtin "type.__call__" ⟨[.ref C], [(n, u)]⟩)) (.call (.ref fI) ⟨[.ref (h.objs.size + 1)], [(n, u)]⟩) (W.InitBack (h.objs.size + 1) R) ⟨(h.push (kdv_tup [])).push (excO C h.objs.size), g, dr, t, os⟩) :
    codeAny (model prog w) A (.call (.ref C) ⟨[], [(n, u)]⟩) R ⟨h, g, dr, t, os⟩ := by
  have look := tc_lookup
  have bindT := tc_bind (.ref C)
  have isT : (⟨h, g, dr, t, os⟩ : Shared).TypeIs (.ref C) "type" := ⟨_, hC, rfl⟩
  apply codeAny_of_tree
  show wpAny _ _ (callAny (.ref C) _) _ _ _
  repeat (any_goals (first
    | assumption
    | with_reducible refine wpAny_loadPart_at hC ?_
    | wp_step))
  refine ⟨rfl, codeAny_call_builtin_at (Code.quiet_builtin _ (by decide +kernel)) entry_typeCall (wpAny_check_type_call_sub hC (kw_type tail hC hi hb (codeAny_mono hq ?_)))⟩
  intro r s' z
  rcases r with e | (v | _ | _ | _)
  all_goals exact z
end
end KSN
end PySem
namespace KS
open PySem PySem.Spec PyProof.Rows L2
section
variable {X : Cx} {C fI : Addr} {k : Nat} {fd : FuncData} {x n : Str} {e : Expr} {te : TE} {p pos kpos : Pos}
def tErrK (C : Addr) (te : TE) : TE := fun σ H Q => te σ H fun v H1 => ∀ a H', H1 a = none → Same H1 H' → ErrAt H' a C v → Q (.ref a) H'
/-- C(value=e) -/
theorem pe_errK (M : MC X.K X.mg x C fI) (F : FnOk X.prog X.w X.K X.mg X.base CX0 k fI fd ["self", "value"] (spIni C)) (room : Room (k + 1) X.A) (bi : ∀ (s' : Shared) (z u : Value), X.K.In s'.heap → BindsTo s' fd ⟨[z], [(fV, u)]⟩ [("self", z), ("value", u)])
    (he : PE X e te) (gl : Gl X x := by rfl) (hdb : (x == ("__debug__" : Str)) = false := by decide) (hall : (backToKw pos (keywordEach [⟨some fV, e, kpos⟩] X.env)).all (·.1.isSome) = true := by rfl)
    (hks : (backToKw pos (keywordEach [⟨some fV, e, kpos⟩] X.env)).filterMap (·.1) = [fV] := by rfl)
    (hpl : ((backTo pos (starEach [] X.env)).any (·.1) || (backToKw pos (keywordEach [⟨some fV, e, kpos⟩] X.env)).any (·.1.isNone)) = false := by rfl) : PE X (.Call (.Name x p) [] [⟨some fV, e, kpos⟩] pos) (tErrK C te) := by
  constructor
  intro pins s σ H Q I h
  refine wpAny_Call_Name_kw (ld_glob I gl M.gC (PySem.W.callWith_KW0 I.ok.mod.kin M.oc.kC hall (thn ((pk_cons he pk_nil).run pos pins s σ H (fun vs H1 => ∃ v, vs = [v] ∧ ∀ a H', H1 a = none → Same H1 H' → ErrAt H' a C v → Q (.ref a) H') I ?_) ?_) hpl) hdb)
  · show te σ H _
    have mono : ∀ (P1 P2 : VK), (∀ v H, P1 v H → P2 v H) → P1 = P2 ∨ True := fun _ _ _ => .inr trivial
    exact (by
      have hh : te σ H (fun v H1 => ∀ a H', H1 a = none → Same H1 H' → ErrAt H' a C v → Q (.ref a) H') := h
      have eq : (fun (v : V) (H1 : Hp) => ∀ a H', H1 a = none → Same H1 H' → ErrAt H' a C v → Q (.ref a) H') = (fun v H1 => ∃ v', [v] = [v'] ∧ ∀ a H', H1 a = none → Same H1 H' → ErrAt H' a C v' → Q (.ref a) H') := by
        funext v H1
        exact propext ⟨fun q => ⟨v, rfl, q⟩, fun ⟨v', ev, q⟩ => by cases ev; exact q⟩
      rw [eq] at hh
      exact hh)
  · rintro us s1 ⟨vs, H1, J, r, v, rfl, q⟩
    cases r with
    | cons r1 r2 =>
      cases r2
      rename_i u
      refine ⟨J.kIn, ?_⟩
      rw [hks]
      show wpAny _ _ (call (.ref C) [] [(fV, u)]) _ _ _
      obtain ⟨nm, qn, N, bs, bm, sn, sub, ab, col, dd, k0, k1, k2, k3, k5, hC, hbm⟩ := M.oc.cls
      have keep : ∀ b o, s1.heap.get? b = some o → ((s1.heap.push (PySem.W.kdv_tup [])).push (PySem.HandSPX.excO C s1.heap.objs.size)).get? b = some o := fun b o e => Heap.get?_push_of_some _ (Heap.get?_push_of_some _ e)
      have new : ((s1.heap.push (PySem.W.kdv_tup [])).push (PySem.HandSPX.excO C s1.heap.objs.size)).get? (s1.heap.objs.size + 1) = some (PySem.HandSPX.excO C s1.heap.objs.size) := by heap_get
      have main := fun (R : Result → Shared → Prop) fin => ini_done (R := R) (us := []) (kw := [(fV, u)]) F room J r1 (fun s' kin z => bi s' z u kin) s1.heap.objs.size keep new q fin
      have kin := J.kIn
      obtain ⟨hp, g, dr, tk, os⟩ := s1
      exact wpAny_call (PySem.KSN.kw_call hbm (kin _ _ hC) (PySem.W.looks_findIn kin M.ini) (fun self => PySem.W.bind_fn kin self M.tI) (main _ fun _ _ z => z))
/-- C(), C an own class over ValueError without an __init__ -/
theorem pe_bare {bmB : List Value} {B newId initId : String} (F : ExcBaseFacts B newId initId bmB) (q : PySem.W.excIn X.K C bmB newId = true) (gC : X.mg x = some (.ref C)) (kC : PySem.W.keepIn X.K (.ref C) = true) (gl : Gl X x := by rfl) (hdb : (x == ("__debug__" : Str)) = false := by decide) :
    PE X (.Call (.Name x p) [] [] pos) (fun _ H Q => ∀ a, H a = none → Q (.ref a) (upd H a (ExO (.ref C) a))) := by
  constructor
  intro pins s σ H Q I h
  refine wpAny_Call_Name_kw (ld_glob I gl gC (PySem.W.callWith_K0 I.kIn kC ?_) hdb)
  obtain ⟨bm, N, nm, qn, bs, hdct, sn, sub, ab, col, dd, k0, k1, k2, k3, k5, mN, hC, hN, hni, T⟩ := exc_obj I.kIn q
  show wpAny _ _ (call (.ref C) []) _ _ _
  refine wpAny_call_exc_subT F T hC hN hni (fun h' a hm => ?_) (by decide)
  have free : H a = none := I.hok.gone hm.new
  obtain ⟨t, ht, _, _⟩ := hm.there
  exact ⟨.ref a, _, I.laidN hm.keeps hm.new free (exO_ok ht ⟨rfl, rfl⟩ rfl rfl rfl (show 4 < 6 by decide)), rfl, h a free⟩
end
end KS

/-! ### facts of classes of errors, as a look at the top's end finds them -/
namespace KS
open PySem PySem.Spec PyProof.Rows L2
def ecB (K : PySem.W.Frag) (C : Addr) : Bool := (PySem.W.clsIn K C).isSome && (decide (PySem.W.findIn K (.ref C) "__getattribute__" = some (some (.builtin "BaseException.__getattribute__"))) && (decide (PySem.W.findIn K (.ref C) "__getattr__" = some none) &&
  (decide (PySem.W.subIn K (.ref C) (.type "BaseException") = some true) && (decide (PySem.W.findIn K (.ref C) "__class__" = some (some (.builtin "object.__class__"))) && (decide (PySem.W.mroIn K C (.type "object") = some true) &&
  (decide (PySem.W.specialIn K (.builtin "object.__class__") "__get__" = some (some (.builtin "getset_descriptor.__get__"))) && (decide (PySem.W.takesIn K (.builtin "object.__class__") = some true) && PySem.W.hasDictIn K C)))))))
theorem ecB_ok {K : PySem.W.Frag} {C : Addr} (h : ecB K C = true) : EC K C := by
  unfold ecB at h
  simp only [Bool.and_eq_true, decide_eq_true_eq] at h
  obtain ⟨h1, h2, h3, h4, h5, h6, h7, h8, h9⟩ := h
  exact ⟨h1, h2, h3, h4, h5, h6, h7, h8, h9⟩
def ocB (K : PySem.W.Frag) (C : Addr) : Bool := (match K.lookup C with
  | some ⟨.type t, _, .cls ⟨_, _, .ref C' :: bm, _, _, true, _, _, _, _, false⟩, ⟨[_, _, _, _, some (.builtin n), _]⟩⟩ => decide (t = "type") && (decide (C' = C) && (decide (n = "ValueError.__new__") && PySem.HandSPX.refsVE bm))
  | _ => false) && (decide (PySem.W.findIn K (.ref C) "__setattr__" = some (some (.builtin "object.__setattr__"))) && (decide (PySem.W.subIn K (.ref C) (.type "BaseException") = some true) && (decide (PySem.W.typeIn K (.ref C) = some (.type "type")) && PySem.W.keepIn K (.ref C))))
theorem ocB_ok {K : PySem.W.Frag} {C : Addr} (h : ocB K C = true) : OexC K C := by
  unfold ocB at h
  simp only [Bool.and_eq_true, decide_eq_true_eq] at h
  obtain ⟨h0, h1, h2, h3, h4⟩ := h
  refine ⟨?_, h1, h2, h3, h4⟩
  split at h0
  · rename_i t dd nm bs C' bm N q sn sub ab col k0 k1 k2 k3 n k5 e
    simp only [Bool.and_eq_true, decide_eq_true_eq] at h0
    obtain ⟨rfl, rfl, rfl, hb⟩ := h0
    exact ⟨_, _, _, _, _, _, _, _, _, _, _, _, _, _, _, e, hb⟩
  · cases h0
end KS
namespace K1
open PySem PySem.Spec PyProof.Rows L2 KS
/-! ### the text by places -/
def top (i : Nat) : Stmt := PySem.Challenge.pw_kindshifts_k01_errors_made.main.body.getD i (.Pass ⟨0, 0, 0, 0⟩)
/-- the classes with a field, in the order in which the law goes through them -/
def cn : List Str := ["InvalidKind", "InvalidTable", "InvalidKinds", "InvalidMap", "InvalidRow", "InvalidGrouping", "InvalidBlock", "InvalidTriples", "InvalidRule", "InvalidDeed", "InvalidChain", "InvalidArrows", "InvalidLayers", "InvalidComb", "InvalidNumbers", "InvalidWord", "InvalidFour", "InvalidCount", "InvalidPlaces", "InvalidBonds", "InvalidChange", "InvalidChanges", "InvalidShelf", "InvalidSpot", "InvalidScript", "InvalidText", "InvalidLog", "Unlike", "Unsettled", "Apart", "Refused"]
def cnB : List Str := ["NothingToUndo", "NothingToRedo"]
/-- all that the law asks an error about -/
def cn33 : List Str := cn ++ cnB
abbrev sIni (i : Nat) : Stmt := inClass (top (2 + i)) 0
abbrev sPurse : Stmt := top 36
abbrev sMixed : Stmt := top 37
abbrev sDraw : Stmt := top 38
abbrev sPurses : Stmt := top 39
abbrev sOneOf : Stmt := top 40
abbrev sWord : Stmt := top 41
abbrev sFirst : Stmt := top 42
abbrev sCalled : Stmt := top 43
abbrev sBare : Stmt := top 44
abbrev sCode : Stmt := top 45
abbrev sIsErr : Stmt := top 46
abbrev sRight : Stmt := top 47
abbrev sLaw : Stmt := top 48
/-! ### what the head tells -/
def dD (x : Str) (st : Stmt) : He.DefD := ⟨(x, none), x, x, defArgs st, defBody st, defScope st, [], []⟩
def dI (i : Nat) (x : Str) : He.DefD := ⟨(x, some "__init__"), "__init__", x ++ ".__init__", defArgs (sIni i), defBody (sIni i), defScope (sIni i), [.non], []⟩
def defsL : List He.DefD := [dD "_law_purse" (top 36), dD "_law_mixed" (top 37), dD "_law_draw" (top 38), dD "_law_purses" (top 39), dD "_law_one_of" (top 40), dD "_law_word" (top 41), dD "_law_first" (top 42), dD "_law_called" (top 43), dD "_law_bare" (top 44), dD "_law_code" (top 45), dD "_law_is_error" (top 46), dD "_law_right" (top 47), dD "law" (top 48)]
def defsI : List He.DefD := cn.zipIdx.map fun p => dI p.2 p.1
def fn : List He.DefD := defsL ++ defsI
def gloN : List Str := cn33 ++ (["KindError", "_law_purse", "_law_mixed", "_law_draw", "_law_purses", "_law_one_of", "_law_word", "_law_first", "_law_called", "_law_bare", "_law_code", "_law_is_error", "_law_right", "law"] : List Str)
def freeN : List Str := ["sum", "int", "max", "min", "range", "len", "repr", "isinstance", "list", "dict", "tuple", "all", "ValueError"]
def fa : List He.Fa := gloN.map He.Fa.glo ++ freeN.map He.Fa.free
/-- one more look: the classes -/
def more (K : PySem.W.Frag) : Bool :=
  (cn.all fun x => ecB K (He.ga K x) && (ocB K (He.ga K x) && (decide (PySem.W.findIn K (.ref (He.ga K x)) fV = some none) && (decide (PySem.W.findIn K (.ref (He.ga K x)) "__init__" = some (some (.ref (He.fAd K (x, some "__init__"))))) && decide (PySem.W.typeIn K (.ref (He.fAd K (x, some "__init__"))) = some (.type "function")))))) &&
  ((cnB ++ (["KindError"] : List Str)).all fun x => ecB K (He.ga K x) && (PySem.W.excIn K (He.ga K x) He.veBase "ValueError.__new__" && PySem.W.keepIn K (.ref (He.ga K x)))) &&
  (cn33.all fun x => (cn33.all fun y => decide (PySem.W.kitOne K (.ref (He.ga K x)) (.ref (He.ga K y)) = some (decide (x = y)))) && (decide (PySem.W.kitOne K (.ref (He.ga K x)) (.ref (He.ga K "KindError")) = some true) && decide (PySem.W.kitOne K (.ref (He.ga K x)) (.type "ValueError") = some true))) &&
  ((cn33.all fun y => decide (PySem.W.kitOne K (.ref (He.ga K "KindError")) (.ref (He.ga K y)) = some false)) && (decide (PySem.W.kitOne K (.ref (He.ga K "KindError")) (.ref (He.ga K "KindError")) = some true) && decide (PySem.W.kitOne K (.ref (He.ga K "KindError")) (.type "ValueError") = some true)))
abbrev hk : PySem.W.Hook := He.hookX 5 fa fn [] [] more
def ob (s : PySem.W.SharedT) : He.AlX := He.obsX 5 fa fn [] [] more (HandSHeadRun.getT s)
theorem ob_eq (s : PySem.W.SharedT) : ob s = hk.obs s.abs := He.obsX_eq (HandSHeadRun.getT_eq s)
abbrev R : PySem.W.OpenRow := PySem.W.OpenLaw.row PySem.Challenge.rw_kindshifts_k01_errors_made
def loose : List Str := cn33 ++ (["KindError", "_law_purse", "_law_mixed", "_law_draw", "_law_purses", "_law_one_of", "_law_word", "_law_first", "_law_called", "_law_bare", "_law_code", "_law_is_error", "_law_right"] : List Str)
theorem run (w : World) : HandSHeadRun.RunEq R (PySem.W.view R.prog [48]) hk ob 40000 loose w := by
  intro os
  kernel_rfl
/-- what the top has left -/
structure TX (K : PySem.W.Frag) (mg : Str → Option Value) : Prop where
  glo : ∀ x ∈ gloN, mg x = some (.ref (He.ga K x))
  free : ∀ x ∈ freeN, mg x = none
  dfn : ∀ (i : Nat) (d : He.DefD), fn[i]? = some d → ∃ fd, FunD K d.name d.qual d.params d.body d.scope (d.dvs K) (d.kws K) (He.fAd K d.at_) fd
  more : more K = true
theorem tx_of {w : World} {h : Heap} {K : PySem.W.Frag} {mg : Str → Option Value} (X : K.In h) (G : h.Ns mainGlobals mg) (c : He.SaysX fa fn [] [] more w h K) : TX K mg where
  glo := fun x hx => He.glo_ok X G (c.t.d.facts (List.mem_append_left _ (List.mem_map_of_mem hx)))
  free := fun x hx => He.free_ok X G (c.t.d.facts (List.mem_append_right _ (List.mem_map_of_mem hx)))
  dfn := fun i d hd => c.t.d.def_ i hd
  more := c.more
end K1

namespace KS
open PySem PySem.Spec PyProof.Rows L2
/-! ### the purse from which a law draws -/
/-- a purse at p: four numbers; at most n draws have been made of it -/
def Pur (H : Hp) (p : Addr) (n : Nat) : Prop := ∃ a b c d : Int, H p = some (.lst [.int a, .int b, .int c, .int d]) ∧ (0 ≤ b ∧ b < 2147483629) ∧ (0 ≤ c ∧ c ≤ n) ∧ (0 ≤ d ∧ d ≤ 1000)
/-- all but the object at p stands as it was -/
def But (p : Addr) (H H' : Hp) : Prop := ∀ b o, b ≠ p → H b = some o → H' b = some o
theorem But.refl (p : Addr) (H : Hp) : But p H H := fun _ _ _ e => e
theorem But.trans {p : Addr} {H H1 H2 : Hp} (a : But p H H1) (b : But p H1 H2) : But p H H2 := fun c o n e => b c o n (a c o n e)
theorem But.upd {p : Addr} {H H' : Hp} {o : HO} (a : But p H H') : But p H (upd H' p o) := fun c u n e => by rw [upd_ne n]; exact a c u n e
theorem But.of {p : Addr} {H H' : Hp} (a : Same H H') : But p H H' := fun c o _ e => a c o e
theorem But.free {p q : Addr} {H H' : Hp} (a : But p H H') (h : H' q = none) (n : q ≠ p) : H q = none := by
  cases e : H q with
  | none => rfl
  | some o =>
    rw [a q o n e] at h
    cases h
def CPowW (i j : Int) : Prop := 0 ≤ j ∧ (Builtin.Int.intBits i : Int) * j ≤ 2 ^ 27
theorem op_powW {X : Cx} : OpR X (binaryOp .Pow) (rI CPowW fun i j => .int (i ^ j.toNat)) := opI fun _ _ _ _ _ _ _ hc q => pow_int hc.1 hc.2 q
theorem if_yes {c : Bool} {A B : Prop} (hc : c = true) (h : A) : if c = true then A else B := by rw [if_pos hc]; exact h
theorem if_no {c : Bool} {A B : Prop} (hc : c = false) (h : B) : if c = true then A else B := by rw [hc, if_neg Bool.false_ne_true]; exact h
/-- the promises of the drawing helpers -/
def spMixed : Sp := fun vs H Q _ => ∃ a b c : Int, vs = [.int a, .int b, .int c] ∧ (0 ≤ a ∧ a < 2147483648) ∧ (0 ≤ b ∧ b < 1000000) ∧ (0 ≤ c ∧ c ≤ 1000) ∧ ∀ z : Int, 0 ≤ z → z < 2147483648 → Q (.int z) H
def spDraw : Sp := fun vs H Q _ => ∃ (p : Addr) (m : Int) (n : Nat), vs = [.ref p, .int m] ∧ Pur H p n ∧ n < 900000 ∧ 1 ≤ m ∧ m < 134217728 ∧ ∀ (z : Int) (H' : Hp), 0 ≤ z → z < m → Pur H' p (n + 1) → But p H H' → Q (.int z) H'
theorem bits_le_27 {m : Int} (h1 : 1 ≤ m) (h2 : m < 134217728) : Builtin.Int.intBits m ≤ 27 := PyProof.Rows.intBits_le (show m.natAbs < 2 ^ 27 by omega)
end KS
namespace K1
open PySem PySem.Spec PyProof.Rows L2 KS
abbrev FD (K : PySem.W.Frag) (x : Str) (st : Stmt) (fd : FuncData) : Prop := FunD K x x (defArgs st) (defBody st) (defScope st) [] [] (He.ga K x) fd
theorem TX.fd {K : PySem.W.Frag} {mg : Str → Option Value} (T : TX K mg) (i : Nat) (x : Str) (st : Stmt) (h : fn[i]? = some (dD x st) := by rfl) : ∃ fd, FD K x st fd := T.dfn i _ h
theorem TX.int {K : PySem.W.Frag} {mg : Str → Option Value} (T : TX K mg) : mg "int" = none := T.free _ (by decide +kernel)
section
variable {P : Program} {w : World} {K : PySem.W.Frag} {mg : Str → Option Value} {base : Heap} {fd : FuncData}
theorem scMixed : FnScope ["_law_seed", "_law_turn", "_law_at", "_law_mixed_here"] ["_law_seed", "_law_turn", "_law_at"] (defScope sMixed) := ⟨rfl, rfl, rfl, by decide +kernel, rfl, by decide +kernel, by decide +kernel⟩
theorem ok_mixed (F : FD K "_law_mixed" sMixed fd) (T : TX K mg) : FnOk P w K mg base CX0 1 (He.ga K "_law_mixed") fd ["_law_seed", "_law_turn", "_law_at"] spMixed := by
  have mI := T.int
  refine F.ok scMixed (fun vs H Q E h => ?_) (fun cdv A outer s H vs Q E hr h => ?_)
  · obtain ⟨a, b, c, rfl, _⟩ := h
    rfl
  · obtain ⟨a, b, c, rfl, ha, hb, hc, k⟩ := h
    refine ⟨_, PSs.nox (pss_cons (ps_set (i := 3) scMixed.nd rfl (Or.inl rfl) (pe_op op_add (pe_op op_mul (pv 0) pe_int) (pe_op op_mul (pe_op op_mul pe_int (pv 1)) (pv 1))))
      (pss_cons (ps_set (i := 3) scMixed.nd rfl (Or.inl rfl) (pe_op op_mod (pe_callTy call_int1 (by rfl) mI (by decide +kernel) (pa_cons (pe_op op_add (pe_op op_add (pv 3) (pe_op op_mul pe_int (pv 2))) (pv 1)) pa_nil)) pe_int))
      (pss_cons (ps_set (i := 3) scMixed.nd rfl (Or.inl rfl) (pe_op op_mod (pe_callTy call_int1 (by rfl) mI (by decide +kernel) (pa_cons (pe_op op_add (pe_op op_mul (pv 3) (pv 3)) pe_int) pa_nil)) pe_int))
      (pss_one (ps_ret (pe_op op_mod (pe_callTy call_int1 (by rfl) mI (by decide +kernel) (pa_cons (pe_op op_mul (pv 3) pe_int) pa_nil)) pe_int)))))), ?_⟩
    refine ⟨_, rfl, _, _, rfl, rfl, .inl ⟨by omega, by omega⟩, _, rfl, _, _, rfl, rfl, .inl ⟨by omega, by omega⟩, _, rfl, _, _, rfl, rfl, .inl ⟨by omega, by omega⟩, _, _, rfl, rfl, ?_⟩
    refine ⟨_, rfl, _, rfl, _, _, rfl, rfl, .inl ⟨by omega, by omega⟩, _, _, rfl, rfl, _, rfl, _, _, rfl, rfl, .inl ⟨_, rfl, _, _, rfl, rfl, (by show (0 : Int) < 2147483647; decide), ?_⟩⟩
    generalize hz : (a * 69069 + 104729 * b * b + 7919 * c + b) % 2147483647 = z
    have z0 : 0 ≤ z := by rw [← hz]; exact Int.emod_nonneg _ (by decide)
    have z1 : z < 2147483647 := by rw [← hz]; exact Int.emod_lt_of_pos _ (by decide)
    refine ⟨_, rfl, _, rfl, _, _, rfl, rfl, .inl ⟨by omega, by omega⟩, _, _, rfl, rfl, .inl ⟨_, rfl, _, _, rfl, rfl, (by show (0 : Int) < 2147483629; decide), ?_⟩⟩
    generalize hy : (z * z + 40503) % 2147483629 = y
    have y0 : 0 ≤ y := by rw [← hy]; exact Int.emod_nonneg _ (by decide)
    have y1 : y < 2147483629 := by rw [← hy]; exact Int.emod_lt_of_pos _ (by decide)
    refine ⟨_, rfl, _, _, rfl, rfl, .inl ⟨by omega, by omega⟩, .inl ⟨_, rfl, _, _, rfl, rfl, (by show (0 : Int) < 2147483587; decide), ?_⟩⟩
    exact k _ (Int.emod_nonneg _ (by decide)) (Int.lt_of_lt_of_le (Int.emod_lt_of_pos _ (by decide)) (by decide))
theorem cut_ints (ns : List Int) (lo hi : Option Int) : ∃ ms : List Int, cutV (ns.map V.int) lo hi = ms.map V.int := ⟨_, by unfold cutV; rw [← List.map_drop, ← List.map_take]⟩
/-- _law_purse(script, at): a new purse -/
def spPurse (K : PySem.W.Frag) : Sp := fun vs H Q _ => ∃ (a : Addr) (i : Int) (ns : List Int), vs = [.ref a, .int i] ∧ SqL K H a (ns.map V.int) ∧ (0 ≤ i ∧ i ≤ 1000) ∧ ∀ p H', H p = none → Same H H' → Pur H' p 0 → Q (.ref p) H'
theorem scPurse : FnScope ["_law_script", "_law_at", "_law_seed"] ["_law_script", "_law_at"] (defScope sPurse) := ⟨rfl, rfl, rfl, by decide +kernel, rfl, by decide +kernel, by decide +kernel⟩
theorem ok_purse (F : FD K "_law_purse" sPurse fd) (T : TX K mg) : FnOk P w K mg base CX0 1 (He.ga K "_law_purse") fd ["_law_script", "_law_at"] (spPurse K) := by
  have mI := T.int
  have mS : mg "sum" = none := T.free _ (by decide +kernel)
  have mM : mg "max" = none := T.free _ (by decide +kernel)
  refine F.ok scPurse (fun vs H Q E h => ?_) (fun cdv A outer s H vs Q E hr h => ?_)
  · obtain ⟨a, i, ns, rfl, _⟩ := h
    rfl
  · obtain ⟨a, i, ns, rfl, hS, hi, k⟩ := h
    refine ⟨_, PSs.nox (pss_cons (ps_set (i := 2) scPurse.nd rfl (Or.inl rfl) (pe_callB (cr_sum rfl) (by rfl) mS (by decide +kernel) (pa_cons (pe_slice sl_list (pv 0) (po_some (pv 1)) (po_some (pe_op op_add (pv 1) pe_int))) pa_nil)))
      (pss_one (ps_ret (pe_lst (pa_cons (pe_op op_mod (pe_callTy call_int1 (by rfl) mI (by decide +kernel) (pa_cons (pe_callB (call_max2 rfl) (by rfl) mM (by decide +kernel) (pa_cons (pe_op op_sub (pv 2) (pe_op op_pow pe_int pe_int)) (pa_cons pe_int pa_nil))) pa_nil)) (pe_op op_powW (pe_op op_pow pe_int pe_int) pe_int))
        (pa_cons (pe_op op_mod (pe_callTy call_int1 (by rfl) mI (by decide +kernel) (pa_cons (pv 2) pa_nil)) pe_int) (pa_cons pe_int (pa_cons (pv 1) pa_nil)))))))), ?_⟩
    refine ⟨_, rfl, _, rfl, _, rfl, _, rfl, _, _, rfl, rfl, _, rfl, a, _, rfl, hS, fun p0 n0 => ?_⟩
    obtain ⟨ms, e⟩ := cut_ints ns (some i) (some (i + 1))
    refine ⟨p0, ms, rfl, SqL.of (by rw [upd_same, e]), ?_⟩
    refine ⟨_, rfl, _, _, rfl, rfl, ⟨by decide, by decide, by decide⟩, _, _, rfl, rfl, _, _, rfl, .inl ⟨_, rfl, _, _, rfl, rfl, ⟨by decide, by decide, by decide⟩, _, _, rfl, rfl, ⟨by decide, by decide +kernel⟩, _, _, rfl, rfl, (by show (0 : Int) < ((10 : Int) ^ Int.toNat 60) ^ Int.toNat 8; decide +kernel), ?_⟩⟩
    refine ⟨_, rfl, .inl ⟨_, rfl, _, _, rfl, rfl, (by show (0 : Int) < 2147483629; decide), _, rfl, (by show 4 ≤ sizeLine; decide), fun p hp => ?_⟩⟩
    have n1 : p ≠ p0 := fun z => by rw [z, upd_same] at hp; cases hp
    rw [upd_ne n1] at hp
    refine k p _ hp (fun b o eb => ?_) ⟨_, _, _, _, upd_same, ⟨Int.emod_nonneg _ (by decide), Int.emod_lt_of_pos _ (by decide)⟩, ⟨Int.le_refl _, Int.le_refl _⟩, hi⟩
    rw [upd_ne (ne_of_none eb hp), upd_ne (ne_of_none eb n0)]
    exact eb
/-- _law_draw(purse, many): some number below many -/
theorem scDraw : FnScope ["_law_purse_here", "_law_many", "_law_drawn", "_law_found", "_law_piece"] ["_law_purse_here", "_law_many"] (defScope sDraw) := ⟨rfl, rfl, rfl, by decide +kernel, rfl, by decide +kernel, by decide +kernel⟩
theorem ok_draw {fdM : FuncData} (F : FD K "_law_draw" sDraw fd) (FM : FD K "_law_mixed" sMixed fdM) (T : TX K mg) : FnOk P w K mg base CX0 2 (He.ga K "_law_draw") fd ["_law_purse_here", "_law_many"] spDraw := by
  have mI := T.int
  have mR : mg "range" = none := T.free _ (by decide +kernel)
  have gM : mg "_law_mixed" = some (.ref (He.ga K "_law_mixed")) := T.glo _ (by decide +kernel)
  have GM : FnOk P w K mg base CX0 1 (He.ga K "_law_mixed") fdM ["_law_seed", "_law_turn", "_law_at"] spMixed := ok_mixed FM T
  have bM : Binds K fdM ["_law_seed", "_law_turn", "_law_at"] [] := FM.bindsN fun _ _ _ _ _ _ us hl => match us, hl with | [_, _, _], _ => rfl
  refine F.ok scDraw (fun vs H Q E h => ?_) (fun cdv A outer s H vs Q E hr h => ?_)
  · obtain ⟨p, m, n, rfl, _⟩ := h
    rfl
  · obtain ⟨p, m, n, rfl, ⟨a, b, c, d, hp, hb, hc, hd⟩, hn, m1, m2, k⟩ := h
    refine ⟨_, PSs.nox (pss_cons (ps_if (pt_cmpR op_gt (pe_ix ix_list (pv 0) pe_int (fun _ _ => rfl)) pe_int (nomark _))
        (pss_cons (ps_set (i := 2) scDraw.nd rfl (Or.inl rfl) (pe_op op_mod (pe_callTy call_int1 (by rfl) mI (by decide +kernel) (pa_cons (pe_ix ix_list (pv 0) pe_int (fun _ _ => rfl)) pa_nil)) (pv 1)))
        (pss_cons (ps_asg (pe_op op_fdiv (pe_ix ix_list (pv 0) pe_int (fun _ _ => rfl)) (pv 1)) (pg_sub (pv 0) pe_int set_list))
        (pss_one (ps_ret (pv 2))))) pss_nil)
      (pss_cons (ps_set (i := 3) scDraw.nd rfl (Or.inl rfl) pe_int)
      (pss_cons (ps_for PassesOwn.never rfl (pi_range1 (by rfl) mR (pa_cons (pe_op op_add pe_int (pe_op op_fdiv (pe_bits (pv 1)) pe_int)) pa_nil)) (pg_name (i := 4) scDraw.nd rfl (Or.inl rfl))
        (pss_cons (ps_asg (pe_op op_add (pe_ix ix_list (pv 0) pe_int (fun _ _ => rfl)) pe_int) (pg_sub (pv 0) pe_int set_list))
        (pss_one (ps_set (i := 3) scDraw.nd rfl (Or.inl rfl) (pe_op op_add (pe_op op_mul (pv 3) pe_int)
          (pe_call GM hr rfl gM FM.kp bM .nil pass0 (pa_cons (pe_ix ix_list (pv 0) pe_int (fun _ _ => rfl)) (pa_cons (pe_ix ix_list (pv 0) pe_int (fun _ _ => rfl)) (pa_cons (pe_ix ix_list (pv 0) pe_int (fun _ _ => rfl)) pa_nil)))))))))
      (pss_one (ps_ret (pe_op op_mod (pe_callTy call_int1 (by rfl) mI (by decide +kernel) (pa_cons (pv 3) pa_nil)) (pv 1))))))), ?_⟩
    have at0 : ∀ (x y z u : V), atI [x, y, z, u] (0 : Int) = some x := fun x y z u => atI_nat (j := 0) rfl
    refine ⟨_, rfl, p, _, _, _, rfl, rfl, SqL.of hp, at0 _ _ _ _, _, _, rfl, rfl, _, rfl, ?_⟩
    have at1 : ∀ (x y z u : V), atI [x, y, z, u] (1 : Int) = some y := fun x y z u => atI_nat (j := 1) rfl
    have at2 : ∀ (x y z u : V), atI [x, y, z, u] (2 : Int) = some z := fun x y z u => atI_nat (j := 2) rfl
    have at3 : ∀ (x y z u : V), atI [x, y, z, u] (3 : Int) = some u := fun x y z u => atI_nat (j := 3) rfl
    by_cases pos : 0 < a
    · refine if_yes (decide_eq_true pos) ?_
      refine ⟨_, rfl, p, _, _, _, rfl, rfl, SqL.of hp, at0 _ _ _ _, .inl ⟨_, rfl, _, rfl, _, _, rfl, rfl, (by show (0 : Int) < m; omega), ?_⟩⟩
      refine ⟨_, rfl, p, _, _, _, rfl, rfl, SqL.of hp, at0 _ _ _ _, _, rfl, _, _, rfl, rfl, ⟨by omega, by omega⟩, _, rfl, p, _, 0, 0, rfl, rfl, hp, rfl, ?_⟩
      exact ⟨_, rfl, k _ _ (Int.emod_nonneg _ (by omega)) (Int.emod_lt_of_pos _ (by omega)) ⟨_, b, c, d, upd_same, hb, ⟨hc.1, by omega⟩, hd⟩ (But.refl p H).upd⟩
    · refine if_no (decide_eq_false pos) ?_
      have small : ((Builtin.Int.intBits m : Nat) : Int) / 28 = 0 := by
        have := bits_le_27 m1 m2
        omega
      refine ⟨_, rfl, m, rfl, _, _, rfl, rfl, ⟨by decide, by decide⟩, _, _, rfl, rfl, ?_⟩
      rw [small]
      refine ⟨1, rfl, by decide, by decide, for_range (lo := 0) (n := 1) (fun i σ H' => ∃ (found : Int) (v : Option V), σ = [some (.ref p), some (.int m), none, some (.int found), v] ∧ (i = 0 → H' = H ∧ found = 0) ∧ (i = 1 → Pur H' p (n + 1) ∧ But p H H' ∧ 0 ≤ found)) ⟨0, none, rfl, fun _ => ⟨rfl, rfl⟩, fun z => (nomatch z)⟩ ?_ ?_⟩
      · rintro i σ H' hi ⟨found, v, rfl, z0, -⟩
        obtain rfl : i = 0 := by omega
        obtain ⟨rfl, rfl⟩ := z0 rfl
        refine ⟨_, rfl, p, _, _, _, rfl, rfl, SqL.of hp, at2 _ _ _ _, _, _, rfl, rfl, _, rfl, p, _, 2, 2, rfl, rfl, hp, rfl, ?_⟩
        have hp2 : (upd H' p (.lst [V.int a, .int b, .int (c + 1), .int d])) p = some (.lst [V.int a, .int b, .int (c + 1), .int d]) := upd_same
        refine ⟨_, rfl, _, _, rfl, rfl, .inl ⟨by decide, by decide⟩, ?_⟩
        refine ⟨_, rfl, p, _, _, _, rfl, rfl, SqL.of hp2, at1 _ _ _ _, _, rfl, p, _, _, _, rfl, rfl, SqL.of hp2, at2 _ _ _ _, _, rfl, p, _, _, _, rfl, rfl, SqL.of hp2, at3 _ _ _ _, ?_⟩
        refine ⟨b, c + 1, d, rfl, ⟨hb.1, by omega⟩, ⟨by omega, by omega⟩, hd, fun z z0 z1 => ?_⟩
        refine ⟨_, _, rfl, rfl, ⟨_, _, rfl, fun z => (nomatch z), fun _ => ⟨⟨a, b, c + 1, d, upd_same, hb, ⟨by omega, by omega⟩, hd⟩, (But.refl p H').upd, by omega⟩⟩⟩
      · rintro σ H' ⟨found, v, rfl, -, z1⟩
        obtain ⟨pu, bu, f0⟩ := z1 rfl
        exact ⟨_, rfl, .inl ⟨_, rfl, _, rfl, _, _, rfl, rfl, (by show (0 : Int) < m; omega), k _ _ (Int.emod_nonneg _ (by omega)) (Int.emod_lt_of_pos _ (by omega)) pu bu⟩⟩
end
end K1

namespace KS
open PySem PySem.Spec PyProof.Rows L2
/-! ### drawn words -/
def alphabet : Str := "abcdefghijklmnopqrstuvwxyz"
theorem alpha_all : ∀ c ∈ alphabet.cps.toList, 97 ≤ c ∧ c < 123 := by decide +kernel
theorem alpha_len : alphabet.cps.toList.length = 26 := by decide +kernel
/-- a comprehension without a test -/
theorem kept_go {A B : Hp → Prop} {σ : L2.St} {H : Hp} (h : A H) : tYes σ H (fun b H3 => if b = true then A H3 else B H3) := iteT (A := A H) (B := B H) h
structure WordOk (x : Str) : Prop where
  least : 1 ≤ x.length
  most : x.length ≤ 8
  low : ∀ c ∈ x.cps.toList, 97 ≤ c ∧ c < 123
theorem joinL_mem {c : Nat} : ∀ {parts : List (List Nat)}, c ∈ TL.joinL [] parts → ∃ p ∈ parts, c ∈ p
  | [], h => (nomatch h)
  | [p], h => ⟨p, List.mem_cons_self .., h⟩
  | p :: q :: r, h => by
    rcases List.mem_append.mp (show c ∈ p ++ ([] ++ TL.joinL [] (q :: r)) from h) with h | h
    · exact ⟨p, List.mem_cons_self .., h⟩
    · obtain ⟨z, hz, e⟩ := joinL_mem (parts := q :: r) (by simpa using h)
      exact ⟨z, List.mem_cons_of_mem _ hz, e⟩
theorem joinL_ones : ∀ cs : List Nat, TL.joinL [] (cs.map fun c => [c]) = cs
  | [] => rfl
  | [c] => rfl
  | c :: d :: r => by
    have h := joinL_ones (d :: r)
    show [c] ++ ([] ++ TL.joinL [] ((d :: r).map fun c => [c])) = c :: d :: r
    rw [h]
    rfl
/-- signs put together to a word -/
theorem word_of {cs : List Nat} (h1 : 1 ≤ cs.length) (h8 : cs.length ≤ 8) (h : ∀ c ∈ cs, 97 ≤ c ∧ c < 123) : WordOk (Txt.join Str.empty (cs.map fun c => (⟨#[c]⟩ : Str))) := by
  have e : (Txt.join Str.empty (cs.map fun c => (⟨#[c]⟩ : Str))).cps.toList = cs := by
    rw [TL.join_eq]
    have z := TL.tl_join Str.empty (cs.map fun c => (⟨#[c]⟩ : Str))
    rw [List.map_map] at z
    have q : (cs.map (TL.tl ∘ fun c => (⟨#[c]⟩ : Str))) = cs.map fun c => [c] := rfl
    rw [q] at z
    exact z.trans (joinL_ones cs)
  have el : (Txt.join Str.empty (cs.map fun c => (⟨#[c]⟩ : Str))).length = cs.length := by
    show (Txt.join Str.empty (cs.map fun c => (⟨#[c]⟩ : Str))).cps.size = cs.length
    rw [← Array.length_toList, e]
  exact ⟨by rw [el]; exact h1, by rw [el]; exact h8, by rw [e]; exact h⟩
/-- the promises of one_of and word -/
def spOne : Sp := fun vs H Q _ => ∃ (p l : Addr) (xs : List V) (n : Nat), vs = [.ref p, .ref l] ∧ Pur H p n ∧ n < 900000 ∧ H l = some (.lst xs) ∧ l ≠ p ∧ 1 ≤ xs.length ∧ xs.length < 100000000 ∧ ∀ (j : Nat) (v : V) (H' : Hp), xs[j]? = some v → Pur H' p (n + 1) → But p H H' → Q v H'
def spWord : Sp := fun vs H Q _ => ∃ (p : Addr) (n : Nat), vs = [.ref p] ∧ Pur H p n ∧ n < 800000 ∧ ∀ (x : Str) (H' : Hp), WordOk x → Pur H' p (n + 10) → But p H H' → Q (.str x) H'
theorem Pur.le {H : Hp} {p : Addr} {n m : Nat} (h : Pur H p n) (l : n ≤ m) : Pur H p m := by
  obtain ⟨a, b, c, d, e, hb, hc, hd⟩ := h
  exact ⟨a, b, c, d, e, hb, ⟨hc.1, by omega⟩, hd⟩
theorem Pur.mono {H H' : Hp} {p : Addr} {n : Nat} (h : Pur H p n) (s : Same H H') : Pur H' p n := by
  obtain ⟨a, b, c, d, e, r⟩ := h
  exact ⟨a, b, c, d, s _ _ e, r⟩
theorem Pur.there {H : Hp} {p : Addr} {n : Nat} (h : Pur H p n) : H p ≠ none := by
  obtain ⟨a, b, c, d, e, _⟩ := h
  rw [e]
  exact fun z => nomatch z
theorem Pur.new {H : Hp} {p q : Addr} {n : Nat} {o : HO} (h : Pur H p n) (hq : H q = none) : Pur (upd H q o) p n := by
  obtain ⟨a, b, c, d, e, r⟩ := h
  exact ⟨a, b, c, d, by rw [upd_ne (ne_of_none e hq)]; exact e, r⟩
end KS
namespace K1
open PySem PySem.Spec PyProof.Rows L2 KS
section
variable {P : Program} {w : World} {K : PySem.W.Frag} {mg : Str → Option Value} {base : Heap} {fd : FuncData}
theorem bDraw {fdD : FuncData} (FM : FD K "_law_draw" sDraw fdD) : Binds K fdD ["_law_purse_here", "_law_many"] [] := FM.bindsN fun _ _ _ _ _ _ us hl => match us, hl with | [_, _], _ => rfl
theorem scOne : FnScope ["_law_purse_here", "_law_some"] ["_law_purse_here", "_law_some"] (defScope sOneOf) := ⟨rfl, rfl, rfl, by decide +kernel, rfl, by decide +kernel, by decide +kernel⟩
theorem ok_one {fdD : FuncData} (F : FD K "_law_one_of" sOneOf fd) (FM : FD K "_law_draw" sDraw fdD) (T : TX K mg) (GD : FnOk P w K mg base CX0 2 (He.ga K "_law_draw") fdD ["_law_purse_here", "_law_many"] spDraw) :
    FnOk P w K mg base CX0 3 (He.ga K "_law_one_of") fd ["_law_purse_here", "_law_some"] spOne := by
  have mL : mg "len" = none := T.free _ (by decide +kernel)
  have gD : mg "_law_draw" = some (.ref (He.ga K "_law_draw")) := T.glo _ (by decide +kernel)
  refine F.ok scOne (fun vs H Q E h => ?_) (fun cdv A outer s H vs Q E hr h => ?_)
  · obtain ⟨p, l, xs, n, rfl, _⟩ := h
    rfl
  · obtain ⟨p, l, xs, n, rfl, pu, hn, hl, ne, x1, x2, k⟩ := h
    refine ⟨_, PSs.nox (pss_one (ps_ret (pe_ix ix_list (pv 1) (pe_call GD hr rfl gD FM.kp (bDraw FM) .nil pass0 (pa_cons (pv 0) (pa_cons (pe_callB call_len_seq (by rfl) mL PySem.boot_len (pa_cons (pv 1) pa_nil)) pa_nil))) (fun _ _ => rfl)))), ?_⟩
    refine ⟨_, rfl, _, rfl, _, rfl, l, xs, rfl, .inl (SqL.of hl), ?_⟩
    refine ⟨p, _, n, rfl, pu, hn, by omega, by omega, fun z H' z0 z1 pu' bu => ?_⟩
    have hz : z.toNat < xs.length := by omega
    have e : (z.toNat : Int) = z := by omega
    refine ⟨l, xs, z, xs[z.toNat], rfl, rfl, SqL.of (bu l _ ne hl), ?_, k z.toNat _ H' (List.getElem?_eq_getElem hz) pu' bu⟩
    have q := atI_nat (List.getElem?_eq_getElem hz)
    rwa [e] at q
theorem scWord : FnScope ["_law_purse_here", "_law_size", "_law_turn"] ["_law_purse_here"] (defScope sWord) := ⟨rfl, rfl, rfl, by decide +kernel, rfl, by decide +kernel, by decide +kernel⟩
theorem ok_word {fdD : FuncData} (F : FD K "_law_word" sWord fd) (FM : FD K "_law_draw" sDraw fdD) (T : TX K mg) (GD : FnOk P w K mg base CX0 2 (He.ga K "_law_draw") fdD ["_law_purse_here", "_law_many"] spDraw) :
    FnOk P w K mg base CX0 3 (He.ga K "_law_word") fd ["_law_purse_here"] spWord := by
  have mR : mg "range" = none := T.free _ (by decide +kernel)
  have gD : mg "_law_draw" = some (.ref (He.ga K "_law_draw")) := T.glo _ (by decide +kernel)
  refine F.ok scWord (fun vs H Q E h => ?_) (fun cdv A outer s H vs Q E hr h => ?_)
  · obtain ⟨p, n, rfl, _⟩ := h
    rfl
  · obtain ⟨p, n, rfl, pu, hn, k⟩ := h
    refine ⟨_, PSs.nox (pss_cons (ps_set (i := 1) scWord.nd rfl (Or.inl rfl) (pe_op op_add pe_int (pe_call GD hr rfl gD FM.kp (bDraw FM) .nil pass0 (pa_cons (pv 0) (pa_cons
        (pe_ifExp (pt_cmpR op_eq (pe_call GD hr rfl gD FM.kp (bDraw FM) .nil pass0 (pa_cons (pv 0) (pa_cons pe_int pa_nil))) pe_int (nomark _)) pe_int pe_int) pa_nil)))))
      (pss_one (ps_ret (pe_join pe_str (pe_lc (own := [("_law_turn", 2)]) (g := gName 2) (tt := tYes) rfl scWord.nd (pi_range1 (by rfl) mR (pa_cons (pv 1) pa_nil))
        (blkOk_by (own := [("_law_turn", 2)]) (N := ["_law_purse_here", "_law_size", "_law_turn"]) (sc := defScope sWord) (by decide +kernel)) (fun _ _ _ _ _ => pg_name (i := 2) scWord.nd rfl (Or.inl rfl)) (fun _ _ _ _ _ => pts_nil)
        (fun _ _ _ _ _ => pe_ix ix_str pe_str (pe_call GD hr rfl gD FM.kp (bDraw FM) .nil pass0 (pa_cons (pv 0) (pa_cons pe_int pa_nil))) (fun _ _ => rfl))))))), ?_⟩
    have hD : He.ga K "_law_draw" = He.ga K "_law_draw" := rfl
    -- behind the size
    have rest : ∀ (z : Int) (H1 : Hp), 0 ≤ z → z < 8 → Pur H1 p (n + 2) → But p H H1 →
        (tRet (tM1 (fun x xs H Q => ∃ (a : Str) (p : Addr) (ys : List Str), x = V.str a ∧ xs = [V.ref p] ∧ (SqL K H p (ys.map V.str) ∨ SqT K H p (ys.map V.str)) ∧ (ys.map (·.length)).sum + ys.length * a.length ≤ 16777216 ∧ Q (.str (Txt.join a ys)) H) (tC (.str ""))
          (tLc (iRng1 (tCons (tVar 1) tNil)) (gName 2) tYes (tOp rIxS (tC (.str alphabet)) (tCall spDraw [] E0 (tCons (tVar 0) (tCons (tC (.int 26)) tNil)))) [2])))
        { nx := fun _ H' => Q .non H', rt := Q } [some (.ref p), some (.int (1 + z)), none] H1 := by
      intro z H1 z0 z1 pu1 bu1
      refine ⟨⟨_, rfl⟩, _, rfl, 1 + z, rfl, by omega, by omega, fun D hD => ?_⟩
      have neD : D ≠ p := fun e => pu1.there (e ▸ hD)
      have freeD : H D = none := bu1.free hD neD
      refine lc_range (lo := 0) (n := (1 + z).toNat) (fun i H' => ∃ cs : List Nat, cs.length = i ∧ (∀ c ∈ cs, 97 ≤ c ∧ c < 123) ∧ H' D = some (.lst (cs.map fun c => V.str ⟨#[c]⟩)) ∧ Pur H' p (n + 2 + i) ∧ But p H H')
        ⟨[], rfl, fun c h => (nomatch h), upd_same, pu1.new hD, fun b o nb e => by rw [upd_ne (ne_of_none e freeD)]; exact bu1 b o nb e⟩ ?_ ?_
      · rintro i H2 hi ⟨cs, lc, hc, hl, pu2, bu2⟩
        refine ⟨rfl, kept_go ?_⟩
        refine ⟨_, rfl, p, 26, n + 2 + i, rfl, pu2, by omega, by decide, by decide, fun y H3 y0 y1 pu3 bu3 => ?_⟩
        have hy : y.toNat < alphabet.cps.toList.length := by rw [alpha_len]; omega
        have ey : (y.toNat : Int) = y := by omega
        have q := atI_nat (List.getElem?_eq_getElem hy)
        rw [ey] at q
        refine ⟨alphabet, y, _, rfl, rfl, by decide +kernel, q, _, bu3 D _ neD hl, ?_, cs ++ [alphabet.cps.toList[y.toNat]], ?_, ?_, ?_, ?_, ?_⟩
        · rw [List.length_map, lc]
          exact Nat.lt_of_lt_of_le (show i < 100 by omega) (by decide)
        · rw [List.length_append, lc]
          rfl
        · intro c h
          rcases List.mem_append.mp h with h | h
          · exact hc c h
          · rw [List.mem_singleton.mp h]
            exact alpha_all _ (List.getElem_mem hy)
        · rw [upd_same, List.map_append]
          rfl
        · obtain ⟨a, b, c, d, e, r⟩ := pu3
          exact ⟨a, b, c, d, by rw [upd_ne (Ne.symm neD)]; exact e, r⟩
        · exact fun b o nb e => by rw [upd_ne (ne_of_none e freeD)]; exact (bu2.trans bu3) b o nb e
      · rintro H2 ⟨cs, lc, hc, hl, pu2, bu2⟩
        have wo := word_of (cs := cs) (by omega) (by omega) hc
        refine ⟨"", D, cs.map fun c => (⟨#[c]⟩ : Str), rfl, rfl, .inl (SqL.of (by rw [hl, List.map_map]; rfl)), ?_, k _ H2 wo (pu2.le (by omega)) bu2⟩
        have e1 : ∀ l : List Nat, ((l.map fun c => (⟨#[c]⟩ : Str)).map (·.length)).sum = l.length := fun l => by
          induction l with
          | nil => rfl
          | cons c r ih =>
            rw [List.map_cons, List.map_cons, List.sum_cons, ih, List.length_cons]
            show 1 + r.length = r.length + 1
            omega
        rw [e1, List.length_map]
        show cs.length + cs.length * 0 ≤ 16777216
        omega
    have size : ∀ (m : Int) (H1 : Hp), 1 ≤ m → m ≤ 8 → Pur H1 p (n + 1) → But p H H1 → spDraw [.ref p, .int m] H1 (fun y H2 => ∃ i j : Int, V.int 1 = .int i ∧ y = .int j ∧ (tRet (tM1 (fun x xs H Q => ∃ (a : Str) (p : Addr) (ys : List Str), x = V.str a ∧ xs = [V.ref p] ∧ (SqL K H p (ys.map V.str) ∨ SqT K H p (ys.map V.str)) ∧ (ys.map (·.length)).sum + ys.length * a.length ≤ 16777216 ∧ Q (.str (Txt.join a ys)) H) (tC (.str ""))
          (tLc (iRng1 (tCons (tVar 1) tNil)) (gName 2) tYes (tOp rIxS (tC (.str alphabet)) (tCall spDraw [] E0 (tCons (tVar 0) (tCons (tC (.int 26)) tNil)))) [2])))
        { nx := fun _ H' => Q .non H', rt := Q } [some (.ref p), some (.int (i + j)), none] H2) E0 := fun m H1 m1 m8 pu1 bu1 =>
      ⟨p, m, n + 1, rfl, pu1, by omega, m1, by omega, fun z H2 z0 z1 pu2 bu2 => ⟨1, z, rfl, rfl, rest z H2 z0 (by omega) pu2 (bu1.trans bu2)⟩⟩
    refine ⟨_, rfl, _, rfl, p, 3, n, rfl, pu, by omega, by decide, by decide, fun z H1 z0 z1 pu1 bu1 => ?_⟩
    refine ⟨rfl, _, rfl, ?_⟩
    by_cases e : (V.int z) = .int 0
    · refine if_yes (decide_eq_true e) ?_
      exact size 8 H1 (by decide) (by decide) pu1 bu1
    · refine if_no (decide_eq_false e) ?_
      exact size 3 H1 (by decide) (by decide) pu1 bu1
end
end K1

namespace KS
open PySem PySem.Spec PyProof.Rows L2
/-! ### __init__(self, value=None): self.value = value -/
def iniArgs (p1 p2 p3 : Pos) : Arguments := { posonlyargs := [], args := [{ arg := "self", annotation := none, pos := p1 }, { arg := "value", annotation := none, pos := p2 }], vararg := none, kwonlyargs := [], kw_defaults := [], kwarg := none, defaults := [.Constant .none 0 p3] }
def iniBody (q1 q2 q3 q4 : Pos) : List Stmt := [.Assign [.Attribute (.Name "self" q1) "value" q2] (.Name "value" q3) q4]
def iniScope : Scope := { kind := .function, names := [(PySem.Str.ofString "self", .local), (PySem.Str.ofString "value", .local)], isGenerator := false, isCoroutine := false, more := [] }
section
variable {P : Program} {w : World} {K : PySem.W.Frag} {mg : Str → Option Value} {base : Heap} {fd : FuncData} {q : Str} {p1 p2 p3 q1 q2 q3 q4 : Pos} {sc : Scope} {f C : Addr}
abbrev IniD (K : PySem.W.Frag) (q : Str) (p1 p2 p3 q1 q2 q3 q4 : Pos) (sc : Scope) (f : Addr) (fd : FuncData) : Prop := FunD K "__init__" q (iniArgs p1 p2 p3) (iniBody q1 q2 q3 q4) sc [.non] [] f fd
theorem ok_ini (S : FnScope ["self", "value"] ["self", "value"] sc) (l1 : sc.names.lookup ("self" : Str) = some NameKind.local) (l2 : sc.names.lookup ("value" : Str) = some NameKind.local) (F : IniD K q p1 p2 p3 q1 q2 q3 q4 sc f fd) (O : OexC K C) (no : PySem.W.findIn K (.ref C) fV = some none) :
    FnOk P w K mg base CX0 1 f fd ["self", "value"] (spIni C) := by
  refine F.ok S (fun vs H Q E h => ?_) (fun cdv A outer s H vs Q E hr h => ?_)
  · obtain ⟨a, v, rfl, _⟩ := h
    rfl
  · obtain ⟨a, v, rfl, ha, k⟩ := h
    refine ⟨_, PSs.nox (pss_one (ps_ost (pv 0 (hv := .inl l1)) (pv 1 (hv := .inl l2)))), ?_⟩
    exact ⟨v, rfl, _, rfl, a, C, rfl, O, no, .inl ⟨ha, fun dx fx ne => k dx fx ne⟩⟩
theorem ini_bind2 (F : IniD K q p1 p2 p3 q1 q2 q3 q4 sc f fd) : Binds K fd ["self", "value"] [] := by
  obtain ⟨ds, rd, b⟩ := F.binds1 (ps := ["self", "value"]) 2 1 (by simp) rfl fun T kV doc pm an cdv ct us its hu hi => match us, its, hu, hi with
    | [_, _], [_], _, _ => ⟨_, rfl, rfl⟩
  cases rd
  exact b
theorem ini_bind1 (F : IniD K q p1 p2 p3 q1 q2 q3 q4 sc f fd) : Binds K fd ["self", "value"] [.none] := by
  obtain ⟨ds, rd, b⟩ := F.binds1 (ps := ["self", "value"]) 1 0 (by simp) rfl fun T kV doc pm an cdv ct us its hu hi => match us, its, hu, hi with
    | [_], [_], _, _ => ⟨_, rfl, rfl⟩
  cases rd with
  | cons r1 r2 =>
    cases r1
    cases r2
    exact b
theorem ini_bindK (F : IniD K q p1 p2 p3 q1 q2 q3 q4 sc f fd) (s' : Shared) (z u : Value) (X : K.In s'.heap) : BindsTo s' fd ⟨[z], [(fV, u)]⟩ [("self", z), ("value", u)] := by
  obtain ⟨its, b⟩ := F.kbindsD (ps := ["self", "value"]) 1 [fV] (fun us _ ws => us ++ ws) (by simp) (fun r1 _ r3 => r1.append r3) fun T kV doc pm an cdv ct us its ws hu hi hw => match us, its, ws, hu, hi, hw with
    | [_], [_], [_], _, _, _ => ⟨_, rfl, rfl⟩
  exact b.to s' [z] [u] X rfl rfl
end
/-- a class of errors, ready to be made -/
structure ErrC (P : Program) (w : World) (K : PySem.W.Frag) (mg : Str → Option Value) (base : Heap) (x : Str) (C : Addr) : Prop where
  ex : ∃ (fI : Addr) (fd : FuncData), MC K mg x C fI ∧ FnOk P w K mg base CX0 1 fI fd ["self", "value"] (spIni C) ∧ Binds K fd ["self", "value"] [] ∧ Binds K fd ["self", "value"] [.none] ∧
    ∀ (s' : Shared) (z u : Value), K.In s'.heap → BindsTo s' fd ⟨[z], [(fV, u)]⟩ [("self", z), ("value", u)]
section
variable {X : Cx} {C : Addr} {x : Str} {e : Expr} {te : TE} {ta : TA} {p pos kpos : Pos}
theorem pe_eP (M : ErrC X.prog X.w X.K X.mg X.base x C) (room : Room 2 X.A) (ha : PA X [e] ta) (gl : Gl X x := by rfl)
    (hdb : (x == ("__debug__" : Str)) = false := by decide) (hs : starEach [e] X.env = (false, eval e X.env) :: starEach [] X.env := by rfl) (hpl : (backTo pos (starEach [] X.env)).any (·.1) = false := by rfl) : PE X (.Call (.Name x p) [e] [] pos) (tErr C ta) := by
  obtain ⟨fI, fd, M, F, b2, b1, bk⟩ := M.ex
  exact pe_err M F room b2 ha gl hdb hs hpl
theorem pe_e0 (M : ErrC X.prog X.w X.K X.mg X.base x C) (room : Room 2 X.A) (gl : Gl X x := by rfl) (hdb : (x == ("__debug__" : Str)) = false := by decide) : PE X (.Call (.Name x p) [] [] pos) (tErr0 C) := by
  obtain ⟨fI, fd, M, F, b2, b1, bk⟩ := M.ex
  exact pe_err0 M F room b1 gl hdb
theorem pe_eK (M : ErrC X.prog X.w X.K X.mg X.base x C) (room : Room 2 X.A) (he : PE X e te) (gl : Gl X x := by rfl) (hdb : (x == ("__debug__" : Str)) = false := by decide) (hall : (backToKw pos (keywordEach [⟨some fV, e, kpos⟩] X.env)).all (·.1.isSome) = true := by rfl)
    (hks : (backToKw pos (keywordEach [⟨some fV, e, kpos⟩] X.env)).filterMap (·.1) = [fV] := by rfl)
    (hpl : ((backTo pos (starEach [] X.env)).any (·.1) || (backToKw pos (keywordEach [⟨some fV, e, kpos⟩] X.env)).any (·.1.isNone)) = false := by rfl) : PE X (.Call (.Name x p) [] [⟨some fV, e, kpos⟩] pos) (tErrK C te) := by
  obtain ⟨fI, fd, M, F, b2, b1, bk⟩ := M.ex
  exact pe_errK M F room bk he gl hdb hall hks hpl
end
/-! ### lists of expressions, one for each name -/
def tEach (f : Str → TE) : List Str → TA
  | [] => tNil
  | x :: xs => tCons (f x) (tEach f xs)
/-- errors that hold v, one of each class -/
def Errs (K : PySem.W.Frag) (v : V) (H : Hp) : List Addr → List Str → Prop := Paired fun e x => ErrAt H e (He.ga K x) v
theorem paired_app {α β : Type} {F : α → β → Prop} : ∀ {a c : List α} {b d : List β}, Paired F a b → Paired F c d → Paired F (a ++ c) (b ++ d)
  | _, _, _, _, .nil, q => q
  | _, _, _, _, .cons h t, q => .cons h (paired_app t q)
theorem paired_nth {α β : Type} {F : α → β → Prop} : ∀ {a : List α} {b : List β} {i : Nat} {y : α}, Paired F a b → a[i]? = some y → ∃ z, b[i]? = some z ∧ F y z
  | _, _, _, _, .nil, e => by simp at e
  | _, _, 0, _, .cons h _, e => by simp at e; subst e; exact ⟨_, rfl, h⟩
  | _, _, i + 1, _, .cons _ t, e => by
    obtain ⟨z, h1, h2⟩ := paired_nth (i := i) t (by simpa using e)
    exact ⟨z, by simpa using h1, h2⟩
theorem Errs.mono {K : PySem.W.Frag} {v : V} {H H' : Hp} (s : Same H H') : ∀ {es : List Addr} {xs : List Str}, Errs K v H es xs → Errs K v H' es xs
  | _, _, .nil => .nil
  | _, _, .cons h t => .cons (h.mono s) (Errs.mono s t)
/-- f x makes an error of the class x that holds v -/
def Makes (K : PySem.W.Frag) (v : V) (σ : L2.St) (te : TE) (x : Str) : Prop := ∀ (H : Hp) (Q : VK), (∀ a H', H a = none → Same H H' → ErrAt H' a (He.ga K x) v → Q (.ref a) H') → te σ H Q
theorem each_go {K : PySem.W.Frag} {v : V} {σ : L2.St} {f : Str → TE} (m : ∀ x, Makes K v σ (f x) x) : ∀ (xs : List Str) (H : Hp) (Q : List V → Hp → Prop), (∀ es H', Same H H' → Errs K v H' es xs → Q (es.map V.ref) H') → tEach f xs σ H Q
  | [], H, Q, k => k [] H (Same.refl H) .nil
  | x :: xs, H, Q, k => m x H _ fun a H1 _ s1 e1 => each_go m xs H1 _ fun es H2 s2 e2 => k (a :: es) H2 (s1.trans s2) (.cons (e1.mono s2) e2)
theorem Same.new {H : Hp} {p : Addr} {o : HO} (h : H p = none) : Same H (upd H p o) := fun a u e => by rw [upd_ne (ne_of_none e h)]; exact e
/-- found = [..] | found = found + [..] -/
theorem found_go {K : PySem.W.Frag} {v : V} {i : Nat} {σ : L2.St} {f : Str → TE} (m : ∀ x, Makes K v σ (f x) x) {xs : List Str} (small : xs.length ≤ 100) {D : Ends} {H : Hp}
    (k : ∀ l es H', Same H H' → H' l = some (.lst (es.map V.ref)) → Errs K v H' es xs → D.nx (σ.set i (some (.ref l))) H') : tAsg (tLst (tEach f xs)) (gName i) D σ H :=
  each_go m xs H _ fun es H' s e => ⟨by rw [List.length_map, Paired.length e]; exact Nat.le_trans small (by decide), fun l fl => k l es _ (s.trans (Same.new fl)) upd_same (e.mono (Same.new fl))⟩
theorem more_go {K : PySem.W.Frag} {v : V} {i : Nat} {σ : L2.St} {f : Str → TE} (m : ∀ x, Makes K v σ (f x) x) {xs ys : List Str} {es : List Addr} {l : Addr} (at_i : σ[i]? = some (some (.ref l))) {D : Ends} {H : Hp} (hl : H l = some (.lst (es.map V.ref))) (he : Errs K v H es xs)
    (small : xs.length + ys.length ≤ 100) (k : ∀ l' fs H', Same H H' → H' l' = some (.lst (fs.map V.ref)) → Errs K v H' fs (xs ++ ys) → D.nx (σ.set i (some (.ref l'))) H') : tAsg (tOp rCat (tVar i) (tLst (tEach f ys))) (gName i) D σ H := by
  refine ⟨_, at_i, each_go m ys H _ fun fs H1 s1 e1 => ?_⟩
  have n1 : es.length = xs.length := Paired.length he
  have n2 : fs.length = ys.length := Paired.length e1
  have z : es.length + fs.length ≤ sizeLine := Nat.le_trans (show es.length + fs.length ≤ 100 by omega) (by decide)
  refine ⟨by rw [List.length_map]; omega, fun q fq => ⟨l, q, es.map V.ref, fs.map V.ref, rfl, rfl, ?_, upd_same, by rw [List.length_map, List.length_map]; exact z, fun l' fl => ?_⟩⟩
  · rw [upd_ne (ne_of_none (s1 _ _ hl) fq)]
    exact s1 _ _ hl
  · have s2 : Same H1 (upd (upd H1 q (.lst (fs.map V.ref))) l' (.lst (es.map V.ref ++ fs.map V.ref))) := (Same.new fq).trans (Same.new fl)
    exact k l' (es ++ fs) _ (s1.trans s2) (by rw [upd_same, List.map_append]) (paired_app (he.mono (s1.trans s2)) (e1.mono s2))
/-! ### pure values, one for each name -/
def Gives1 (σ : L2.St) (H : Hp) (te : TE) (v : V) : Prop := ∀ Q : VK, Q v H → te σ H Q
theorem gives_each {σ : L2.St} {H : Hp} {f : Str → TE} {g : Str → V} : ∀ {xs : List Str}, (∀ x ∈ xs, Gives1 σ H (f x) (g x)) → ∀ Q : List V → Hp → Prop, Q (xs.map g) H → tEach f xs σ H Q
  | [], _, Q, q => q
  | x :: xs, h, Q, q => h x (List.mem_cons_self ..) _ (gives_each (xs := xs) (fun y hy => h y (List.mem_cons_of_mem _ hy)) _ q)
end KS

namespace K1
open PySem PySem.Spec PyProof.Rows L2 KS
/-! ### the classes' own text -/
theorem ini_sc : ∀ i, i < 31 → defScope (sIni i) = iniScope
  | 0, _ => rfl
  | 1, _ => rfl
  | 2, _ => rfl
  | 3, _ => rfl
  | 4, _ => rfl
  | 5, _ => rfl
  | 6, _ => rfl
  | 7, _ => rfl
  | 8, _ => rfl
  | 9, _ => rfl
  | 10, _ => rfl
  | 11, _ => rfl
  | 12, _ => rfl
  | 13, _ => rfl
  | 14, _ => rfl
  | 15, _ => rfl
  | 16, _ => rfl
  | 17, _ => rfl
  | 18, _ => rfl
  | 19, _ => rfl
  | 20, _ => rfl
  | 21, _ => rfl
  | 22, _ => rfl
  | 23, _ => rfl
  | 24, _ => rfl
  | 25, _ => rfl
  | 26, _ => rfl
  | 27, _ => rfl
  | 28, _ => rfl
  | 29, _ => rfl
  | 30, _ => rfl
  | n + 31, h => absurd h (by omega)
theorem ini_body : ∀ i, i < 31 → ∃ q1 q2 q3 q4, defBody (sIni i) = iniBody q1 q2 q3 q4
  | 0, _ => ⟨_, _, _, _, rfl⟩
  | 1, _ => ⟨_, _, _, _, rfl⟩
  | 2, _ => ⟨_, _, _, _, rfl⟩
  | 3, _ => ⟨_, _, _, _, rfl⟩
  | 4, _ => ⟨_, _, _, _, rfl⟩
  | 5, _ => ⟨_, _, _, _, rfl⟩
  | 6, _ => ⟨_, _, _, _, rfl⟩
  | 7, _ => ⟨_, _, _, _, rfl⟩
  | 8, _ => ⟨_, _, _, _, rfl⟩
  | 9, _ => ⟨_, _, _, _, rfl⟩
  | 10, _ => ⟨_, _, _, _, rfl⟩
  | 11, _ => ⟨_, _, _, _, rfl⟩
  | 12, _ => ⟨_, _, _, _, rfl⟩
  | 13, _ => ⟨_, _, _, _, rfl⟩
  | 14, _ => ⟨_, _, _, _, rfl⟩
  | 15, _ => ⟨_, _, _, _, rfl⟩
  | 16, _ => ⟨_, _, _, _, rfl⟩
  | 17, _ => ⟨_, _, _, _, rfl⟩
  | 18, _ => ⟨_, _, _, _, rfl⟩
  | 19, _ => ⟨_, _, _, _, rfl⟩
  | 20, _ => ⟨_, _, _, _, rfl⟩
  | 21, _ => ⟨_, _, _, _, rfl⟩
  | 22, _ => ⟨_, _, _, _, rfl⟩
  | 23, _ => ⟨_, _, _, _, rfl⟩
  | 24, _ => ⟨_, _, _, _, rfl⟩
  | 25, _ => ⟨_, _, _, _, rfl⟩
  | 26, _ => ⟨_, _, _, _, rfl⟩
  | 27, _ => ⟨_, _, _, _, rfl⟩
  | 28, _ => ⟨_, _, _, _, rfl⟩
  | 29, _ => ⟨_, _, _, _, rfl⟩
  | 30, _ => ⟨_, _, _, _, rfl⟩
  | n + 31, h => absurd h (by omega)
theorem ini_args : ∀ i, i < 31 → ∃ p1 p2 p3, defArgs (sIni i) = iniArgs p1 p2 p3
  | 0, _ => ⟨_, _, _, rfl⟩
  | 1, _ => ⟨_, _, _, rfl⟩
  | 2, _ => ⟨_, _, _, rfl⟩
  | 3, _ => ⟨_, _, _, rfl⟩
  | 4, _ => ⟨_, _, _, rfl⟩
  | 5, _ => ⟨_, _, _, rfl⟩
  | 6, _ => ⟨_, _, _, rfl⟩
  | 7, _ => ⟨_, _, _, rfl⟩
  | 8, _ => ⟨_, _, _, rfl⟩
  | 9, _ => ⟨_, _, _, rfl⟩
  | 10, _ => ⟨_, _, _, rfl⟩
  | 11, _ => ⟨_, _, _, rfl⟩
  | 12, _ => ⟨_, _, _, rfl⟩
  | 13, _ => ⟨_, _, _, rfl⟩
  | 14, _ => ⟨_, _, _, rfl⟩
  | 15, _ => ⟨_, _, _, rfl⟩
  | 16, _ => ⟨_, _, _, rfl⟩
  | 17, _ => ⟨_, _, _, rfl⟩
  | 18, _ => ⟨_, _, _, rfl⟩
  | 19, _ => ⟨_, _, _, rfl⟩
  | 20, _ => ⟨_, _, _, rfl⟩
  | 21, _ => ⟨_, _, _, rfl⟩
  | 22, _ => ⟨_, _, _, rfl⟩
  | 23, _ => ⟨_, _, _, rfl⟩
  | 24, _ => ⟨_, _, _, rfl⟩
  | 25, _ => ⟨_, _, _, rfl⟩
  | 26, _ => ⟨_, _, _, rfl⟩
  | 27, _ => ⟨_, _, _, rfl⟩
  | 28, _ => ⟨_, _, _, rfl⟩
  | 29, _ => ⟨_, _, _, rfl⟩
  | 30, _ => ⟨_, _, _, rfl⟩
  | n + 31, h => absurd h (by omega)
theorem ini_scope : FnScope ["self", "value"] ["self", "value"] iniScope := ⟨rfl, rfl, rfl, by decide +kernel, rfl, by decide +kernel, by decide +kernel⟩
section
variable {P : Program} {w : World} {K : PySem.W.Frag} {mg : Str → Option Value} {base : Heap} {fd : FuncData}
/-! ### what the classes say -/
theorem TX.cls {x : Str} (T : TX K mg) (hx : x ∈ cn) : EC K (He.ga K x) ∧ OexC K (He.ga K x) ∧ PySem.W.findIn K (.ref (He.ga K x)) fV = some none ∧ PySem.W.findIn K (.ref (He.ga K x)) "__init__" = some (some (.ref (He.fAd K (x, some "__init__")))) ∧
    PySem.W.typeIn K (.ref (He.fAd K (x, some "__init__"))) = some (.type "function") := by
  have m := T.more
  unfold K1.more at m
  simp only [Bool.and_eq_true, List.all_eq_true, decide_eq_true_eq] at m
  obtain ⟨⟨⟨m1, -⟩, -⟩, -⟩ := m
  obtain ⟨h1, h2, h3, h4, h5⟩ := m1 x hx
  exact ⟨ecB_ok h1, ocB_ok h2, h3, h4, h5⟩
theorem TX.bare {x : Str} (T : TX K mg) (hx : x ∈ cnB ++ (["KindError"] : List Str)) : EC K (He.ga K x) ∧ PySem.W.excIn K (He.ga K x) He.veBase "ValueError.__new__" = true ∧ PySem.W.keepIn K (.ref (He.ga K x)) = true := by
  have m := T.more
  unfold K1.more at m
  simp only [Bool.and_eq_true, List.all_eq_true, decide_eq_true_eq] at m
  obtain ⟨⟨⟨-, m1⟩, -⟩, -⟩ := m
  obtain ⟨h1, h2, h3⟩ := m1 x hx
  exact ⟨ecB_ok h1, h2, h3⟩
theorem TX.kit {x : Str} (T : TX K mg) (hx : x ∈ cn33) : (∀ y ∈ cn33, PySem.W.kitOne K (.ref (He.ga K x)) (.ref (He.ga K y)) = some (decide (x = y))) ∧ PySem.W.kitOne K (.ref (He.ga K x)) (.ref (He.ga K "KindError")) = some true ∧
    PySem.W.kitOne K (.ref (He.ga K x)) (.type "ValueError") = some true := by
  have m := T.more
  unfold K1.more at m
  simp only [Bool.and_eq_true, List.all_eq_true, decide_eq_true_eq] at m
  obtain ⟨⟨-, m1⟩, -⟩ := m
  exact m1 x hx
theorem TX.kitB (T : TX K mg) : (∀ y ∈ cn33, PySem.W.kitOne K (.ref (He.ga K "KindError")) (.ref (He.ga K y)) = some false) ∧ PySem.W.kitOne K (.ref (He.ga K "KindError")) (.ref (He.ga K "KindError")) = some true ∧
    PySem.W.kitOne K (.ref (He.ga K "KindError")) (.type "ValueError") = some true := by
  have m := T.more
  unfold K1.more at m
  simp only [Bool.and_eq_true, List.all_eq_true, decide_eq_true_eq] at m
  obtain ⟨-, m1⟩ := m
  exact m1
theorem cn_at : ∀ i x, cn[i]? = some x → i < 31 ∧ fn[13 + i]? = some (dI i x) := by
  intro i x h
  have hi : i < 31 := (List.getElem?_eq_some_iff.mp h).1
  refine ⟨hi, ?_⟩
  show (defsL ++ cn.zipIdx.map fun p => dI p.2 p.1)[13 + i]? = _
  rw [List.getElem?_append_right (show defsL.length ≤ 13 + i from Nat.le_add_right 13 i)]
  show (cn.zipIdx.map fun p => dI p.2 p.1)[13 + i - 13]? = _
  rw [Nat.add_sub_cancel_left, List.getElem?_map, List.getElem?_zipIdx, h]
  simp
theorem TX.err {x : Str} (T : TX K mg) (hx : x ∈ cn) : ErrC P w K mg base x (He.ga K x) := by
  obtain ⟨i, hi, e⟩ := List.mem_iff_getElem.mp hx
  have h : cn[i]? = some x := by rw [List.getElem?_eq_getElem hi, e]
  obtain ⟨h31, hd⟩ := cn_at i x h
  obtain ⟨ec, oc, no, ini, tI⟩ := T.cls hx
  obtain ⟨fd, F⟩ := T.dfn _ _ hd
  obtain ⟨q1, q2, q3, q4, eb⟩ := ini_body i h31
  obtain ⟨p1, p2, p3, ea⟩ := ini_args i h31
  have F2 : IniD K (x ++ ".__init__") p1 p2 p3 q1 q2 q3 q4 iniScope (He.fAd K (x, some "__init__")) fd := by
    have F1 : FunD K "__init__" (x ++ ".__init__") (defArgs (sIni i)) (defBody (sIni i)) (defScope (sIni i)) [.non] [] (He.fAd K (x, some "__init__")) fd := F
    rw [ea, eb, ini_sc i h31] at F1
    exact F1
  exact ⟨_, fd, ⟨ec, oc, no, ini, tI, T.glo x (List.mem_append_left _ (List.mem_append_left _ hx))⟩, ok_ini ini_scope rfl rfl F2 oc no, ini_bind2 F2, ini_bind1 F2, ini_bindK F2⟩
/-! ### lists of errors of all classes -/
def spErrs (K : PySem.W.Frag) (v : V) (H : Hp) (Q : VK) : Prop := ∀ l es H', Same H H' → H' l = some (.lst (es.map V.ref)) → Errs K v H' es cn → Q (.ref l) H'
def spFirst (K : PySem.W.Frag) : Sp := fun vs H Q _ => ∃ v, vs = [v] ∧ spErrs K v H Q
def spBare (K : PySem.W.Frag) : Sp := fun vs H Q _ => vs = [] ∧ spErrs K .non H Q
theorem makes_pos {v : V} {σ : L2.St} (h : σ[0]? = some (some v)) (x : Str) : Makes K v σ (tErr (He.ga K x) (tCons (tVar 0) tNil)) x := fun H Q k => ⟨v, h, v, rfl, k⟩
theorem makes_key {v : V} {σ : L2.St} (h : σ[0]? = some (some v)) (x : Str) : Makes K v σ (tErrK (He.ga K x) (tVar 0)) x := fun H Q k => ⟨v, h, k⟩
theorem makes_non {σ : L2.St} (x : Str) : Makes K .non σ (tErr0 (He.ga K x)) x := fun H Q k => k
theorem scFirst : FnScope ["_law_thing", "_law_found"] ["_law_thing"] (defScope sFirst) := ⟨rfl, rfl, rfl, by decide +kernel, rfl, by decide +kernel, by decide +kernel⟩
theorem ok_first (F : FD K "_law_first" sFirst fd) (T : TX K mg) : FnOk P w K mg base CX0 3 (He.ga K "_law_first") fd ["_law_thing"] (spFirst K) := by
  have er : ∀ x, x ∈ cn → ErrC P w K mg base x (He.ga K x) := fun x hx => T.err hx
  refine F.ok scFirst (fun vs H Q E h => ?_) (fun cdv A outer s H vs Q E hr h => ?_)
  · obtain ⟨v, rfl, _⟩ := h
    rfl
  · obtain ⟨v, rfl, k⟩ := h
    refine ⟨_, PSs.nox (pss_cons (ps_set (i := 1) scFirst.nd rfl (Or.inl rfl) (pe_lst (pa_cons (pe_eP (er "InvalidKind" (by decide +kernel)) hr (pa_cons (pv 0) pa_nil)) (pa_cons (pe_eP (er "InvalidTable" (by decide +kernel)) hr (pa_cons (pv 0) pa_nil)) (pa_cons (pe_eP (er "InvalidKinds" (by decide +kernel)) hr (pa_cons (pv 0) pa_nil)) (pa_cons (pe_eP (er "InvalidMap" (by decide +kernel)) hr (pa_cons (pv 0) pa_nil)) (pa_cons (pe_eP (er "InvalidRow" (by decide +kernel)) hr (pa_cons (pv 0) pa_nil)) pa_nil)))))))
      (pss_cons (ps_set (i := 1) scFirst.nd rfl (Or.inl rfl) (pe_op op_cat (pv 1) (pe_lst (pa_cons (pe_eP (er "InvalidGrouping" (by decide +kernel)) hr (pa_cons (pv 0) pa_nil)) (pa_cons (pe_eP (er "InvalidBlock" (by decide +kernel)) hr (pa_cons (pv 0) pa_nil)) (pa_cons (pe_eP (er "InvalidTriples" (by decide +kernel)) hr (pa_cons (pv 0) pa_nil)) (pa_cons (pe_eP (er "InvalidRule" (by decide +kernel)) hr (pa_cons (pv 0) pa_nil)) pa_nil)))))))
      (pss_cons (ps_set (i := 1) scFirst.nd rfl (Or.inl rfl) (pe_op op_cat (pv 1) (pe_lst (pa_cons (pe_eP (er "InvalidDeed" (by decide +kernel)) hr (pa_cons (pv 0) pa_nil)) (pa_cons (pe_eP (er "InvalidChain" (by decide +kernel)) hr (pa_cons (pv 0) pa_nil)) (pa_cons (pe_eP (er "InvalidArrows" (by decide +kernel)) hr (pa_cons (pv 0) pa_nil)) (pa_cons (pe_eP (er "InvalidLayers" (by decide +kernel)) hr (pa_cons (pv 0) pa_nil)) pa_nil)))))))
      (pss_cons (ps_set (i := 1) scFirst.nd rfl (Or.inl rfl) (pe_op op_cat (pv 1) (pe_lst (pa_cons (pe_eP (er "InvalidComb" (by decide +kernel)) hr (pa_cons (pv 0) pa_nil)) (pa_cons (pe_eP (er "InvalidNumbers" (by decide +kernel)) hr (pa_cons (pv 0) pa_nil)) (pa_cons (pe_eP (er "InvalidWord" (by decide +kernel)) hr (pa_cons (pv 0) pa_nil)) (pa_cons (pe_eP (er "InvalidFour" (by decide +kernel)) hr (pa_cons (pv 0) pa_nil)) pa_nil)))))))
      (pss_cons (ps_set (i := 1) scFirst.nd rfl (Or.inl rfl) (pe_op op_cat (pv 1) (pe_lst (pa_cons (pe_eP (er "InvalidCount" (by decide +kernel)) hr (pa_cons (pv 0) pa_nil)) (pa_cons (pe_eP (er "InvalidPlaces" (by decide +kernel)) hr (pa_cons (pv 0) pa_nil)) (pa_cons (pe_eP (er "InvalidBonds" (by decide +kernel)) hr (pa_cons (pv 0) pa_nil)) (pa_cons (pe_eP (er "InvalidChange" (by decide +kernel)) hr (pa_cons (pv 0) pa_nil)) pa_nil)))))))
      (pss_cons (ps_set (i := 1) scFirst.nd rfl (Or.inl rfl) (pe_op op_cat (pv 1) (pe_lst (pa_cons (pe_eP (er "InvalidChanges" (by decide +kernel)) hr (pa_cons (pv 0) pa_nil)) (pa_cons (pe_eP (er "InvalidShelf" (by decide +kernel)) hr (pa_cons (pv 0) pa_nil)) (pa_cons (pe_eP (er "InvalidSpot" (by decide +kernel)) hr (pa_cons (pv 0) pa_nil)) (pa_cons (pe_eP (er "InvalidScript" (by decide +kernel)) hr (pa_cons (pv 0) pa_nil)) pa_nil)))))))
      (pss_cons (ps_set (i := 1) scFirst.nd rfl (Or.inl rfl) (pe_op op_cat (pv 1) (pe_lst (pa_cons (pe_eP (er "InvalidText" (by decide +kernel)) hr (pa_cons (pv 0) pa_nil)) (pa_cons (pe_eP (er "InvalidLog" (by decide +kernel)) hr (pa_cons (pv 0) pa_nil)) (pa_cons (pe_eP (er "Unlike" (by decide +kernel)) hr (pa_cons (pv 0) pa_nil)) (pa_cons (pe_eP (er "Unsettled" (by decide +kernel)) hr (pa_cons (pv 0) pa_nil)) (pa_cons (pe_eP (er "Apart" (by decide +kernel)) hr (pa_cons (pv 0) pa_nil)) pa_nil))))))))
      (pss_cons (ps_set (i := 1) scFirst.nd rfl (Or.inl rfl) (pe_op op_cat (pv 1) (pe_lst (pa_cons (pe_eP (er "Refused" (by decide +kernel)) hr (pa_cons (pv 0) pa_nil)) pa_nil))))
      (pss_one (ps_ret (pv 1))))))))))), ?_⟩
    refine found_go (K := K) (f := fun x => tErr (He.ga K x) (tCons (tVar 0) tNil)) (makes_pos (v := v) rfl) (xs := (["InvalidKind", "InvalidTable", "InvalidKinds", "InvalidMap", "InvalidRow"] : List Str)) (by decide) fun l0 es0 H0 s0 hl0 he0 => ?_
    refine more_go (K := K) (f := fun x => tErr (He.ga K x) (tCons (tVar 0) tNil)) (makes_pos (v := v) rfl) (xs := (["InvalidKind", "InvalidTable", "InvalidKinds", "InvalidMap", "InvalidRow"] : List Str)) (ys := (["InvalidGrouping", "InvalidBlock", "InvalidTriples", "InvalidRule"] : List Str)) (es := es0) (l := l0) rfl hl0 he0 (by decide) fun l1 es1 H1 s1 hl1 he1 => ?_
    refine more_go (K := K) (f := fun x => tErr (He.ga K x) (tCons (tVar 0) tNil)) (makes_pos (v := v) rfl) (xs := (["InvalidKind", "InvalidTable", "InvalidKinds", "InvalidMap", "InvalidRow", "InvalidGrouping", "InvalidBlock", "InvalidTriples", "InvalidRule"] : List Str)) (ys := (["InvalidDeed", "InvalidChain", "InvalidArrows", "InvalidLayers"] : List Str)) (es := es1) (l := l1) rfl hl1 he1 (by decide) fun l2 es2 H2 s2 hl2 he2 => ?_
    refine more_go (K := K) (f := fun x => tErr (He.ga K x) (tCons (tVar 0) tNil)) (makes_pos (v := v) rfl) (xs := (["InvalidKind", "InvalidTable", "InvalidKinds", "InvalidMap", "InvalidRow", "InvalidGrouping", "InvalidBlock", "InvalidTriples", "InvalidRule", "InvalidDeed", "InvalidChain", "InvalidArrows", "InvalidLayers"] : List Str)) (ys := (["InvalidComb", "InvalidNumbers", "InvalidWord", "InvalidFour"] : List Str)) (es := es2) (l := l2) rfl hl2 he2 (by decide) fun l3 es3 H3 s3 hl3 he3 => ?_
    refine more_go (K := K) (f := fun x => tErr (He.ga K x) (tCons (tVar 0) tNil)) (makes_pos (v := v) rfl) (xs := (["InvalidKind", "InvalidTable", "InvalidKinds", "InvalidMap", "InvalidRow", "InvalidGrouping", "InvalidBlock", "InvalidTriples", "InvalidRule", "InvalidDeed", "InvalidChain", "InvalidArrows", "InvalidLayers", "InvalidComb", "InvalidNumbers", "InvalidWord", "InvalidFour"] : List Str)) (ys := (["InvalidCount", "InvalidPlaces", "InvalidBonds", "InvalidChange"] : List Str)) (es := es3) (l := l3) rfl hl3 he3 (by decide) fun l4 es4 H4 s4 hl4 he4 => ?_
    refine more_go (K := K) (f := fun x => tErr (He.ga K x) (tCons (tVar 0) tNil)) (makes_pos (v := v) rfl) (xs := (["InvalidKind", "InvalidTable", "InvalidKinds", "InvalidMap", "InvalidRow", "InvalidGrouping", "InvalidBlock", "InvalidTriples", "InvalidRule", "InvalidDeed", "InvalidChain", "InvalidArrows", "InvalidLayers", "InvalidComb", "InvalidNumbers", "InvalidWord", "InvalidFour", "InvalidCount", "InvalidPlaces", "InvalidBonds", "InvalidChange"] : List Str)) (ys := (["InvalidChanges", "InvalidShelf", "InvalidSpot", "InvalidScript"] : List Str)) (es := es4) (l := l4) rfl hl4 he4 (by decide) fun l5 es5 H5 s5 hl5 he5 => ?_
    refine more_go (K := K) (f := fun x => tErr (He.ga K x) (tCons (tVar 0) tNil)) (makes_pos (v := v) rfl) (xs := (["InvalidKind", "InvalidTable", "InvalidKinds", "InvalidMap", "InvalidRow", "InvalidGrouping", "InvalidBlock", "InvalidTriples", "InvalidRule", "InvalidDeed", "InvalidChain", "InvalidArrows", "InvalidLayers", "InvalidComb", "InvalidNumbers", "InvalidWord", "InvalidFour", "InvalidCount", "InvalidPlaces", "InvalidBonds", "InvalidChange", "InvalidChanges", "InvalidShelf", "InvalidSpot", "InvalidScript"] : List Str)) (ys := (["InvalidText", "InvalidLog", "Unlike", "Unsettled", "Apart"] : List Str)) (es := es5) (l := l5) rfl hl5 he5 (by decide) fun l6 es6 H6 s6 hl6 he6 => ?_
    refine more_go (K := K) (f := fun x => tErr (He.ga K x) (tCons (tVar 0) tNil)) (makes_pos (v := v) rfl) (xs := (["InvalidKind", "InvalidTable", "InvalidKinds", "InvalidMap", "InvalidRow", "InvalidGrouping", "InvalidBlock", "InvalidTriples", "InvalidRule", "InvalidDeed", "InvalidChain", "InvalidArrows", "InvalidLayers", "InvalidComb", "InvalidNumbers", "InvalidWord", "InvalidFour", "InvalidCount", "InvalidPlaces", "InvalidBonds", "InvalidChange", "InvalidChanges", "InvalidShelf", "InvalidSpot", "InvalidScript", "InvalidText", "InvalidLog", "Unlike", "Unsettled", "Apart"] : List Str)) (ys := (["Refused"] : List Str)) (es := es6) (l := l6) rfl hl6 he6 (by decide) fun l7 es7 H7 s7 hl7 he7 => ?_
    exact ⟨_, rfl, k l7 es7 H7 (((((((s0.trans s1).trans s2).trans s3).trans s4).trans s5).trans s6).trans s7) hl7 he7⟩
theorem scCalled : FnScope ["_law_thing", "_law_found"] ["_law_thing"] (defScope sCalled) := ⟨rfl, rfl, rfl, by decide +kernel, rfl, by decide +kernel, by decide +kernel⟩
theorem ok_called (F : FD K "_law_called" sCalled fd) (T : TX K mg) : FnOk P w K mg base CX0 3 (He.ga K "_law_called") fd ["_law_thing"] (spFirst K) := by
  have er : ∀ x, x ∈ cn → ErrC P w K mg base x (He.ga K x) := fun x hx => T.err hx
  refine F.ok scCalled (fun vs H Q E h => ?_) (fun cdv A outer s H vs Q E hr h => ?_)
  · obtain ⟨v, rfl, _⟩ := h
    rfl
  · obtain ⟨v, rfl, k⟩ := h
    refine ⟨_, PSs.nox (pss_cons (ps_set (i := 1) scCalled.nd rfl (Or.inl rfl) (pe_lst (pa_cons (pe_eK (er "InvalidKind" (by decide +kernel)) hr (pv 0)) (pa_cons (pe_eK (er "InvalidTable" (by decide +kernel)) hr (pv 0)) (pa_cons (pe_eK (er "InvalidKinds" (by decide +kernel)) hr (pv 0)) pa_nil)))))
      (pss_cons (ps_set (i := 1) scCalled.nd rfl (Or.inl rfl) (pe_op op_cat (pv 1) (pe_lst (pa_cons (pe_eK (er "InvalidMap" (by decide +kernel)) hr (pv 0)) (pa_cons (pe_eK (er "InvalidRow" (by decide +kernel)) hr (pv 0)) (pa_cons (pe_eK (er "InvalidGrouping" (by decide +kernel)) hr (pv 0)) pa_nil))))))
      (pss_cons (ps_set (i := 1) scCalled.nd rfl (Or.inl rfl) (pe_op op_cat (pv 1) (pe_lst (pa_cons (pe_eK (er "InvalidBlock" (by decide +kernel)) hr (pv 0)) (pa_cons (pe_eK (er "InvalidTriples" (by decide +kernel)) hr (pv 0)) (pa_cons (pe_eK (er "InvalidRule" (by decide +kernel)) hr (pv 0)) pa_nil))))))
      (pss_cons (ps_set (i := 1) scCalled.nd rfl (Or.inl rfl) (pe_op op_cat (pv 1) (pe_lst (pa_cons (pe_eK (er "InvalidDeed" (by decide +kernel)) hr (pv 0)) (pa_cons (pe_eK (er "InvalidChain" (by decide +kernel)) hr (pv 0)) (pa_cons (pe_eK (er "InvalidArrows" (by decide +kernel)) hr (pv 0)) pa_nil))))))
      (pss_cons (ps_set (i := 1) scCalled.nd rfl (Or.inl rfl) (pe_op op_cat (pv 1) (pe_lst (pa_cons (pe_eK (er "InvalidLayers" (by decide +kernel)) hr (pv 0)) (pa_cons (pe_eK (er "InvalidComb" (by decide +kernel)) hr (pv 0)) (pa_cons (pe_eK (er "InvalidNumbers" (by decide +kernel)) hr (pv 0)) pa_nil))))))
      (pss_cons (ps_set (i := 1) scCalled.nd rfl (Or.inl rfl) (pe_op op_cat (pv 1) (pe_lst (pa_cons (pe_eK (er "InvalidWord" (by decide +kernel)) hr (pv 0)) (pa_cons (pe_eK (er "InvalidFour" (by decide +kernel)) hr (pv 0)) (pa_cons (pe_eK (er "InvalidCount" (by decide +kernel)) hr (pv 0)) pa_nil))))))
      (pss_cons (ps_set (i := 1) scCalled.nd rfl (Or.inl rfl) (pe_op op_cat (pv 1) (pe_lst (pa_cons (pe_eK (er "InvalidPlaces" (by decide +kernel)) hr (pv 0)) (pa_cons (pe_eK (er "InvalidBonds" (by decide +kernel)) hr (pv 0)) (pa_cons (pe_eK (er "InvalidChange" (by decide +kernel)) hr (pv 0)) pa_nil))))))
      (pss_cons (ps_set (i := 1) scCalled.nd rfl (Or.inl rfl) (pe_op op_cat (pv 1) (pe_lst (pa_cons (pe_eK (er "InvalidChanges" (by decide +kernel)) hr (pv 0)) (pa_cons (pe_eK (er "InvalidShelf" (by decide +kernel)) hr (pv 0)) (pa_cons (pe_eK (er "InvalidSpot" (by decide +kernel)) hr (pv 0)) pa_nil))))))
      (pss_cons (ps_set (i := 1) scCalled.nd rfl (Or.inl rfl) (pe_op op_cat (pv 1) (pe_lst (pa_cons (pe_eK (er "InvalidScript" (by decide +kernel)) hr (pv 0)) (pa_cons (pe_eK (er "InvalidText" (by decide +kernel)) hr (pv 0)) (pa_cons (pe_eK (er "InvalidLog" (by decide +kernel)) hr (pv 0)) pa_nil))))))
      (pss_cons (ps_set (i := 1) scCalled.nd rfl (Or.inl rfl) (pe_op op_cat (pv 1) (pe_lst (pa_cons (pe_eK (er "Unlike" (by decide +kernel)) hr (pv 0)) (pa_cons (pe_eK (er "Unsettled" (by decide +kernel)) hr (pv 0)) (pa_cons (pe_eK (er "Apart" (by decide +kernel)) hr (pv 0)) (pa_cons (pe_eK (er "Refused" (by decide +kernel)) hr (pv 0)) pa_nil)))))))
      (pss_one (ps_ret (pv 1))))))))))))), ?_⟩
    refine found_go (K := K) (f := fun x => tErrK (He.ga K x) (tVar 0)) (makes_key (v := v) rfl) (xs := (["InvalidKind", "InvalidTable", "InvalidKinds"] : List Str)) (by decide) fun l0 es0 H0 s0 hl0 he0 => ?_
    refine more_go (K := K) (f := fun x => tErrK (He.ga K x) (tVar 0)) (makes_key (v := v) rfl) (xs := (["InvalidKind", "InvalidTable", "InvalidKinds"] : List Str)) (ys := (["InvalidMap", "InvalidRow", "InvalidGrouping"] : List Str)) (es := es0) (l := l0) rfl hl0 he0 (by decide) fun l1 es1 H1 s1 hl1 he1 => ?_
    refine more_go (K := K) (f := fun x => tErrK (He.ga K x) (tVar 0)) (makes_key (v := v) rfl) (xs := (["InvalidKind", "InvalidTable", "InvalidKinds", "InvalidMap", "InvalidRow", "InvalidGrouping"] : List Str)) (ys := (["InvalidBlock", "InvalidTriples", "InvalidRule"] : List Str)) (es := es1) (l := l1) rfl hl1 he1 (by decide) fun l2 es2 H2 s2 hl2 he2 => ?_
    refine more_go (K := K) (f := fun x => tErrK (He.ga K x) (tVar 0)) (makes_key (v := v) rfl) (xs := (["InvalidKind", "InvalidTable", "InvalidKinds", "InvalidMap", "InvalidRow", "InvalidGrouping", "InvalidBlock", "InvalidTriples", "InvalidRule"] : List Str)) (ys := (["InvalidDeed", "InvalidChain", "InvalidArrows"] : List Str)) (es := es2) (l := l2) rfl hl2 he2 (by decide) fun l3 es3 H3 s3 hl3 he3 => ?_
    refine more_go (K := K) (f := fun x => tErrK (He.ga K x) (tVar 0)) (makes_key (v := v) rfl) (xs := (["InvalidKind", "InvalidTable", "InvalidKinds", "InvalidMap", "InvalidRow", "InvalidGrouping", "InvalidBlock", "InvalidTriples", "InvalidRule", "InvalidDeed", "InvalidChain", "InvalidArrows"] : List Str)) (ys := (["InvalidLayers", "InvalidComb", "InvalidNumbers"] : List Str)) (es := es3) (l := l3) rfl hl3 he3 (by decide) fun l4 es4 H4 s4 hl4 he4 => ?_
    refine more_go (K := K) (f := fun x => tErrK (He.ga K x) (tVar 0)) (makes_key (v := v) rfl) (xs := (["InvalidKind", "InvalidTable", "InvalidKinds", "InvalidMap", "InvalidRow", "InvalidGrouping", "InvalidBlock", "InvalidTriples", "InvalidRule", "InvalidDeed", "InvalidChain", "InvalidArrows", "InvalidLayers", "InvalidComb", "InvalidNumbers"] : List Str)) (ys := (["InvalidWord", "InvalidFour", "InvalidCount"] : List Str)) (es := es4) (l := l4) rfl hl4 he4 (by decide) fun l5 es5 H5 s5 hl5 he5 => ?_
    refine more_go (K := K) (f := fun x => tErrK (He.ga K x) (tVar 0)) (makes_key (v := v) rfl) (xs := (["InvalidKind", "InvalidTable", "InvalidKinds", "InvalidMap", "InvalidRow", "InvalidGrouping", "InvalidBlock", "InvalidTriples", "InvalidRule", "InvalidDeed", "InvalidChain", "InvalidArrows", "InvalidLayers", "InvalidComb", "InvalidNumbers", "InvalidWord", "InvalidFour", "InvalidCount"] : List Str)) (ys := (["InvalidPlaces", "InvalidBonds", "InvalidChange"] : List Str)) (es := es5) (l := l5) rfl hl5 he5 (by decide) fun l6 es6 H6 s6 hl6 he6 => ?_
    refine more_go (K := K) (f := fun x => tErrK (He.ga K x) (tVar 0)) (makes_key (v := v) rfl) (xs := (["InvalidKind", "InvalidTable", "InvalidKinds", "InvalidMap", "InvalidRow", "InvalidGrouping", "InvalidBlock", "InvalidTriples", "InvalidRule", "InvalidDeed", "InvalidChain", "InvalidArrows", "InvalidLayers", "InvalidComb", "InvalidNumbers", "InvalidWord", "InvalidFour", "InvalidCount", "InvalidPlaces", "InvalidBonds", "InvalidChange"] : List Str)) (ys := (["InvalidChanges", "InvalidShelf", "InvalidSpot"] : List Str)) (es := es6) (l := l6) rfl hl6 he6 (by decide) fun l7 es7 H7 s7 hl7 he7 => ?_
    refine more_go (K := K) (f := fun x => tErrK (He.ga K x) (tVar 0)) (makes_key (v := v) rfl) (xs := (["InvalidKind", "InvalidTable", "InvalidKinds", "InvalidMap", "InvalidRow", "InvalidGrouping", "InvalidBlock", "InvalidTriples", "InvalidRule", "InvalidDeed", "InvalidChain", "InvalidArrows", "InvalidLayers", "InvalidComb", "InvalidNumbers", "InvalidWord", "InvalidFour", "InvalidCount", "InvalidPlaces", "InvalidBonds", "InvalidChange", "InvalidChanges", "InvalidShelf", "InvalidSpot"] : List Str)) (ys := (["InvalidScript", "InvalidText", "InvalidLog"] : List Str)) (es := es7) (l := l7) rfl hl7 he7 (by decide) fun l8 es8 H8 s8 hl8 he8 => ?_
    refine more_go (K := K) (f := fun x => tErrK (He.ga K x) (tVar 0)) (makes_key (v := v) rfl) (xs := (["InvalidKind", "InvalidTable", "InvalidKinds", "InvalidMap", "InvalidRow", "InvalidGrouping", "InvalidBlock", "InvalidTriples", "InvalidRule", "InvalidDeed", "InvalidChain", "InvalidArrows", "InvalidLayers", "InvalidComb", "InvalidNumbers", "InvalidWord", "InvalidFour", "InvalidCount", "InvalidPlaces", "InvalidBonds", "InvalidChange", "InvalidChanges", "InvalidShelf", "InvalidSpot", "InvalidScript", "InvalidText", "InvalidLog"] : List Str)) (ys := (["Unlike", "Unsettled", "Apart", "Refused"] : List Str)) (es := es8) (l := l8) rfl hl8 he8 (by decide) fun l9 es9 H9 s9 hl9 he9 => ?_
    exact ⟨_, rfl, k l9 es9 H9 (((((((((s0.trans s1).trans s2).trans s3).trans s4).trans s5).trans s6).trans s7).trans s8).trans s9) hl9 he9⟩
theorem scBare : FnScope ["_law_found"] [] (defScope sBare) := ⟨rfl, rfl, rfl, by decide +kernel, rfl, by decide +kernel, by decide +kernel⟩
theorem ok_bare (F : FD K "_law_bare" sBare fd) (T : TX K mg) : FnOk P w K mg base CX0 3 (He.ga K "_law_bare") fd [] (spBare K) := by
  have er : ∀ x, x ∈ cn → ErrC P w K mg base x (He.ga K x) := fun x hx => T.err hx
  refine F.ok scBare (fun vs H Q E h => ?_) (fun cdv A outer s H vs Q E hr h => ?_)
  · obtain ⟨rfl, _⟩ := h
    rfl
  · obtain ⟨rfl, k⟩ := h
    refine ⟨_, PSs.nox (pss_cons (ps_set (i := 0) scBare.nd rfl (Or.inl rfl) (pe_lst (pa_cons (pe_e0 (er "InvalidKind" (by decide +kernel)) hr) (pa_cons (pe_e0 (er "InvalidTable" (by decide +kernel)) hr) (pa_cons (pe_e0 (er "InvalidKinds" (by decide +kernel)) hr) (pa_cons (pe_e0 (er "InvalidMap" (by decide +kernel)) hr) (pa_cons (pe_e0 (er "InvalidRow" (by decide +kernel)) hr) (pa_cons (pe_e0 (er "InvalidGrouping" (by decide +kernel)) hr) pa_nil))))))))
      (pss_cons (ps_set (i := 0) scBare.nd rfl (Or.inl rfl) (pe_op op_cat (pv 0) (pe_lst (pa_cons (pe_e0 (er "InvalidBlock" (by decide +kernel)) hr) (pa_cons (pe_e0 (er "InvalidTriples" (by decide +kernel)) hr) (pa_cons (pe_e0 (er "InvalidRule" (by decide +kernel)) hr) (pa_cons (pe_e0 (er "InvalidDeed" (by decide +kernel)) hr) (pa_cons (pe_e0 (er "InvalidChain" (by decide +kernel)) hr) pa_nil))))))))
      (pss_cons (ps_set (i := 0) scBare.nd rfl (Or.inl rfl) (pe_op op_cat (pv 0) (pe_lst (pa_cons (pe_e0 (er "InvalidArrows" (by decide +kernel)) hr) (pa_cons (pe_e0 (er "InvalidLayers" (by decide +kernel)) hr) (pa_cons (pe_e0 (er "InvalidComb" (by decide +kernel)) hr) (pa_cons (pe_e0 (er "InvalidNumbers" (by decide +kernel)) hr) (pa_cons (pe_e0 (er "InvalidWord" (by decide +kernel)) hr) pa_nil))))))))
      (pss_cons (ps_set (i := 0) scBare.nd rfl (Or.inl rfl) (pe_op op_cat (pv 0) (pe_lst (pa_cons (pe_e0 (er "InvalidFour" (by decide +kernel)) hr) (pa_cons (pe_e0 (er "InvalidCount" (by decide +kernel)) hr) (pa_cons (pe_e0 (er "InvalidPlaces" (by decide +kernel)) hr) (pa_cons (pe_e0 (er "InvalidBonds" (by decide +kernel)) hr) (pa_cons (pe_e0 (er "InvalidChange" (by decide +kernel)) hr) pa_nil))))))))
      (pss_cons (ps_set (i := 0) scBare.nd rfl (Or.inl rfl) (pe_op op_cat (pv 0) (pe_lst (pa_cons (pe_e0 (er "InvalidChanges" (by decide +kernel)) hr) (pa_cons (pe_e0 (er "InvalidShelf" (by decide +kernel)) hr) (pa_cons (pe_e0 (er "InvalidSpot" (by decide +kernel)) hr) (pa_cons (pe_e0 (er "InvalidScript" (by decide +kernel)) hr) (pa_cons (pe_e0 (er "InvalidText" (by decide +kernel)) hr) pa_nil))))))))
      (pss_cons (ps_set (i := 0) scBare.nd rfl (Or.inl rfl) (pe_op op_cat (pv 0) (pe_lst (pa_cons (pe_e0 (er "InvalidLog" (by decide +kernel)) hr) (pa_cons (pe_e0 (er "Unlike" (by decide +kernel)) hr) (pa_cons (pe_e0 (er "Unsettled" (by decide +kernel)) hr) (pa_cons (pe_e0 (er "Apart" (by decide +kernel)) hr) (pa_cons (pe_e0 (er "Refused" (by decide +kernel)) hr) pa_nil))))))))
      (pss_one (ps_ret (pv 0))))))))), ?_⟩
    refine found_go (K := K) (f := fun x => tErr0 (He.ga K x)) (makes_non) (xs := (["InvalidKind", "InvalidTable", "InvalidKinds", "InvalidMap", "InvalidRow", "InvalidGrouping"] : List Str)) (by decide) fun l0 es0 H0 s0 hl0 he0 => ?_
    refine more_go (K := K) (f := fun x => tErr0 (He.ga K x)) (makes_non) (xs := (["InvalidKind", "InvalidTable", "InvalidKinds", "InvalidMap", "InvalidRow", "InvalidGrouping"] : List Str)) (ys := (["InvalidBlock", "InvalidTriples", "InvalidRule", "InvalidDeed", "InvalidChain"] : List Str)) (es := es0) (l := l0) rfl hl0 he0 (by decide) fun l1 es1 H1 s1 hl1 he1 => ?_
    refine more_go (K := K) (f := fun x => tErr0 (He.ga K x)) (makes_non) (xs := (["InvalidKind", "InvalidTable", "InvalidKinds", "InvalidMap", "InvalidRow", "InvalidGrouping", "InvalidBlock", "InvalidTriples", "InvalidRule", "InvalidDeed", "InvalidChain"] : List Str)) (ys := (["InvalidArrows", "InvalidLayers", "InvalidComb", "InvalidNumbers", "InvalidWord"] : List Str)) (es := es1) (l := l1) rfl hl1 he1 (by decide) fun l2 es2 H2 s2 hl2 he2 => ?_
    refine more_go (K := K) (f := fun x => tErr0 (He.ga K x)) (makes_non) (xs := (["InvalidKind", "InvalidTable", "InvalidKinds", "InvalidMap", "InvalidRow", "InvalidGrouping", "InvalidBlock", "InvalidTriples", "InvalidRule", "InvalidDeed", "InvalidChain", "InvalidArrows", "InvalidLayers", "InvalidComb", "InvalidNumbers", "InvalidWord"] : List Str)) (ys := (["InvalidFour", "InvalidCount", "InvalidPlaces", "InvalidBonds", "InvalidChange"] : List Str)) (es := es2) (l := l2) rfl hl2 he2 (by decide) fun l3 es3 H3 s3 hl3 he3 => ?_
    refine more_go (K := K) (f := fun x => tErr0 (He.ga K x)) (makes_non) (xs := (["InvalidKind", "InvalidTable", "InvalidKinds", "InvalidMap", "InvalidRow", "InvalidGrouping", "InvalidBlock", "InvalidTriples", "InvalidRule", "InvalidDeed", "InvalidChain", "InvalidArrows", "InvalidLayers", "InvalidComb", "InvalidNumbers", "InvalidWord", "InvalidFour", "InvalidCount", "InvalidPlaces", "InvalidBonds", "InvalidChange"] : List Str)) (ys := (["InvalidChanges", "InvalidShelf", "InvalidSpot", "InvalidScript", "InvalidText"] : List Str)) (es := es3) (l := l3) rfl hl3 he3 (by decide) fun l4 es4 H4 s4 hl4 he4 => ?_
    refine more_go (K := K) (f := fun x => tErr0 (He.ga K x)) (makes_non) (xs := (["InvalidKind", "InvalidTable", "InvalidKinds", "InvalidMap", "InvalidRow", "InvalidGrouping", "InvalidBlock", "InvalidTriples", "InvalidRule", "InvalidDeed", "InvalidChain", "InvalidArrows", "InvalidLayers", "InvalidComb", "InvalidNumbers", "InvalidWord", "InvalidFour", "InvalidCount", "InvalidPlaces", "InvalidBonds", "InvalidChange", "InvalidChanges", "InvalidShelf", "InvalidSpot", "InvalidScript", "InvalidText"] : List Str)) (ys := (["InvalidLog", "Unlike", "Unsettled", "Apart", "Refused"] : List Str)) (es := es4) (l := l4) rfl hl4 he4 (by decide) fun l5 es5 H5 s5 hl5 he5 => ?_
    exact ⟨_, rfl, k l5 es5 H5 (((((s0.trans s1).trans s2).trans s3).trans s4).trans s5) hl5 he5⟩
end
end K1

namespace KS
open PySem PySem.Spec PyProof.Rows L2
/-- found = [..] of pure values | found = found + [..] -/
theorem vals_go {i : Nat} {σ : L2.St} {f : Str → TE} {g : Str → V} {xs : List Str} {H0 H : Hp} (m : ∀ (H' : Hp), Same H0 H' → ∀ x ∈ xs, Gives1 σ H' (f x) (g x)) (s : Same H0 H) (small : xs.length ≤ 100) {D : Ends}
    {σ' : Addr → L2.St} (hσ : ∀ l, σ.set i (some (.ref l)) = σ' l) (k : ∀ l H', Same H0 H' → H' l = some (.lst (xs.map g)) → D.nx (σ' l) H') : tAsg (tLst (tEach f xs)) (gName i) D σ H :=
  gives_each (m H s) _ ⟨by rw [List.length_map]; exact Nat.le_trans small (by decide), fun l fl => (show D.nx (σ.set i (some (.ref l))) _ from hσ l ▸ k l _ (s.trans (Same.new fl)) upd_same)⟩
theorem vals_more {i : Nat} {σ : L2.St} {f : Str → TE} {g : Str → V} {xs ys : List Str} {l : Addr} {H0 H : Hp} (at_i : σ[i]? = some (some (.ref l))) (m : ∀ (H' : Hp), Same H0 H' → ∀ x ∈ ys, Gives1 σ H' (f x) (g x)) (s : Same H0 H) (hl : H l = some (.lst (xs.map g)))
    (small : xs.length + ys.length ≤ 100) {D : Ends} {σ' : Addr → L2.St} (hσ : ∀ l, σ.set i (some (.ref l)) = σ' l) (k : ∀ l' H', Same H0 H' → H' l' = some (.lst ((xs ++ ys).map g)) → D.nx (σ' l') H') : tAsg (tOp rCat (tVar i) (tLst (tEach f ys))) (gName i) D σ H := by
  refine ⟨_, at_i, gives_each (m H s) _ ⟨by rw [List.length_map]; exact Nat.le_trans (show ys.length ≤ 100 by omega) (by decide), fun q fq => ⟨l, q, xs.map g, ys.map g, rfl, rfl, ?_, upd_same, ?_, fun l' fl => ?_⟩⟩⟩
  · rw [upd_ne (ne_of_none hl fq)]
    exact hl
  · rw [List.length_map, List.length_map]
    exact Nat.le_trans small (by decide)
  · show D.nx (σ.set i (some (.ref l'))) _
    rw [hσ l']
    exact k l' _ ((s.trans (Same.new fq)).trans (Same.new fl)) (by rw [upd_same, List.map_append])
/-- the places at which a list of truth values holds -/
def spots (bs : List Bool) : List Nat := (List.range bs.length).filter fun i => bs.getD i false
theorem spots_more {bs : List Bool} {i : Nat} : (List.range (i + 1)).filter (fun i => bs.getD i false) = (List.range i).filter (fun i => bs.getD i false) ++ (if bs.getD i false = true then [i] else []) := by
  rw [List.range_succ, List.filter_append]
  congr 1
  cases h : bs.getD i false with
  | true => exact List.filter_cons_of_pos h
  | false => exact List.filter_cons_of_neg (by rw [h]; exact Bool.false_ne_true)
end KS
namespace K1
open PySem PySem.Spec PyProof.Rows L2 KS
section
variable {P : Program} {w : World} {K : PySem.W.Frag} {mg : Str → Option Value} {base : Heap} {fd : FuncData}
/-! ### which class -/
theorem pe_cls {X : Cx} {x : Str} {C : Addr} {pos : Pos} (hm : X.mg x = some (.ref C)) (hg : Gl X x := by rfl) (hd : (x == ("__debug__" : Str)) = false := by decide) : PE X (.Name x pos) (tC (.ref C)) := pe_glob (v := .ref C) hg hm rfl (hd := hd)
/-- isinstance(error, y) -/
abbrev tAsk (K : PySem.W.Frag) (y : Str) : TE := tCB (fun xs H Q => rIsE1 K H xs Q) (tCons (tVar 0) (tCons (tC (.ref (He.ga K y))) tNil))
theorem ask_gives {σ : L2.St} {H : Hp} {a C : Addr} {y : Str} {b : Bool} (h0 : σ[0]? = some (some (.ref a))) (he : IsErr H a C) (ec : EC K C) (hb : PySem.W.kitOne K (.ref C) (.ref (He.ga K y)) = some b) : Gives1 σ H (tAsk K y) (.bl b) :=
  fun Q q => ⟨_, h0, a, C, .ref (He.ga K y), .ref (He.ga K y), b, rfl, .own _, he, ec, hb, q⟩
def spCode (K : PySem.W.Frag) : Sp := fun vs H Q _ => ∃ (a C : Addr) (bit : Str → Bool), vs = [.ref a] ∧ IsErr H a C ∧ EC K C ∧ (∀ y ∈ cn33, PySem.W.kitOne K (.ref C) (.ref (He.ga K y)) = some (bit y)) ∧
  ∀ l H', H l = none → Same H H' → H' l = some (.lst ((spots (cn33.map bit)).map fun i => V.int (i : Nat))) → l ≠ sysModules ∨ True → Q (.ref l) H'
theorem scCode : FnScope ["_law_error", "_law_found", "_law_at"] ["_law_error"] (defScope sCode) := ⟨rfl, rfl, rfl, by decide +kernel, rfl, by decide +kernel, by decide +kernel⟩
theorem ok_code (F : FD K "_law_code" sCode fd) (T : TX K mg) : FnOk P w K mg base CX0 2 (He.ga K "_law_code") fd ["_law_error"] (spCode K) := by
  have mIs : mg "isinstance" = none := T.free _ (by decide +kernel)
  have mL : mg "len" = none := T.free _ (by decide +kernel)
  have mR : mg "range" = none := T.free _ (by decide +kernel)
  have gl : ∀ x ∈ gloN, mg x = some (.ref (He.ga K x)) := T.glo
  refine F.ok scCode (fun vs H Q E h => ?_) (fun cdv A outer s H vs Q E hr h => ?_)
  · obtain ⟨a, C, bit, rfl, _⟩ := h
    rfl
  · obtain ⟨a, C, bit, rfl, he, ec, hb, k⟩ := h
    refine ⟨_, PSs.nox (pss_cons (ps_set (i := 1) scCode.nd rfl (Or.inr rfl) (pe_lst (pa_cons (pe_callB call_isErr (by rfl) mIs (by decide +kernel) (pa_cons (pv 0) (pa_cons (pe_cls (gl "InvalidKind" (by decide +kernel))) pa_nil))) (pa_cons (pe_callB call_isErr (by rfl) mIs (by decide +kernel) (pa_cons (pv 0) (pa_cons (pe_cls (gl "InvalidTable" (by decide +kernel))) pa_nil))) (pa_cons (pe_callB call_isErr (by rfl) mIs (by decide +kernel) (pa_cons (pv 0) (pa_cons (pe_cls (gl "InvalidKinds" (by decide +kernel))) pa_nil))) pa_nil)))))
      (pss_cons (ps_set (i := 1) scCode.nd rfl (Or.inr rfl) (pe_op op_cat (pv 1) (pe_lst (pa_cons (pe_callB call_isErr (by rfl) mIs (by decide +kernel) (pa_cons (pv 0) (pa_cons (pe_cls (gl "InvalidMap" (by decide +kernel))) pa_nil))) (pa_cons (pe_callB call_isErr (by rfl) mIs (by decide +kernel) (pa_cons (pv 0) (pa_cons (pe_cls (gl "InvalidRow" (by decide +kernel))) pa_nil))) pa_nil)))))
      (pss_cons (ps_set (i := 1) scCode.nd rfl (Or.inr rfl) (pe_op op_cat (pv 1) (pe_lst (pa_cons (pe_callB call_isErr (by rfl) mIs (by decide +kernel) (pa_cons (pv 0) (pa_cons (pe_cls (gl "InvalidGrouping" (by decide +kernel))) pa_nil))) (pa_cons (pe_callB call_isErr (by rfl) mIs (by decide +kernel) (pa_cons (pv 0) (pa_cons (pe_cls (gl "InvalidBlock" (by decide +kernel))) pa_nil))) pa_nil)))))
      (pss_cons (ps_set (i := 1) scCode.nd rfl (Or.inr rfl) (pe_op op_cat (pv 1) (pe_lst (pa_cons (pe_callB call_isErr (by rfl) mIs (by decide +kernel) (pa_cons (pv 0) (pa_cons (pe_cls (gl "InvalidTriples" (by decide +kernel))) pa_nil))) (pa_cons (pe_callB call_isErr (by rfl) mIs (by decide +kernel) (pa_cons (pv 0) (pa_cons (pe_cls (gl "InvalidRule" (by decide +kernel))) pa_nil))) pa_nil)))))
      (pss_cons (ps_set (i := 1) scCode.nd rfl (Or.inr rfl) (pe_op op_cat (pv 1) (pe_lst (pa_cons (pe_callB call_isErr (by rfl) mIs (by decide +kernel) (pa_cons (pv 0) (pa_cons (pe_cls (gl "InvalidDeed" (by decide +kernel))) pa_nil))) (pa_cons (pe_callB call_isErr (by rfl) mIs (by decide +kernel) (pa_cons (pv 0) (pa_cons (pe_cls (gl "InvalidChain" (by decide +kernel))) pa_nil))) pa_nil)))))
      (pss_cons (ps_set (i := 1) scCode.nd rfl (Or.inr rfl) (pe_op op_cat (pv 1) (pe_lst (pa_cons (pe_callB call_isErr (by rfl) mIs (by decide +kernel) (pa_cons (pv 0) (pa_cons (pe_cls (gl "InvalidArrows" (by decide +kernel))) pa_nil))) (pa_cons (pe_callB call_isErr (by rfl) mIs (by decide +kernel) (pa_cons (pv 0) (pa_cons (pe_cls (gl "InvalidLayers" (by decide +kernel))) pa_nil))) pa_nil)))))
      (pss_cons (ps_set (i := 1) scCode.nd rfl (Or.inr rfl) (pe_op op_cat (pv 1) (pe_lst (pa_cons (pe_callB call_isErr (by rfl) mIs (by decide +kernel) (pa_cons (pv 0) (pa_cons (pe_cls (gl "InvalidComb" (by decide +kernel))) pa_nil))) (pa_cons (pe_callB call_isErr (by rfl) mIs (by decide +kernel) (pa_cons (pv 0) (pa_cons (pe_cls (gl "InvalidNumbers" (by decide +kernel))) pa_nil))) pa_nil)))))
      (pss_cons (ps_set (i := 1) scCode.nd rfl (Or.inr rfl) (pe_op op_cat (pv 1) (pe_lst (pa_cons (pe_callB call_isErr (by rfl) mIs (by decide +kernel) (pa_cons (pv 0) (pa_cons (pe_cls (gl "InvalidWord" (by decide +kernel))) pa_nil))) (pa_cons (pe_callB call_isErr (by rfl) mIs (by decide +kernel) (pa_cons (pv 0) (pa_cons (pe_cls (gl "InvalidFour" (by decide +kernel))) pa_nil))) pa_nil)))))
      (pss_cons (ps_set (i := 1) scCode.nd rfl (Or.inr rfl) (pe_op op_cat (pv 1) (pe_lst (pa_cons (pe_callB call_isErr (by rfl) mIs (by decide +kernel) (pa_cons (pv 0) (pa_cons (pe_cls (gl "InvalidCount" (by decide +kernel))) pa_nil))) (pa_cons (pe_callB call_isErr (by rfl) mIs (by decide +kernel) (pa_cons (pv 0) (pa_cons (pe_cls (gl "InvalidPlaces" (by decide +kernel))) pa_nil))) pa_nil)))))
      (pss_cons (ps_set (i := 1) scCode.nd rfl (Or.inr rfl) (pe_op op_cat (pv 1) (pe_lst (pa_cons (pe_callB call_isErr (by rfl) mIs (by decide +kernel) (pa_cons (pv 0) (pa_cons (pe_cls (gl "InvalidBonds" (by decide +kernel))) pa_nil))) (pa_cons (pe_callB call_isErr (by rfl) mIs (by decide +kernel) (pa_cons (pv 0) (pa_cons (pe_cls (gl "InvalidChange" (by decide +kernel))) pa_nil))) pa_nil)))))
      (pss_cons (ps_set (i := 1) scCode.nd rfl (Or.inr rfl) (pe_op op_cat (pv 1) (pe_lst (pa_cons (pe_callB call_isErr (by rfl) mIs (by decide +kernel) (pa_cons (pv 0) (pa_cons (pe_cls (gl "InvalidChanges" (by decide +kernel))) pa_nil))) (pa_cons (pe_callB call_isErr (by rfl) mIs (by decide +kernel) (pa_cons (pv 0) (pa_cons (pe_cls (gl "InvalidShelf" (by decide +kernel))) pa_nil))) pa_nil)))))
      (pss_cons (ps_set (i := 1) scCode.nd rfl (Or.inr rfl) (pe_op op_cat (pv 1) (pe_lst (pa_cons (pe_callB call_isErr (by rfl) mIs (by decide +kernel) (pa_cons (pv 0) (pa_cons (pe_cls (gl "InvalidSpot" (by decide +kernel))) pa_nil))) (pa_cons (pe_callB call_isErr (by rfl) mIs (by decide +kernel) (pa_cons (pv 0) (pa_cons (pe_cls (gl "InvalidScript" (by decide +kernel))) pa_nil))) pa_nil)))))
      (pss_cons (ps_set (i := 1) scCode.nd rfl (Or.inr rfl) (pe_op op_cat (pv 1) (pe_lst (pa_cons (pe_callB call_isErr (by rfl) mIs (by decide +kernel) (pa_cons (pv 0) (pa_cons (pe_cls (gl "InvalidText" (by decide +kernel))) pa_nil))) (pa_cons (pe_callB call_isErr (by rfl) mIs (by decide +kernel) (pa_cons (pv 0) (pa_cons (pe_cls (gl "InvalidLog" (by decide +kernel))) pa_nil))) (pa_cons (pe_callB call_isErr (by rfl) mIs (by decide +kernel) (pa_cons (pv 0) (pa_cons (pe_cls (gl "Unlike" (by decide +kernel))) pa_nil))) pa_nil))))))
      (pss_cons (ps_set (i := 1) scCode.nd rfl (Or.inr rfl) (pe_op op_cat (pv 1) (pe_lst (pa_cons (pe_callB call_isErr (by rfl) mIs (by decide +kernel) (pa_cons (pv 0) (pa_cons (pe_cls (gl "Unsettled" (by decide +kernel))) pa_nil))) (pa_cons (pe_callB call_isErr (by rfl) mIs (by decide +kernel) (pa_cons (pv 0) (pa_cons (pe_cls (gl "Apart" (by decide +kernel))) pa_nil))) (pa_cons (pe_callB call_isErr (by rfl) mIs (by decide +kernel) (pa_cons (pv 0) (pa_cons (pe_cls (gl "Refused" (by decide +kernel))) pa_nil))) pa_nil))))))
      (pss_cons (ps_set (i := 1) scCode.nd rfl (Or.inr rfl) (pe_op op_cat (pv 1) (pe_lst (pa_cons (pe_callB call_isErr (by rfl) mIs (by decide +kernel) (pa_cons (pv 0) (pa_cons (pe_cls (gl "NothingToUndo" (by decide +kernel))) pa_nil))) (pa_cons (pe_callB call_isErr (by rfl) mIs (by decide +kernel) (pa_cons (pv 0) (pa_cons (pe_cls (gl "NothingToRedo" (by decide +kernel))) pa_nil))) pa_nil)))))
      (pss_one (ps_ret (pe_lc (own := [("_law_at", 2)]) (g := gName 2) (tt := tB (tOp (rIxL K) (tVar 1) (tVar 2))) rfl scCode.nd (pi_range1 (by rfl) mR (pa_cons (pe_callB call_len_seq (by rfl) mL PySem.boot_len (pa_cons (pv 1) pa_nil)) pa_nil))
        (blkOk_by (own := [("_law_at", 2)]) (N := ["_law_error", "_law_found", "_law_at"]) (sc := defScope sCode) (by decide +kernel)) (fun _ _ _ _ _ => pg_name (i := 2) scCode.nd rfl (Or.inl rfl)) (fun _ _ _ _ _ => pts_one (pt_val (pe_ix ix_list (pv 1) (pv 2) (fun _ _ => rfl))))
        (fun _ _ _ _ _ => pv 2))))))))))))))))))), ?_⟩
    have ask : ∀ (σ : L2.St) (ys : List Str), σ[0]? = some (some (.ref a)) → (∀ y ∈ ys, y ∈ cn33) → ∀ H', Same H H' → ∀ y ∈ ys, Gives1 σ H' (tAsk K y) (.bl (bit y)) := fun σ ys h0 sub H' s' y hy => ask_gives h0 (he.mono s') ec (hb y (sub y hy))
    refine vals_go (f := tAsk K) (g := fun y => .bl (bit y)) (xs := (["InvalidKind", "InvalidTable", "InvalidKinds"] : List Str)) (H0 := H) (ask _ _ rfl (by decide +kernel)) (Same.refl H) (by decide) (σ' := fun l => [some (.ref a), some (.ref l), none]) (fun _ => rfl) fun l0 H0 s0 h0 => ?_
    refine vals_more (f := tAsk K) (g := fun y => .bl (bit y)) (xs := (["InvalidKind", "InvalidTable", "InvalidKinds"] : List Str)) (ys := (["InvalidMap", "InvalidRow"] : List Str)) (l := l0) (H0 := H) rfl (ask _ _ rfl (by decide +kernel)) s0 h0 (by decide) (σ' := fun l => [some (.ref a), some (.ref l), none]) (fun _ => rfl) fun l1 H1 s1 h1 => ?_
    refine vals_more (f := tAsk K) (g := fun y => .bl (bit y)) (xs := (["InvalidKind", "InvalidTable", "InvalidKinds", "InvalidMap", "InvalidRow"] : List Str)) (ys := (["InvalidGrouping", "InvalidBlock"] : List Str)) (l := l1) (H0 := H) rfl (ask _ _ rfl (by decide +kernel)) s1 h1 (by decide) (σ' := fun l => [some (.ref a), some (.ref l), none]) (fun _ => rfl) fun l2 H2 s2 h2 => ?_
    refine vals_more (f := tAsk K) (g := fun y => .bl (bit y)) (xs := (["InvalidKind", "InvalidTable", "InvalidKinds", "InvalidMap", "InvalidRow", "InvalidGrouping", "InvalidBlock"] : List Str)) (ys := (["InvalidTriples", "InvalidRule"] : List Str)) (l := l2) (H0 := H) rfl (ask _ _ rfl (by decide +kernel)) s2 h2 (by decide) (σ' := fun l => [some (.ref a), some (.ref l), none]) (fun _ => rfl) fun l3 H3 s3 h3 => ?_
    refine vals_more (f := tAsk K) (g := fun y => .bl (bit y)) (xs := (["InvalidKind", "InvalidTable", "InvalidKinds", "InvalidMap", "InvalidRow", "InvalidGrouping", "InvalidBlock", "InvalidTriples", "InvalidRule"] : List Str)) (ys := (["InvalidDeed", "InvalidChain"] : List Str)) (l := l3) (H0 := H) rfl (ask _ _ rfl (by decide +kernel)) s3 h3 (by decide) (σ' := fun l => [some (.ref a), some (.ref l), none]) (fun _ => rfl) fun l4 H4 s4 h4 => ?_
    refine vals_more (f := tAsk K) (g := fun y => .bl (bit y)) (xs := (["InvalidKind", "InvalidTable", "InvalidKinds", "InvalidMap", "InvalidRow", "InvalidGrouping", "InvalidBlock", "InvalidTriples", "InvalidRule", "InvalidDeed", "InvalidChain"] : List Str)) (ys := (["InvalidArrows", "InvalidLayers"] : List Str)) (l := l4) (H0 := H) rfl (ask _ _ rfl (by decide +kernel)) s4 h4 (by decide) (σ' := fun l => [some (.ref a), some (.ref l), none]) (fun _ => rfl) fun l5 H5 s5 h5 => ?_
    refine vals_more (f := tAsk K) (g := fun y => .bl (bit y)) (xs := (["InvalidKind", "InvalidTable", "InvalidKinds", "InvalidMap", "InvalidRow", "InvalidGrouping", "InvalidBlock", "InvalidTriples", "InvalidRule", "InvalidDeed", "InvalidChain", "InvalidArrows", "InvalidLayers"] : List Str)) (ys := (["InvalidComb", "InvalidNumbers"] : List Str)) (l := l5) (H0 := H) rfl (ask _ _ rfl (by decide +kernel)) s5 h5 (by decide) (σ' := fun l => [some (.ref a), some (.ref l), none]) (fun _ => rfl) fun l6 H6 s6 h6 => ?_
    refine vals_more (f := tAsk K) (g := fun y => .bl (bit y)) (xs := (["InvalidKind", "InvalidTable", "InvalidKinds", "InvalidMap", "InvalidRow", "InvalidGrouping", "InvalidBlock", "InvalidTriples", "InvalidRule", "InvalidDeed", "InvalidChain", "InvalidArrows", "InvalidLayers", "InvalidComb", "InvalidNumbers"] : List Str)) (ys := (["InvalidWord", "InvalidFour"] : List Str)) (l := l6) (H0 := H) rfl (ask _ _ rfl (by decide +kernel)) s6 h6 (by decide) (σ' := fun l => [some (.ref a), some (.ref l), none]) (fun _ => rfl) fun l7 H7 s7 h7 => ?_
    refine vals_more (f := tAsk K) (g := fun y => .bl (bit y)) (xs := (["InvalidKind", "InvalidTable", "InvalidKinds", "InvalidMap", "InvalidRow", "InvalidGrouping", "InvalidBlock", "InvalidTriples", "InvalidRule", "InvalidDeed", "InvalidChain", "InvalidArrows", "InvalidLayers", "InvalidComb", "InvalidNumbers", "InvalidWord", "InvalidFour"] : List Str)) (ys := (["InvalidCount", "InvalidPlaces"] : List Str)) (l := l7) (H0 := H) rfl (ask _ _ rfl (by decide +kernel)) s7 h7 (by decide) (σ' := fun l => [some (.ref a), some (.ref l), none]) (fun _ => rfl) fun l8 H8 s8 h8 => ?_
    refine vals_more (f := tAsk K) (g := fun y => .bl (bit y)) (xs := (["InvalidKind", "InvalidTable", "InvalidKinds", "InvalidMap", "InvalidRow", "InvalidGrouping", "InvalidBlock", "InvalidTriples", "InvalidRule", "InvalidDeed", "InvalidChain", "InvalidArrows", "InvalidLayers", "InvalidComb", "InvalidNumbers", "InvalidWord", "InvalidFour", "InvalidCount", "InvalidPlaces"] : List Str)) (ys := (["InvalidBonds", "InvalidChange"] : List Str)) (l := l8) (H0 := H) rfl (ask _ _ rfl (by decide +kernel)) s8 h8 (by decide) (σ' := fun l => [some (.ref a), some (.ref l), none]) (fun _ => rfl) fun l9 H9 s9 h9 => ?_
    refine vals_more (f := tAsk K) (g := fun y => .bl (bit y)) (xs := (["InvalidKind", "InvalidTable", "InvalidKinds", "InvalidMap", "InvalidRow", "InvalidGrouping", "InvalidBlock", "InvalidTriples", "InvalidRule", "InvalidDeed", "InvalidChain", "InvalidArrows", "InvalidLayers", "InvalidComb", "InvalidNumbers", "InvalidWord", "InvalidFour", "InvalidCount", "InvalidPlaces", "InvalidBonds", "InvalidChange"] : List Str)) (ys := (["InvalidChanges", "InvalidShelf"] : List Str)) (l := l9) (H0 := H) rfl (ask _ _ rfl (by decide +kernel)) s9 h9 (by decide) (σ' := fun l => [some (.ref a), some (.ref l), none]) (fun _ => rfl) fun l10 H10 s10 h10 => ?_
    refine vals_more (f := tAsk K) (g := fun y => .bl (bit y)) (xs := (["InvalidKind", "InvalidTable", "InvalidKinds", "InvalidMap", "InvalidRow", "InvalidGrouping", "InvalidBlock", "InvalidTriples", "InvalidRule", "InvalidDeed", "InvalidChain", "InvalidArrows", "InvalidLayers", "InvalidComb", "InvalidNumbers", "InvalidWord", "InvalidFour", "InvalidCount", "InvalidPlaces", "InvalidBonds", "InvalidChange", "InvalidChanges", "InvalidShelf"] : List Str)) (ys := (["InvalidSpot", "InvalidScript"] : List Str)) (l := l10) (H0 := H) rfl (ask _ _ rfl (by decide +kernel)) s10 h10 (by decide) (σ' := fun l => [some (.ref a), some (.ref l), none]) (fun _ => rfl) fun l11 H11 s11 h11 => ?_
    refine vals_more (f := tAsk K) (g := fun y => .bl (bit y)) (xs := (["InvalidKind", "InvalidTable", "InvalidKinds", "InvalidMap", "InvalidRow", "InvalidGrouping", "InvalidBlock", "InvalidTriples", "InvalidRule", "InvalidDeed", "InvalidChain", "InvalidArrows", "InvalidLayers", "InvalidComb", "InvalidNumbers", "InvalidWord", "InvalidFour", "InvalidCount", "InvalidPlaces", "InvalidBonds", "InvalidChange", "InvalidChanges", "InvalidShelf", "InvalidSpot", "InvalidScript"] : List Str)) (ys := (["InvalidText", "InvalidLog", "Unlike"] : List Str)) (l := l11) (H0 := H) rfl (ask _ _ rfl (by decide +kernel)) s11 h11 (by decide) (σ' := fun l => [some (.ref a), some (.ref l), none]) (fun _ => rfl) fun l12 H12 s12 h12 => ?_
    refine vals_more (f := tAsk K) (g := fun y => .bl (bit y)) (xs := (["InvalidKind", "InvalidTable", "InvalidKinds", "InvalidMap", "InvalidRow", "InvalidGrouping", "InvalidBlock", "InvalidTriples", "InvalidRule", "InvalidDeed", "InvalidChain", "InvalidArrows", "InvalidLayers", "InvalidComb", "InvalidNumbers", "InvalidWord", "InvalidFour", "InvalidCount", "InvalidPlaces", "InvalidBonds", "InvalidChange", "InvalidChanges", "InvalidShelf", "InvalidSpot", "InvalidScript", "InvalidText", "InvalidLog", "Unlike"] : List Str)) (ys := (["Unsettled", "Apart", "Refused"] : List Str)) (l := l12) (H0 := H) rfl (ask _ _ rfl (by decide +kernel)) s12 h12 (by decide) (σ' := fun l => [some (.ref a), some (.ref l), none]) (fun _ => rfl) fun l13 H13 s13 h13 => ?_
    refine vals_more (f := tAsk K) (g := fun y => .bl (bit y)) (xs := (["InvalidKind", "InvalidTable", "InvalidKinds", "InvalidMap", "InvalidRow", "InvalidGrouping", "InvalidBlock", "InvalidTriples", "InvalidRule", "InvalidDeed", "InvalidChain", "InvalidArrows", "InvalidLayers", "InvalidComb", "InvalidNumbers", "InvalidWord", "InvalidFour", "InvalidCount", "InvalidPlaces", "InvalidBonds", "InvalidChange", "InvalidChanges", "InvalidShelf", "InvalidSpot", "InvalidScript", "InvalidText", "InvalidLog", "Unlike", "Unsettled", "Apart", "Refused"] : List Str)) (ys := (["NothingToUndo", "NothingToRedo"] : List Str)) (l := l13) (H0 := H) rfl (ask _ _ rfl (by decide +kernel)) s13 h13 (by decide) (σ' := fun l => [some (.ref a), some (.ref l), none]) (fun _ => rfl) fun l14 H14 s14 h14 => ?_
    have hl : H14 l14 = some (.lst ((cn33.map bit).map V.bl)) := by rw [h14]; rfl
    refine ⟨_, rfl, l14, _, rfl, .inl (SqL.of hl), ?_⟩
    have lenB : ((cn33.map bit).map V.bl).length = 33 := by rw [List.length_map, List.length_map]; rfl
    rw [lenB]
    refine ⟨33, rfl, by decide, by decide, fun D hD => ?_⟩
    have freeD : H D = none := s14.free hD
    have neD : l14 ≠ D := ne_of_none hl hD
    refine lc_range (lo := 0) (n := 33) (fun i H' => Same H H' ∧ H' l14 = some (.lst ((cn33.map bit).map V.bl)) ∧ H' D = some (.lst (((List.range i).filter fun i => (cn33.map bit).getD i false).map fun i => V.int (i : Nat))))
      ⟨s14.trans (Same.new hD), Same.new hD _ _ hl, upd_same⟩ ?_ ?_
    · rintro i H' hi ⟨s', q', d'⟩
      have hi2 : i < (cn33.map bit).length := by rw [List.length_map]; exact hi
      have eg : (cn33.map bit).getD i false = (cn33.map bit)[i] := by rw [List.getD_eq_getElem?_getD, List.getElem?_eq_getElem hi2]; rfl
      refine ⟨rfl, _, rfl, _, rfl, l14, _, ((i : Nat) : Int), .bl (cn33.map bit)[i], rfl, by rw [Int.zero_add], SqL.of q', atI_nat (by rw [List.getElem?_map, List.getElem?_eq_getElem hi2]; rfl), _, rfl, ?_⟩
      have more := spots_more (bs := cn33.map bit) (i := i)
      rw [eg] at more
      cases hbit : (cn33.map bit)[i] with
      | true =>
        rw [hbit, if_pos rfl] at more
        refine if_yes rfl ⟨_, rfl, _, d', ?_, fun b o e => by rw [upd_ne (ne_of_none e freeD)]; exact s' b o e, by rw [upd_ne neD]; exact q', ?_⟩
        · rw [List.length_map]
          exact Nat.lt_of_le_of_lt (Nat.le_trans (List.length_filter_le ..) (by rw [List.length_range]; exact Nat.le_of_lt hi)) (by decide)
        · rw [upd_same, more, List.map_append]
          simp
      | false =>
        rw [hbit, if_neg Bool.false_ne_true, List.append_nil] at more
        refine if_no rfl ⟨s', q', ?_⟩
        rw [more]
        exact d'
    · rintro H' ⟨s', -, d'⟩
      exact k D H' freeD s' (by rw [d']; unfold spots; rw [List.length_map]; rfl) (.inr trivial)
end
end K1

namespace KS
open PySem PySem.Spec PyProof.Rows L2
theorem dp_each {K : PySem.W.Frag} {H : Hp} {f : Nat → PyData} : ∀ (ls : List Addr) (o : Nat), (∀ j p, ls[j]? = some p → Dp K H (.ref p) (f (o + j))) → DpAll K H (ls.map V.ref) ((List.range' o ls.length).map f)
  | [], _, _ => .nil
  | p :: ls, o, h => by
    refine .cons (h 0 p rfl) ?_
    refine dp_each ls (o + 1) fun j q e => ?_
    have z := h (j + 1) q (by simpa using e)
    rwa [show o + (j + 1) = o + 1 + j by omega] at z
/-- behind i turns D holds the lists of one number each, in their order -/
def Ones (H : Hp) (D : Addr) (i : Nat) : Prop := ∃ ls : List Addr, ls.length = i ∧ H D = some (.lst (ls.map V.ref)) ∧ ∀ j p, ls[j]? = some p → p ≠ D ∧ H p = some (.lst [.int (j : Nat)])
theorem Ones.nil {H : Hp} {D : Addr} : Ones (upd H D (.lst [])) D 0 := ⟨[], rfl, upd_same, fun j p e => by simp at e⟩
theorem Ones.snoc {H H' : Hp} {D q : Addr} {i : Nat} (h : Ones H D i) (s : Same H H') (n : H q = none) (hq : H' q = some (.lst [.int (i : Nat)])) : ∃ acc : List V, H' D = some (.lst acc) ∧ acc.length = i ∧ Ones (upd H' D (.lst (acc ++ [.ref q]))) D (i + 1) := by
  obtain ⟨ls, ll, hd, hp⟩ := h
  have nq : q ≠ D := fun e => by rw [← e, n] at hd; cases hd
  refine ⟨_, s _ _ hd, by rw [List.length_map, ll], ls ++ [q], by rw [List.length_append, ll]; rfl, by rw [upd_same, List.map_append]; rfl, fun j p e => ?_⟩
  by_cases hj : j < ls.length
  · rw [List.getElem?_append_left hj] at e
    obtain ⟨h1, h2⟩ := hp j p e
    exact ⟨h1, by rw [upd_ne h1]; exact s _ _ h2⟩
  · have ej : j = ls.length := by
      have := (List.getElem?_eq_some_iff.mp e).1
      rw [List.length_append] at this
      simp at this
      omega
    subst ej
    rw [List.getElem?_append_right (Nat.le_refl _), Nat.sub_self] at e
    have ep : q = p := Option.some.inj e
    subst ep
    refine ⟨nq, ?_⟩
    rw [upd_ne nq, hq, ll]
theorem Ones.mono {H H' : Hp} {D : Addr} {i : Nat} (h : Ones H D i) (s : Same H H') : Ones H' D i := by
  obtain ⟨ls, ll, hd, hp⟩ := h
  exact ⟨ls, ll, s _ _ hd, fun j p e => ⟨(hp j p e).1, s _ _ (hp j p e).2⟩⟩
def onesD (n : Nat) : PyData := .list ((List.range' 0 n).map fun i => .list [.int (i : Nat)])
theorem Ones.dp {K : PySem.W.Frag} {H : Hp} {D : Addr} {n : Nat} (h : Ones H D n) : Dp K H (.ref D) (onesD n) := by
  obtain ⟨ls, ll, hd, hp⟩ := h
  refine .lst (SqL.of hd) ?_
  rw [← ll]
  refine dp_each (f := fun i => .list [.int (i : Nat)]) ls 0 fun j p e => ?_
  rw [Nat.zero_add]
  exact .lst (SqL.of (hp j p e).2) (.cons (.int _) .nil)
end KS
namespace K1
open PySem PySem.Spec PyProof.Rows L2 KS
section
variable {P : Program} {w : World} {K : PySem.W.Frag} {mg : Str → Option Value} {base : Heap} {fd : FuncData}
/-! ### purses: one -/
def spPurses (K : PySem.W.Frag) : Sp := fun vs H Q _ => ∃ (a : Addr) (ns : List Int), vs = [.ref a, .int 1] ∧ SqL K H a (ns.map V.int) ∧ ns.length ≤ 63 ∧ ∀ l p H', Same H H' → H' l = some (.lst [.ref p]) → l ≠ p → H p = none → H l = none → Pur H' p 0 → Q (.ref l) H'
theorem scPurses : FnScope ["_law_script", "_law_few", "_law_at"] ["_law_script", "_law_few"] (defScope sPurses) := ⟨rfl, rfl, rfl, by decide +kernel, rfl, by decide +kernel, by decide +kernel⟩
theorem ok_purses {fdP : FuncData} (F : FD K "_law_purses" sPurses fd) (FP : FD K "_law_purse" sPurse fdP) (T : TX K mg) : FnOk P w K mg base CX0 2 (He.ga K "_law_purses") fd ["_law_script", "_law_few"] (spPurses K) := by
  have mL : mg "len" = none := T.free _ (by decide +kernel)
  have mR : mg "range" = none := T.free _ (by decide +kernel)
  have mX : mg "max" = none := T.free _ (by decide +kernel)
  have mN : mg "min" = none := T.free _ (by decide +kernel)
  have gP : mg "_law_purse" = some (.ref (He.ga K "_law_purse")) := T.glo _ (by decide +kernel)
  have GP : FnOk P w K mg base CX0 1 (He.ga K "_law_purse") fdP ["_law_script", "_law_at"] (spPurse K) := ok_purse FP T
  have bP : Binds K fdP ["_law_script", "_law_at"] [] := FP.bindsN fun _ _ _ _ _ _ us hl => match us, hl with | [_, _], _ => rfl
  refine F.ok scPurses (fun vs H Q E h => ?_) (fun cdv A outer s H vs Q E hr h => ?_)
  · obtain ⟨a, ns, rfl, _⟩ := h
    rfl
  · obtain ⟨a, ns, rfl, hS, h63, k⟩ := h
    refine ⟨_, PSs.nox (pss_one (ps_ret (pe_lc (own := [("_law_at", 2)]) (g := gName 2) (tt := tYes) rfl scPurses.nd
        (pi_range1 (by rfl) mR (pa_cons (pe_callB (call_max2 rfl) (by rfl) mX (by decide +kernel) (pa_cons pe_int (pa_cons (pe_callB (call_min2 rfl) (by rfl) mN (by decide +kernel) (pa_cons (pv 1) (pa_cons (pe_callB call_len_seq (by rfl) mL PySem.boot_len (pa_cons (pv 0) pa_nil)) pa_nil))) pa_nil))) pa_nil))
        (blkOk_by (own := [("_law_at", 2)]) (N := ["_law_script", "_law_few", "_law_at"]) (sc := defScope sPurses) (by decide +kernel)) (fun _ _ _ _ _ => pg_name (i := 2) scPurses.nd rfl (Or.inl rfl)) (fun _ _ _ _ _ => pts_nil)
        (fun _ _ _ _ _ => pe_call GP hr rfl gP FP.kp bP .nil pass0 (pa_cons (pv 0) (pa_cons (pv 2) pa_nil)))))), ?_⟩
    refine ⟨_, rfl, _, rfl, a, _, rfl, .inl hS, _, _, rfl, _, _, rfl, ?_⟩
    have one : (if (if ((ns.map V.int).length : Int) < 1 then ((ns.map V.int).length : Int) else 1) > 1 then (if ((ns.map V.int).length : Int) < 1 then ((ns.map V.int).length : Int) else 1) else 1) = 1 := by
      generalize ((ns.map V.int).length : Int) = n
      by_cases h : n < 1
      · rw [if_pos h, if_neg (by omega)]
      · rw [if_neg h, if_neg (by omega)]
    rw [one]
    refine ⟨1, rfl, by decide, by decide, fun D hD => ?_⟩
    refine lc_range (lo := 0) (n := 1) (fun i H' => (i = 0 → H' = upd H D (.lst [])) ∧ (i = 1 → ∃ p, Same H H' ∧ H' D = some (.lst [.ref p]) ∧ D ≠ p ∧ H p = none ∧ Pur H' p 0)) ⟨fun _ => rfl, fun z => (nomatch z)⟩ ?_ ?_
    · rintro i H' hi ⟨z, -⟩
      obtain rfl : i = 0 := by omega
      obtain rfl := z rfl
      refine ⟨rfl, kept_go ?_⟩
      refine ⟨_, rfl, _, rfl, a, _, ns, rfl, (Same.new hD).seq hS, ⟨by decide, by decide⟩, fun p H1 fp s1 pu => ?_⟩
      have hd1 := s1 _ _ (upd_same (H := H) (a := D) (o := .lst []))
      have nDp : D ≠ p := fun e => by rw [← e, upd_same] at fp; cases fp
      have fp0 : H p = none := by rw [upd_ne (Ne.symm nDp)] at fp; exact fp
      refine ⟨[], hd1, by decide, fun z => (nomatch z), fun _ => ⟨p, fun b o e => ?_, by rw [upd_same]; rfl, nDp, fp0, ?_⟩⟩
      · rw [upd_ne (ne_of_none e hD)]
        exact s1 _ _ (Same.new hD _ _ e)
      · obtain ⟨x, y, z, t, e, r⟩ := pu
        exact ⟨x, y, z, t, by rw [upd_ne (Ne.symm nDp)]; exact e, r⟩
    · rintro H' ⟨-, z⟩
      obtain ⟨p, s1, hd, ne, fp, pu⟩ := z rfl
      exact k D p H' s1 hd ne fp hD pu
/-! ### an error is one -/
def spIsErr (K : PySem.W.Frag) : Sp := fun vs H Q _ => ∃ (a C : Addr), vs = [.ref a] ∧ IsErr H a C ∧ EC K C ∧ PySem.W.kitOne K (.ref C) (.ref (He.ga K "KindError")) = some true ∧ PySem.W.kitOne K (.ref C) (.type "ValueError") = some true ∧ Q (.bl true) H
theorem scIsErr : FnScope ["_law_error"] ["_law_error"] (defScope sIsErr) := ⟨rfl, rfl, rfl, by decide +kernel, rfl, by decide +kernel, by decide +kernel⟩
theorem ok_isErr (F : FD K "_law_is_error" sIsErr fd) (T : TX K mg) : FnOk P w K mg base CX0 1 (He.ga K "_law_is_error") fd ["_law_error"] (spIsErr K) := by
  have mIs : mg "isinstance" = none := T.free _ (by decide +kernel)
  have mV : mg "ValueError" = none := T.free _ (by decide +kernel)
  have gK : mg "KindError" = some (.ref (He.ga K "KindError")) := T.glo _ (by decide +kernel)
  refine F.ok scIsErr (fun vs H Q E h => ?_) (fun cdv A outer s H vs Q E hr h => ?_)
  · obtain ⟨a, C, rfl, _⟩ := h
    rfl
  · obtain ⟨a, C, rfl, he, ec, k1, k2, q⟩ := h
    refine ⟨_, PSs.nox (pss_one (ps_ret (pe_and (pe_callB call_isErr (by rfl) mIs (by decide +kernel) (pa_cons (pv 0) (pa_cons (pe_cls gK) pa_nil)))
      (pe_one (pe_callB call_isErr (by rfl) mIs (by decide +kernel) (pa_cons (pv 0) (pa_cons (pe_bltn (v := .ty "ValueError") (by rfl) mV PyProof.Rows.Boot.«ValueError» rfl) pa_nil))))))), ?_⟩
    refine ⟨_, rfl, a, C, .ref (He.ga K "KindError"), .ref (He.ga K "KindError"), true, rfl, .own _, he, ec, k1, true, rfl, if_yes rfl ?_⟩
    exact ⟨_, rfl, a, C, .ty "ValueError", .type "ValueError", true, rfl, .ty _, he, ec, k2, q⟩
/-! ### all is right with a list of errors of all classes -/
theorem spots_one : ∀ i, i < 33 → spots (cn33.map fun y => decide (cn33.getD i "" = y)) = [i] := by decide +kernel
def spRight (K : PySem.W.Frag) : Sp := fun vs H Q _ => ∃ (l : Addr) (es : List Addr) (v : V) (d : PyData), vs = [.ref l, .str d.shown] ∧ H l = some (.lst (es.map V.ref)) ∧ Errs K v H es cn ∧ Dq H v d ∧ d.showable = true ∧ (d.shown.length ≤ sizeLine ∨ ∃ i, d = .int i) ∧ d.depth ≤ 64 ∧
  ∀ H', Same H H' → Q (.bl true) H'
theorem scRight : FnScope ["_law_some", "_law_noted", "_law_error", "_law_at"] ["_law_some", "_law_noted"] (defScope sRight) := ⟨rfl, rfl, rfl, by decide +kernel, rfl, by decide +kernel, by decide +kernel⟩
theorem ok_right {fdC fdI : FuncData} (F : FD K "_law_right" sRight fd) (FC : FD K "_law_code" sCode fdC) (FI : FD K "_law_is_error" sIsErr fdI) (T : TX K mg) : GOk P w K mg base CX0 3 (He.ga K "_law_right") fd ["_law_some", "_law_noted"] (spRight K) := by
  have mR : mg "range" = none := T.free _ (by decide +kernel)
  have mS : mg "repr" = none := T.free _ (by decide +kernel)
  have gC : mg "_law_code" = some (.ref (He.ga K "_law_code")) := T.glo _ (by decide +kernel)
  have gI : mg "_law_is_error" = some (.ref (He.ga K "_law_is_error")) := T.glo _ (by decide +kernel)
  have GC : FnOk P w K mg base CX0 2 (He.ga K "_law_code") fdC ["_law_error"] (spCode K) := ok_code FC T
  have GI : FnOk P w K mg base CX0 1 (He.ga K "_law_is_error") fdI ["_law_error"] (spIsErr K) := ok_isErr FI T
  have bC : Binds K fdC ["_law_error"] [] := FC.bindsN fun _ _ _ _ _ _ us hl => match us, hl with | [_], _ => rfl
  have bI : Binds K fdI ["_law_error"] [] := FI.bindsN fun _ _ _ _ _ _ us hl => match us, hl with | [_], _ => rfl
  refine GOk.body F scRight (fun vs H Q E h => ?_) (fun cdv A outer s H vs Q E gd hr h => ?_)
  · obtain ⟨l, es, v, d, rfl, _⟩ := h
    rfl
  · obtain ⟨l, es, v, d, rfl, hl, he, hd, hs, hz, hp, k⟩ := h
    have hr1 : Room 1 _ := hr.mono (by decide)
    have hu80 := hr.un
    have hu81 := show (A.deeper (envOfC "_law_right" (defScope sRight) s.heap.objs.size (He.ga K "_law_right") cdv)).units + 80 < cLine by omega
    refine ⟨_, PSs.nox (pss_cons (ps_if (pt_cmpR (op_neD hr.units)
        (pe_lc (own := [("_law_error", 2)]) (g := gName 2) (tt := tYes) rfl scRight.nd (pi_list (pv 0)) (blkOk_by (own := [("_law_error", 2)]) (N := ["_law_some", "_law_noted", "_law_error", "_law_at"]) (sc := defScope sRight) (by decide +kernel))
          (fun _ _ _ _ _ => pg_name (i := 2) scRight.nd rfl (Or.inl rfl)) (fun _ _ _ _ _ => pts_nil) (fun _ _ _ _ _ => pe_call GC hr rfl gC FC.kp bC .nil pass0 (pa_cons (pv 2) pa_nil)))
        (pe_lc (own := [("_law_at", 3)]) (g := gName 3) (tt := tYes) rfl scRight.nd (pi_range1 (by rfl) mR (pa_cons pe_int pa_nil)) (blkOk_by (own := [("_law_at", 3)]) (N := ["_law_some", "_law_noted", "_law_error", "_law_at"]) (sc := defScope sRight) (by decide +kernel))
          (fun _ _ _ _ _ => pg_name (i := 3) scRight.nd rfl (Or.inl rfl)) (fun _ _ _ _ _ => pts_nil) (fun _ _ _ _ _ => pe_lst (pa_cons (pv 3) pa_nil))) (nomark _))
        (pss_one (ps_ret pe_bl)) pss_nil)
      (pss_one (ps_ret (pe_cmpR (op_eqD hr.units)
        (pe_lc (own := [("_law_error", 2)]) (g := gName 2) (tt := tOr (tNot (tB (tCall (spIsErr K) [] E0 (tCons (tVar 2) tNil)))) (tTest (tOp rNe (tCB (fun xs H Q => rShow H xs Q) (tCons (tErrV K (tVar 2)) tNil)) (tVar 1)))) (te := tVar 2) rfl scRight.nd (pi_list (pv 0)) (blkOk_by (own := [("_law_error", 2)]) (N := ["_law_some", "_law_noted", "_law_error", "_law_at"]) (sc := defScope sRight) (by decide +kernel))
          (fun _ _ _ _ _ => pg_name (i := 2) scRight.nd rfl (Or.inl rfl)) (fun _ _ _ _ _ => pts_one (PW.pt (pw_or (pt_not (pt_val (pe_call GI hr1 rfl gI FI.kp bI .nil pass0 (pa_cons (pv 2) pa_nil))))
            (pw_or1 (pt_cmpR op_ne (pe_callB (call_show gd hu81) (by rfl) mS (by decide +kernel) (pa_cons (pe_errV (pv 2)) pa_nil)) (pv 1) (nomark _)))))) (fun _ _ _ _ _ => pv 2))
        (pe_lst pa_nil) (nomark _))))), ?_⟩
    refine ⟨_, rfl, l, rfl, ⟨_, SqL.of hl⟩, fun D hD => ?_⟩
    have lenE : es.length = 31 := Paired.length he
    refine lc_list (fun i H' => Same H H' ∧ Ones H' D i) ⟨Same.new hD, Ones.nil⟩ (fun i H' _ z => SqL.of (z.1 _ _ hl)) ?_ ?_
    · rintro i x H' hx ⟨s', on⟩
      rw [List.getElem?_map] at hx
      obtain ⟨e, h1, h2⟩ := Option.map_eq_some_iff.mp hx
      subst h2
      obtain ⟨y, hy, ea⟩ := paired_nth he h1
      have ym : y ∈ cn := List.mem_of_getElem? hy
      have ym3 : y ∈ cn33 := List.mem_append_left _ ym
      have hi : i < 31 := (List.getElem?_eq_some_iff.mp hy).1
      have ey : cn33.getD i "" = y := by
        rw [List.getD_eq_getElem?_getD]
        show ((cn ++ cnB)[i]?).getD "" = y
        rw [List.getElem?_append_left hi, hy]
        rfl
      refine ⟨rfl, kept_go ?_⟩
      refine ⟨_, rfl, e, He.ga K y, fun z => decide (y = z), rfl, (ea.mono s').is, (T.cls ym).1, (T.kit ym3).1, fun p H2 fp s2 hp2 _ => ?_⟩
      have sp := spots_one i (by omega)
      rw [ey] at sp
      rw [sp] at hp2
      obtain ⟨acc, g1, g2, g3⟩ := on.snoc s2 fp hp2
      exact ⟨acc, g1, by rw [g2]; exact Nat.lt_of_lt_of_le (show i < 100 by omega) (by decide), fun b o z => by rw [upd_ne (ne_of_none z hD)]; exact s2 _ _ (s' _ _ z), g3⟩
    · rintro H1 ⟨s1, on⟩
      rw [List.length_map, lenE] at on
      refine ⟨31, rfl, by decide, by decide, fun D2 hD2 => ?_⟩
      refine lc_range (lo := 0) (n := 31) (fun i H' => Same H1 H' ∧ Ones H' D2 i) ⟨Same.new hD2, Ones.nil⟩ ?_ ?_
      · rintro i H' hi ⟨s', on2⟩
        refine ⟨rfl, kept_go ?_⟩
        refine ⟨_, rfl, show 1 ≤ sizeLine by decide, fun p fp => ?_⟩
        obtain ⟨acc, g1, g2, g3⟩ := on2.snoc (Same.new fp) fp (show upd H' p (.lst [.int (0 + (i : Nat))]) p = _ by rw [upd_same, Int.zero_add])
        exact ⟨acc, g1, by rw [g2]; exact Nat.lt_of_lt_of_le (show i < 100 by omega) (by decide), fun b o z => by rw [upd_ne (ne_of_none z hD2)]; exact Same.new fp _ _ (s' _ _ z), g3⟩
      · rintro H2 ⟨s2, on2⟩
        have s12 : Same H H2 := s1.trans s2
        refine ⟨onesD 31, onesD 31, (on.mono s2).dp, on2.dp, by decide +kernel, by decide +kernel, _, rfl, if_no (by decide +kernel) ?_⟩
        refine ⟨_, rfl, l, rfl, ⟨_, SqL.of (s12 _ _ hl)⟩, fun D3 hD3 => ?_⟩
        have f3 : H D3 = none := s12.free hD3
        refine lc_list (fun i H' => Same H H' ∧ H' D3 = some (.lst [])) ⟨s12.trans (Same.new hD3), upd_same⟩ (fun i H' _ z => SqL.of (z.1 _ _ hl)) ?_ ?_
        · rintro i x H' hx ⟨s', d3⟩
          rw [List.getElem?_map] at hx
          obtain ⟨e, h1, h2⟩ := Option.map_eq_some_iff.mp hx
          subst h2
          obtain ⟨y, hy, ea⟩ := paired_nth he h1
          have ym : y ∈ cn := List.mem_of_getElem? hy
          have ym3 : y ∈ cn33 := List.mem_append_left _ ym
          refine ⟨rfl, ?_⟩
          refine ⟨_, rfl, e, He.ga K y, rfl, (ea.mono s').is, (T.cls ym).1, (T.kit ym3).2.1, (T.kit ym3).2.2, true, rfl, if_no rfl ?_⟩
          refine ⟨_, rfl, e, He.ga K y, v, rfl, (T.cls ym).1, (T.cls ym).2.2.1, ea.mono s', v, d, rfl, hd.mono s', hs, hz, hp, _, rfl, rfl, _, rfl, if_no (by simp) ⟨s', d3⟩⟩
        · rintro H3 ⟨s3, d3⟩
          refine ⟨by decide, fun p fp => ⟨.list [], .list [], .lst (SqL.of ((Same.new fp) _ _ d3)) .nil, .lst (SqL.of upd_same) .nil, rfl, rfl, ?_⟩⟩
          rw [show (PyData.list []).eqv (.list []) = true by decide +kernel]
          exact k _ (s3.trans (Same.new fp))
end
end K1

namespace KS
open PySem PySem.Spec PyProof.Rows L2
/-! ### how long a datum is when it is shown -/
theorem len_add (a b : Str) : (a ++ b).length = a.length + b.length := Array.size_append ..
theorem quoted (x : Str) : ∀ (l : List Nat) (init : Array Nat), (∀ c ∈ l, 97 ≤ c ∧ c < 123) → (l.foldl (fun out c => out ++ (Builtin.Str.reprChar (reprQuote x) c).toArray) init).size = init.size + l.length
  | [], _, _ => rfl
  | c :: r, init, h => by
    have all : ∀ c, c < 123 → 97 ≤ c → Builtin.Str.reprChar 39 c = [c] ∧ Builtin.Str.reprChar 34 c = [c] := by decide +kernel
    have hc := h c (List.mem_cons_self ..)
    have one : Builtin.Str.reprChar (reprQuote x) c = [c] := by
      unfold reprQuote
      split
      · exact (all c hc.2 hc.1).2
      · exact (all c hc.2 hc.1).1
    rw [List.foldl_cons, quoted x r _ (fun d hd => h d (List.mem_cons_of_mem _ hd)), one, Array.size_append, List.length_cons]
    show init.size + 1 + r.length = _
    omega
theorem repr_len {x : Str} (h : WordOk x) : (reprText x).length = x.length + 2 := by
  unfold reprText Str.length
  rw [Array.size_push, ← Array.foldl_toList, quoted x _ _ h.low, Array.length_toList]
  show 1 + x.cps.size + 1 = _
  omega
/-- what a list of texts takes, with what stands between them -/
def tot (ts : List Str) : Nat := (ts.map fun t => t.length + 2).sum
theorem from_len : ∀ (ts : List Str) (i : Nat) (acc : Str), (textFrom i acc ts).length ≤ acc.length + tot ts
  | [], _, acc => Nat.le_add_right ..
  | t :: ts, i, acc => by
    have e : tot (t :: ts) = t.length + 2 + tot ts := by unfold tot; rw [List.map_cons, List.sum_cons]
    show (textFrom (i + 1) (acc ++ Str.ofString (if i > 0 then ", " else "") ++ t) ts).length ≤ _
    have ih := from_len ts (i + 1) (acc ++ Str.ofString (if i > 0 then ", " else "") ++ t)
    rw [len_add, len_add] at ih
    have two : (Str.ofString (if i > 0 then ", " else "")).length ≤ 2 := by
      split
      · decide +kernel
      · decide +kernel
    omega
theorem join_len {sep : Str} (h : sep.length ≤ 2) : ∀ ts : List Str, (sep.join ts).length ≤ tot ts
  | [] => Nat.zero_le _
  | [t] => by
    show t.length ≤ _
    unfold tot
    simp
  | t :: u :: ts => by
    have e : tot (t :: u :: ts) = t.length + 2 + tot (u :: ts) := by unfold tot; rw [List.map_cons, List.sum_cons]
    have ih := join_len h (u :: ts)
    show (t ++ sep ++ sep.join (u :: ts)).length ≤ _
    rw [len_add, len_add, e]
    omega
theorem list_len (ts : List Str) : (listText ts).length ≤ 2 + tot ts := by
  have h := from_len ts 0 (Str.ofString "[")
  have a : (Str.ofString "[").length = 1 := by decide +kernel
  have b : (Str.ofString "]").length = 1 := by decide +kernel
  unfold listText
  rw [len_add]
  omega
theorem tup_len (ts : List Str) : (tupleText ts).length ≤ 3 + tot ts := by
  have h := join_len (sep := Str.ofString ", ") (by decide +kernel) ts
  have a : (Str.ofString "(").length = 1 := by decide +kernel
  have b : (Str.ofString (if (ts.length == 1) = true then ",)" else ")")).length ≤ 2 := by
    split
    · decide +kernel
    · decide +kernel
  unfold tupleText
  rw [len_add, len_add]
  omega
theorem dict_len (ts : List Str) : (dictText ts).length ≤ 2 + tot ts := by
  have h := join_len (sep := Str.ofString ", ") (by decide +kernel) ts
  have a : (Str.ofString "{").length = 1 := by decide +kernel
  have b : (Str.ofString "}").length = 1 := by decide +kernel
  unfold dictText
  rw [len_add, len_add]
  omega
theorem tot_nil : tot [] = 0 := rfl
theorem tot_cons (t : Str) (ts : List Str) : tot (t :: ts) = t.length + 2 + tot ts := by unfold tot; rw [List.map_cons, List.sum_cons]
/-- a datum that is shown without a word about its size -/
def Okd (d : PyData) : Prop := d.showable = true ∧ (d.shown.length ≤ sizeLine ∨ ∃ i, d = .int i) ∧ d.depth ≤ 64
def Ln (n : Nat) (d : PyData) : Prop := d.shown.length ≤ n
def LnA (n : Nat) (ds : List PyData) : Prop := tot (PyData.shownAll ds) ≤ n
def LnK (n : Nat) (ds : List (PyData × PyData)) : Prop := tot (PyData.shownKv ds) ≤ n
theorem Ln.word {x : Str} (h : WordOk x) : Ln 10 (.str x) := by
  show (reprText x).length ≤ 10
  rw [repr_len h]
  have := h.most
  omega
theorem Ln.list {n : Nat} {ds : List PyData} (h : LnA n ds) : Ln (2 + n) (.list ds) := Nat.le_trans (list_len _) (Nat.add_le_add_left h 2)
theorem Ln.tuple {n : Nat} {ds : List PyData} (h : LnA n ds) : Ln (3 + n) (.tuple ds) := Nat.le_trans (tup_len _) (Nat.add_le_add_left h 3)
theorem Ln.dict {n : Nat} {ds : List (PyData × PyData)} (h : LnK n ds) : Ln (2 + n) (.dict ds) := Nat.le_trans (dict_len _) (Nat.add_le_add_left h 2)
theorem LnA.nil : LnA 0 [] := Nat.le_refl 0
theorem LnA.cons {n m : Nat} {d : PyData} {ds : List PyData} (h : Ln n d) (t : LnA m ds) : LnA (n + 2 + m) (d :: ds) := by
  show tot (d.shown :: PyData.shownAll ds) ≤ _
  rw [tot_cons]
  exact Nat.add_le_add (Nat.add_le_add_right h 2) t
theorem LnK.nil : LnK 0 [] := Nat.le_refl 0
theorem LnK.cons {n m l : Nat} {k d : PyData} {ds : List (PyData × PyData)} (hk : Ln l k) (h : Ln n d) (t : LnK m ds) : LnK (l + 2 + n + 2 + m) ((k, d) :: ds) := by
  show tot ((k.shown ++ Str.ofString ": " ++ d.shown) :: PyData.shownKv ds) ≤ _
  have two : (Str.ofString ": ").length = 2 := by decide +kernel
  have h1 : k.shown.length ≤ l := hk
  have h2 : d.shown.length ≤ n := h
  have h3 : tot (PyData.shownKv ds) ≤ m := t
  rw [tot_cons, len_add, len_add]
  omega
theorem Okd.of {n : Nat} {d : PyData} (h : Ln n d) (small : n ≤ 1000) (s : d.showable = true) (p : d.depth ≤ 64) : Okd d := ⟨s, .inl (Nat.le_trans h (Nat.le_trans small (by decide))), p⟩
theorem Okd.int {i : Int} (h : i.natAbs < 2147483648) : Okd (.int i) := by
  refine ⟨?_, .inr ⟨i, rfl⟩, Nat.zero_le _⟩
  show decide (i.natAbs.log2 < 1920) = true
  refine decide_eq_true ?_
  by_cases z : i.natAbs = 0
  · rw [z]
    decide +kernel
  · exact (Nat.log2_lt z).mpr (Nat.lt_of_lt_of_le h (by decide +kernel))
/-! ### the things that a law holds in its errors, and what becomes of them -/
def dL (w : Str) : PyData := .list [.str w]
def dL2 (w : Str) : PyData := .list [.str w, .str "later"]
def dOdd (w : Str) : PyData := .dict [(.str "odd", .str w)]
def dLater (w : Str) : PyData := .tuple [.str "later", .str w]
/-- at v: a thing, as data; as data once it was changed -/
inductive Th (w : Str) (H : Hp) : V → PyData → PyData → Prop
  | non : Th w H .non .none .none
  | bl (b : Bool) : Th w H (.bl b) (.bool b) (.bool b)
  | int (i : Int) : i.natAbs < 2147483648 → Th w H (.int i) (.int i) (.int i)
  | word : Th w H (.str w) (.str w) (.str w)
  | says {t : Addr} : H t = some (.tup [.str "says", .str w, .int 1, .int 2]) → Th w H (.ref t) (.tuple [.str "says", .str w, .int 1, .int 2]) (.tuple [.str "says", .str w, .int 1, .int 2])
  | pair {t l : Addr} : H t = some (.tup [.str w, .ref l]) → H l = some (.lst [.str w]) → l ≠ sysModules → Th w H (.ref t) (.tuple [.str w, dL w]) (.tuple [.str w, dL2 w])
  | dic {a l : Addr} : H a = some (.dK [(.inr w, .ref l)]) → H l = some (.lst [.str w]) → l ≠ sysModules → Th w H (.ref a) (.dict [(.str w, dL w)]) (.dict [(.str w, dL2 w), (.str "LATER", .int 1)])
  | lst {l : Addr} : H l = some (.lst [.str w]) → l ≠ sysModules → Th w H (.ref l) (dL w) (dL2 w)
  | deep {l a d : Addr} : H l = some (.lst [.ref a, .ref d]) → l ≠ sysModules → H a = some (.lst [.str w]) → a ≠ sysModules → H d = some (.dK [(.inr "odd", .str w)]) → Th w H (.ref l) (.list [dL w, dOdd w]) (.list [dL w, dOdd w, .str "later"])
section
variable {w : Str} {H H' : Hp} {v : V} {d e : PyData}
theorem Th.mono (s : Same H H') : Th w H v d e → Th w H' v d e
  | .non => .non
  | .bl b => .bl b
  | .int i h => .int i h
  | .word => .word
  | .says h => .says (s _ _ h)
  | .pair h1 h2 n => .pair (s _ _ h1) (s _ _ h2) n
  | .dic h1 h2 n => .dic (s _ _ h1) (s _ _ h2) n
  | .lst h n => .lst (s _ _ h) n
  | .deep h n h2 n2 h3 => .deep (s _ _ h) n (s _ _ h2) n2 (s _ _ h3)
theorem dq_word : Dq H (.str w) (.str w) := .str w
theorem dq_one {l : Addr} (h : H l = some (.lst [.str w])) (n : l ≠ sysModules) : Dq H (.ref l) (dL w) := .lst h n (.cons (.str w) .nil)
theorem dq_two {l : Addr} (h : H l = some (.lst [.str w, .str "later"])) (n : l ≠ sysModules) : Dq H (.ref l) (dL2 w) := .lst h n (.cons (.str w) (.cons (.str _) .nil))
theorem dq_odd {a : Addr} (h : H a = some (.dK [(.inr "odd", .str w)])) : Dq H (.ref a) (dOdd w) := .dic h (.cons (.str w) .nil)
theorem Th.dq : Th w H v d e → Dq H v d
  | .non => .non
  | .bl b => .bl b
  | .int i _ => .int i
  | .word => .str w
  | .says h => .tup h (.cons (.str _) (.cons (.str _) (.cons (.int _) (.cons (.int _) .nil))))
  | .pair h1 h2 n => .tup h1 (.cons (.str w) (.cons (dq_one h2 n) .nil))
  | .dic h1 h2 n => .dic h1 (.cons (dq_one h2 n) .nil)
  | .lst h n => dq_one h n
  | .deep h n h2 n2 h3 => .lst h n (.cons (dq_one h2 n2) (.cons (dq_odd h3) .nil))
theorem ln_later : Ln 7 (.str "later") := by show (reprText "later").length ≤ 7; decide +kernel
theorem ln_one (h : WordOk w) : Ln 14 (dL w) := .list (.cons (.word h) .nil)
theorem ln_two (h : WordOk w) : Ln 23 (dL2 w) := .list (.cons (.word h) (.cons ln_later .nil))
theorem ln_odd (h : WordOk w) : Ln 21 (dOdd w) := .dict (.cons (l := 5) (by show (reprText "odd").length ≤ 5; decide +kernel) (.word h) .nil)
theorem ok_says (h : WordOk w) : Okd (.tuple [.str "says", .str w, .int 1, .int 2]) :=
  .of (.tuple (.cons (n := 6) (by show (reprText "says").length ≤ 6; decide +kernel) (.cons (.word h) (.cons (n := 1) (by show (Str.ofString (toString (1 : Int))).length ≤ 1; decide +kernel) (.cons (n := 1) (by show (Str.ofString (toString (2 : Int))).length ≤ 1; decide +kernel) .nil))))) (by decide) rfl (by simp [PyData.depth, PyData.depthAll])
theorem ok_dLater (h : WordOk w) : Okd (dLater w) := .of (.tuple (.cons ln_later (.cons (.word h) .nil))) (by decide) rfl (by simp [dLater, PyData.depth, PyData.depthAll])
theorem Th.ok (h : WordOk w) : Th w H v d e → Okd d
  | .non => .of (n := 4) (by show (Str.ofString "None").length ≤ 4; decide +kernel) (by decide) rfl (Nat.zero_le _)
  | .bl true => .of (n := 4) (by show (Str.ofString "True").length ≤ 4; decide +kernel) (by decide) rfl (Nat.zero_le _)
  | .bl false => .of (n := 5) (by show (Str.ofString "False").length ≤ 5; decide +kernel) (by decide) rfl (Nat.zero_le _)
  | .int i hi => .int hi
  | .word => .of (.word h) (by decide) rfl (Nat.zero_le _)
  | .says _ => ok_says h
  | .pair _ _ _ => .of (.tuple (.cons (.word h) (.cons (ln_one h) .nil))) (by decide) rfl (by simp [dL, PyData.depth, PyData.depthAll])
  | .dic _ _ _ => .of (.dict (.cons (.word h) (ln_one h) .nil)) (by decide) rfl (by simp [dL, PyData.depth, PyData.depthAll, PyData.depthKv])
  | .lst _ _ => .of (ln_one h) (by decide) rfl (by simp [dL, PyData.depth, PyData.depthAll])
  | .deep _ _ _ _ _ => .of (.list (.cons (ln_one h) (.cons (ln_odd h) .nil))) (by decide) rfl (by simp [dL, dOdd, PyData.depth, PyData.depthAll, PyData.depthKv])
theorem Th.okE (h : WordOk w) : Th w H v d e → Okd e
  | .non => .of (n := 4) (by show (Str.ofString "None").length ≤ 4; decide +kernel) (by decide) rfl (Nat.zero_le _)
  | .bl true => .of (n := 4) (by show (Str.ofString "True").length ≤ 4; decide +kernel) (by decide) rfl (Nat.zero_le _)
  | .bl false => .of (n := 5) (by show (Str.ofString "False").length ≤ 5; decide +kernel) (by decide) rfl (Nat.zero_le _)
  | .int i hi => .int hi
  | .word => .of (.word h) (by decide) rfl (Nat.zero_le _)
  | .says _ => ok_says h
  | .pair _ _ _ => .of (.tuple (.cons (.word h) (.cons (ln_two h) .nil))) (by decide) rfl (by simp [dL2, PyData.depth, PyData.depthAll])
  | .dic _ _ _ => .of (.dict (.cons (.word h) (ln_two h) (.cons (l := 7) (n := 1) (by show (reprText "LATER").length ≤ 7; decide +kernel) (by show (Str.ofString (toString (1 : Int))).length ≤ 1; decide +kernel) .nil))) (by decide) rfl (by simp [dL2, PyData.depth, PyData.depthAll, PyData.depthKv])
  | .lst _ _ => .of (ln_two h) (by decide) rfl (by simp [dL2, PyData.depth, PyData.depthAll])
  | .deep _ _ _ _ _ => .of (.list (.cons (ln_one h) (.cons (ln_odd h) (.cons ln_later .nil)))) (by decide) rfl (by simp [dL, dOdd, PyData.depth, PyData.depthAll, PyData.depthKv])
end
/-! ### what a change of a thing leaves alone -/
def Fix : HO → Prop
  | .lst xs => xs.length = 31 ∨ ∃ p, xs = [.ref p]
  | .dK _ => False
  | _ => True
def Ch (H H' : Hp) : Prop := ∀ b o, Fix o → H b = some o → H' b = some o
theorem Ch.refl (H : Hp) : Ch H H := fun _ _ _ e => e
theorem Ch.trans {H H1 H2 : Hp} (a : Ch H H1) (b : Ch H1 H2) : Ch H H2 := fun c o f e => b c o f (a c o f e)
theorem Ch.of {H H' : Hp} (s : Same H H') : Ch H H' := fun b o _ e => s b o e
theorem Ch.upd {H : Hp} {a : Addr} {o u : HO} (h : H a = some o) (n : ¬ Fix o) : Ch H (upd H a u) := fun b x f e => by
  by_cases q : b = a
  · subst q
    rw [h] at e
    cases e
    exact absurd f n
  · rw [upd_ne q]
    exact e
theorem ErrAt.ch {H H' : Hp} {a C : Addr} {v : V} (c : Ch H H') (h : ErrAt H a C v) : ErrAt H' a C v := let ⟨d, h1, h2⟩ := h; ⟨d, c _ _ trivial h1, c _ _ trivial h2⟩
theorem Errs.ch {K : PySem.W.Frag} {v : V} {H H' : Hp} (c : Ch H H') : ∀ {es : List Addr} {xs : List Str}, Errs K v H es xs → Errs K v H' es xs
  | _, _, .nil => .nil
  | _, _, .cons h t => .cons (h.ch c) (Errs.ch c t)
theorem nofix_str {x : Str} : ¬ Fix (.lst [.str x]) := fun h => h.elim (fun e => (nomatch e)) fun ⟨p, e⟩ => by cases e
theorem nofix_two {x y : V} : ¬ Fix (.lst [x, y]) := fun h => h.elim (fun e => (nomatch e)) fun ⟨p, e⟩ => by cases e
theorem nofix_dK {kvs : List (Key × V)} : ¬ Fix (.dK kvs) := fun h => h
/-! ### the three steps that change a thing -/
theorem ne_later {w : Str} (h : WordOk w) : w ≠ "LATER" := fun e => by
  have := (h.low 76 (by rw [e]; decide +kernel)).1
  omega
theorem put_later {w : Str} (h : WordOk w) {v : V} : putK ([(.inr w, v)] : List (Key × V)) (.inr "LATER") (.int 1) = [(.inr w, v), (.inr "LATER", .int 1)] := by
  have n : ((.inr w : Key) = .inr "LATER") = False := by
    refine eq_false fun e => ne_later h ?_
    cases e
    rfl
  simp [putK, n]
theorem ask_go {K : PySem.W.Frag} {σ : L2.St} {H : Hp} {v : V} {ty cls : String} {b : Bool} {Q : Bool → Hp → Prop} (h4 : σ[4]? = some (some v)) (ht : TyX K H v (.type ty)) (hk : kitB ty cls = some b) (q : Q b H) : tB (tCB (rIsi K) (tCons (tVar 4) (tCons (tC (.ty cls)) tNil))) σ H Q :=
  ⟨_, h4, v, .ty cls, _, _, b, rfl, .ty _, ht, kit_ty hk, b, rfl, q⟩
abbrev if1 (K : PySem.W.Frag) : TS := tIfS (tB (tCB (rIsi K) (tCons (tVar 4) (tCons (tC (.ty "list")) tNil)))) (tDrop (tBM K "list" rAppend (tVar 4) (tCons (tC (.str "later")) tNil))) tNext
abbrev if2 (K : PySem.W.Frag) : TS := tIfS (tB (tCB (rIsi K) (tCons (tVar 4) (tCons (tC (.ty "dict")) tNil)))) (tSeq (tDrop (tBM K "list" rAppend (tDGet (tVar 4) (tVar 2)) (tCons (tC (.str "later")) tNil))) (sDPut (tVar 4) (tC (.str "LATER")) (tC (.int 1)))) tNext
abbrev if3 (K : PySem.W.Frag) : TS := tIfS (tAnd (tB (tCB (rIsi K) (tCons (tVar 4) (tCons (tC (.ty "tuple")) tNil)))) (tB (tCB (rIsi K) (tCons (tOp (rIxT K) (tVar 4) (tC (.int 1))) (tCons (tC (.ty "list")) tNil))))) (tDrop (tBM K "list" rAppend (tOp (rIxT K) (tVar 4) (tC (.int 1))) (tCons (tC (.str "later")) tNil))) tNext
theorem flat_go {K : PySem.W.Frag} {w : Str} {σ : L2.St} {H : Hp} {v : V} {ty : String} {tl : TS} {D : Ends} (h4 : σ[4]? = some (some v)) (ht : TyX K H v (.type ty)) (n1 : kitB ty "list" = some false) (n2 : kitB ty "dict" = some false) (n3 : kitB ty "tuple" = some false) (k : tl D σ H) : tSeq (if1 K) (tSeq (if2 K) (tSeq (if3 K) tl)) D σ H :=
  ask_go h4 ht n1 (if_no rfl (ask_go h4 ht n2 (if_no rfl (ask_go h4 ht n3 (if_no rfl (if_no rfl k))))))
theorem mut_go {K : PySem.W.Frag} {w : Str} {σ : L2.St} {H : Hp} {v : V} {d e : PyData} {tl : TS} {D : Ends} (wo : WordOk w) (h4 : σ[4]? = some (some v)) (h2 : σ[2]? = some (some (.str w))) (th : Th w H v d e) (k : ∀ H', Ch H H' → Dq H' v e → tl D σ H') : tSeq (if1 K) (tSeq (if2 K) (tSeq (if3 K) tl)) D σ H := by
  cases th with
  | non => exact flat_go (w := w) h4 (.base .non) (by decide +kernel) (by decide +kernel) (by decide +kernel) (k H (.refl H) .non)
  | bl b => exact flat_go (w := w) h4 (.base (.bl b)) (by decide +kernel) (by decide +kernel) (by decide +kernel) (k H (.refl H) (.bl b))
  | int i hi => exact flat_go (w := w) h4 (.base (.int i)) (by decide +kernel) (by decide +kernel) (by decide +kernel) (k H (.refl H) (.int i))
  | word => exact flat_go (w := w) h4 (.base (.str w)) (by decide +kernel) (by decide +kernel) (by decide +kernel) (k H (.refl H) (.str w))
  | says h =>
    rename_i t
    refine ask_go h4 (.base (.tup h)) (b := false) (by decide +kernel) (if_no rfl (ask_go h4 (.base (.tup h)) (b := false) (by decide +kernel) (if_no rfl (ask_go h4 (.base (.tup h)) (b := true) (by decide +kernel) (if_yes rfl ?_)))))
    exact ⟨_, h4, t, _, 1, .str w, rfl, rfl, SqT.of h, rfl, .str w, .ty "list", _, _, false, rfl, .ty _, .base (.str w), kit_ty (by decide +kernel), false, rfl, if_no rfl (k H (.refl H) (Th.dq (.says h)))⟩
  | pair ht hl n =>
    rename_i t l
    have ne : t ≠ l := fun e => by rw [e, hl] at ht; cases ht
    refine ask_go h4 (.base (.tup ht)) (b := false) (by decide +kernel) (if_no rfl (ask_go h4 (.base (.tup ht)) (b := false) (by decide +kernel) (if_no rfl (ask_go h4 (.base (.tup ht)) (b := true) (by decide +kernel) (if_yes rfl ?_)))))
    refine ⟨_, h4, t, _, 1, .ref l, rfl, rfl, SqT.of ht, rfl, .ref l, .ty "list", _, _, true, rfl, .ty _, .base (.lst hl), kit_ty (by decide +kernel), true, rfl, if_yes rfl ?_⟩
    refine ⟨_, h4, t, _, 1, .ref l, rfl, rfl, SqT.of ht, rfl, .inl ⟨rfl, _, SqL.of hl⟩, l, [.str w], .str "later", rfl, rfl, hl, show 1 < sizeLine by decide, ?_⟩
    exact k _ (.upd hl nofix_str) (.tup (by rw [upd_ne ne]; exact ht) (.cons (.str w) (.cons (dq_two upd_same n) .nil)))
  | dic ha hl n =>
    rename_i a l
    have ne : a ≠ l := fun e => by rw [e, hl] at ha; cases ha
    have ha2 : upd H l (.lst [.str w, .str "later"]) a = some (.dK [(.inr w, .ref l)]) := by rw [upd_ne ne]; exact ha
    refine ask_go h4 (.base (.dK ha)) (b := false) (by decide +kernel) (if_no rfl (ask_go h4 (.base (.dK ha)) (b := true) (by decide +kernel) (if_yes rfl ?_)))
    refine ⟨_, h4, _, h2, a, .ref l, rfl, .inl ⟨_, .inr w, .inl ha, rfl, by simp [valV]⟩, .inl ⟨rfl, _, SqL.of hl⟩, l, [.str w], .str "later", rfl, rfl, hl, show 1 < sizeLine by decide, ?_⟩
    refine ⟨_, h4, a, upd (upd H l (.lst [.str w, .str "later"])) a (.dK [(.inr w, .ref l), (.inr "LATER", .int 1)]), rfl, .inl ⟨_, .inr "LATER", ha2, rfl, show 1 < sizeLine by decide, by rw [put_later wo]; rfl⟩, ?_⟩
    refine ask_go h4 (.base (.dK upd_same)) (b := false) (by decide +kernel) (if_no rfl (if_no rfl ?_))
    exact k _ ((Ch.upd hl nofix_str).trans (Ch.upd ha2 nofix_dK)) (.dic upd_same (.cons (dq_two (by rw [upd_ne (Ne.symm ne), upd_same]) n) (.cons (.int 1) .nil)))
  | lst hl n =>
    rename_i l
    refine ask_go h4 (.base (.lst hl)) (b := true) (by decide +kernel) (if_yes rfl ?_)
    refine ⟨_, h4, .inl ⟨rfl, _, SqL.of hl⟩, l, [.str w], .str "later", rfl, rfl, hl, show 1 < sizeLine by decide, ?_⟩
    refine ask_go h4 (.base (.lst upd_same)) (b := false) (by decide +kernel) (if_no rfl (ask_go h4 (.base (.lst upd_same)) (b := false) (by decide +kernel) (if_no rfl (if_no rfl ?_))))
    exact k _ (.upd hl nofix_str) (dq_two upd_same n)
  | deep hl n ha m hd =>
    rename_i l a d
    have ne : a ≠ l := fun e => by rw [e, hl] at ha; cases ha
    have ne2 : d ≠ l := fun e => by rw [e, hl] at hd; cases hd
    refine ask_go h4 (.base (.lst hl)) (b := true) (by decide +kernel) (if_yes rfl ?_)
    refine ⟨_, h4, .inl ⟨rfl, _, SqL.of hl⟩, l, [.ref a, .ref d], .str "later", rfl, rfl, hl, show 2 < sizeLine by decide, ?_⟩
    refine ask_go h4 (.base (.lst upd_same)) (b := false) (by decide +kernel) (if_no rfl (ask_go h4 (.base (.lst upd_same)) (b := false) (by decide +kernel) (if_no rfl (if_no rfl ?_))))
    exact k _ (.upd hl nofix_two) (.lst upd_same n (.cons (dq_one (by rw [upd_ne ne]; exact ha) m) (.cons (dq_odd (by rw [upd_ne ne2]; exact hd)) (.cons (.str _) .nil))))
end KS

namespace K1
open PySem PySem.Spec PyProof.Rows L2 KS
section
variable {P : Program} {w : World} {K : PySem.W.Frag} {mg : Str → Option Value} {base : Heap} {fd : FuncData}
def spLaw (K : PySem.W.Frag) : Sp := fun vs H Q _ => ∃ (a : Addr) (ns : List Int), vs = [.ref a] ∧ SqL K H a (ns.map V.int) ∧ ns.length ≤ 63 ∧ ∀ H', Q (.bl true) H'
theorem scLaw : FnScope ["_law_script", "_law_purse_here", "_law_word_here", "_law_plain", "_law_thing", "_law_noted", "_law_some", "_law_called_here", "_law_later", "_law_rest", "_law_error"] ["_law_script"] (defScope sLaw) := ⟨rfl, rfl, rfl, by decide +kernel, rfl, by decide +kernel, by decide +kernel⟩
theorem dict_new {H : Hp} {d l : Addr} {o1 o2 o3 : HO} (fd : H d = none) (fl : upd H d o1 l = none) : Same H (upd (upd (upd H d o1) l o2) d o3) ∧ upd (upd (upd H d o1) l o2) d o3 l = some o2 ∧ upd (upd (upd H d o1) l o2) d o3 d = some o3 ∧ upd (upd H d o1) l o2 d = some o1 := by
  have ne : l ≠ d := fun e => by rw [e, upd_same] at fl; cases fl
  have fl2 : H l = none := by rw [upd_ne ne] at fl; exact fl
  refine ⟨fun b o e => ?_, by rw [upd_ne ne, upd_same], upd_same, by rw [upd_ne (Ne.symm ne), upd_same]⟩
  rw [upd_ne (ne_of_none e fd), upd_ne (ne_of_none e fl2), upd_ne (ne_of_none e fd)]
  exact e
theorem dict_new0 {H : Hp} {d : Addr} {o1 o3 : HO} (fd : H d = none) : Same H (upd (upd H d o1) d o3) := fun b o e => by rw [upd_ne (ne_of_none e fd), upd_ne (ne_of_none e fd)]; exact e
theorem ok_law (F : FD K "law" sLaw fd) (T : TX K mg) : GOk P w K mg base CX0 4 (He.ga K "law") fd ["_law_script"] (spLaw K) := by
  have mS : mg "repr" = none := T.free _ (by decide +kernel)
  have mI : mg "isinstance" = none := T.free _ (by decide +kernel)
  have mL : mg "list" = none := T.free _ (by decide +kernel)
  have mD : mg "dict" = none := T.free _ (by decide +kernel)
  have mT : mg "tuple" = none := T.free _ (by decide +kernel)
  have mA : mg "all" = none := T.free _ (by decide +kernel)
  obtain ⟨fd0, F0⟩ := T.fd 0 "_law_purse" sPurse
  obtain ⟨fd1, F1⟩ := T.fd 1 "_law_mixed" sMixed
  obtain ⟨fd2, F2⟩ := T.fd 2 "_law_draw" sDraw
  obtain ⟨fd3, F3⟩ := T.fd 3 "_law_purses" sPurses
  obtain ⟨fd4, F4⟩ := T.fd 4 "_law_one_of" sOneOf
  obtain ⟨fd5, F5⟩ := T.fd 5 "_law_word" sWord
  obtain ⟨fd6, F6⟩ := T.fd 6 "_law_first" sFirst
  obtain ⟨fd7, F7⟩ := T.fd 7 "_law_called" sCalled
  obtain ⟨fd8, F8⟩ := T.fd 8 "_law_bare" sBare
  obtain ⟨fd9, F9⟩ := T.fd 9 "_law_code" sCode
  obtain ⟨fd10, F10⟩ := T.fd 10 "_law_is_error" sIsErr
  obtain ⟨fd11, F11⟩ := T.fd 11 "_law_right" sRight
  have G2 : FnOk P w K mg base CX0 2 (He.ga K "_law_draw") fd2 ["_law_purse_here", "_law_many"] spDraw := ok_draw F2 F1 T
  have G3 : FnOk P w K mg base CX0 2 (He.ga K "_law_purses") fd3 ["_law_script", "_law_few"] (spPurses K) := ok_purses F3 F0 T
  have G4 : FnOk P w K mg base CX0 3 (He.ga K "_law_one_of") fd4 ["_law_purse_here", "_law_some"] spOne := ok_one F4 F2 T G2
  have G5 : FnOk P w K mg base CX0 3 (He.ga K "_law_word") fd5 ["_law_purse_here"] spWord := ok_word F5 F2 T G2
  have G6 : FnOk P w K mg base CX0 3 (He.ga K "_law_first") fd6 ["_law_thing"] (spFirst K) := ok_first F6 T
  have G7 : FnOk P w K mg base CX0 3 (He.ga K "_law_called") fd7 ["_law_thing"] (spFirst K) := ok_called F7 T
  have G8 : FnOk P w K mg base CX0 3 (He.ga K "_law_bare") fd8 [] (spBare K) := ok_bare F8 T
  have G9 : FnOk P w K mg base CX0 2 (He.ga K "_law_code") fd9 ["_law_error"] (spCode K) := ok_code F9 T
  have G10 : FnOk P w K mg base CX0 1 (He.ga K "_law_is_error") fd10 ["_law_error"] (spIsErr K) := ok_isErr F10 T
  have G11 : GOk P w K mg base CX0 3 (He.ga K "_law_right") fd11 ["_law_some", "_law_noted"] (spRight K) := ok_right F11 F9 F10 T
  have g3 : mg "_law_purses" = some (.ref (He.ga K "_law_purses")) := T.glo _ (by decide +kernel)
  have g4 : mg "_law_one_of" = some (.ref (He.ga K "_law_one_of")) := T.glo _ (by decide +kernel)
  have g5 : mg "_law_word" = some (.ref (He.ga K "_law_word")) := T.glo _ (by decide +kernel)
  have g6 : mg "_law_first" = some (.ref (He.ga K "_law_first")) := T.glo _ (by decide +kernel)
  have g7 : mg "_law_called" = some (.ref (He.ga K "_law_called")) := T.glo _ (by decide +kernel)
  have g8 : mg "_law_bare" = some (.ref (He.ga K "_law_bare")) := T.glo _ (by decide +kernel)
  have g9 : mg "_law_code" = some (.ref (He.ga K "_law_code")) := T.glo _ (by decide +kernel)
  have g10 : mg "_law_is_error" = some (.ref (He.ga K "_law_is_error")) := T.glo _ (by decide +kernel)
  have g11 : mg "_law_right" = some (.ref (He.ga K "_law_right")) := T.glo _ (by decide +kernel)
  have gU : mg "NothingToUndo" = some (.ref (He.ga K "NothingToUndo")) := T.glo _ (by decide +kernel)
  have gR : mg "NothingToRedo" = some (.ref (He.ga K "NothingToRedo")) := T.glo _ (by decide +kernel)
  have gK : mg "KindError" = some (.ref (He.ga K "KindError")) := T.glo _ (by decide +kernel)
  have cU := T.bare (x := "NothingToUndo") (by decide +kernel)
  have cR := T.bare (x := "NothingToRedo") (by decide +kernel)
  have cK := T.bare (x := "KindError") (by decide +kernel)
  have b1 : ∀ {x y : Str} {st : Stmt} {fd : FuncData}, True := trivial
  have b3 : Binds K fd3 ["_law_script", "_law_few"] [] := F3.bindsN fun _ _ _ _ _ _ us hl => match us, hl with | [_, _], _ => rfl
  have b4 : Binds K fd4 ["_law_purse_here", "_law_some"] [] := F4.bindsN fun _ _ _ _ _ _ us hl => match us, hl with | [_, _], _ => rfl
  have b5 : Binds K fd5 ["_law_purse_here"] [] := F5.bindsN fun _ _ _ _ _ _ us hl => match us, hl with | [_], _ => rfl
  have b6 : Binds K fd6 ["_law_thing"] [] := F6.bindsN fun _ _ _ _ _ _ us hl => match us, hl with | [_], _ => rfl
  have b7 : Binds K fd7 ["_law_thing"] [] := F7.bindsN fun _ _ _ _ _ _ us hl => match us, hl with | [_], _ => rfl
  have b8 : Binds K fd8 [] [] := F8.bindsN fun _ _ _ _ _ _ us hl => match us, hl with | [], _ => rfl
  have b9 : Binds K fd9 ["_law_error"] [] := F9.bindsN fun _ _ _ _ _ _ us hl => match us, hl with | [_], _ => rfl
  have b10 : Binds K fd10 ["_law_error"] [] := F10.bindsN fun _ _ _ _ _ _ us hl => match us, hl with | [_], _ => rfl
  have b11 : Binds K fd11 ["_law_some", "_law_noted"] [] := F11.bindsN fun _ _ _ _ _ _ us hl => match us, hl with | [_, _], _ => rfl
  refine GOk.body F scLaw (fun vs H Q E h => ?_) (fun cdv A outer s H vs Q E gd hr h => ?_)
  · obtain ⟨a, ns, rfl, _⟩ := h
    rfl
  · obtain ⟨a, ns, rfl, hS, h63, k⟩ := h
    have hr2 : Room 2 _ := hr.mono (by decide)
    have hr1 : Room 1 _ := hr.mono (by decide)
    have hun := hr.un
    have hu81 := show (A.deeper (envOfC "law" (defScope sLaw) s.heap.objs.size (He.ga K "law") cdv)).units + 80 < cLine by omega
    have hu1 := show (A.deeper (envOfC "law" (defScope sLaw) s.heap.objs.size (He.ga K "law") cdv)).units + 1 < cLine by omega
    have nd := scLaw.nd
    refine ⟨_, PSs.nox (pss_cons (ps_for PassesOwn.never rfl (pi_list (pe_call G3 hr2 rfl g3 F3.kp b3 .nil pass0 (pa_cons (pv 0) (pa_cons pe_int pa_nil)))) (pg_name (i := 1) nd rfl (Or.inl rfl))
        (pss_cons (ps_set (i := 2) nd rfl (Or.inl rfl) (pe_call G5 hr rfl g5 F5.kp b5 .nil pass0 (pa_cons (pv 1) pa_nil)))
        (pss_cons (ps_set (i := 3) nd rfl (Or.inl rfl) (pe_lst (pa_cons pe_non (pa_cons pe_bl (pa_cons pe_bl (pa_cons pe_int (pa_cons (pv 2) (pa_cons (pe_un un_neg (pe_ix ix_list (pv 1) pe_int (fun _ _ => rfl)))
          (pa_cons (pe_tup (pa_cons pe_str (pa_cons (pv 2) (pa_cons pe_int (pa_cons pe_int pa_nil))))) (pa_cons (pe_tup (pa_cons (pv 2) (pa_cons (pe_lstS (pa_cons (pv 2) pa_nil)) pa_nil)))
          (pa_cons (pe_disp (pps_cons (pv 2) (pe_lstS (pa_cons (pv 2) pa_nil)) pps_nil) (by rfl) rfl (by simp) (by decide)) pa_nil)))))))))))
        (pss_cons (ps_set (i := 4) nd rfl (Or.inl rfl) (pe_call G4 hr rfl g4 F4.kp b4 .nil pass0 (pa_cons (pv 1) (pa_cons (pe_op op_cat (pv 3) (pe_lst (pa_cons (pe_lstS (pa_cons (pv 2) pa_nil)) (pa_cons (pe_lstS (pa_cons (pe_lstS (pa_cons (pv 2) pa_nil))
          (pa_cons (pe_disp (pps_cons pe_str (pv 2) pps_nil) (by rfl) rfl (by simp) (by decide)) pa_nil))) pa_nil)))) pa_nil))))
        (pss_cons (ps_set (i := 5) nd rfl (Or.inl rfl) (pe_callB (call_show gd hu81) (by rfl) mS (by decide +kernel) (pa_cons (pv 4) pa_nil)))
        (pss_cons (ps_par3 (i := 6) (j := 7) (l := 8) rfl nd rfl rfl rfl (by decide) (by decide) (by decide) rfl rfl rfl (pa_cons (pe_call G6 hr rfl g6 F6.kp b6 .nil pass0 (pa_cons (pv 4) pa_nil)) (pa_cons (pe_call G7 hr rfl g7 F7.kp b7 .nil pass0 (pa_cons (pv 4) pa_nil))
          (pa_cons (pe_call G6 hr rfl g6 F6.kp b6 .nil pass0 (pa_cons (pe_tup (pa_cons pe_str (pa_cons (pv 2) pa_nil))) pa_nil)) pa_nil))) (by rfl))
        (pss_cons (ps_if (PW.pt (pw_or (pt_not (pt_val (pe_go G11 gd hr rfl g11 F11.kp b11 pass0 (pa_cons (pe_call0 G8 hr rfl g8 F8.kp b8 .nil pass0) (pa_cons pe_str pa_nil)))))
          (pw_or1 (pt_not (pt_val (pe_go G11 gd hr rfl g11 F11.kp b11 pass0 (pa_cons (pv 8) (pa_cons (pe_callB (call_show gd hu81) (by rfl) mS (by decide +kernel) (pa_cons (pe_tup (pa_cons pe_str (pa_cons (pv 2) pa_nil))) pa_nil)) pa_nil)))))))) (pss_one (ps_ret pe_bl)) pss_nil)
        (pss_cons (ps_if (PW.pt (pw_or (pt_not (pt_val (pe_go G11 gd hr rfl g11 F11.kp b11 pass0 (pa_cons (pv 6) (pa_cons (pv 5) pa_nil)))))
          (pw_or1 (pt_not (pt_val (pe_go G11 gd hr rfl g11 F11.kp b11 pass0 (pa_cons (pv 7) (pa_cons (pv 5) pa_nil)))))))) (pss_one (ps_ret pe_bl)) pss_nil)
        (pss_cons (ps_if (pt_val (pe_callB call_isi (by rfl) mI (by decide +kernel) (pa_cons (pv 4) (pa_cons (pe_bltn (v := .ty "list") (by rfl) mL PyProof.Rows.Boot.«list» rfl) pa_nil))))
          (pss_one (ps_expr (pe_bm PySem.F.plainAttrs_list PySem.F.slot_list_append PySem.F.type_list_append mt_append (pv 4) (pa_cons pe_str pa_nil)))) pss_nil)
        (pss_cons (ps_if (pt_val (pe_callB call_isi (by rfl) mI (by decide +kernel) (pa_cons (pv 4) (pa_cons (pe_bltn (v := .ty "dict") (by rfl) mD PyProof.Rows.Boot.«dict» rfl) pa_nil))))
          (pss_cons (ps_expr (pe_bm PySem.F.plainAttrs_list PySem.F.slot_list_append PySem.F.type_list_append mt_append (pe_dget hu1 (pv 4) (pv 2) (fun _ _ => rfl)) (pa_cons pe_str pa_nil)))
          (pss_one (ps_dput hu1 (pv 4) pe_str pe_int rfl))) pss_nil)
        (pss_cons (ps_if (PW.pt (pw_and (pt_val (pe_callB call_isi (by rfl) mI (by decide +kernel) (pa_cons (pv 4) (pa_cons (pe_bltn (v := .ty "tuple") (by rfl) mT PyProof.Rows.Boot.«tuple» rfl) pa_nil))))
          (pw_and1 (pt_val (pe_callB call_isi (by rfl) mI (by decide +kernel) (pa_cons (pe_ix ix_tup (pv 4) pe_int (fun _ _ => rfl)) (pa_cons (pe_bltn (v := .ty "list") (by rfl) mL PyProof.Rows.Boot.«list» rfl) pa_nil)))))))
          (pss_one (ps_expr (pe_bm PySem.F.plainAttrs_list PySem.F.slot_list_append PySem.F.type_list_append mt_append (pe_ix ix_tup (pv 4) pe_int (fun _ _ => rfl)) (pa_cons pe_str pa_nil)))) pss_nil)
        (pss_one (ps_if (PW.pt (pw_or (pt_not (pt_val (pe_go G11 gd hr rfl g11 F11.kp b11 pass0 (pa_cons (pv 6) (pa_cons (pe_callB (call_show gd hu81) (by rfl) mS (by decide +kernel) (pa_cons (pv 4) pa_nil)) pa_nil)))))
          (pw_or1 (pt_not (pt_val (pe_go G11 gd hr rfl g11 F11.kp b11 pass0 (pa_cons (pv 7) (pa_cons (pe_callB (call_show gd hu81) (by rfl) mS (by decide +kernel) (pa_cons (pv 4) pa_nil)) pa_nil)))))))) (pss_one (ps_ret pe_bl)) pss_nil)))))))))))))
      (pss_cons (ps_set (i := 9) nd rfl (Or.inl rfl) (pe_lst (pa_cons (pe_bare PySem.F.excBase_ValueError cU.2.1 gU cU.2.2) (pa_cons (pe_bare PySem.F.excBase_ValueError cR.2.1 gR cR.2.2) pa_nil))))
      (pss_cons (ps_if (pt_cmpR (op_neD hr.units)
        (pe_lc (own := [("_law_error", 10)]) (g := gName 10) (tt := tYes) rfl nd (pi_list (pv 9)) (blkOk_by (own := [("_law_error", 10)]) (N := ["_law_script", "_law_purse_here", "_law_word_here", "_law_plain", "_law_thing", "_law_noted", "_law_some", "_law_called_here", "_law_later", "_law_rest", "_law_error"]) (sc := defScope sLaw) (by decide +kernel))
          (fun _ _ _ _ _ => pg_name (i := 10) nd rfl (Or.inl rfl)) (fun _ _ _ _ _ => pts_nil) (fun _ _ _ _ _ => pe_call G9 hr2 rfl g9 F9.kp b9 .nil pass0 (pa_cons (pv 10) pa_nil)))
        (pe_lst (pa_cons (pe_lst (pa_cons pe_int pa_nil)) (pa_cons (pe_lst (pa_cons pe_int pa_nil)) pa_nil))) (nomark _)) (pss_one (ps_ret pe_bl)) pss_nil)
      (pss_cons (ps_expr (pe_bm PySem.F.plainAttrs_list PySem.F.slot_list_append PySem.F.type_list_append mt_append (pv 9) (pa_cons (pe_bare PySem.F.excBase_ValueError cK.2.1 gK cK.2.2) pa_nil)))
      (pss_one (ps_ret (pe_and (pe_callB (cr_all rfl) (by rfl) mA (by decide +kernel) (pa_cons
        (pe_lc (own := [("_law_error", 10)]) (g := gName 10) (tt := tYes) rfl nd (pi_list (pv 9)) (blkOk_by (own := [("_law_error", 10)]) (N := ["_law_script", "_law_purse_here", "_law_word_here", "_law_plain", "_law_thing", "_law_noted", "_law_some", "_law_called_here", "_law_later", "_law_rest", "_law_error"]) (sc := defScope sLaw) (by decide +kernel))
          (fun _ _ _ _ _ => pg_name (i := 10) nd rfl (Or.inl rfl)) (fun _ _ _ _ _ => pts_nil) (fun _ _ _ _ _ => pe_call G10 hr1 rfl g10 F10.kp b10 .nil pass0 (pa_cons (pv 10) pa_nil))) pa_nil))
        (pe_one (pe_cmpR (op_eqD hr.units) (pe_call G9 hr2 rfl g9 F9.kp b9 .nil pass0 (pa_cons (pe_ix ix_list (pv 9) pe_int (fun _ _ => rfl)) pa_nil)) (pe_lst pa_nil) (nomark _)))))))))), ?_⟩
    refine ⟨_, rfl, a, ns, rfl, hS, h63, fun l0 p H1 s1 hl0 np fp fl0 pu => ?_⟩
    refine ⟨l0, rfl, ⟨_, SqL.of hl0⟩, ?_⟩
    refine for_list (K := K) (a := l0) (xs := [.ref p]) (fun i σ H' => (i = 0 → σ = [some (.ref a), none, none, none, none, none, none, none, none, none, none] ∧ H' = H1) ∧ σ.length = 11 ∧ H' l0 = some (.lst [.ref p])) ⟨fun _ => ⟨rfl, rfl⟩, rfl, hl0⟩ (fun i σ H' _ z => SqL.of z.2.2) ?_ ?_
    · rintro i x σ H2 hx ⟨z, -, hl⟩
      have i0 : i = 0 := by
        have := (List.getElem?_eq_some_iff.mp hx).1
        simpa using this
      subst i0
      obtain ⟨rfl, rfl⟩ := z rfl
      obtain rfl : V.ref p = x := Option.some.inj hx
      refine ⟨_, rfl, p, 0, rfl, pu, by decide, fun w H3 wo pu3 bu3 => ?_⟩
      have hl3 := bu3 _ _ np hl
      obtain ⟨qa, qb, qc, qd, hp3, rb, -, -⟩ := id pu3
      -- the things, one after another
      refine ⟨_, rfl, _, rfl, p, _, 1, .int qb, rfl, rfl, SqL.of hp3, rfl, qb, rfl, _, rfl, show 4 ≤ sizeLine by decide, fun t1 f1 => ?_⟩
      have s1' := Same.new (o := .tup [.str "says", .str w, .int 1, .int 2]) f1
      refine ⟨_, rfl, _, rfl, show 1 ≤ sizeLine by decide, fun l1 f2 m1 => ⟨show 2 ≤ sizeLine by decide, fun t2 f3 => ?_⟩⟩
      have s2' := Same.new (o := .lst [.str w]) f2
      have s3' := Same.new (o := .tup [.str w, .ref l1]) f3
      refine fun d1 f4 => ⟨_, rfl, _, rfl, show 1 ≤ sizeLine by decide, fun l2 f5 m2 => ?_⟩
      obtain ⟨s4', hl2, hd1, hd0⟩ := dict_new (o1 := .dK []) (o2 := .lst [.str w]) (o3 := .dK [(.inr w, .ref l2)]) f4 f5
      refine ⟨hd0, [(.inr w, .ref l2)], rfl, show 1 ≤ 15 by decide, show 9 ≤ sizeLine by decide, fun pl f6 => ?_⟩
      have hp4 := s4' _ _ (s3' _ _ (s2' _ _ (s1' _ _ hp3)))
      have s6' := Same.new (o := .lst [.non, .bl true, .bl false, .int 0, .str w, .int (-qb), .ref t1, .ref t2, .ref d1]) f6
      refine ⟨_, rfl, _, rfl, _, rfl, show 1 ≤ sizeLine by decide, fun l3 f7 m3 => ?_⟩
      have s7' := Same.new (o := .lst [.str w]) f7
      refine ⟨_, rfl, show 1 ≤ sizeLine by decide, fun l4 f8 m4 => ?_⟩
      have s8' := Same.new (o := .lst [.str w]) f8
      refine fun d2 f9 => ⟨_, rfl, upd_same, [(.inr "odd", .str w)], rfl, show 1 ≤ 15 by decide, ?_⟩
      have s9' := dict_new0 (o1 := .dK []) (o3 := .dK [(.inr "odd", .str w)]) f9
      refine ⟨show 2 ≤ sizeLine by decide, fun l5 f10 m5 => ⟨show 2 ≤ sizeLine by decide, fun l6 f11 => ?_⟩⟩
      have s10' := Same.new (o := .lst [.ref l4, .ref d2]) f10
      have s11' := Same.new (o := .lst [.ref l3, .ref l5]) f11
      refine ⟨pl, l6, [.non, .bl true, .bl false, .int 0, .str w, .int (-qb), .ref t1, .ref t2, .ref d1], [.ref l3, .ref l5], rfl, rfl, s11' _ _ (s10' _ _ (s9' _ _ (s8' _ _ (s7' _ _ upd_same)))), upd_same, show 11 ≤ sizeLine by decide, fun c f12 => ?_⟩
      have s12' := Same.new (o := .lst ([.non, .bl true, .bl false, .int 0, .str w, .int (-qb), .ref t1, .ref t2, .ref d1] ++ [.ref l3, .ref l5])) f12
      have hp11 := s11' _ _ (s10' _ _ (s9' _ _ (s8' _ _ (s7' _ _ (s6' _ _ hp4)))))
      have spu := (s1'.trans s2').trans ((s3'.trans s4').trans ((s6'.trans s7').trans ((s8'.trans s9').trans ((s10'.trans s11').trans s12'))))
      refine ⟨p, c, _, _, rfl, pu3.mono spu, by decide, upd_same, (ne_of_none hp11 f12).symm, show 1 ≤ 11 by decide, show 11 < 100000000 by decide, fun j v H4 hv pu4 bu4 => ?_⟩
      have q11 := s11'.trans s12'
      have q10 := s10'.trans q11
      have q9 := s9'.trans q10
      have q8 := s8'.trans q9
      have q7 := s7'.trans q8
      have q6 := s6'.trans q7
      have q4 := s4'.trans q6
      have q3 := s3'.trans q4
      have q2 := s2'.trans q3
      have hpA := s1' _ _ hp3
      have hpB := s2' _ _ hpA
      have hpC := s3' _ _ hpB
      have hpF := s6' _ _ hp4
      have hpG := s7' _ _ hpF
      have hpH := s8' _ _ hpG
      have hpI := s9' _ _ hpH
      have k1 := bu4 t1 _ (ne_of_none hp3 f1).symm (q2 _ _ upd_same)
      have k2 := bu4 l1 _ (ne_of_none hpA f2).symm (q3 _ _ upd_same)
      have k3 := bu4 t2 _ (ne_of_none hpB f3).symm (q4 _ _ upd_same)
      have k4 := bu4 l2 _ (ne_of_none (Same.new f4 _ _ hpC) f5).symm (q6 _ _ hl2)
      have k5 := bu4 d1 _ (ne_of_none hpC f4).symm (q6 _ _ hd1)
      have k7 := bu4 l3 _ (ne_of_none hpF f7).symm (q8 _ _ upd_same)
      have k8 := bu4 l4 _ (ne_of_none hpG f8).symm (q9 _ _ upd_same)
      have k9 := bu4 d2 _ (ne_of_none hpH f9).symm (q10 _ _ upd_same)
      have k10 := bu4 l5 _ (ne_of_none hpI f10).symm (q11 _ _ upd_same)
      have hl4 := bu4 l0 _ np (spu _ _ hl3)
      have th : ∃ d e, Th w H4 v d e := match j, hv with
        | 0, hv => by cases hv; exact ⟨_, _, .non⟩
        | 1, hv => by cases hv; exact ⟨_, _, .bl true⟩
        | 2, hv => by cases hv; exact ⟨_, _, .bl false⟩
        | 3, hv => by cases hv; exact ⟨_, _, .int 0 (by decide)⟩
        | 4, hv => by cases hv; exact ⟨_, _, .word⟩
        | 5, hv => by cases hv; exact ⟨_, _, .int (-qb) (by omega)⟩
        | 6, hv => by cases hv; exact ⟨_, _, .says k1⟩
        | 7, hv => by cases hv; exact ⟨_, _, .pair k3 k2 m1⟩
        | 8, hv => by cases hv; exact ⟨_, _, .dic k5 k4 m2⟩
        | 9, hv => by cases hv; exact ⟨_, _, .lst k7 m3⟩
        | 10, hv => by cases hv; exact ⟨_, _, .deep k10 m5 k8 m4 k9⟩
        | n + 11, hv => by cases hv
      obtain ⟨d, e, th⟩ := th
      clear hv q11 q10 q9 q8 q7 q6 q4 q3 q2 hpA hpB hpC hpF hpG hpH hpI k1 k2 k3 k4 k5 k7 k8 k9 k10
      have od := th.ok wo
      have oe := th.okE wo
      -- the errors
      refine ⟨_, rfl, v, d, rfl, th.dq, od.1, od.2.1, od.2.2, ?_⟩
      refine ⟨_, rfl, v, rfl, fun ls es H5 s5 hls hes => ?_⟩
      refine ⟨_, rfl, v, rfl, fun lc ec H6 s6 hlc hec => ?_⟩
      refine ⟨_, rfl, show 2 ≤ sizeLine by decide, fun t7 f7 => ⟨.ref t7, rfl, fun ll el H8 s8 hll hel => ⟨_, _, _, rfl, ?_⟩⟩⟩
      have s7 := Same.new (o := .tup [.str "later", .str w]) f7
      have dq7 : Dq H8 (.ref t7) (dLater w) := .tup (s8 _ _ upd_same) (.cons (.str _) (.cons (.str _) .nil))
      have o7 := ok_dLater wo
      have hes8 := (hes.mono s6).mono (s7.trans s8)
      have hls8 := s8 _ _ (s7 _ _ (s6 _ _ hls))
      have hec8 := hec.mono (s7.trans s8)
      have hlc8 := s8 _ _ (s7 _ _ hlc)
      have th8 := th.mono ((s5.trans s6).trans (s7.trans s8))
      have hl8 := s8 _ _ (s7 _ _ (s6 _ _ (s5 _ _ hl4)))
      refine ⟨rfl, fun lb eb H9 s9 hlb heb => ?_⟩
      refine ⟨lb, eb, .non, .none, rfl, hlb, heb, .non, rfl, .inl (by decide +kernel), by decide, fun H10 s10 => ⟨true, rfl, if_no rfl ?_⟩⟩
      have s810 := s9.trans s10
      refine ⟨_, rfl, _, rfl, show 2 ≤ sizeLine by decide, fun t11 f11 => ?_⟩
      have s11 := Same.new (o := .tup [.str "later", .str w]) f11
      have s811 := s810.trans s11
      refine ⟨.ref t11, dLater w, rfl, .tup upd_same (.cons (.str _) (.cons (.str _) .nil)), o7.1, o7.2.1, o7.2.2, ?_⟩
      refine ⟨ll, el, .ref t7, dLater w, rfl, s811 _ _ hll, hel.mono s811, dq7.mono s811, o7.1, o7.2.1, o7.2.2, fun H12 s12 => ⟨true, rfl, if_no rfl ?_⟩⟩
      have s812 := s811.trans s12
      refine ⟨_, rfl, _, rfl, ls, es, v, d, rfl, s812 _ _ hls8, hes8.mono s812, (th8.mono s812).dq, od.1, od.2.1, od.2.2, fun H13 s13 => ⟨true, rfl, if_no rfl ?_⟩⟩
      have s813 := s812.trans s13
      refine ⟨_, rfl, _, rfl, lc, ec, v, d, rfl, s813 _ _ hlc8, hec8.mono s813, (th8.mono s813).dq, od.1, od.2.1, od.2.2, fun H14 s14 => ⟨true, rfl, if_no rfl ?_⟩⟩
      have s814 := s813.trans s14
      -- the change
      refine mut_go (K := K) (w := w) (v := v) (d := d) (e := e) wo rfl rfl (th8.mono s814) fun H15 ch dq15 => ?_
      have ch15 := (Ch.of s814).trans ch
      have x1 : Fix (.lst (es.map V.ref)) := .inl (by rw [List.length_map, Paired.length hes8]; rfl)
      have x2 : Fix (.lst (ec.map V.ref)) := .inl (by rw [List.length_map, Paired.length hec8]; rfl)
      refine ⟨_, rfl, _, rfl, v, e, rfl, dq15, oe.1, oe.2.1, oe.2.2, ls, es, v, e, rfl, ch15 _ _ x1 hls8, hes8.ch ch15, dq15, oe.1, oe.2.1, oe.2.2, fun H16 s16 => ⟨true, rfl, if_no rfl ?_⟩⟩
      refine ⟨_, rfl, _, rfl, v, e, rfl, dq15.mono s16, oe.1, oe.2.1, oe.2.2, lc, ec, v, e, rfl, s16 _ _ (ch15 _ _ x2 hlc8), (hec8.ch ch15).mono s16, dq15.mono s16, oe.1, oe.2.1, oe.2.2, fun H17 s17 => ⟨true, rfl, if_no rfl ?_⟩⟩
      exact ⟨fun z => (nomatch z), rfl, s17 _ _ (s16 _ _ (ch15 _ _ (.inr ⟨p, rfl⟩) hl8))⟩
    · rintro σ H2 ⟨-, hlen, -⟩
      match σ, hlen with
      | [y0, y1, y2, y3, y4, y5, y6, y7, y8, y9, y10], _ => ?_
      have kU := T.kit (x := "NothingToUndo") (by decide +kernel)
      have kR := T.kit (x := "NothingToRedo") (by decide +kernel)
      have kB := T.kitB
      refine fun u fu r fr => ⟨show 2 ≤ sizeLine by decide, fun lr flr => ?_⟩
      have s1 := Same.new (o := ExO (.ref (He.ga K "NothingToUndo")) u) fu
      have s2 := Same.new (o := ExO (.ref (He.ga K "NothingToRedo")) r) fr
      have s3 := Same.new (o := .lst [.ref u, .ref r]) flr
      obtain ⟨H3, eH⟩ : ∃ H3, H3 = upd (upd (upd H2 u (ExO (.ref (He.ga K "NothingToUndo")) u)) r (ExO (.ref (He.ga K "NothingToRedo")) r)) lr (.lst [.ref u, .ref r]) := ⟨_, rfl⟩
      have hu : H3 u = some (ExO (.ref (He.ga K "NothingToUndo")) u) := by rw [eH]; exact s3 _ _ (s2 _ _ upd_same)
      have hr' : H3 r = some (ExO (.ref (He.ga K "NothingToRedo")) r) := by rw [eH]; exact s3 _ _ upd_same
      have hlr : H3 lr = some (.lst [.ref u, .ref r]) := by rw [eH]; exact upd_same
      refine ⟨_, rfl, lr, rfl, ⟨_, SqL.of upd_same⟩, ?_⟩
      rw [← eH]
      intro D hD
      refine lc_list (fun i H' => Same H3 H' ∧ (i = 0 → H' D = some (.lst [])) ∧ (i = 1 → ∃ p0, p0 ≠ D ∧ H' D = some (.lst [.ref p0]) ∧ H' p0 = some (.lst [.int 31])) ∧
          (i = 2 → ∃ p0 p1, H' D = some (.lst [.ref p0, .ref p1]) ∧ H' p0 = some (.lst [.int 31]) ∧ H' p1 = some (.lst [.int 32])))
        ⟨Same.new hD, fun _ => upd_same, fun z => (nomatch z), fun z => (nomatch z)⟩ (fun i H' _ z => SqL.of (z.1 _ _ hlr)) ?_ ?_
      · rintro i x H' hx ⟨s', z0, z1, -⟩
        match i, hx, z0, z1 with
        | 0, hx, z0, _ =>
          obtain rfl : V.ref u = x := Option.some.inj hx
          refine ⟨rfl, kept_go ?_⟩
          refine ⟨_, rfl, u, He.ga K "NothingToUndo", fun y => decide (("NothingToUndo" : Str) = y), rfl, .inr (s' _ _ hu), cU.1, kU.1, fun q H4 fq s4 hq _ => ?_⟩
          have sp : spots (cn33.map fun y => decide (("NothingToUndo" : Str) = y)) = [31] := by decide +kernel
          rw [sp] at hq
          have dD := s4 _ _ (z0 rfl)
          have nq : q ≠ D := fun e => by rw [e, z0 rfl] at fq; cases fq
          exact ⟨[], dD, by decide, fun b o e => by rw [upd_ne (ne_of_none e hD)]; exact s4 _ _ (s' _ _ e), fun z => (nomatch z), fun _ => ⟨q, nq, upd_same, by rw [upd_ne nq]; exact hq⟩, fun z => (nomatch z)⟩
        | 1, hx, _, z1 =>
          obtain rfl : V.ref r = x := Option.some.inj hx
          obtain ⟨p0, np0, dD, h0⟩ := z1 rfl
          refine ⟨rfl, kept_go ?_⟩
          refine ⟨_, rfl, r, He.ga K "NothingToRedo", fun y => decide (("NothingToRedo" : Str) = y), rfl, .inr (s' _ _ hr'), cR.1, kR.1, fun q H4 fq s4 hq _ => ?_⟩
          have sp : spots (cn33.map fun y => decide (("NothingToRedo" : Str) = y)) = [32] := by decide +kernel
          rw [sp] at hq
          have nq : q ≠ D := fun e => by rw [e, dD] at fq; cases fq
          exact ⟨[.ref p0], s4 _ _ dD, show 1 < sizeLine by decide, fun b o e => by rw [upd_ne (ne_of_none e hD)]; exact s4 _ _ (s' _ _ e), fun z => (nomatch z), fun z => (nomatch z),
            fun _ => ⟨p0, q, upd_same, by rw [upd_ne np0]; exact s4 _ _ h0, by rw [upd_ne nq]; exact hq⟩⟩
        | n + 2, hx, _, _ => cases hx
      · rintro H4 ⟨s4, -, -, z2⟩
        obtain ⟨p0, p1, dD, h0, h1⟩ := z2 rfl
        refine ⟨show 1 ≤ sizeLine by decide, fun q1 g1 => ⟨show 1 ≤ sizeLine by decide, fun q2 g2 => ⟨show 2 ≤ sizeLine by decide, fun q3 g3 => ?_⟩⟩⟩
        have a1 := Same.new (o := .lst [.int 31]) g1
        have a2 := Same.new (o := .lst [.int 32]) g2
        have a3 := Same.new (o := .lst [.ref q1, .ref q2]) g3
        have a13 := (a1.trans a2).trans a3
        refine ⟨.list [.list [.int 31], .list [.int 32]], .list [.list [.int 31], .list [.int 32]], .lst (SqL.of (a13 _ _ dD)) (.cons (.lst (SqL.of (a13 _ _ h0)) (.cons (.int _) .nil)) (.cons (.lst (SqL.of (a13 _ _ h1)) (.cons (.int _) .nil)) .nil)),
          .lst (SqL.of upd_same) (.cons (.lst (SqL.of (a3 _ _ (a2 _ _ upd_same))) (.cons (.int _) .nil)) (.cons (.lst (SqL.of (a3 _ _ upd_same)) (.cons (.int _) .nil)) .nil)), by decide +kernel, by decide +kernel, _, rfl, if_no (by decide +kernel) ?_⟩
        have s5 := s4.trans a13
        obtain ⟨H5, eH5⟩ : ∃ H5, H5 = upd (upd (upd H4 q1 (.lst [.int 31])) q2 (.lst [.int 32])) q3 (.lst [.ref q1, .ref q2]) := ⟨_, rfl⟩
        rw [← eH5] at s5
        refine ⟨_, rfl, .inl ⟨rfl, _, SqL.of (by rw [← eH5]; exact s5 _ _ hlr)⟩, ?_⟩
        rw [← eH5]
        intro kk fk
        have s6 := Same.new (o := ExO (.ref (He.ga K "KindError")) kk) fk
        refine ⟨lr, [.ref u, .ref r], .ref kk, rfl, rfl, s6 _ _ (s5 _ _ hlr), show 2 < sizeLine by decide, ?_⟩
        obtain ⟨H6, eH6⟩ : ∃ H6, H6 = upd (upd H5 kk (ExO (.ref (He.ga K "KindError")) kk)) lr (.lst ([.ref u, .ref r] ++ [.ref kk])) := ⟨_, rfl⟩
        have nu : u ≠ lr := fun e => by rw [e, hlr] at hu; cases hu
        have nr : r ≠ lr := fun e => by rw [e, hlr] at hr'; cases hr'
        have nk : kk ≠ lr := (ne_of_none (s5 _ _ hlr) fk).symm
        have vu : H6 u = some (ExO (.ref (He.ga K "NothingToUndo")) u) := by rw [eH6, upd_ne nu]; exact s6 _ _ (s5 _ _ hu)
        have vr : H6 r = some (ExO (.ref (He.ga K "NothingToRedo")) r) := by rw [eH6, upd_ne nr]; exact s6 _ _ (s5 _ _ hr')
        have vk : H6 kk = some (ExO (.ref (He.ga K "KindError")) kk) := by rw [eH6, upd_ne nk]; exact upd_same
        have vl : H6 lr = some (.lst [.ref u, .ref r, .ref kk]) := by rw [eH6]; exact upd_same
        rw [← eH6]
        refine ⟨_, rfl, lr, rfl, ⟨_, SqL.of vl⟩, fun D2 hD2 => ?_⟩
        refine lc_list (fun i H' => Same H6 H' ∧ H' D2 = some (.lst ((List.replicate i true).map V.bl))) ⟨Same.new hD2, upd_same⟩ (fun i H' _ z => SqL.of (z.1 _ _ vl)) ?_ ?_
        · have turn : ∀ (i : Nat) (b C : Addr) (H' : Hp), i < 3 → Same H6 H' → H' D2 = some (.lst ((List.replicate i true).map V.bl)) → H6 b = some (ExO (.ref C) b) → EC K C → PySem.W.kitOne K (.ref C) (.ref (He.ga K "KindError")) = some true → PySem.W.kitOne K (.ref C) (.type "ValueError") = some true →
              spIsErr K [.ref b] H' (fun y H4 => ∃ acc, H4 D2 = some (.lst acc) ∧ acc.length < sizeLine ∧ (Same H6 (upd H4 D2 (.lst (acc ++ [y]))) ∧ upd H4 D2 (.lst (acc ++ [y])) D2 = some (.lst ((List.replicate (i + 1) true).map V.bl)))) (fun _ _ _ => False) := by
            intro i b C H' hi s' d' hb ec t1 t2
            refine ⟨b, C, rfl, .inr (s' _ _ hb), ec, t1, t2, _, d', ?_, fun x o e => by rw [upd_ne (ne_of_none e hD2)]; exact s' _ _ e, ?_⟩
            · rw [List.length_map, List.length_replicate]
              exact Nat.lt_of_lt_of_le hi (by decide)
            · rw [upd_same, List.replicate_succ', List.map_append]
              rfl
          rintro i x H' hx ⟨s', d'⟩
          match i, hx, d' with
          | 0, hx, d' =>
            obtain rfl : V.ref u = x := Option.some.inj hx
            exact ⟨rfl, kept_go ⟨_, rfl, turn 0 u _ H' (by decide) s' d' vu cU.1 kU.2.1 kU.2.2⟩⟩
          | 1, hx, d' =>
            obtain rfl : V.ref r = x := Option.some.inj hx
            exact ⟨rfl, kept_go ⟨_, rfl, turn 1 r _ H' (by decide) s' d' vr cR.1 kR.2.1 kR.2.2⟩⟩
          | 2, hx, d' =>
            obtain rfl : V.ref kk = x := Option.some.inj hx
            exact ⟨rfl, kept_go ⟨_, rfl, turn 2 kk _ H' (by decide) s' d' vk cK.1 kB.2.1 kB.2.2⟩⟩
          | n + 3, hx, _ => cases hx
        · rintro H7 ⟨s7, d7⟩
          refine ⟨D2, List.replicate 3 true, rfl, SqL.of d7, true, rfl, if_yes rfl ?_⟩
          refine ⟨_, rfl, lr, _, 2, .ref kk, rfl, rfl, SqL.of (s7 _ _ vl), rfl, kk, He.ga K "KindError", fun _ => false, rfl, .inr (s7 _ _ vk), cK.1, kB.1, fun l8 H8 f8 s8 hl8 _ => ?_⟩
          have sp : spots (cn33.map fun _ => false) = [] := by decide +kernel
          rw [sp] at hl8
          refine ⟨show 0 ≤ sizeLine by decide, fun q fq => ⟨.list [], .list [], .lst (SqL.of ((Same.new fq) _ _ hl8)) .nil, .lst (SqL.of upd_same) .nil, rfl, rfl, ?_⟩⟩
          rw [show (PyData.list []).eqv (.list []) = true by decide +kernel]
          exact k _
end
end K1

open PySem PySem.W PySem.Calls PyProof.Rows
theorem PySem.Challenge.cw_kindshifts_k01_errors_made_holds : PySem.Challenge.rw_kindshifts_k01_errors_made.Holds := by
  w_on; o_law
  refine HandSHeadRun.head_any (r := OpenLaw.row PySem.Challenge.rw_kindshifts_k01_errors_made) (q := view (OpenLaw.row PySem.Challenge.rw_kindshifts_k01_errors_made).prog [48]) (H := K1.hk) (ob := K1.ob) (M := 40000) (loose := K1.loose) (d := HandSHeadRun.topDef (OpenLaw.row PySem.Challenge.rw_kindshifts_k01_errors_made).prog 48) (kwd := []) K1.ob_eq
    (by kernel_rfl) (fun s => by kernel_rfl) K1.run (by kernel_rfl) (by kernel_rfl) (by kernel_rfl) (by rfl) (by first | assumption | decide +kernel) (by decide +kernel) ⟨rfl, rfl, rfl, rfl, rfl, by decide +kernel⟩ ?hw ?hc
  case hw => w_witness2
  case hc =>
    refine KS.walk_go (l := PySem.Challenge.rw_kindshifts_k01_errors_made) (n := 63) (k := 4) (x := "_law_script") (CX := L2.CX0) rfl (by decide) (by kernel_rfl) ⟨rfl, by decide, by decide⟩ ?F (fun _ _ _ _ z => z)
    intro w mg fa h Y G hmg0
    obtain ⟨K, KX, c⟩ := Y
    have hmg : mg ("law" : PySem.Str) = some (.ref fa) := by
      have e : (HandSHeadRun.topDef (OpenLaw.row PySem.Challenge.rw_kindshifts_k01_errors_made).prog 48).name = ("law" : PySem.Str) := by kernel_rfl
      rw [← e]
      exact hmg0
    have T : K1.TX K mg := K1.tx_of KX G c
    obtain ⟨fd, F⟩ := T.fd 12 "law" K1.sLaw
    have ea := hmg.symm.trans (T.glo _ (by decide +kernel))
    cases ea
    have b := L2.FunD.bindsA (ps := ["_law_script"]) F fun _ _ _ _ _ _ us hl => match us, hl with | [_], _ => rfl
    exact ⟨K, fd, K1.spLaw K, KX, fun s u => b s [u] rfl, fun H a ns hl _ hS => ⟨a, ns, rfl, hS, hl, fun _ => rfl⟩, fun base _ _ => K1.ok_law F T⟩
