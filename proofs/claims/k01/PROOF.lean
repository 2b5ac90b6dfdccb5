import PyProof.Rows.All
import Wide.All
import OpenK.AllK
import Wide.FinOn
import HandS.ForMost
import HandS.IsInst
import HandS.TupAny
import HandS.TupMul
import HandS.Style
import PyProof.ReprRoads
import PySem.Challenge.RW_poisonrules_k01_what_are_names
set_option Elab.async false
set_option linter.all false
set_option maxRecDepth 100000
set_option maxHeartbeats 6000000
namespace Vf
open PySem L2 PyProof.Rows PySem.Spec
/-! ## data: what stands at a value, dicts too -/
def keyD : Key → PyData
  | .inl i => .int i
  | .inr x => .str x
mutual
inductive Dv (H : Hp) : V → PyData → Prop
  | non : Dv H .non .none
  | bl (b : Bool) : Dv H (.bl b) (.bool b)
  | int (i : Int) : Dv H (.int i) (.int i)
  | str (x : Str) : Dv H (.str x) (.str x)
  | lst {a : Addr} {xs : List V} {ds : List PyData} : H a = some (.lst xs) → DvAll H xs ds → Dv H (.ref a) (.list ds)
  | tup {a : Addr} {xs : List V} {ds : List PyData} : H a = some (.tup xs) → DvAll H xs ds → Dv H (.ref a) (.tuple ds)
  | dic {a : Addr} {kvs : List (Key × V)} {ds : List PyData} : H a = some (.dK kvs) → DvAll H (kvs.map (·.2)) ds → Dv H (.ref a) (.dict ((kvs.map fun p => keyD p.1).zip ds))
inductive DvAll (H : Hp) : List V → List PyData → Prop
  | nil : DvAll H [] []
  | cons {v : V} {vs : List V} {d : PyData} {ds : List PyData} : Dv H v d → DvAll H vs ds → DvAll H (v :: vs) (d :: ds)
end
mutual
theorem Dv.same {H H' : Hp} (s : Same H H') : ∀ {v : V} {d : PyData}, Dv H v d → Dv H' v d
  | _, _, .non => .non
  | _, _, .bl b => .bl b
  | _, _, .int i => .int i
  | _, _, .str x => .str x
  | _, _, .lst e h => .lst (s _ _ e) (h.same s)
  | _, _, .tup e h => .tup (s _ _ e) (h.same s)
  | _, _, .dic e h => .dic (s _ _ e) (h.same s)
theorem DvAll.same {H H' : Hp} (s : Same H H') : ∀ {v : List V} {d : List PyData}, DvAll H v d → DvAll H' v d
  | _, _, .nil => .nil
  | _, _, .cons h t => .cons (h.same s) (t.same s)
end
theorem DvAll.len {H : Hp} : ∀ {v : List V} {d : List PyData}, DvAll H v d → v.length = d.length
  | _, _, .nil => rfl
  | _, _, .cons _ t => congrArg (· + 1) t.len
section
variable {X : Cx} {s : Shared} {H : Hp} {σ : L2.St} {pins : List (Addr × Obj)}
theorem keys_read {P : Program} {w : World} {h : Heap} : ∀ {es : List DictEntry} {vs : List (Key × Value)} {kvs : List (Key × V)}, Pairs (mixKind P w) es vs → KV kvs vs →
    ReadsAll h (es.map (·.key)) (kvs.map fun p => keyD p.1) [] ∧ Vals (kvs.map (·.2)) (es.map (·.val))
  | [], [], _, .nil, k => by
    cases k
    exact ⟨.nil, .nil⟩
  | e :: es, (k, u) :: vs, _, .cons hk hv hp, .cons (a := p) r t => by
    obtain ⟨r1, r2⟩ := keys_read (h := h) hp t
    obtain ⟨e1, e2⟩ := r
    obtain ⟨k', v⟩ := p
    have ek : k' = k := e1
    subst ek
    refine ⟨?_, .cons (show RelV v e.val by rw [hv]; exact e2) r2⟩
    show ReadsAll h (e.key :: es.map (·.key)) (keyD k' :: _) ([] ++ [])
    refine .cons ?_ r1
    rcases keyIs_shape hk with ⟨i, tk, rfl, ev⟩ | ⟨x, tk, rfl, ev⟩
    · rw [ev]
      exact .int _ _
    · rw [ev]
      exact .str _ _
theorem zip_fst : ∀ {a : List PyData} {b : List PyData}, a.length = b.length → (a.zip b).map (·.1) = a
  | [], [], _ => rfl
  | x :: a, y :: b, h => by
    show x :: (a.zip b).map (·.1) = x :: a
    rw [zip_fst (Nat.succ.inj h)]
theorem zip_snd : ∀ {a : List PyData} {b : List PyData}, a.length = b.length → (a.zip b).map (·.2) = b
  | [], [], _ => rfl
  | x :: a, y :: b, h => by
    show y :: (a.zip b).map (·.2) = y :: b
    rw [zip_snd (Nat.succ.inj h)]
mutual
theorem Dv.read (I : Inv X pins σ H s) : ∀ {v : V} {d : PyData}, Dv H v d → ∀ (u : Value), RelV v u → ∃ as, Reads s.heap u d as ∧ ∀ b ∈ as, H b ≠ none
  | _, _, .non, u, r => by
    cases r
    exact ⟨_, .none, nofun⟩
  | _, _, .bl b, u, r => by
    cases r
    exact ⟨_, .bool b, nofun⟩
  | _, _, .int i, u, r => by
    obtain ⟨t, rfl⟩ := r
    exact ⟨_, .int i t, nofun⟩
  | _, _, .str x, u, r => by
    obtain ⟨t, rfl⟩ := r
    exact ⟨_, .str x t, nofun⟩
  | _, _, @Dv.lst _ a xs ds e ha, u, r => by
    cases r
    obtain ⟨_, its, n, rv, ho⟩ : ObjOk X.prog X.w H s.heap a (.lst xs) := I.hok a _ e
    obtain ⟨as, hr, hb⟩ := DvAll.read I ha its rv
    exact ⟨_, .list ho rfl rfl hr, fun b m => by
      rcases List.mem_cons.mp m with rfl | m
      · rw [e]; nofun
      · exact hb b m⟩
  | _, _, @Dv.tup _ a xs ds e ha, u, r => by
    cases r
    obtain ⟨_, its, rv, o, ho, hc, n, hd⟩ : ObjOk X.prog X.w H s.heap a (.tup xs) := I.hok a _ e
    obtain ⟨as, hr, hb⟩ := DvAll.read I ha its rv
    exact ⟨_, .tuple ho hc hd hr, hb⟩
  | _, _, @Dv.dic _ a kvs ds e ha, u, r => by
    cases r
    obtain ⟨_, hsys, vs, kv, o, es, ep, ho, ⟨hc, _⟩, hd, _, hp, _⟩ : ObjOk X.prog X.w H s.heap a (.dK kvs) := I.hok a _ e
    obtain ⟨rk, rv⟩ := keys_read (h := s.heap) hp kv
    have hl : (kvs.map fun p => keyD p.1).length = ds.length := by
      have := ha.len
      simpa using this
    obtain ⟨bs, hr, hb⟩ := DvAll.read I ha _ rv
    refine ⟨_, .dict ho hc hd (by rw [zip_fst hl]; exact rk) (by rw [zip_snd hl]; exact hr), fun b m => ?_⟩
    rcases List.mem_cons.mp (by simpa using m) with rfl | m
    · rw [e]; nofun
    · exact hb b m
theorem DvAll.read (I : Inv X pins σ H s) : ∀ {vs : List V} {ds : List PyData}, DvAll H vs ds → ∀ (us : List Value), Vals vs us → ∃ as, ReadsAll s.heap us ds as ∧ ∀ b ∈ as, H b ≠ none
  | _, _, .nil, us, r => by
    cases r
    exact ⟨_, .nil, nofun⟩
  | _, _, .cons h1 h2, us, r => by
    cases r with
    | cons r1 r2 =>
      obtain ⟨as, q1, b1⟩ := Dv.read I h1 _ r1
      obtain ⟨bs, q2, b2⟩ := DvAll.read I h2 _ r2
      exact ⟨_, .cons q1 q2, fun b m => (List.mem_append.mp m).elim (b1 b) (b2 b)⟩
end
theorem flat_read (I : Inv X pins σ H s) : ∀ {vs : List V} {ds : List PyData}, DvAll H vs ds → vs.all flatV = true → ∀ (us : List Value), Vals vs us → ReadsAll s.heap us ds []
  | _, _, .nil, _, us, r => by
    cases r
    exact .nil
  | _, _, @DvAll.cons _ v vs d ds h1 h2, f, us, r => by
    have f := (Bool.and_eq_true _ _).mp f
    cases r with
    | @cons _ u _ us r1 r2 =>
      have q2 := flat_read I h2 f.2 _ r2
      have q1 : Reads s.heap u d [] := by
        cases h1 with
        | non => cases r1; exact .none
        | bl b => cases r1; exact .bool b
        | int i =>
          obtain ⟨t, rfl⟩ := r1
          exact .int i t
        | str x =>
          obtain ⟨t, rfl⟩ := r1
          exact .str x t
        | lst _ _ => cases f.1
        | tup _ _ => cases f.1
        | dic _ _ => cases f.1
      exact .cons q1 q2
/-- a dict is shown where it stands alone, its values flat -/
def FlatDict (H : Hp) (x : V) : Prop := ∃ a kvs, x = .ref a ∧ H a = some (.dK kvs) ∧ (kvs.map (·.2)).all flatV = true
/-- repr(x), x data -/
def rRepr : List V → Hp → VK → Prop := fun xs H Q => ∃ x d, xs = [x] ∧ Dv H x d ∧ d.showable = true ∧ (d.hasDict = false ∨ FlatDict H x) ∧ d.depth ≤ 50 ∧ d.shown.length ≤ sizeLine ∧ Q (.str d.shown) H
theorem call_reprD (hg : X.A.guards = some []) (hu : X.A.units + 64 < cLine) : CallR X (.builtin "repr") rRepr := by
  intro pins s σ H xs us Q I rr h
  obtain ⟨x, d, rfl, hd, hs, hn, hp, hz, q⟩ := h
  obtain ⟨u, rfl, rx⟩ := vals1 rr
  have fin : ∀ (h' : Heap) (t k : Tok), (∀ b o, s.heap.get? b = some o → h'.get? b = some o) → EP X pins σ Q (.str d.shown t) { s with heap := h', toks := k } := fun h' t k kp =>
    ⟨.str d.shown, H, I.kept kp, ⟨t, rfl⟩, q⟩
  have main : ∃ as, Reads s.heap u d as ∧ (d.hasDict = true → sysModules ∉ as) := by
    rcases hn with hn | ⟨a, kvs, rfl, ha, hf⟩
    · obtain ⟨as, rd, -⟩ := Dv.read I hd u rx
      exact ⟨as, rd, fun z => by rw [hn] at z; cases z⟩
    · cases hd with
      | lst e _ => rw [ha] at e; cases e
      | tup e _ => rw [ha] at e; cases e
      | @dic _ kvs' ds e hv =>
        rw [ha] at e; cases e
        cases rx
        obtain ⟨_, hsys, vs, kv, o, es, ep, ho, ⟨hc, _⟩, hdd, _, hpp, _⟩ : ObjOk X.prog X.w H s.heap a (.dK kvs) := I.hok a _ ha
        obtain ⟨rk, rv⟩ := keys_read (h := s.heap) hpp kv
        have hl : (kvs.map fun p => keyD p.1).length = ds.length := by
          have := hv.len
          simpa using this
        refine ⟨_, .dict ho hc hdd (by rw [zip_fst hl]; exact rk) (by rw [zip_snd hl]; exact flat_read I hv hf _ rv), fun _ m => ?_⟩
        have m' : sysModules = a := by simpa using m
        rw [m'] at hsys
        simp at hsys
  obtain ⟨as, rd, hm⟩ := main
  cases rd with
  | none =>
    simp only [PyData.shown] at fin
    exact PySem.P.repr_of_none (fin _ _ _ fun _ _ e => e)
  | bool b =>
    simp only [PyData.shown] at fin
    exact PySem.P.repr_of_bool (fin _ _ _ fun _ _ e => e)
  | int i t =>
    simp only [PyData.shown] at fin
    exact PySem.P.repr_of_int (by simpa [PyData.showable] using hs) (fin _ _ _ fun _ _ e => e)
  | str y t =>
    simp only [PyData.shown] at fin hz
    exact PySem.P.repr_of_str (fin _ _ _ fun _ _ e => e) hz
  | list h1 h2 h3 h4 => exact repr_of_reads' (.list h1 h2 h3 h4) hs hm hg (by omega) (fun _ _ e => e) fin hz
  | tuple h1 h2 h3 h4 => exact repr_of_reads' (.tuple h1 h2 h3 h4) hs hm hg (by omega) (fun _ _ e => e) fin hz
  | dict h1 h2 h3 h4 h5 => exact repr_of_reads' (.dict h1 h2 h3 h4 h5) hs hm hg (by omega) (fun _ _ e => e) fin hz
end
end Vf
namespace Vf
open PySem L2 PyProof.Rows PySem.Spec
/-! ## a def's promise where no repr is under way -/
structure FnG (P : Program) (w : World) (K : PySem.W.Frag) (mg : Str → Option Value) (base : Heap) (C : CXT) (k : Nat) (f : Addr) (fd : FuncData) (ps : List Str) (sp : Sp) : Prop where
  many : ∀ vs H Q E, sp vs H Q E → vs.length = ps.length
  go : ∀ (A : Around) (outer : List Env) (s : Shared) (H : Hp) (args : Args) (us : List Value) (vs : List V) (Q : VK) (E : XK), A.guards = some [] → Room k A → Env0 P w K mg base A outer s H → BindsTo s fd args (ps.zip us) →
    Vals vs us → sp vs H Q E → codeAny (model P w) A (.call (.ref f) args) (CR C outer P w H s Q E) s
section
variable {K : PySem.W.Frag} {P : Program} {w : World} {base : Heap} {mg : Str → Option Value}
theorem fnG_of {C : CXT} {k : Nat} {f : Addr} {name qual : Str} {params : Arguments} {body : List Stmt} {scope : Scope} {dV kV doc pm cdv ct oc : Value} {an od : Option Addr} {osl : Array (Option Value)} {N ps : List Str} {sp : Sp}
    (at_ : K.lookup f = some ⟨oc, od, .func (PySem.W.fnOf name qual params body scope dV kV doc pm an cdv ct), osl⟩) (code : PySem.W.codeIn K cdv qual = true) (S : FnScope N ps scope) (many : ∀ vs H Q E, sp vs H Q E → vs.length = ps.length)
    (bd : ∀ (A : Around) (outer : List Env) (s : Shared) (H : Hp) (vs : List V) (Q : VK) (E : XK), (A.deeper (envOfC qual scope s.heap.objs.size f cdv)).guards = some [] → Room k (A.deeper (envOfC qual scope s.heap.objs.size f cdv)) → sp vs H Q E →
      ∃ t, PSs (cxOf C P w K mg base N qual scope f cdv A outer s H E) body t ∧ t { nx := fun _ H' => Q .non H', rt := Q } (start N vs) H) :
    FnG P w K mg base C (k + 1) f (PySem.W.fnOf name qual params body scope dV kV doc pm an cdv ct) ps sp where
  many := many
  go := by
    intro A outer s H args us vs Q E hg hr env0 hb rv hsp
    have hKs : K.In s.heap := env0.mod.kin.keeps fun b o z => (env0.bs b o z).1
    have hlim : s.heap.NoLimit := env0.mod.nolimit.keeps fun b o z => (env0.bs b o z).1
    refine codeAny_call_function hr.depth (hKs _ _ at_) rfl S.co S.gen rfl (PySem.W.codeRec_of hKs code) (hb _ _ _ _ ?_)
    refine wpAny_newFunctionEnv_cells S.kind (fun y hy => ?_) fun env he s1 x => ?_
    · rcases S.par y.1 (List.of_mem_zip hy).1 with z | z
      · exact .inl z
      · exact .inr ⟨z, PySem.W.cellsFrom_some _ _ _ (.inl z)⟩
    · subst he
      obtain ⟨t, derived, reads⟩ := bd A outer s H vs Q E hg (hr.deeper _) hsp
      refine ⟨hlim.keeps x.toInCall.keep, codeAny_func (wpAny_mono (derived.run [] s1 (start N vs) H _ (inv_start S hr.hd env0 (many _ _ _ _ hsp) rv x) reads) (fun fl s' hs => ?_) fun _ _ hs => hs)⟩
      cases fl with
      | ret u =>
        obtain ⟨v, σ', H', J, rv', q⟩ := hs
        exact ⟨v, H', J.os, J.bare, J.base, J.hok, rv', q⟩
      | next =>
        obtain ⟨σ', H', J, q⟩ := hs
        exact ⟨V.non, H', J.os, J.bare, J.base, J.hok, rfl, q⟩
      | brk =>
        obtain ⟨_, _, _, q⟩ := hs
        exact q.elim
      | cont =>
        obtain ⟨_, _, _, q⟩ := hs
        exact q.elim
/-- a def of the top's text, as it stands in the module -/
structure Df (K : PySem.W.Frag) (mg : Str → Option Value) (x : Str) (st : Stmt) (f : Addr) (fd : FuncData) : Prop where
  fn : Fun K x x st f fd
  gl : mg x = some (.ref f)
/-- a def that may be called -/
structure Cal (P : Program) (w : World) (K : PySem.W.Frag) (mg : Str → Option Value) (base : Heap) (x : Str) (ps : List Str) (k : Nat) (sp : Sp) : Prop where
  ex : ∃ f fd, FnG P w K mg base CX0 k f fd ps sp ∧ mg x = some (.ref f) ∧ PySem.W.keepIn K (.ref f) = true ∧ Binds K fd ps []
theorem Df.fnG {x : Str} {st : Stmt} {f : Addr} {fd : FuncData} {N ps : List Str} {k : Nat} {sp : Sp} (D : Df K mg x st f fd) (S : FnScope N ps (defScope st)) (many : ∀ vs H Q E, sp vs H Q E → vs.length = ps.length)
    (bd : ∀ (cdv : Value) (A : Around) (outer : List Env) (s : Shared) (H : Hp) (vs : List V) (Q : VK) (E : XK), (A.deeper (envOfC x (defScope st) s.heap.objs.size f cdv)).guards = some [] → Room k (A.deeper (envOfC x (defScope st) s.heap.objs.size f cdv)) → sp vs H Q E →
      ∃ t, PSs (cxOf CX0 P w K mg base N x (defScope st) f cdv A outer s H E).nox (defBody st) t ∧ t { nx := fun _ H' => Q .non H', rt := Q } (start N vs) H) : FnG P w K mg base CX0 (k + 1) f fd ps sp := by
  obtain ⟨oc, od, kV, doc, pm, an, cdv, ct, osl, rfl, here, code⟩ := D.fn.ex
  refine fnG_of here code S many fun A outer s H vs Q E hg hr hsp => ?_
  obtain ⟨t, h1, h2⟩ := bd cdv A outer s H vs Q E hg hr hsp
  exact ⟨t, h1.nox, h2⟩
theorem Df.cal {x : Str} {st : Stmt} {f : Addr} {fd : FuncData} {N ps : List Str} {k : Nat} {sp : Sp} (D : Df K mg x st f fd) (S : FnScope N ps (defScope st)) (many : ∀ vs H Q E, sp vs H Q E → vs.length = ps.length)
    (bi : ∀ (kV doc pm : Value) (an : Option Addr) (cdv ct : Value) (us : List Value), us.length = ps.length → bindArgs (PySem.W.fnOf x x (defArgs st) (defBody st) (defScope st) .none kV doc pm an cdv ct) ⟨us, []⟩ = pure (ps.zip us))
    (bd : ∀ (cdv : Value) (A : Around) (outer : List Env) (s : Shared) (H : Hp) (vs : List V) (Q : VK) (E : XK), (A.deeper (envOfC x (defScope st) s.heap.objs.size f cdv)).guards = some [] → Room k (A.deeper (envOfC x (defScope st) s.heap.objs.size f cdv)) → sp vs H Q E →
      ∃ t, PSs (cxOf CX0 P w K mg base N x (defScope st) f cdv A outer s H E).nox (defBody st) t ∧ t { nx := fun _ H' => Q .non H', rt := Q } (start N vs) H) : Cal P w K mg base x ps (k + 1) sp :=
  ⟨f, fd, D.fnG S many bd, D.gl, D.fn.kp, D.fn.binds bi⟩
end
section
variable {X : Cx} {k : Nat} {ps ks : List Str} {sp : Sp} {x : Str} {p pos kpos : Pos} {e : Expr} {es : List Expr} {kws : List Keyword} {t tk : TA} {nm : Option Str}
theorem go_cal {f : Addr} {fd : FuncData} {pins : List (Addr × Obj)} {σ : L2.St} {H : Hp} {s : Shared} {Q : VK} {args : Args} {us : List Value} {vs : List V} (F : FnG X.prog X.w X.K X.mg X.base CX0 k f fd ps sp) (hg : X.A.guards = some []) (hr : Room k X.A)
    (I : Inv X pins σ H s) (hb : BindsTo s fd args (ps.zip us)) (r : Vals vs us) (h : sp vs H Q E0) : codeAny (model X.prog X.w) X.A (.call (.ref f) args) (callEnd (EP X pins σ Q) X.xe) s := by
  refine codeAny_mono (F.go X.A X.stack s H args us vs Q E0 hg hr I.env0 hb r h) fun res s' hq => ?_
  cases res with
  | error _ => exact False.elim hq
  | ok fl =>
    cases fl with
    | ret u => exact I.after hq
    | next => exact False.elim hq
    | brk => exact False.elim hq
    | cont => exact False.elim hq
theorem pe_cal (c : Cal X.prog X.w X.K X.mg X.base x ps k sp) (hgd : X.A.guards = some []) (hr : Room k X.A) (hg : Gl X x) (ha : PA X (e :: es) t) (hdb : (x == ("__debug__" : Str)) = false := by decide)
    (he : starEach (e :: es) X.env = (false, eval e X.env) :: starEach es X.env := by rfl) (hpl : (backTo pos (starEach es X.env)).any (·.1) = false := by rfl) : PE X (.Call (.Name x p) (e :: es) [] pos) (tCall sp [] E0 t) := by
  obtain ⟨f, fd, F, gl, kp, bi⟩ := c.ex
  refine ⟨fun pins s σ H Q I h => wpAny_Call_Name_kw (ld_glob I hg gl ?_ hdb)⟩
  refine PySem.W.callWith_K (h₀ := X.base) I.ok.mod.kin kp (thn (ha.run pos pins s σ H _ I h) fun us s1 ⟨vs, H1, I1, r, q⟩ => ⟨I1.kIn, ?_⟩) he hpl
  have q : sp (vs ++ []) H1 Q E0 := q
  rw [List.append_nil] at q
  have hb := bi s1 us I1.kIn (by rw [List.append_nil, ← r.length]; exact F.many _ _ _ _ q)
  rw [List.append_nil] at hb
  exact wpAny_call (go_cal F hgd hr I1 hb r q)
theorem pe_cal0 (c : Cal X.prog X.w X.K X.mg X.base x ps k sp) (hgd : X.A.guards = some []) (hr : Room k X.A) (hg : Gl X x) (hdb : (x == ("__debug__" : Str)) = false := by decide) : PE X (.Call (.Name x p) [] [] pos) (tCall sp [] E0 tNil) := by
  obtain ⟨f, fd, F, gl, kp, bi⟩ := c.ex
  refine ⟨fun pins s σ H Q I h => wpAny_Call_Name_kw (ld_glob I hg gl ?_ hdb)⟩
  have h' : sp [] H Q E0 := h
  have hb := bi s [] I.kIn (by rw [List.append_nil]; exact F.many _ _ _ _ h')
  exact PySem.W.callWith_K0 I.kIn kp (wpAny_call (go_cal F hgd hr I hb .nil h'))
/-- a def that may be called by keywords: n by places, then the names ks; g puts them in the parameters' order -/
structure CalK (P : Program) (w : World) (K : PySem.W.Frag) (mg : Str → Option Value) (base : Heap) (x : Str) (ps ks : List Str) (n : Nat) (g : ∀ α : Type, List α → List α → List α) (k : Nat) (sp : Sp) : Prop where
  ex : ∃ f fd, FnG P w K mg base CX0 k f fd ps sp ∧ mg x = some (.ref f) ∧ PySem.W.keepIn K (.ref f) = true ∧ (∀ (s : Shared) (us ws : List Value), us.length = n → ws.length = ks.length → BindsTo s fd ⟨us, ks.zip ws⟩ (ps.zip (g Value us ws)))
  rel : ∀ {vs : List V} {us : List Value} {zs : List V} {ws : List Value}, Vals vs us → Vals zs ws → Vals (g V vs zs) (g Value us ws)
def tCalK (n m : Nat) (g : ∀ α : Type, List α → List α → List α) (sp : Sp) (t tk : TA) : TE := fun σ H Q => t σ H fun vs H1 => tk σ H1 fun zs H2 => vs.length = n ∧ zs.length = m ∧ sp (g V vs zs) H2 Q E0
theorem pe_calK0 {n : Nat} {g : ∀ α : Type, List α → List α → List α} (c : CalK X.prog X.w X.K X.mg X.base x ps ks n g k sp) (hgd : X.A.guards = some []) (hr : Room k X.A) (hg : Gl X x) (hkw : PK X kws tk)
    (hal : (backToKw pos (keywordEach kws X.env)).all (·.1.isSome) = true := by rfl) (hks : (backToKw pos (keywordEach kws X.env)).filterMap (·.1) = ks := by rfl) (hdb : (x == ("__debug__" : Str)) = false := by decide)
    (hpl : ((backTo pos (starEach [] X.env)).any (·.1) || (backToKw pos (keywordEach kws X.env)).any (·.1.isNone)) = false := by rfl) : PE X (.Call (.Name x p) [] kws pos) (tCalK n ks.length g sp tNil tk) := by
  obtain ⟨f, fd, F, gl, kp, bi⟩ := c.ex
  refine ⟨fun pins s σ H Q I h => wpAny_Call_Name_kw (ld_glob I hg gl ?_ hdb)⟩
  refine PySem.W.callWith_KW0 (h₀ := X.base) I.ok.mod.kin kp hal (thn (hkw.run pos pins s σ H _ I h) fun ws s1 ⟨zs, H1, I1, rz, n0, m0, q⟩ => ⟨I1.kIn, ?_⟩) hpl
  rw [hks]
  exact wpAny_call (go_cal F hgd hr I1 (bi s1 [] ws n0 (by rw [← rz.length]; exact m0)) (c.rel .nil rz) q)
theorem pe_calK {n : Nat} {g : ∀ α : Type, List α → List α → List α} (c : CalK X.prog X.w X.K X.mg X.base x ps ks n g k sp) (hgd : X.A.guards = some []) (hr : Room k X.A) (hg : Gl X x) (ha : PA X (e :: es) t) (hkw : PK X kws tk)
    (hal : (backToKw pos (keywordEach kws X.env)).all (·.1.isSome) = true := by rfl) (hks : (backToKw pos (keywordEach kws X.env)).filterMap (·.1) = ks := by rfl) (hdb : (x == ("__debug__" : Str)) = false := by decide)
    (he : starEach (e :: es) X.env = (false, eval e X.env) :: starEach es X.env := by rfl)
    (hpl : ((backTo pos (starEach (e :: es) X.env)).any (·.1) || (backToKw pos (keywordEach kws X.env)).any (·.1.isNone)) = false := by rfl) : PE X (.Call (.Name x p) (e :: es) kws pos) (tCalK n ks.length g sp t tk) := by
  obtain ⟨f, fd, F, gl, kp, bi⟩ := c.ex
  refine ⟨fun pins s σ H Q I h => wpAny_Call_Name_kw (ld_glob I hg gl ?_ hdb)⟩
  refine PySem.W.callWith_KW (h₀ := X.base) I.ok.mod.kin kp hal (thn (ha.run pos pins s σ H _ I h) fun us s1 ⟨vs, H1, I1, r1, q1⟩ => ?_) hpl he
  refine thn (hkw.run pos pins s1 σ H1 _ I1 q1) fun ws s2 ⟨zs, H2, I2, rz, n0, m0, q⟩ => ⟨I2.kIn, ?_⟩
  rw [hks]
  exact wpAny_call (go_cal F hgd hr I2 (bi s2 us ws (by rw [← r1.length]; exact n0) (by rw [← rz.length]; exact m0)) (c.rel r1 rz) q)
end
end Vf
namespace Vf
open PySem L2 PyProof.Rows PySem.Spec
/-! ## operations by the kinds of what they get -/
section
variable {X : Cx}
def rAddA (K : PySem.W.Frag) : R2 := fun x y H Q => match x, y with
  | .int i, .int j => Q (.int (i + j)) H
  | .str a, .str b => a.length + b.length ≤ sizeLine ∧ Q (.str (a ++ b)) H
  | .ref l, .ref b => (∃ xs zs, H l = some (.lst xs) ∧ H b = some (.lst zs) ∧ xs.length + zs.length ≤ sizeLine ∧ ∀ p, H p = none → Q (.ref p) (upd H p (.lst (xs ++ zs)))) ∨ rCatA K x y H Q
  | _, _ => False
theorem opAdd : OpR X (binaryOp .Add) (rAddA X.K) := by
  intro pins s σ H x y v u Q I rx ry h
  match x, y, h with
  | .int i, .int j, h => exact op_add pins s σ H _ _ v u Q I rx ry ⟨i, j, rfl, rfl, h⟩
  | .str a, .str b, h => exact op_add_str pins s σ H _ _ v u Q I rx ry ⟨a, b, rfl, rfl, h⟩
  | .ref l, .ref b, .inl ⟨xs, zs, h⟩ => exact op_cat pins s σ H _ _ v u Q I rx ry ⟨l, b, xs, zs, rfl, rfl, h⟩
  | .ref l, .ref b, .inr h => exact op_catA pins s σ H _ _ v u Q I rx ry h
/-- s * n of a text -/
def repS (x : Str) (n : Nat) : Str := ⟨(List.replicate n x.cps).foldl (· ++ ·) #[]⟩
theorem fold_cat (c : Array Nat) : ∀ (n : Nat) (a : Array Nat), ((List.replicate n c).foldl (· ++ ·) a).toList = a.toList ++ (List.replicate n c.toList).flatten
  | 0, a => by simp
  | n + 1, a => by
    rw [List.replicate_succ, List.foldl_cons, fold_cat c n, List.replicate_succ, List.flatten_cons]
    simp
theorem repS_list (x : Str) (n : Nat) : (repS x n).cps.toList = (List.replicate n x.cps.toList).flatten := by
  unfold repS
  rw [fold_cat]
  rfl
theorem repS_len (x : Str) (n : Nat) : (repS x n).length = n * x.length := by
  have h : (repS x n).cps.toList.length = n * x.cps.toList.length := by
    rw [repS_list]
    simp
  show (repS x n).cps.size = n * x.cps.size
  simpa using h
def rMulA : R2 := fun x y H Q => match x, y with
  | .int i, .int j => CMul i j ∧ Q (.int (i * j)) H
  | .str a, .int n => 2 ≤ n ∧ n ≤ 1000 ∧ a.length ≠ 0 ∧ a.length ≤ 1000 ∧ Q (.str (repS a n.toNat)) H
  | .ref l, .int k => ∃ xs, H l = some (.lst xs) ∧ -(2 ^ 63) ≤ k ∧ k < 2 ^ 63 ∧ xs.length * k.toNat ≤ sizeLine ∧ ∀ p, H p = none → Q (.ref p) (upd H p (.lst (List.replicate k.toNat xs).flatten))
  | _, _ => False
theorem opMul : OpR X (binaryOp .Mult) rMulA := by
  intro pins s σ H x y v u Q I rx ry h
  match x, y, h with
  | .int i, .int j, h => exact op_mul pins s σ H _ _ v u Q I rx ry ⟨i, j, rfl, rfl, h⟩
  | .ref l, .int k, ⟨xs, h⟩ => exact op_rep pins s σ H _ _ v u Q I rx ry ⟨l, k, xs, rfl, rfl, h⟩
  | .str a, .int n, ⟨n2, n1, a0, a1, q⟩ =>
    obtain ⟨t, rfl⟩ := rx
    obtain ⟨t', rfl⟩ := ry
    have e1 : ¬ n < 1 := by omega
    have e2 : (n == 1 || a.length == 0) = false := by
      rw [Bool.or_eq_false_iff, beq_eq_false_iff_ne, beq_eq_false_iff_ne]
      exact ⟨by omega, a0⟩
    have hs : a.length * n.toNat ≤ 1000 * 1000 := Nat.mul_le_mul a1 (by omega)
    refine PySem.P.mul_str ?_ (fun _ _ => ?_) (fun _ _ => ?_) ?_
    · rw [decide_eq_false (by omega), decide_eq_false (by omega)]; rfl
    · have : (a.length : Int) ≤ (2 ^ 63 - 1) / n := by
        rw [Int.le_ediv_iff_mul_le (by omega)]
        have : ((a.length * n.toNat : Nat) : Int) ≤ 1000 * 1000 := by exact_mod_cast hs
        rw [Int.natCast_mul, Int.toNat_of_nonneg (by omega)] at this
        omega
      omega
    · have := sizeLine_eq
      unfold Builtin.Str.tooLong
      simp
      omega
    · rw [if_neg e1, e2]
      refine ⟨?_, ⟨.str (repS a n.toNat), H, I.tok _, ⟨_, rfl⟩, q⟩⟩
      have e3 := repS_len a n.toNat
      have e4 := sizeLine_eq
      have e5 : n.toNat * a.length ≤ 1000 * 1000 := by rw [Nat.mul_comm]; exact hs
      show (repS a n.toNat).length ≤ sizeLine
      omega
def rEqA (K : PySem.W.Frag) (neg : Bool) : R2 := fun x y H Q => match x, y with
  | .ref a, .ref b => ∃ d e, Dp K H (.ref a) d ∧ Dp K H (.ref b) e ∧ SeqAt.shaped d = true ∧ SeqAt.shaped e = true ∧ Q (.bl (neg ^^ PyData.eqv d e)) H
  | x, y => scal x y = true ∧ Q (.bl (neg ^^ decide (x = y))) H
theorem opEq (hu : X.A.units + 64 < cLine) : OpR X (compareOp .Eq) (rEqA X.K false) := by
  intro pins s σ H x y v u Q I rx ry h
  have sc : scal x y = true → Q (.bl (false ^^ decide (x = y))) H → wpAny (model X.prog X.w) X.A (compareOp .Eq v u) (EP X pins σ Q) X.xe s := fun h1 h2 =>
    op_eq pins s σ H x y v u Q I rx ry ⟨h1, by simpa using h2⟩
  cases x <;> cases y <;> first
    | exact sc h.1 h.2
    | (obtain ⟨d, e, hd, he, sd, se, q⟩ := h; exact op_eqD hu pins s σ H _ _ v u Q I rx ry ⟨d, e, hd, he, sd, se, by simpa using q⟩)
theorem opNe (hu : X.A.units + 64 < cLine) : OpR X (compareOp .NotEq) (rEqA X.K true) := by
  intro pins s σ H x y v u Q I rx ry h
  have sc : scal x y = true → Q (.bl (true ^^ decide (x = y))) H → wpAny (model X.prog X.w) X.A (compareOp .NotEq v u) (EP X pins σ Q) X.xe s := fun h1 h2 =>
    op_ne pins s σ H x y v u Q I rx ry ⟨h1, by simpa using h2⟩
  cases x <;> cases y <;> first
    | exact sc h.1 h.2
    | (obtain ⟨d, e, hd, he, sd, se, q⟩ := h; exact op_neD hu pins s σ H _ _ v u Q I rx ry ⟨d, e, hd, he, sd, se, by simpa using q⟩)
/-- one sign in a text; a flat thing in a list or tuple of flat things -/
def rInA (K : PySem.W.Frag) (neg : Bool) : R2 := fun x y H Q => match x, y with
  | .str c, .str z => ∃ a, c = ⟨#[a]⟩ ∧ Q (.bl (neg ^^ decide (a ∈ z.cps.toList))) H
  | x, .ref p => ∃ xs, (SqL K H p xs ∨ SqT K H p xs) ∧ flatV x = true ∧ xs.all flatV = true ∧ Q (.bl (neg ^^ inV x xs)) H
  | _, _ => False
theorem opIn : OpR X (compareOp .In) (rInA X.K false) := by
  intro pins s σ H x y v u Q I rx ry h
  have sc : ∀ p xs, y = .ref p → (SqL X.K H p xs ∨ SqT X.K H p xs) → flatV x = true → xs.all flatV = true → Q (.bl (false ^^ inV x xs)) H → wpAny (model X.prog X.w) X.A (compareOp .In v u) (EP X pins σ Q) X.xe s := fun p xs e h1 h2 h3 h4 =>
    op_in_seq pins s σ H x y v u Q I rx ry ⟨p, xs, e, h1, h2, h3, by simpa using h4⟩
  cases y with
  | ref p =>
    have h' : ∃ xs, (SqL X.K H p xs ∨ SqT X.K H p xs) ∧ flatV x = true ∧ xs.all flatV = true ∧ Q (.bl (false ^^ inV x xs)) H := by cases x <;> exact h
    obtain ⟨xs, h1, h2, h3, h4⟩ := h'
    exact sc p xs rfl h1 h2 h3 h4
  | str z =>
    cases x with
    | str c =>
      obtain ⟨a, rfl, q⟩ := h
      exact op_in_sign pins s σ H _ _ v u Q I rx ry ⟨a, z, rfl, rfl, by simpa using q⟩
    | _ => exact False.elim h
  | _ => exact False.elim (by cases x <;> exact h)
theorem opNotIn : OpR X (compareOp .NotIn) (rInA X.K true) := by
  intro pins s σ H x y v u Q I rx ry h
  have sc : ∀ p xs, y = .ref p → (SqL X.K H p xs ∨ SqT X.K H p xs) → flatV x = true → xs.all flatV = true → Q (.bl (true ^^ inV x xs)) H → wpAny (model X.prog X.w) X.A (compareOp .NotIn v u) (EP X pins σ Q) X.xe s := fun p xs e h1 h2 h3 h4 =>
    op_notIn_seq pins s σ H x y v u Q I rx ry ⟨p, xs, e, h1, h2, h3, by simpa using h4⟩
  cases y with
  | ref p =>
    have h' : ∃ xs, (SqL X.K H p xs ∨ SqT X.K H p xs) ∧ flatV x = true ∧ xs.all flatV = true ∧ Q (.bl (true ^^ inV x xs)) H := by cases x <;> exact h
    obtain ⟨xs, h1, h2, h3, h4⟩ := h'
    exact sc p xs rfl h1 h2 h3 h4
  | str z =>
    cases x with
    | str c =>
      obtain ⟨a, rfl, q⟩ := h
      exact op_notIn_sign pins s σ H _ _ v u Q I rx ry ⟨a, z, rfl, rfl, by simpa using q⟩
    | _ => exact False.elim h
  | _ => exact False.elim (by cases x <;> exact h)
/-- a cut of a text, a list, a tuple -/
def rSlAny (K : PySem.W.Frag) : V → Option Int → Option Int → Hp → VK → Prop := fun x lo hi H Q => match x with
  | .str z => z.length ≤ sizeLine ∧ Q (.str (cutS z lo hi)) H
  | .ref a => (∃ xs, SqL K H a xs ∧ ∀ p, H p = none → Q (.ref p) (upd H p (.lst (cutV xs lo hi)))) ∨ rSlA K (.ref a) lo hi H Q
  | _ => False
theorem slAny : SlR X (rSlAny X.K) := by
  intro pins s σ H x v vl vu lo hi sl Q I rx hs pl pu q
  match x, q with
  | .str z, q => exact sl_str pins s σ H _ v vl vu lo hi sl Q I rx hs pl pu ⟨z, rfl, q⟩
  | .ref a, .inl ⟨xs, q⟩ => exact sl_list pins s σ H _ v vl vu lo hi sl Q I rx hs pl pu ⟨a, xs, rfl, q⟩
  | .ref a, .inr q => exact sl_tupA pins s σ H _ v vl vu lo hi sl Q I rx hs pl pu q
/-- what a for walks: a list, a tuple, a text -/
def iAny (K : PySem.W.Frag) (te : TE) : TI := fun σ H R => te σ H fun v H1 => match v with
  | .str x => R (Its x) H1
  | .ref a => ((∃ xs, SqL K H1 a xs) ∧ R (Itl K a) H1) ∨ ((∃ xs, SqT K H1 a xs) ∧ R (Itt K a) H1)
  | _ => False
theorem piAny {tg e : Expr} {te : TE} (he : PE X e te) : PI X tg e (iAny X.K te) := by
  refine ⟨fun pins s σ H R I h => thn (he.run pins s σ H _ I h) fun v s1 ⟨x, H1, I1, rx, q⟩ => ?_⟩
  match x, q with
  | .str y, q =>
    obtain ⟨t, rfl⟩ := rx
    cases ha : y.cps.all (· < 128)
    · exact wpAny_pyIter_wide ha (pi_one (tk := s1.toks) I1 _ (turn_str _ y t _ (.inr rfl)) ⟨_, Heap.get?_push_size _ rfl, rfl, rfl⟩ q)
    · exact wpAny_pyIter_ascii ha (pi_one (tk := s1.toks) I1 _ (turn_str _ y t _ (.inl rfl)) ⟨_, Heap.get?_push_size _ rfl, rfl, rfl⟩ q)
  | .ref a, .inl ⟨⟨xs, hq⟩, q⟩ =>
    cases rx
    obtain ⟨its, rv, p, hz⟩ := I1.list hq
    exact wpAny_pyIter_list p.isList (pi_one (tk := s1.toks) I1 _ (turn_list a _) ⟨_, Heap.get?_push_size _ rfl, rfl, rfl⟩ q)
  | .ref a, .inr ⟨⟨xs, hq⟩, q⟩ =>
    cases rx
    obtain ⟨its, rv, p, hz⟩ := I1.tuple hq
    exact wpAny_pyIter_tuple (show s1.heap.IsTuple a its.toArray from p) (pi_one (tk := s1.toks) I1 _ (turn_tuple a _) ⟨_, Heap.get?_push_size _ rfl, rfl, rfl⟩ q)
/-! ### the same, the written part named -/
section
variable {K : PySem.W.Frag}
theorem aAdd (e : X.K = K) : OpR X (binaryOp .Add) (rAddA K) := e ▸ opAdd
theorem aEq (e : X.K = K) (hu : X.A.units + 64 < cLine) : OpR X (compareOp .Eq) (rEqA K false) := e ▸ opEq hu
theorem aNe (e : X.K = K) (hu : X.A.units + 64 < cLine) : OpR X (compareOp .NotEq) (rEqA K true) := e ▸ opNe hu
theorem aIn (e : X.K = K) : OpR X (compareOp .In) (rInA K false) := e ▸ opIn
theorem aNotIn (e : X.K = K) : OpR X (compareOp .NotIn) (rInA K true) := e ▸ opNotIn
theorem aIxL (e : X.K = K) : IxR X (rIxL K) := e ▸ ix_list
theorem aIxT (e : X.K = K) : IxR X (rIxT K) := e ▸ ix_tup
theorem aWalkL (e : X.K = K) {tg l : Expr} {te : TE} (he : PE X l te) : PI X tg l (iList K te) := e ▸ pi_list he
theorem aWalkT (e : X.K = K) {tg l : Expr} {te : TE} (he : PE X l te) : PI X tg l (iTup K te) := e ▸ pi_tup he
theorem aInSeq (e : X.K = K) : OpR X (compareOp .In) (rIn K false) := e ▸ op_in_seq
theorem aNotInSeq (e : X.K = K) : OpR X (compareOp .NotIn) (rIn K true) := e ▸ op_notIn_seq
theorem aEqD (e : X.K = K) (hu : X.A.units + 64 < cLine) : OpR X (compareOp .Eq) (rEqD K) := e ▸ op_eqD hu
theorem aNeD (e : X.K = K) (hu : X.A.units + 64 < cLine) : OpR X (compareOp .NotEq) (rNeD K) := e ▸ op_neD hu
theorem aCatT (e : X.K = K) : OpR X (binaryOp .Add) (rCatA K) := e ▸ op_catA
theorem aSlL (e : X.K = K) : SlR X (rSlL K) := e ▸ sl_list
theorem aSlT (e : X.K = K) : SlR X (rSlA K) := e ▸ sl_tupA
def rLenSeq (K : PySem.W.Frag) : List V → Hp → VK → Prop := fun xs H Q => ∃ p ys, xs = [.ref p] ∧ (SqL K H p ys ∨ SqT K H p ys) ∧ Q (.int ys.length) H
theorem aLenSeq (e : X.K = K) : CallR X (.builtin "len") (rLenSeq K) := e ▸ call_len_seq
def rLenS : List V → Hp → VK → Prop := fun xs H Q => ∃ z : Str, xs = [.str z] ∧ z.length ≤ sizeLine ∧ Q (.int z.length) H
theorem aLenS : CallR X (.builtin "len") rLenS := fun pins s σ H xs us Q I r ⟨z, e, h1, h2⟩ => call_len pins s σ H xs us Q I r ⟨.str z, z.length, e, ⟨h1, rfl⟩, h2⟩
def rMulS : R2 := fun x y H Q => ∃ (a : Str) (n : Int), x = .str a ∧ y = .int n ∧ 2 ≤ n ∧ n ≤ 1000 ∧ a.length ≠ 0 ∧ a.length ≤ 1000 ∧ Q (.str (repS a n.toNat)) H
theorem aMulS : OpR X (binaryOp .Mult) rMulS := fun pins s σ H x y v u Q I rx ry ⟨a, n, ex, ey, h⟩ => by
  subst ex ey
  exact opMul pins s σ H _ _ v u Q I rx ry h
theorem aRev (h : X.K = K) {e : Expr} {te : TE} {k : Nat} {p1 p2 p3 pos : Pos} (he : PE X e te) : PE X (.Subscript e (.Slice none none (some (.UnaryOp .USub (.Constant (.int 1) k p1) p2)) p3) pos) (tRevL K te) := h ▸ pe_revL he
theorem aSl (e : X.K = K) : SlR X (rSlAny K) := e ▸ slAny
theorem aIx (e : X.K = K) : IxR X (rIx K) := e ▸ ix_seq
theorem aWalk (e : X.K = K) {tg l : Expr} {te : TE} (he : PE X l te) : PI X tg l (iAny K te) := e ▸ piAny he
def rLen (K : PySem.W.Frag) : List V → Hp → VK → Prop := fun xs H Q => ∃ x n, xs = [x] ∧ LenV K x H n ∧ Q (.int n) H
theorem aLen (e : X.K = K) : CallR X (.builtin "len") (rLen K) := e ▸ call_len
theorem aIsi (e : X.K = K) : CallR X (.builtin "isinstance") (rIsi K) := e ▸ call_isi
theorem aAll (e : X.K = K) (hc : X.calm = true) : CallR X (.builtin "all") (rAll K) := e ▸ cr_all hc
theorem aAny (e : X.K = K) (hc : X.calm = true) : CallR X (.builtin "any") (rAny K) := e ▸ cr_any hc
theorem aSum (e : X.K = K) (hc : X.calm = true) : CallR X (.builtin "sum") (rSum K) := e ▸ cr_sum hc
def rList (K : PySem.W.Frag) : List V → Hp → VK → Prop := fun xs H Q => ∃ p ys, xs = [.ref p] ∧ (SqL K H p ys ∨ SqT K H p ys) ∧ ∀ l, H l = none → Q (.ref l) (upd H l (.lst ys))
theorem aList (e : X.K = K) : CallR X (.type "list") (rList K) := e ▸ call_list_of
def rTuple (K : PySem.W.Frag) : List V → Hp → VK → Prop := fun xs H Q => ∃ p ys, xs = [.ref p] ∧ ((SqL K H p ys ∧ ∀ l, H l = none → Q (.ref l) (upd H l (.tup ys))) ∨ (SqT K H p ys ∧ Q (.ref p) H))
theorem aTuple (e : X.K = K) : CallR X (.type "tuple") (rTuple K) := e ▸ call_tuple_of
end
end
end Vf
namespace Vf
open PySem L2 PyProof.Rows PySem.Spec
/-! ## the end: the law's def, called where no repr is under way -/
def spLaw (K : PySem.W.Frag) : Sp := fun vs H Q _ => ∃ (a : Addr) (ns : List Int), vs = [.ref a] ∧ SqL K H a (ns.map V.int) ∧ ns.length ≤ 63 ∧ ∀ H', Q (.bl true) H'
section
variable {P : Program} {w : World} {K : PySem.W.Frag} {mg mb : Str → Option Value} {k : Nat} {fa a : Addr} {fd : FuncData} {x : Str} {s₁ : Shared} {vs : List Value} {ns : List Int}
/-- over one abstract heap, in which the script alone may be tracked -/
theorem law_one {H : Hp} (KX : K.In s₁.heap) (glob : s₁.heap.Ns mainGlobals mg) (blt : s₁.heap.Ns builtinsNs mb) (boot : ∀ x : Str, x ≠ "__name__" → mb x = bootBuiltins x) (lim : s₁.heap.NoLimit) (gens : s₁.gens = #[])
    (here : s₁.heap.get? a = some { cls := .type "list", data := .seq vs.toArray }) (room : Room k callerA) (F : ∀ base : Heap, K.In base → base.Ns mainGlobals mg → FnG P w K mg base CX0 k fa fd [x] (spLaw K))
    (bind : ∀ (s : Shared) (u : Value), BindsTo s fd ⟨[u], []⟩ [(x, u)]) (sq : SqL K H a (ns.map V.int)) (short : ns.length ≤ 63) (hok : HOk P w H s₁.heap) (only : ∀ b u, H b = some u → b = a ∧ K.lookup a = none ∧ ∃ xs, u = .frz { cls := .type "list", data := .seq vs.toArray } (.lst xs)) :
    codeAny (model P w) callerA (.call (.ref fa) ⟨[.ref a], []⟩) (fun r s' => r = .ok (.ret (.bool true)) ∧ OldK s₁.heap s'.heap ∧ s'.os = s₁.os ∧ AllBare s'.gens) s₁ := by
  have clear : ∀ {b : Addr} {o : Obj} {es : Array DictEntry} {ep : Nat}, s₁.heap.get? b = some o → o.data = .dict es ep → H b = none := by
    intro b o es ep e d
    cases q : H b with
    | none => rfl
    | some u =>
      obtain ⟨rfl, -⟩ := only b u q
      rw [here] at e
      cases e
      cases d
  have space : ∀ {b : Addr} {m : Str → Option Value}, s₁.heap.Ns b m → (hidT s₁.heap H).Ns b m := by
    rintro b m ⟨o, es, ep, e, d, r⟩
    exact ⟨o, es, ep, hidT_get e (clear e d), d, r⟩
  have frag : K.In (hidT s₁.heap H) := by
    intro b o e
    refine hidT_get (KX b o e) ?_
    cases q : H b with
    | none => rfl
    | some u =>
      obtain ⟨rfl, no, -⟩ := only b u q
      rw [no] at e
      cases e
  obtain ⟨mc, l1, l2⟩ := lim
  have env : Env0 P w K mg (hidT s₁.heap H) callerA [] s₁ H :=
    { frames := rfl, mod := ⟨frag, space glob, ⟨mb, space blt, boot⟩, ⟨mc, space l1, l2⟩⟩, bs := fun b o e => of_hidT e, bsz := Nat.le_of_eq (hidT_size _ _), funs := trivial, frf := fun b z => (List.not_mem_nil z).elim, hok := hok, bare := .of_eq gens }
  refine codeAny_mono ((F _ frag (space glob)).go callerA [] s₁ H ⟨[.ref a], []⟩ [.ref a] [.ref a] (fun v _ => v = .bl true) E0 rfl room env (bind s₁ (.ref a)) (.cons rfl .nil) ⟨a, ns, rfl, sq, short, fun _ => rfl⟩) fun r s' h => ?_
  rcases r with _ | fl
  · exact h.elim
  · cases fl with
    | next => exact h.elim
    | brk => exact h.elim
    | cont => exact h.elim
    | ret u =>
      obtain ⟨v, H', os, bare, un, hok', rv, ev⟩ := h
      cases ev
      cases rv
      refine ⟨rfl, .of_keep fun b o e => ?_, os, bare⟩
      cases q : H b with
      | none => exact un.keep b o e q (fun z => (List.not_mem_nil z).elim) (fun z => (List.not_mem_nil z).elim)
      | some u =>
        obtain ⟨rfl, -, xs, rfl⟩ := only b u q
        rw [here] at e
        cases e
        exact (hok' b _ (un.frzs b _ _ q)).1
theorem law_callG (KX : K.In s₁.heap) (glob : s₁.heap.Ns mainGlobals mg) (blt : s₁.heap.Ns builtinsNs mb) (boot : ∀ x : Str, x ≠ "__name__" → mb x = bootBuiltins x) (lim : s₁.heap.NoLimit) (gens : s₁.gens = #[])
    (here : s₁.heap.get? a = some { cls := .type "list", data := .seq vs.toArray }) (whole : IntsAre vs ns) (short : ns.length ≤ 63) (room : Room k callerA) (F : ∀ base : Heap, K.In base → base.Ns mainGlobals mg → FnG P w K mg base CX0 k fa fd [x] (spLaw K))
    (bind : ∀ (s : Shared) (u : Value), BindsTo s fd ⟨[u], []⟩ [(x, u)]) :
    codeAny (model P w) callerA (.call (.ref fa) ⟨[.ref a], []⟩) (fun r s' => r = .ok (.ret (.bool true)) ∧ OldK s₁.heap s'.heap ∧ s'.os = s₁.os ∧ AllBare s'.gens) s₁ := by
  have small : ns.length ≤ sizeLine := by
    rw [sizeLine_eq]
    omega
  have same := whole.length
  cases q : K.lookup a with
  | some o =>
    have e := KX a o q
    rw [here] at e
    cases e
    exact law_one (H := fun _ => none) KX glob blt boot lim gens here room F bind (.inr ⟨_, vs.toArray, _, q, rfl, rfl, rfl, by rw [List.size_toArray, same]; exact small, by simpa using vals_ints whole⟩) short (fun b u z => nomatch z) (fun b u z => nomatch z)
  | none =>
    let H : Hp := upd (fun _ => none) a (.frz { cls := .type "list", data := .seq vs.toArray } (.lst (ns.map V.int)))
    have only : ∀ b u, H b = some u → b = a ∧ u = .frz { cls := .type "list", data := .seq vs.toArray } (.lst (ns.map V.int)) := by
      intro b u z
      by_cases e : b = a
      · subst e
        exact ⟨rfl, (Option.some.inj (upd_same.symm.trans z)).symm⟩
      · have z' := (upd_ne (H := fun _ => none) (o := .frz { cls := .type "list", data := .seq vs.toArray } (.lst (ns.map V.int))) e).symm.trans z
        cases z'
    refine law_one (H := H) KX glob blt boot lim gens here room F bind (.inl (.inr ⟨_, upd_same⟩)) short (fun b u z => ?_) (fun b u z => ?_)
    · obtain ⟨rfl, rfl⟩ := only b u z
      exact ⟨here, by rw [List.length_map]; exact small, vs, _, vals_ints whole, here⟩
    · obtain ⟨rfl, rfl⟩ := only b u z
      exact ⟨rfl, q, _, rfl⟩
end
theorem walk_ofG {l : PySem.W.OpenLaw} {k : Nat} {q : Program} {loose : List Str} {XP : (Str → Option Value) → Heap → Prop} {YP : World → Heap → Prop} {d : DefRec} {K : Params → PySem.W.Frag} {x : Str}
    (most : l.most = some 63) (plain : d.params.defaults = []) (room : Room k callerA) (hY : ∀ (w : World) (h : Heap), YP w h → (K w.params).In h)
    (F : ∀ (w : World) (mg : Str → Option Value) (fa : Addr) (h : Heap), (K w.params).In h → h.Ns mainGlobals mg → mg d.name = some (.ref fa) →
      ∃ fd : FuncData, (∀ (s : Shared) (u : Value), BindsTo s fd ⟨[u], []⟩ [(x, u)]) ∧ ∀ base : Heap, (K w.params).In base → base.Ns mainGlobals mg → FnG l.prog w (K w.params) mg base CX0 k fa fd [x] (spLaw (K w.params))) :
    PySem.W.WalkO q loose XP YP l.row.toRowW d [] (fun f vs => PySem.call f vs) := by
  refine Att.attach_call most plain fun w s₀ s₁ mg mb fa o pm cd doc a vs ns G Y ho hd hcd hmg here whole short gens => ?_
  obtain ⟨fd, bind, hF⟩ := F w mg fa _ (hY w _ Y) G.T.g hmg
  exact law_callG (hY w _ Y) G.T.g G.T.b G.T.builtins G.T.nolimit gens here whole short room hF bind
end Vf
namespace Vf
open PySem L2 PyProof.Rows PySem.Spec
/-! ## walks over known items -/
structure Steps (J : It) (xs : List V) (G : Hp → Prop) : Prop where
  stop : ∀ H, G H → J.stop xs.length H
  go : ∀ i H, i < xs.length → G H → J.go i H
  yld : ∀ i H x H', i < xs.length → G H → J.yld i H x H' → xs[i]? = some x ∧ H' = H
theorem steps_list (K : PySem.W.Frag) (a : Addr) (xs : List V) : Steps (Itl K a) xs (fun H => SqL K H a xs) where
  stop := fun H g => ⟨xs, g, Nat.le_refl _⟩
  go := fun i H h g => ⟨xs, xs[i], g, by simp [h]⟩
  yld := fun i H x H' h g y => by
    obtain ⟨e, f⟩ := y
    exact ⟨f xs g, e⟩
theorem steps_tup (K : PySem.W.Frag) (a : Addr) (xs : List V) : Steps (Itt K a) xs (fun H => SqT K H a xs) where
  stop := fun H g => ⟨xs, g, Nat.le_refl _⟩
  go := fun i H h g => ⟨xs, xs[i], g, by simp [h]⟩
  yld := fun i H x H' h g y => by
    obtain ⟨e, f⟩ := y
    exact ⟨f xs g, e⟩
def signs (z : Str) : List V := z.cps.toList.map fun c => .str ⟨#[c]⟩
theorem signs_len (z : Str) : (signs z).length = z.cps.size := by simp [signs]
theorem steps_str (z : Str) : Steps (Its z) (signs z) (fun _ => True) where
  stop := fun H g => by
    show z.cps.size ≤ _
    rw [signs_len]
    exact Nat.le_refl _
  go := fun i H h g => by
    rw [signs_len] at h
    exact h
  yld := fun i H x H' h g y => by
    obtain ⟨e, c, hc, rfl⟩ := y
    refine ⟨?_, e⟩
    unfold signs
    rw [List.getElem?_map, Array.getElem?_toList, hc]
    rfl
def wholes (lo : Int) (n : Nat) : List V := (List.range n).map fun i => .int (lo + (i : Nat))
theorem wholes_len (lo : Int) (n : Nat) : (wholes lo n).length = n := by simp [wholes]
theorem steps_range (lo : Int) (n : Nat) : Steps (Itr lo n) (wholes lo n) (fun _ => True) where
  stop := fun H g => by
    show n ≤ _
    rw [wholes_len]
    exact Nat.le_refl _
  go := fun i H h g => by
    rw [wholes_len] at h
    exact h
  yld := fun i H x H' h g y => by
    rw [wholes_len] at h
    obtain ⟨e, rfl⟩ := y
    refine ⟨?_, e⟩
    unfold wholes
    rw [List.getElem?_map, List.getElem?_range h]
    rfl
section
variable {J : It} {xs : List V} {G : Hp → Prop} {D : Ends} {σ : L2.St} {H : Hp} {tb : TS} {g : TG}
/-- a for over known items -/
theorem for_steps (S : Steps J xs G) (Pv : Nat → L2.St → Hp → Prop) (h0 : Pv 0 σ H) (hl : ∀ i σ H, i ≤ xs.length → Pv i σ H → G H)
    (hs : ∀ i x σ H, xs[i]? = some x → Pv i σ H → g x σ H fun σ2 H2 => tb { D with nx := Pv (i + 1), ct := Pv (i + 1), bk := D.nx } σ2 H2) (hd : ∀ σ H, Pv xs.length σ H → D.nx σ H) :
    ∃ W : Nat → Nat → L2.St → Hp → Prop, (∃ m, W 0 m σ H) ∧ ∀ i m σ H, W i m σ H → (J.stop i H ∧ D.nx σ H) ∨
      (J.go i H ∧ ∃ N : L2.St → Hp → Prop, (∀ σ' H', N σ' H' → ∃ m', m' < m ∧ W (i + 1) m' σ' H') ∧ ∀ x H', J.yld i H x H' → g x σ H' fun σ2 H2 => tb { D with nx := N, ct := N, bk := D.nx } σ2 H2) := by
  refine ⟨fun i m σ H => i + m = xs.length ∧ Pv i σ H, ⟨xs.length, Nat.zero_add _, h0⟩, ?_⟩
  rintro i m σ H ⟨em, p⟩
  have gH := hl i σ H (by omega) p
  cases m with
  | zero =>
    have e : i = xs.length := by omega
    subst e
    exact .inl ⟨S.stop H gH, hd σ H p⟩
  | succ m =>
    have hi : i < xs.length := by omega
    refine .inr ⟨S.go i H hi gH, Pv (i + 1), fun σ' H' p' => ⟨m, Nat.lt_succ_self _, by omega, p'⟩, fun x H' y => ?_⟩
    obtain ⟨ex, rfl⟩ := S.yld i H x H' hi gH y
    exact hs i x σ _ ex p
variable {j : Nat} {tt : TT} {te : TE} {vs : List Nat} {L : Addr} {Qd : Hp → Prop}
/-- a comprehension over known items -/
theorem lc_steps (S : Steps J xs G) (Pv : Nat → Hp → Prop) (h0 : Pv 0 (upd H L (.lst []))) (hl : ∀ i H, i ≤ xs.length → Pv i H → G H)
    (hs : ∀ i x H, xs[i]? = some x → Pv i H → g x (wipe σ vs) H fun σ2 H2 => wipe σ2 vs = wipe σ vs ∧ tt σ2 H2 fun b H3 =>
      if b = true then te σ2 H3 fun y H4 => ∃ acc, H4 L = some (.lst acc) ∧ acc.length < sizeLine ∧ Pv (i + 1) (upd H4 L (.lst (acc ++ [y]))) else Pv (i + 1) H3) (hd : ∀ H, Pv xs.length H → Qd H) :
    ∃ W : Nat → Nat → Hp → Prop, (∃ m, W 0 m (upd H L (.lst []))) ∧ ∀ i m H, W i m H → (J.stop i H ∧ Qd H) ∨
      (J.go i H ∧ ∃ Nx : Hp → Prop, (∀ H', Nx H' → ∃ m', m' < m ∧ W (i + 1) m' H') ∧ ∀ x H', J.yld i H x H' → g x (wipe σ vs) H' fun σ2 H2 => wipe σ2 vs = wipe σ vs ∧ tt σ2 H2 fun b H3 =>
        if b = true then te σ2 H3 fun y H4 => ∃ acc, H4 L = some (.lst acc) ∧ acc.length < sizeLine ∧ Nx (upd H4 L (.lst (acc ++ [y]))) else Nx H3) := by
  refine ⟨fun i m H => i + m = xs.length ∧ Pv i H, ⟨xs.length, Nat.zero_add _, h0⟩, ?_⟩
  rintro i m H ⟨em, p⟩
  have gH := hl i H (by omega) p
  cases m with
  | zero =>
    have e : i = xs.length := by omega
    subst e
    exact .inl ⟨S.stop H gH, hd H p⟩
  | succ m =>
    have hi : i < xs.length := by omega
    refine .inr ⟨S.go i H hi gH, Pv (i + 1), fun H' p' => ⟨m, Nat.lt_succ_self _, by omega, p'⟩, fun x H' y => ?_⟩
    obtain ⟨ex, rfl⟩ := S.yld i H x H' hi gH y
    exact hs i x _ ex p
/-- .. whose test and element change nothing -/
theorem lc_pure (S : Steps J xs G) (p : V → Bool) (f : V → V) (hG : ∀ acc, G (upd H L (.lst acc))) (hz : xs.length ≤ sizeLine) (hw : ∀ x, wipe ((wipe σ vs).set j (some x)) vs = wipe σ vs)
    (ht : ∀ x ∈ xs, ∀ (acc : List V) (R : Bool → Hp → Prop), R (p x) (upd H L (.lst acc)) → tt ((wipe σ vs).set j (some x)) (upd H L (.lst acc)) R)
    (he : ∀ x ∈ xs, p x = true → ∀ (acc : List V) (R : VK), R (f x) (upd H L (.lst acc)) → te ((wipe σ vs).set j (some x)) (upd H L (.lst acc)) R) (hd : Qd (upd H L (.lst ((xs.filter p).map f)))) :
    ∃ W : Nat → Nat → Hp → Prop, (∃ m, W 0 m (upd H L (.lst []))) ∧ ∀ i m H, W i m H → (J.stop i H ∧ Qd H) ∨
      (J.go i H ∧ ∃ Nx : Hp → Prop, (∀ H', Nx H' → ∃ m', m' < m ∧ W (i + 1) m' H') ∧ ∀ x H', J.yld i H x H' → gName j x (wipe σ vs) H' fun σ2 H2 => wipe σ2 vs = wipe σ vs ∧ tt σ2 H2 fun b H3 =>
        if b = true then te σ2 H3 fun y H4 => ∃ acc, H4 L = some (.lst acc) ∧ acc.length < sizeLine ∧ Nx (upd H4 L (.lst (acc ++ [y]))) else Nx H3) := by
  refine lc_steps S (fun i H' => H' = upd H L (.lst (((xs.take i).filter p).map f))) rfl (fun i H' _ e => e ▸ hG _) (fun i x H' hx e => ?_) (fun H' e => ?_)
  · subst e
    have hi : i < xs.length := (List.getElem?_eq_some_iff.mp hx).1
    have hm := List.mem_of_getElem? hx
    refine ⟨hw x, ht x hm _ _ ?_⟩
    have et : xs.take (i + 1) = xs.take i ++ [x] := by rw [List.take_add_one, hx]; rfl
    have hlen : (((xs.take i).filter p).map f).length < sizeLine := by
      rw [List.length_map]
      have h1 := List.length_filter_le p (xs.take i)
      rw [List.length_take] at h1
      omega
    cases hp : p x with
    | true =>
      rw [if_pos rfl]
      refine he x hm hp _ _ ⟨_, upd_same, hlen, ?_⟩
      rw [upd_upd, et, List.filter_append, List.map_append]
      simp [hp]
    | false =>
      rw [if_neg (by decide), et, List.filter_append, List.map_append]
      simp [hp]
  · subst e
    rw [List.take_length]
    exact hd
end
theorem same_upd {H : Hp} {p : Addr} {o : HO} (h : H p = none) : Same H (upd H p o) := fun b u e => by
  rw [upd_ne (ne_of_none e h)]
  exact e
theorem seqL_upd {K : PySem.W.Frag} {H : Hp} {p a : Addr} {o : HO} {xs : List V} (h : H p = none) (s : SqL K H a xs) : SqL K (upd H p o) a xs := (same_upd h).seq s
end Vf
namespace Vf
open PySem L2 PyProof.Rows PySem.Spec
def top (i : Nat) : Stmt := PySem.Challenge.pw_poisonrules_k01_what_are_names.main.body.getD i (.Pass ⟨0, 0, 0, 0⟩)
structure Tx (K : PySem.W.Frag) (mg : Str → Option Value) : Prop where
  isinstance : mg "isinstance" = none
  str : mg "str" = none
  len : mg "len" = none
  all : mg "all" = none
  sum : mg "sum" = none
  list : mg "list" = none
  range : mg "range" = none
  repr : mg "repr" = none
local macro_rules | `(tactic| walk_at "rd") => `(tactic| simp only [tSeq, tIfS, tOr, tAnd, tNot, tB, tTest, tChain, tCB, tCons, tNil, tVar, tC, tRet, tAndV, tOrV, tNotV, tOp, tNext, tDrop, tAsg, tPar, tYes, tIf, tCall, tCalK, tTup, tLst, tSl, tNoPart, tPart, tM0, tM1, tRevL, tBM0, tBM, gName, rI0, rI, rU, rInA, rEqA, rAddA, rMulA, rSlAny, iAny, rIsi, rAll, rAny, rSum, rList, rTuple, rLen, rLenS, rLenSeq, rMulS, CDiv, rIn, rEqD, rNeD, iList, iTup, iStr, rCat, rCatA, rSlL, rSlA, rSlS, gSub, rPop, rAppend, rSetL, rIx, rIxL, rIxT, rIxS, LenV,
  L2.start, List.map_cons, List.map_nil, List.length_cons, List.length_nil, List.cons_append, List.nil_append, List.append_nil, Nat.zero_add, Nat.add_sub_cancel, Nat.sub_self, List.replicate_succ, List.replicate_zero, List.getElem?_cons_zero, List.getElem?_cons_succ, List.set_cons_zero, List.set_cons_succ,
  Option.some.injEq, V.int.injEq, V.str.injEq, V.bl.injEq, V.ref.injEq, List.cons.injEq, and_true, true_and, exists_eq_left', exists_eq_left, exists_eq_right, exists_and_left, exists_and_right, false_or, or_false, reduceCtorEq, false_and, and_false, exists_false, Bool.not_true, Bool.not_false, if_true, if_false, Bool.false_eq_true, ite_true, ite_false])
def kept : List Str := ["and", "below", "choice", "copy", "froze", "if", "in", "left", "less", "not", "or", "out", "quot", "rest", "right", "rule", "same", "sum", "times", "to", "twice", "under", "unlike", "width", "xor"]
def abc : Str := "abcdefghijklmnopqrstuvwxyz"
/-- is it a name: by the program's words -/
def isName (x : V) : Bool := match x with
  | .str s => decide (1 ≤ s.length) && decide (s.length ≤ 8) && !inV x (kept.map V.str) && s.cps.toList.all fun c => decide (c ∈ abc.cps.toList)
  | _ => false
def inAbc (x : V) : V := match x with
  | .str s => .bl (decide (s.cps.toList.headD 0 ∈ abc.cps.toList))
  | _ => .non
theorem inAbc_sign (c : Nat) : inAbc (.str ⟨#[c]⟩) = .bl (decide (c ∈ abc.cps.toList)) := rfl
theorem inAbc_all (z : Str) : ((signs z).filter fun _ => true).map inAbc = (z.cps.toList.map fun c => decide (c ∈ abc.cps.toList)).map V.bl := by
  rw [List.filter_eq_self.mpr fun _ _ => rfl]
  unfold signs
  rw [List.map_map, List.map_map]
  rfl
/-- a thing that may be asked: its kind is known -/
def Kind (K : PySem.W.Frag) (H : Hp) (x : V) : Prop := ∃ n : String, TyX K H x (.type n) ∧ (match x with | .str s => n = "str" ∧ s.length ≤ 1000 ∧ PyData.strOk s = true | _ => kitB n "str" = some false)
section
variable {P : Program} {w : World} {K : PySem.W.Frag} {mg : Str → Option Value} {base : Heap}
def spIsName (K : PySem.W.Frag) : Sp := fun vs H Q _ => ∃ (x : V), vs = [x] ∧ Kind K H x ∧ ∀ H', Same H H' → Q (.bl (isName x)) H'
abbrev s_is_name : Stmt := top 3
theorem sc_is_name : FnScope ["thing", "sign"] ["thing"] (defScope s_is_name) := ⟨rfl, rfl, rfl, by decide +kernel, rfl, by decide +kernel, by decide +kernel⟩
theorem fn_is_name {f : Addr} {fd : FuncData} (D : Df K mg "is_name" s_is_name f fd) (T : Tx K mg) {aKEPT : Addr} (mKEPT : mg "KEPT" = some (.ref aKEPT)) (tKEPT : ∀ H, SqT K H aKEPT (kept.map V.str)) {tLETTERS : Tok} (mLETTERS : mg "LETTERS" = some (.str "abcdefghijklmnopqrstuvwxyz" tLETTERS)) : FnG P w K mg base CX0 1 f fd ["thing"] (spIsName K) := by
  refine D.fnG sc_is_name (fun vs H Q E h => ?_) (fun cdv A outer s H vs Q E hgu hr h => ?_)
  · obtain ⟨x, rfl, _⟩ := h
    rfl
  · obtain ⟨x, rfl, ⟨n, ty, hn⟩, hx⟩ := h
    refine ⟨_, (pss_cons (ps_if (PW.pt (pw_or (pt_not (pt_val (pe_callB (aIsi (K := K) rfl) (by rfl) T.isinstance (by decide +kernel) (pa_cons (pv 0) (pa_cons (pe_bltn (v := .ty "str") (by rfl) T.str (by decide +kernel) rfl) pa_nil))))) (pw_or1 (pt_not (pt_chain op_le op_le pe_int (pe_callB (aLen (K := K) rfl) (by rfl) T.len (by decide +kernel) (pa_cons (pv 0) pa_nil)) pe_int))))) (pss_one (ps_ret pe_bl)) pss_nil) (pss_one (ps_ret (pe_and (pe_cmpR (aNotInSeq (K := K) rfl) (pv 0) (pe_glob (v := .ref aKEPT) rfl mKEPT rfl) (by rfl)) (pe_one (pe_callB (aAll (K := K) rfl rfl) (by rfl) T.all (by decide +kernel) (pa_cons (pe_lc (own := [("sign", 1)]) (g := gName 1) (tt := tYes) (by rfl) sc_is_name.nd (aWalk (K := K) rfl (pv 0)) (blkOk_by (own := [("sign", 1)]) (N := ["thing", "sign"]) (sc := defScope s_is_name) (by decide +kernel)) (fun _ _ _ _ _ => (pg_name (i := 1) sc_is_name.nd rfl (Or.inl rfl))) (fun _ _ _ _ _ => pts_nil) (fun _ _ _ _ _ => (pe_cmpR op_in_sign (pv 1) (pe_glob (v := .str "abcdefghijklmnopqrstuvwxyz") rfl mLETTERS ⟨_, rfl⟩) (by rfl)))) pa_nil))))))), ?_⟩
    walk_at "rd"
    have notStr : isName x = false → kitB n "str" = some false → ∃ x_1 c, (x = x_1 ∧ V.ty "str" = c) ∧ ∃ x_2 x_3, ClsV c x_3 ∧ TyX K H x_1 x_2 ∧ W.kitOne K x_2 x_3 = some false ∧ Q (V.bl false) H := fun e k =>
      ⟨x, _, ⟨rfl, rfl⟩, .type n, _, .ty "str", ty, kit_ty k, by have q := hx H (Same.refl H); rw [e] at q; exact q⟩
    cases x with
    | str z =>
      obtain ⟨rfl, hz, -⟩ := hn
      have line := sizeLine_eq
      refine ⟨_, _, ⟨rfl, rfl⟩, .type "str", _, .ty "str", ty, true, kit_ty (by decide +kernel), ?_⟩
      rw [if_neg (by decide)]
      refine ⟨z.length, ⟨by omega, rfl⟩, ?_⟩
      have q0 := hx H (Same.refl H)
      by_cases h1 : 1 ≤ z.length
      · rw [if_pos (decide_eq_true (by omega))]
        by_cases h8 : z.length ≤ 8
        · rw [if_neg (by rw [decide_eq_true (by omega)]; decide)]
          refine ⟨kept.map V.str, .inr (tKEPT H), rfl, by decide +kernel, ?_⟩
          cases hk : inV (.str z) (kept.map V.str) with
          | true =>
            rw [if_neg (by decide)]
            have e : isName (.str z) = false := by simp [isName, hk]
            rw [e] at q0
            exact q0
          | false =>
            rw [if_pos (by decide)]
            refine ⟨.str z, rfl, fun D hD => lc_pure (steps_str z) (fun _ => true) inAbc (fun _ => trivial) (by rw [signs_len]; show z.length ≤ _; omega) ?_ ?_ ?_ ?_⟩
            · exact fun _ => rfl
            · exact fun x _ acc R r => r
            · intro x hm _ acc R r
              obtain ⟨c, hc, rfl⟩ := List.mem_map.mp hm
              exact ⟨_, rfl, c, rfl, _, rfl, r⟩
            · refine ⟨D, rfl, z.cps.toList.map fun c => decide (c ∈ abc.cps.toList), .of (by rw [upd_same, inAbc_all]), ?_⟩
              have e : isName (.str z) = (z.cps.toList.map fun c => decide (c ∈ abc.cps.toList)).all id := by
                simp [isName, hk, h1, h8]
              have q1 := hx (upd H D (.lst (((signs z).filter fun _ => true).map inAbc))) (same_upd hD)
              rw [e] at q1
              exact q1
        · rw [if_pos (by rw [decide_eq_false (by omega)]; decide)]
          have e : isName (.str z) = false := by simp [isName, h8]
          rw [e] at q0
          exact q0
      · rw [if_neg (by rw [decide_eq_false (by omega)]; decide)]
        have e : isName (.str z) = false := by simp [isName, h1]
        rw [e] at q0
        exact q0
    | _ =>
      obtain ⟨x1, c, e, x2, x3, h1, h2, h3, h4⟩ := notStr rfl hn
      exact ⟨x1, c, e, x2, x3, h1, h2, false, h3, iteT h4⟩
end
end Vf
namespace Vf
open PySem L2 PyProof.Rows PySem.Spec

local macro_rules | `(tactic| walk_at "rd") => `(tactic| simp only [tSeq, tIfS, tOr, tAnd, tNot, tB, tTest, tChain, tCB, tCons, tNil, tVar, tC, tRet, tAndV, tOrV, tNotV, tOp, tNext, tDrop, tAsg, tPar, tYes, tIf, tCall, tCalK, tTup, tLst, tSl, tNoPart, tPart, tM0, tM1, tRevL, tBM0, tBM, gName, rI0, rI, rU, rInA, rEqA, rAddA, rMulA, rSlAny, iAny, rIsi, rAll, rAny, rSum, rList, rTuple, rLen, rLenS, rLenSeq, rMulS, CDiv, rIn, rEqD, rNeD, iList, iTup, iStr, rCat, rCatA, rSlL, rSlA, rSlS, gSub, rPop, rAppend, rSetL, rIx, rIxL, rIxT, rIxS, LenV,
  L2.start, List.map_cons, List.map_nil, List.length_cons, List.length_nil, List.cons_append, List.nil_append, List.append_nil, Nat.zero_add, Nat.add_sub_cancel, Nat.sub_self, List.replicate_succ, List.replicate_zero, List.getElem?_cons_zero, List.getElem?_cons_succ, List.set_cons_zero, List.set_cons_succ,
  Option.some.injEq, V.int.injEq, V.str.injEq, V.bl.injEq, V.ref.injEq, List.cons.injEq, and_true, true_and, exists_eq_left', exists_eq_left, exists_eq_right, exists_and_left, exists_and_right, false_or, or_false, reduceCtorEq, false_and, and_false, exists_false, Bool.not_true, Bool.not_false, if_true, if_false, Bool.false_eq_true, ite_true, ite_false])
/-- a deck: its own list of what is left, its sum, its turn -/
structure Deck (H : Hp) (d c : Addr) : Prop where
  ne : c ≠ d
  own : ∃ t n : Int, H d = some (.lst [.ref c, .int t, .int n])
  cells : ∃ ns : List Int, H c = some (.lst (ns.map V.int)) ∧ ns.length ≤ 63
/-- all but the deck stays -/
def Sv (d c : Addr) (H H' : Hp) : Prop := ∀ b o, H b = some o → b ≠ d → b ≠ c → H' b = some o
theorem ne_upd {H : Hp} {p a : Addr} {o u : HO} (h : H p = none) (e : H a = some o) : (upd H p u) a = some o := same_upd h _ _ e
theorem dp_ints {K : PySem.W.Frag} {H : Hp} : ∀ ns : List Int, DpAll K H (ns.map V.int) (ns.map PyData.int)
  | [] => .nil
  | n :: ns => .cons (.int n) (dp_ints ns)
theorem list_end {α : Type} (l : List α) : l = [] ∨ ∃ r z, l = r ++ [z] := by
  rcases List.eq_nil_or_concat l with e | ⟨r, z, e⟩
  · exact .inl e
  · exact .inr ⟨r, z, by rw [e, List.concat_eq_append]⟩
theorem lay_ints : ∀ ns : List Int, PyData.canLayAll0 (ns.map PyData.int) = true ∧ PyData.depthAll (ns.map PyData.int) = 0
  | [] => ⟨rfl, rfl⟩
  | n :: ns => by
    obtain ⟨h1, h2⟩ := lay_ints ns
    simp [PyData.canLayAll0, PyData.canLay0, PyData.depthAll, PyData.depth, h1, h2]
theorem shaped_ints (ns : List Int) : SeqAt.shaped (.list (ns.map PyData.int)) = true := by
  obtain ⟨h1, h2⟩ := lay_ints ns
  simp [SeqAt.shaped, PyData.canLay0, PyData.depth, h1, h2]
theorem Sv.refl (d c : Addr) (H : Hp) : Sv d c H H := fun _ _ e _ _ => e
theorem Sv.trans {d c : Addr} {H H1 H2 : Hp} (a : Sv d c H H1) (b : Sv d c H1 H2) : Sv d c H H2 := fun x o e n1 n2 => b x o (a x o e n1 n2) n1 n2
theorem Sv.new {d c p : Addr} {H H1 : Hp} {o : HO} (a : Sv d c H H1) (n : H1 p = none) : Sv d c H (upd H1 p o) := fun x u e n1 n2 => same_upd n _ _ (a x u e n1 n2)
theorem Sv.deck {d c : Addr} {H H1 : Hp} {o : HO} (a : Sv d c H H1) : Sv d c H (upd H1 d o) := fun x u e n1 n2 => by
  rw [upd_ne n1]
  exact a x u e n1 n2
theorem Sv.cell {d c : Addr} {H H1 : Hp} {o : HO} (a : Sv d c H H1) : Sv d c H (upd H1 c o) := fun x u e n1 n2 => by
  rw [upd_ne n2]
  exact a x u e n1 n2
theorem Same.sv {d c : Addr} {H H1 : Hp} (a : Same H H1) : Sv d c H H1 := fun x u e _ _ => a x u e
section
variable {P : Program} {w : World} {K : PySem.W.Frag} {mg : Str → Option Value} {base : Heap}
def spDraw : Sp := fun vs H Q _ => ∃ (d c : Addr) (m : Int), vs = [.ref d, .int m] ∧ Deck H d c ∧ 0 < m ∧ m < 1073741824 ∧ ∀ (r : Int) (H' : Hp), 0 ≤ r → r < m → Deck H' d c → Sv d c H H' → Q (.int r) H'
abbrev s__law_draw : Stmt := top 6
theorem sc__law_draw : FnScope ["_law_deck_here", "_law_many", "_law_cell", "_law_mixed"] ["_law_deck_here", "_law_many"] (defScope s__law_draw) := ⟨rfl, rfl, rfl, by decide +kernel, rfl, by decide +kernel, by decide +kernel⟩
theorem ok__law_draw {f : Addr} {fd : FuncData} (D : Df K mg "_law_draw" s__law_draw f fd) (T : Tx K mg) : Cal P w K mg base "_law_draw" ["_law_deck_here", "_law_many"] 1 spDraw := by
  refine D.cal sc__law_draw (fun vs H Q E h => ?_) (fun _ _ _ _ _ _ us hl => match us, hl with | [_, _], _ => rfl) (fun cdv A outer s H vs Q E hgu hr h => ?_)
  · obtain ⟨d, c, m, rfl, _⟩ := h
    rfl
  · obtain ⟨d, c, m, rfl, ⟨ne, ⟨t, n, hd⟩, ⟨ns, hc, hn⟩⟩, m0, m1, q⟩ := h
    refine ⟨_, (pss_cons (ps_asg (pe_op op_add (pe_ix (aIxL (K := K) rfl) (pv 0) pe_int (fun _ _ => rfl)) pe_int) (pg_sub (pv 0) pe_int set_list)) (pss_cons (ps_set (i := 2) sc__law_draw.nd rfl (by first | exact Or.inl rfl | exact Or.inr rfl) (pe_ix (aIxL (K := K) rfl) (pv 0) pe_int (fun _ _ => rfl))) (pss_cons (ps_if (pt_cmpR (aNeD (K := K) rfl hr.units) (pe_ix (aIxL (K := K) rfl) (pv 0) pe_int (fun _ _ => rfl)) (pe_lst pa_nil) (by rfl)) (pss_cons (ps_set (i := 2) sc__law_draw.nd rfl (by first | exact Or.inl rfl | exact Or.inr rfl) (pe_bm0 PySem.F.plainAttrs_list PySem.F.slot_list_pop PySem.F.type_list_pop mt_pop (pe_ix (aIxL (K := K) rfl) (pv 0) pe_int (fun _ _ => rfl)))) (pss_one (ps_if (pt_cmpR op_ge (pv 2) (pe_op op_pow pe_int pe_int) (by rfl)) (pss_cons (ps_expr (pe_bm PySem.F.plainAttrs_list PySem.F.slot_list_append PySem.F.type_list_append mt_append (pe_ix (aIxL (K := K) rfl) (pv 0) pe_int (fun _ _ => rfl)) (pa_cons (pe_op op_fdiv (pv 2) (pv 1)) pa_nil))) (pss_one (ps_ret (pe_op op_mod (pv 2) (pv 1))))) pss_nil))) pss_nil) (pss_cons (ps_set (i := 3) sc__law_draw.nd rfl (by first | exact Or.inl rfl | exact Or.inr rfl) (pe_op op_mod (pe_op op_mul (pe_op op_add (pe_op op_add (pe_op op_mod (pv 2) pe_int) (pe_op op_mul pe_int (pe_ix (aIxL (K := K) rfl) (pv 0) pe_int (fun _ _ => rfl)))) pe_int) pe_int) pe_int)) (pss_cons (ps_set (i := 3) sc__law_draw.nd rfl (by first | exact Or.inl rfl | exact Or.inr rfl) (pe_op op_mod (pe_op op_add (pe_op op_add (pe_op op_mul (pv 3) (pv 3)) (pe_op op_mul pe_int (pe_ix (aIxL (K := K) rfl) (pv 0) pe_int (fun _ _ => rfl)))) pe_int) pe_int)) (pss_one (ps_ret (pe_op op_mod (pe_op op_fdiv (pe_op op_mod (pe_op op_add (pe_op op_mul (pv 3) (pv 3)) (pe_op op_mul pe_int (pv 3))) pe_int) pe_int) (pv 1))))))))), ?_⟩
    walk_at "rd"
    refine ⟨_, .of hd, .int n, rfl, n, rfl, _, hd, 2, rfl, _, .of upd_same, .int t, rfl, _, .of upd_same, .ref c, rfl, Nat.zero_le _, fun p hp => ?_⟩
    change upd H d (.lst [V.ref c, .int t, .int (n + 1)]) p = none at hp
    have hc1 : (upd H d (.lst [V.ref c, .int t, .int (n + 1)])) c = some (.lst (ns.map V.int)) := by rw [upd_ne ne]; exact hc
    have hc2 := ne_upd (u := .lst []) hp hc1
    have hd2 := ne_upd (u := .lst []) hp (upd_same (H := H) (a := d) (o := .lst [V.ref c, .int t, .int (n + 1)]))
    have npc : p ≠ c := fun e => by rw [e, hc1] at hp; cases hp
    have npd : p ≠ d := fun e => by rw [e, upd_same] at hp; cases hp
    have sv : Sv d c H (upd (upd H d (.lst [V.ref c, .int t, .int (n + 1)])) p (.lst [])) := (Sv.refl d c H).deck.new hp
    refine ⟨_, .lst (.of hc2) (dp_ints ns), _, .lst (.of upd_same) .nil, shaped_ints ns, rfl, ?_⟩
    have hm : ∀ a b : Int, 0 < b → b < 2 ^ 64 → CMul (a % b) (a % b) := fun a b b0 b1 => .inl ⟨by have := Int.emod_nonneg a (show b ≠ 0 by omega); omega, by have := Int.emod_lt_of_pos a b0; omega⟩
    have hq : ∀ (r : Int) (H3 : Hp) (ms : List Int), H3 d = some (.lst [V.ref c, .int t, .int (n + 1)]) → H3 c = some (.lst (ms.map V.int)) → ms.length ≤ 63 → Sv d c H H3 → Q (.int (r % m)) H3 := fun r H3 ms e1 e2 l s =>
      q _ H3 (Int.emod_nonneg r (by omega)) (Int.emod_lt_of_pos r m0) ⟨ne, ⟨_, _, e1⟩, ⟨ms, e2, l⟩⟩ s
    rcases list_end ns with rfl | ⟨ns', z, rfl⟩
    · rw [if_neg (by decide)]
      refine ⟨_, rfl, by decide, _, .of hd2, _, rfl, n + 1, rfl, .inl (by decide), .inr (by decide), by decide, hm _ _ (by decide) (by decide), _, .of hd2, _, rfl, n + 1, rfl, .inl (by decide), by decide, hm _ _ (by decide) (by decide), .inl (by decide), by decide, by decide, m0, ?_⟩
      exact hq _ _ [] hd2 hc2 (by decide) sv
    · rw [if_pos (by cases ns' <;> rfl)]
      have e1 : (ns' ++ [z]).map V.int = ns'.map V.int ++ [V.int z] := by simp
      rw [List.length_append] at hn
      have hn' : ns'.length + 1 ≤ 63 := hn
      refine ⟨_, .of hd2, _, rfl, .inl ⟨rfl, _, .of hc2⟩, c, rfl, _, hc2, .int z, by rw [e1]; simp, ⟨by decide, by decide, by decide⟩, z, rfl, ?_⟩
      have e2 : ((ns' ++ [z]).map V.int).dropLast = ns'.map V.int := by rw [e1]; simp
      rw [e2]
      have sv2 := sv.cell (o := .lst (ns'.map V.int))
      have hd3 : (upd (upd (upd H d (.lst [V.ref c, .int t, .int (n + 1)])) p (.lst [])) c (.lst (ns'.map V.int))) d = some (.lst [V.ref c, .int t, .int (n + 1)]) := by
        rw [upd_ne ne.symm]
        exact hd2
      by_cases hz : (10 : Int) ^ (18 : Int).toNat ≤ z
      · rw [if_pos (decide_eq_true hz)]
        refine ⟨_, .of hd3, _, rfl, .inl ⟨rfl, _, .of upd_same⟩, z, rfl, ⟨m0, m1⟩, c, rfl, _, upd_same, by rw [List.length_map]; exact small1000 (by omega), z, rfl, m0, ?_⟩
        refine hq _ _ (ns' ++ [z / m]) ?_ ?_ (by rw [List.length_append]; exact hn') sv2.cell
        · rw [upd_ne ne.symm]
          exact hd3
        · rw [upd_same]
          simp
      · rw [if_neg (by rw [decide_eq_false hz]; decide)]
        refine ⟨_, rfl, by decide, _, .of hd3, _, rfl, n + 1, rfl, .inl (by decide), .inr (by decide), by decide, hm _ _ (by decide) (by decide), _, .of hd3, _, rfl, n + 1, rfl, .inl (by decide), by decide, hm _ _ (by decide) (by decide), .inl (by decide), by decide, by decide, m0, ?_⟩
        exact hq _ _ ns' hd3 upd_same (by omega) sv2
end
end Vf
namespace Vf
open PySem L2 PyProof.Rows PySem.Spec

local macro_rules | `(tactic| walk_at "rd") => `(tactic| simp only [tSeq, tIfS, tOr, tAnd, tNot, tB, tTest, tChain, tCB, tCons, tNil, tVar, tC, tRet, tAndV, tOrV, tNotV, tOp, tNext, tDrop, tAsg, tPar, tYes, tIf, tCall, tCalK, tTup, tLst, tSl, tNoPart, tPart, tM0, tM1, tRevL, tBM0, tBM, gName, rI0, rI, rU, rInA, rEqA, rAddA, rMulA, rSlAny, iAny, rIsi, rAll, rAny, rSum, rList, rTuple, rLen, rLenS, rLenSeq, rMulS, CDiv, rIn, rEqD, rNeD, iList, iTup, iStr, rCat, rCatA, rSlL, rSlA, rSlS, gSub, rPop, rAppend, rSetL, rIx, rIxL, rIxT, rIxS, LenV,
  L2.start, List.map_cons, List.map_nil, List.length_cons, List.length_nil, List.cons_append, List.nil_append, List.append_nil, Nat.zero_add, Nat.add_sub_cancel, Nat.sub_self, List.replicate_succ, List.replicate_zero, List.getElem?_cons_zero, List.getElem?_cons_succ, List.set_cons_zero, List.set_cons_succ,
  Option.some.injEq, V.int.injEq, V.str.injEq, V.bl.injEq, V.ref.injEq, List.cons.injEq, and_true, true_and, exists_eq_left', exists_eq_left, exists_eq_right, exists_and_left, exists_and_right, false_or, or_false, reduceCtorEq, false_and, and_false, exists_false, Bool.not_true, Bool.not_false, if_true, if_false, Bool.false_eq_true, ite_true, ite_false])
theorem line_le {n : Nat} (h : n ≤ 1000000) : n ≤ sizeLine := by
  rw [sizeLine_eq]
  omega
theorem atI_in {α : Type} {xs : List α} {i : Int} (h0 : 0 ≤ i) (h1 : i < xs.length) : ∃ x, atI xs i = some x ∧ x ∈ xs := by
  have h2 : i.toNat < xs.length := by omega
  refine ⟨xs[i.toNat], ?_, List.getElem_mem h2⟩
  unfold atI ixN
  rw [if_pos h0, if_pos h1]
  exact List.getElem?_eq_getElem h2
theorem cutV_to (xs : List V) (n : Nat) : cutV xs none (some (n : Int)) = xs.take n := by
  unfold cutV
  rw [HT.sIx_none, HT.sIx_nat, List.drop_zero, Nat.sub_zero]
  by_cases h : n ≤ xs.length
  · rw [Nat.min_eq_left h]
  · rw [Nat.min_eq_right (by omega), List.take_of_length_le (by omega), List.take_of_length_le (by omega)]
def modV (x : V) : V := match x with
  | .int i => .int (i % 1000003)
  | _ => .non
theorem dp_strs {K : PySem.W.Frag} {H : Hp} : ∀ l : List Str, DpAll K H (l.map V.str) (l.map PyData.str)
  | [] => .nil
  | x :: l => .cons (.str x) (dp_strs l)
theorem lay_strs : ∀ l : List Str, (∀ x ∈ l, PyData.strOk x = true) → PyData.canLayAll0 (l.map PyData.str) = true ∧ PyData.depthAll (l.map PyData.str) = 0
  | [], _ => ⟨rfl, rfl⟩
  | x :: l, h => by
    obtain ⟨h1, h2⟩ := lay_strs l fun y hy => h y (List.mem_cons_of_mem _ hy)
    have h0 := h x List.mem_cons_self
    simp [PyData.canLayAll0, PyData.canLay0, PyData.depthAll, PyData.depth, h1, h2, h0]
theorem shaped_strs (l : List Str) (h : ∀ x ∈ l, PyData.strOk x = true) : SeqAt.shaped (.list (l.map PyData.str)) = true := by
  obtain ⟨h1, h2⟩ := lay_strs l h
  simp [SeqAt.shaped, PyData.canLay0, PyData.depth, h1, h2]
def notAbc (x : V) : Bool := match x with
  | .str s => !decide (s.cps.toList.headD 0 ∈ abc.cps.toList)
  | _ => false
theorem notAbc_all (z : Str) : (((signs z).filter notAbc).map id) = ((z.cps.toList.filter fun c => !decide (c ∈ abc.cps.toList)).map fun c => (⟨#[c]⟩ : Str)).map V.str := by
  unfold signs
  rw [List.map_id, List.filter_map, List.map_map]
  rfl
theorem all_filter (p : Nat → Bool) : ∀ l : List Nat, l.all p = (l.filter fun c => !p c).isEmpty
  | [] => rfl
  | c :: l => by
    have h := all_filter p l
    rw [List.all_cons, List.filter_cons]
    cases e : p c with
    | true => simpa using h
    | false => rfl
theorem eqv_nil (l : List Str) : PyData.eqv (.list (l.map PyData.str)) (.list []) = l.isEmpty := by
  cases l <;> rfl
section
variable {P : Program} {w : World} {K : PySem.W.Frag} {mg : Str → Option Value} {base : Heap}
def spDeck (K : PySem.W.Frag) : Sp := fun vs H Q _ => ∃ (a : Addr) (ns : List Int), vs = [.ref a] ∧ SqL K H a (ns.map V.int) ∧ ns.length ≤ 63 ∧ ∀ (d c : Addr) (H' : Hp), Same H H' → H d = none → H c = none → Deck H' d c → Q (.ref d) H'
abbrev s__law_deck : Stmt := top 5
theorem sc__law_deck : FnScope ["_law_script", "_law_cells", "_law_cell"] ["_law_script"] (defScope s__law_deck) := ⟨rfl, rfl, rfl, by decide +kernel, rfl, by decide +kernel, by decide +kernel⟩
theorem ok__law_deck {f : Addr} {fd : FuncData} (D : Df K mg "_law_deck" s__law_deck f fd) (T : Tx K mg) : Cal P w K mg base "_law_deck" ["_law_script"] 1 (spDeck K) := by
  refine D.cal sc__law_deck (fun vs H Q E h => ?_) (fun _ _ _ _ _ _ us hl => match us, hl with | [_], _ => rfl) (fun cdv A outer s H vs Q E hgu hr h => ?_)
  · obtain ⟨a, ns, rfl, _⟩ := h
    rfl
  · obtain ⟨a, ns, rfl, ha, hn, q⟩ := h
    refine ⟨_, (pss_cons (ps_set (i := 1) sc__law_deck.nd rfl (by first | exact Or.inl rfl | exact Or.inr rfl) (pe_callTy (aList (K := K) rfl) (by rfl) T.list (by decide +kernel) (pa_cons (pe_slice (aSlL (K := K) rfl) (pv 0) po_none (po_some pe_int)) pa_nil))) (pss_one (ps_ret (pe_lst (pa_cons (aRev (K := K) rfl (pv 1)) (pa_cons (pe_op op_add (pe_callB (aSum (K := K) rfl rfl) (by rfl) T.sum (by decide +kernel) (pa_cons (pe_lc (own := [("_law_cell", 2)]) (g := gName 2) (tt := tYes) (by rfl) sc__law_deck.nd (aWalkL (K := K) rfl (pv 1)) (blkOk_by (own := [("_law_cell", 2)]) (N := ["_law_script", "_law_cells", "_law_cell"]) (sc := defScope s__law_deck) (by decide +kernel)) (fun _ _ _ _ _ => (pg_name (i := 2) sc__law_deck.nd rfl (Or.inl rfl))) (fun _ _ _ _ _ => pts_nil) (fun _ _ _ _ _ => (pe_op op_mod (pv 2) pe_int))) pa_nil)) (pe_op op_mul pe_int (pe_callB (aLenSeq (K := K) rfl) (by rfl) T.len (by decide +kernel) (pa_cons (pv 1) pa_nil)))) (pa_cons pe_int pa_nil))))))), ?_⟩
    walk_at "rd"
    have ec : cutV (ns.map V.int) none (some 63) = ns.map V.int := by
      rw [show (63 : Int) = ((63 : Nat) : Int) from rfl, cutV_to, List.take_of_length_le (by rw [List.length_map]; exact hn)]
    refine ⟨_, ha, fun p hp => ⟨_, .inl (.of upd_same), fun l hl => ⟨_, .of upd_same, fun r hr => ?_⟩⟩⟩
    rw [ec] at hl hr ⊢
    have s1 := same_upd (o := .lst (ns.map V.int)) hp
    have s2 := s1.trans (same_upd (o := .lst (ns.map V.int)) hl)
    have s3 := s2.trans (same_upd (o := .lst (ns.map V.int).reverse) hr)
    have hl3 := ne_upd (u := .lst (ns.map V.int).reverse) hr (upd_same (H := upd H p (.lst (ns.map V.int))) (a := l) (o := .lst (ns.map V.int)))
    refine ⟨.ref l, rfl, l, rfl, ⟨_, .of hl3⟩, fun L hL => lc_pure (steps_list K l (ns.map V.int)) (fun _ => true) modV (fun acc => seqL_upd hL (.of hl3)) (line_le (by rw [List.length_map]; omega)) ?_ ?_ ?_ ?_⟩
    · exact fun _ => rfl
    · exact fun x _ acc R r => r
    · intro x hm _ acc R r
      obtain ⟨i, _, rfl⟩ := List.mem_map.mp hm
      exact ⟨_, rfl, _, _, rfl, rfl, show (0 : Int) < 1000003 by decide, r⟩
    · have em : (((ns.map V.int).filter fun _ => true).map modV) = (ns.map (· % 1000003)).map V.int := by
        rw [List.filter_eq_self.mpr fun _ _ => rfl, List.map_map, List.map_map]
        rfl
      have hl4 := ne_upd (u := .lst (((ns.map V.int).filter fun _ => true).map modV)) hL hl3
      refine ⟨L, rfl, ns.map (· % 1000003), .of (by rw [upd_same, em]), _, .inl (.of hl4), .inl (by decide), line_le (by decide), fun z hz => ?_⟩
      have s4 := s3.trans (same_upd (o := .lst (((ns.map V.int).filter fun _ => true).map modV)) hL)
      have hr4 := ne_upd (u := .lst (((ns.map V.int).filter fun _ => true).map modV)) hL (upd_same (H := upd (upd H p (.lst (ns.map V.int))) l (.lst (ns.map V.int))) (a := r) (o := .lst (ns.map V.int).reverse))
      refine q z r _ (s4.trans (same_upd hz)) (s4.free hz) (s2.free hr) ⟨fun e => ?_, ⟨_, _, upd_same⟩, ⟨ns.reverse, ?_, by rw [List.length_reverse]; exact hn⟩⟩
      · rw [← e, hr4] at hz
        cases hz
      · rw [List.map_reverse]
        exact ne_upd hz hr4
def spPickS : Sp := fun vs H Q _ => ∃ (d c : Addr) (z : Str), vs = [.ref d, .str z] ∧ Deck H d c ∧ 0 < z.length ∧ z.length ≤ 1000 ∧ ∀ (x : Nat) (H' : Hp), x ∈ z.cps.toList → Deck H' d c → Sv d c H H' → Q (.str ⟨#[x]⟩) H'
abbrev s__law_pick : Stmt := top 7
theorem sc__law_pick : FnScope ["_law_deck_here", "_law_some"] ["_law_deck_here", "_law_some"] (defScope s__law_pick) := ⟨rfl, rfl, rfl, by decide +kernel, rfl, by decide +kernel, by decide +kernel⟩
theorem ok__law_pick {f : Addr} {fd : FuncData} (D : Df K mg "_law_pick" s__law_pick f fd) (T : Tx K mg) (c__law_draw : Cal P w K mg base "_law_draw" ["_law_deck_here", "_law_many"] 1 spDraw) : Cal P w K mg base "_law_pick" ["_law_deck_here", "_law_some"] 2 spPickS := by
  refine D.cal sc__law_pick (fun vs H Q E h => ?_) (fun _ _ _ _ _ _ us hl => match us, hl with | [_, _], _ => rfl) (fun cdv A outer s H vs Q E hgu hr h => ?_)
  · obtain ⟨d, c, z, rfl, _⟩ := h
    rfl
  · obtain ⟨d, c, z, rfl, hd, z0, z1, q⟩ := h
    refine ⟨_, (pss_one (ps_ret (pe_ix ix_str (pv 1) (pe_cal c__law_draw hgu (hr.mono (by decide)) (by rfl) (pa_cons (pv 0) (pa_cons (pe_callB aLenS (by rfl) T.len (by decide +kernel) (pa_cons (pv 1) pa_nil)) pa_nil))) (fun _ _ => rfl)))), ?_⟩
    walk_at "rd"
    refine ⟨line_le (by omega), d, c, _, rfl, hd, by omega, by omega, fun r H' r0 r1 hd' sv => ?_⟩
    obtain ⟨x, e, hx⟩ := atI_in (xs := z.cps.toList) r0 (by rw [Array.length_toList]; exact r1)
    exact ⟨r, rfl, line_le (by omega), x, e, q x H' hx hd' sv⟩
def spKept : Sp := fun vs H Q _ => vs = [] ∧ ∀ (p : Addr) (H' : Hp), Same H H' → H p = none → H' p = some (.lst (kept.map V.str)) → Q (.ref p) H'
abbrev s__law_kept : Stmt := top 9
theorem sc__law_kept : FnScope ["_law_some"] [] (defScope s__law_kept) := ⟨rfl, rfl, rfl, by decide +kernel, rfl, by decide +kernel, by decide +kernel⟩
theorem ok__law_kept {f : Addr} {fd : FuncData} (D : Df K mg "_law_kept" s__law_kept f fd) (T : Tx K mg) : Cal P w K mg base "_law_kept" [] 1 spKept := by
  refine D.cal sc__law_kept (fun vs H Q E h => ?_) (fun _ _ _ _ _ _ us hl => match us, hl with | [], _ => rfl) (fun cdv A outer s H vs Q E hgu hr h => ?_)
  · obtain ⟨rfl, _⟩ := h
    rfl
  · obtain ⟨rfl, q⟩ := h
    refine ⟨_, (pss_cons (ps_set (i := 0) sc__law_kept.nd rfl (by first | exact Or.inl rfl | exact Or.inr rfl) (pe_lst (pa_cons pe_str (pa_cons pe_str (pa_cons pe_str (pa_cons pe_str (pa_cons pe_str (pa_cons pe_str (pa_cons pe_str (pa_cons pe_str (pa_cons pe_str (pa_cons pe_str (pa_cons pe_str (pa_cons pe_str (pa_cons pe_str (pa_cons pe_str pa_nil)))))))))))))))) (pss_one (ps_ret (pe_op op_cat (pv 0) (pe_lst (pa_cons pe_str (pa_cons pe_str (pa_cons pe_str (pa_cons pe_str (pa_cons pe_str (pa_cons pe_str (pa_cons pe_str (pa_cons pe_str (pa_cons pe_str (pa_cons pe_str (pa_cons pe_str pa_nil)))))))))))))))), ?_⟩
    walk_at "rd"
    refine ⟨line_le (by decide), fun p hp => ⟨line_le (by decide), fun p1 hp1 => ⟨_, ne_upd hp1 upd_same, _, upd_same, line_le (by decide), fun r hr => ?_⟩⟩⟩
    exact q r _ (((same_upd hp).trans (same_upd hp1)).trans (same_upd hr)) (((same_upd hp).trans (same_upd hp1)).free hr) upd_same
def spLawIsName (K : PySem.W.Frag) : Sp := spIsName K
abbrev s__law_is_name : Stmt := top 10
theorem sc__law_is_name : FnScope ["_law_it", "_law_sign"] ["_law_it"] (defScope s__law_is_name) := ⟨rfl, rfl, rfl, by decide +kernel, rfl, by decide +kernel, by decide +kernel⟩
theorem ok__law_is_name {f : Addr} {fd : FuncData} (D : Df K mg "_law_is_name" s__law_is_name f fd) (T : Tx K mg) (c__law_kept : Cal P w K mg base "_law_kept" [] 1 spKept) : Cal P w K mg base "_law_is_name" ["_law_it"] 2 (spLawIsName K) := by
  refine D.cal sc__law_is_name (fun vs H Q E h => ?_) (fun _ _ _ _ _ _ us hl => match us, hl with | [_], _ => rfl) (fun cdv A outer s H vs Q E hgu hr h => ?_)
  · obtain ⟨x, rfl, _⟩ := h
    rfl
  · obtain ⟨x, rfl, ⟨n, ty, hn⟩, hx⟩ := h
    refine ⟨_, (pss_cons (ps_if (PW.pt (pw_or (pt_not (pt_val (pe_callB (aIsi (K := K) rfl) (by rfl) T.isinstance (by decide +kernel) (pa_cons (pv 0) (pa_cons (pe_bltn (v := .ty "str") (by rfl) T.str (by decide +kernel) rfl) pa_nil))))) (pw_or (pt_not (pt_chain op_le op_le pe_int (pe_callB (aLen (K := K) rfl) (by rfl) T.len (by decide +kernel) (pa_cons (pv 0) pa_nil)) pe_int)) (pw_or1 (pt_cmpR (aInSeq (K := K) rfl) (pv 0) (pe_cal0 c__law_kept hgu (hr.mono (by decide)) (by rfl)) (by rfl)))))) (pss_one (ps_ret pe_bl)) pss_nil) (pss_one (ps_ret (pe_cmpR (aEqD (K := K) rfl hr.units) (pe_lc (own := [("_law_sign", 1)]) (g := gName 1) (tt := _) (by rfl) sc__law_is_name.nd (aWalk (K := K) rfl (pv 0)) (blkOk_by (own := [("_law_sign", 1)]) (N := ["_law_it", "_law_sign"]) (sc := defScope s__law_is_name) (by decide +kernel)) (fun _ _ _ _ _ => (pg_name (i := 1) sc__law_is_name.nd rfl (Or.inl rfl))) (fun _ _ _ _ _ => (pts_one (pt_cmpR op_notIn_sign (pv 1) pe_str (by rfl)))) (fun _ _ _ _ _ => (pv 1))) (pe_lst pa_nil) (by rfl))))), ?_⟩
    walk_at "rd"
    have notStr : isName x = false → kitB n "str" = some false → ∃ x_1 c, (x = x_1 ∧ V.ty "str" = c) ∧ ∃ x_2 x_3, ClsV c x_3 ∧ TyX K H x_1 x_2 ∧ W.kitOne K x_2 x_3 = some false ∧ Q (V.bl false) H := fun e k =>
      ⟨x, _, ⟨rfl, rfl⟩, .type n, _, .ty "str", ty, kit_ty k, by have q := hx H (Same.refl H); rw [e] at q; exact q⟩
    cases x with
    | str z =>
      obtain ⟨rfl, hz, ok⟩ := hn
      have line := sizeLine_eq
      refine ⟨_, _, ⟨rfl, rfl⟩, .type "str", _, .ty "str", ty, true, kit_ty (by decide +kernel), ?_⟩
      rw [if_neg (by decide)]
      refine ⟨z.length, ⟨by omega, rfl⟩, ?_⟩
      have q0 := hx H (Same.refl H)
      by_cases h1 : 1 ≤ z.length
      · rw [if_pos (decide_eq_true (by omega))]
        by_cases h8 : z.length ≤ 8
        · rw [if_neg (by rw [decide_eq_true (by omega)]; decide)]
          refine ⟨rfl, fun p H1 s1 np hp => ⟨p, rfl, _, .inl (.of hp), rfl, by decide +kernel, ?_⟩⟩
          cases hk : inV (.str z) (kept.map V.str) with
          | true =>
            rw [if_pos rfl]
            have e : isName (.str z) = false := by simp [isName, hk]
            have q1 := hx H1 s1
            rw [e] at q1
            exact q1
          | false =>
            rw [if_neg (by decide)]
            refine ⟨.str z, rfl, fun L hL => lc_pure (steps_str z) notAbc id (fun _ => trivial) (by rw [signs_len]; show z.length ≤ _; omega) ?_ ?_ ?_ ?_⟩
            · exact fun _ => rfl
            · intro x hm acc R r
              obtain ⟨c, hc, rfl⟩ := List.mem_map.mp hm
              exact ⟨_, rfl, c, rfl, _, rfl, _, rfl, r⟩
            · intro x hm _ acc R r
              exact ⟨x, rfl, r⟩
            · rw [notAbc_all]
              refine ⟨by omega, fun p2 hp2 => ⟨_, .lst (.of (ne_upd hp2 upd_same)) (dp_strs _), _, .lst (.of upd_same) .nil, shaped_strs _ ?_, rfl, ?_⟩⟩
              · intro y hy
                obtain ⟨c, hc, rfl⟩ := List.mem_map.mp hy
                have hc' := (List.mem_filter.mp hc).1
                have := Array.all_eq_true_iff_forall_mem.mp ok c (by simpa using hc')
                simpa [PyData.strOk] using this
              · have e : isName (.str z) = PyData.eqv (.list (((z.cps.toList.filter fun c => !decide (c ∈ abc.cps.toList)).map fun c => (⟨#[c]⟩ : Str)).map PyData.str)) (.list []) := by
                  rw [eqv_nil, show isName (.str z) = (decide (1 ≤ z.length) && decide (z.length ≤ 8) && !inV (.str z) (kept.map V.str) && z.cps.toList.all fun c => decide (c ∈ abc.cps.toList)) from rfl, hk, decide_eq_true h1, decide_eq_true h8, all_filter]
                  cases z.cps.toList.filter (fun c => !decide (c ∈ abc.cps.toList)) <;> rfl
                have q1 := hx _ ((s1.trans (same_upd hL)).trans (same_upd (o := .lst []) hp2))
                rw [e] at q1
                exact q1
        · rw [if_pos (by rw [decide_eq_false (by omega)]; decide)]
          have e : isName (.str z) = false := by simp [isName, h8]
          rw [e] at q0
          exact q0
      · rw [if_neg (by rw [decide_eq_false (by omega)]; decide)]
        have e : isName (.str z) = false := by simp [isName, h1]
        rw [e] at q0
        exact q0
    | _ =>
      obtain ⟨x1, c, e, x2, x3, h1, h2, h3, h4⟩ := notStr rfl hn
      exact ⟨x1, c, e, x2, x3, h1, h2, false, h3, iteT h4⟩
end
end Vf
namespace Vf
open PySem L2 PyProof.Rows PySem.Spec

local macro_rules | `(tactic| walk_at "rd") => `(tactic| simp only [tSeq, tIfS, tOr, tAnd, tNot, tB, tTest, tChain, tCB, tCons, tNil, tVar, tC, tRet, tAndV, tOrV, tNotV, tOp, tNext, tDrop, tAsg, tPar, tYes, tIf, tCall, tCalK, tTup, tLst, tSl, tNoPart, tPart, tM0, tM1, tRevL, tBM0, tBM, gName, rI0, rI, rU, rInA, rEqA, rAddA, rMulA, rSlAny, iAny, rIsi, rAll, rAny, rSum, rList, rTuple, rLen, rLenS, rLenSeq, rMulS, CDiv, rIn, rEqD, rNeD, iList, iTup, iStr, rCat, rCatA, rSlL, rSlA, rSlS, gSub, rPop, rAppend, rSetL, rIx, rIxL, rIxT, rIxS, LenV,
  L2.start, List.map_cons, List.map_nil, List.length_cons, List.length_nil, List.cons_append, List.nil_append, List.append_nil, Nat.zero_add, Nat.add_sub_cancel, Nat.sub_self, List.replicate_succ, List.replicate_zero, List.getElem?_cons_zero, List.getElem?_cons_succ, List.set_cons_zero, List.set_cons_succ,
  Option.some.injEq, V.int.injEq, V.str.injEq, V.bl.injEq, V.ref.injEq, List.cons.injEq, and_true, true_and, exists_eq_left', exists_eq_left, exists_eq_right, exists_and_left, exists_and_right, false_or, or_false, reduceCtorEq, false_and, and_false, exists_false, Bool.not_true, Bool.not_false, if_true, if_false, Bool.false_eq_true, ite_true, ite_false])
/-! ### texts by their signs -/
def cs (s : Str) : List Nat := s.cps.toList
theorem cs_len (s : Str) : (cs s).length = s.length := Array.length_toList
theorem cs_ext {a b : Str} (h : cs a = cs b) : a = b := by
  obtain ⟨a⟩ := a
  obtain ⟨b⟩ := b
  have : a = b := Array.toList_inj.mp h
  rw [this]
theorem cs_app (a b : Str) : cs (a ++ b) = cs a ++ cs b := Array.toList_append
theorem cs_to (z : Str) (n : Nat) : cs (cutS z none (some (n : Int))) = (cs z).take n := by
  unfold cutS
  rw [HT.sIx_none, HT.sIx_nat, Nat.sub_zero, List.drop_zero]
  show (cs z).take (min n z.length) = _
  rw [← cs_len, List.take_eq_take_iff, Nat.min_assoc, Nat.min_self]
theorem cs_from (z : Str) (n : Nat) : cs (cutS z (some (n : Int)) none) = (cs z).drop n := by
  unfold cutS
  rw [HT.sIx_none, HT.sIx_nat]
  show ((cs z).drop (min n z.length)).take (z.length - min n z.length) = _
  rw [← cs_len, List.take_of_length_le (by rw [List.length_drop]; exact Nat.le_refl _)]
  by_cases h : n ≤ (cs z).length
  · rw [Nat.min_eq_left h]
  · rw [Nat.min_eq_right (by omega), List.drop_of_length_le (by omega), List.drop_of_length_le (by omega)]
def sgn (c : Nat) : Str := ⟨#[c]⟩
theorem join_sgn : ∀ l : List Nat, cs (Str.join "" (l.map sgn)) = l
  | [] => rfl
  | [c] => rfl
  | c :: e :: l => by
    have h := join_sgn (e :: l)
    show cs (sgn c ++ "" ++ Str.join "" ((e :: l).map sgn)) = _
    rw [cs_app, cs_app, h]
    rfl
/-- letters alone -/
def Lets (s : Str) : Prop := ∀ c ∈ cs s, c ∈ cs abc
def Cand (s : Str) : Prop := 1 ≤ s.length ∧ s.length ≤ 8 ∧ Lets s
theorem inV_strs (s : Str) : ∀ l : List Str, inV (.str s) (l.map V.str) = decide (s ∈ l)
  | [] => by simp [inV]
  | x :: l => by
    have h := inV_strs s l
    unfold inV at h ⊢
    rw [List.map_cons, List.any_cons, h]
    show ((x == s) || _) = _
    by_cases e : x = s
    · subst e; simp
    · have e' : ¬ s = x := fun q => e q.symm
      simp [e, e']
theorem name_of {s : Str} (h : Cand s) (k : s ∉ kept) : isName (.str s) = true := by
  obtain ⟨h1, h2, h3⟩ := h
  have h4 : (s.cps.toList.all fun c => decide (c ∈ abc.cps.toList)) = true := List.all_eq_true.mpr fun c hc => decide_eq_true (h3 c hc)
  show (decide (1 ≤ s.length) && decide (s.length ≤ 8) && !inV (.str s) (kept.map V.str) && s.cps.toList.all fun c => decide (c ∈ abc.cps.toList)) = true
  rw [h4, inV_strs, decide_eq_true h1, decide_eq_true h2, decide_eq_false k]
  rfl
/-! ### each once -/
def once (l : List Str) (x : Str) : List Str := if x ∈ l then l else l ++ [x]
def onces (l : List Str) : List Str := l.foldl once []
theorem onces_end (l : List Str) (x : Str) : onces (l ++ [x]) = once (onces l) x := by simp [onces, List.foldl_append]
theorem onces_ind {p : List Str → List Str → Prop} (h0 : p [] []) (hs : ∀ l x, p l (onces l) → p (l ++ [x]) (once (onces l) x)) (l : List Str) : p l (onces l) := by
  rw [← List.reverse_reverse l]
  induction l.reverse with
  | nil => exact h0
  | cons x r ih =>
    rw [List.reverse_cons, onces_end]
    exact hs _ _ ih
theorem onces_mem (l : List Str) : ∀ x, x ∈ onces l ↔ x ∈ l := by
  refine onces_ind (p := fun l r => ∀ x, x ∈ r ↔ x ∈ l) (fun _ => Iff.rfl) (fun l x ih y => ?_) l
  unfold once
  split
  · rename_i h
    rw [ih y, List.mem_append, List.mem_singleton]
    refine ⟨.inl, fun z => z.elim id fun e => ?_⟩
    rw [e]
    exact (ih x).mp h
  · rw [List.mem_append, List.mem_append, ih y]
theorem onces_nodup (l : List Str) : (onces l).Nodup := by
  refine onces_ind (p := fun _ r => r.Nodup) List.nodup_nil (fun l x ih => ?_) l
  unfold once
  split
  · exact ih
  · rename_i h
    rw [List.nodup_append]
    exact ⟨ih, List.pairwise_singleton _ _, fun a ha b hb => by
      rw [List.mem_singleton.mp hb]
      exact fun e => h (e ▸ ha)⟩
theorem sub_len : ∀ {q l : List Str}, q.Nodup → (∀ x ∈ q, x ∈ l) → q.length ≤ l.length
  | [], _, _, _ => Nat.zero_le _
  | x :: q, l, n, h => by
    have hx := h x List.mem_cons_self
    obtain ⟨nx, nq⟩ := List.nodup_cons.mp n
    have ih := sub_len (l := l.erase x) nq fun y hy => (List.mem_erase_of_ne fun e => nx (by rw [← e]; exact hy)).mpr (h y (List.mem_cons_of_mem _ hy))
    have e := List.length_erase_of_mem hx
    have : 0 < l.length := List.length_pos_of_mem hx
    rw [List.length_cons]
    omega
def qqs : List Str := ["qqa", "qqb", "qqc", "qqd", "qqe", "qqf", "qqg", "qqh"]
theorem qqs_good : ∀ s ∈ qqs, Cand s ∧ s ∉ kept := by
  unfold Cand Lets
  decide +kernel
/-- what is told: the first m of each once -/
theorem names_good {l : List Str} (h : ∀ s ∈ l, Cand s ∧ s ∉ kept) {m : Nat} (hm : m ≤ 8) :
    ((onces (l ++ qqs)).take m).length = m ∧ ((onces (l ++ qqs)).take m).Nodup ∧ ∀ s ∈ (onces (l ++ qqs)).take m, isName (.str s) = true := by
  have h8 : qqs.length ≤ (onces (l ++ qqs)).length := sub_len (by decide +kernel) fun x hx => (onces_mem _ x).mpr (List.mem_append_right _ hx)
  have e8 : qqs.length = 8 := rfl
  refine ⟨by rw [List.length_take]; omega, (onces_nodup _).sublist (List.take_sublist _ _), fun s hs => ?_⟩
  have hs' := (onces_mem _ s).mp (List.mem_of_mem_take hs)
  rcases List.mem_append.mp hs' with z | z
  · exact name_of (h s z).1 (h s z).2
  · exact name_of (qqs_good s z).1 (qqs_good s z).2
theorem Sv.free {d c p : Addr} {H H' : Hp} (v : Sv d c H H') (k : Deck H' d c) (h : H' p = none) : H p = none := by
  cases e : H p with
  | none => rfl
  | some o =>
    obtain ⟨_, ⟨t, n, hd⟩, ⟨ns, hc, _⟩⟩ := k
    have n1 : p ≠ d := fun z => by rw [z, hd] at h; cases h
    have n2 : p ≠ c := fun z => by rw [z, hc] at h; cases h
    rw [v p o e n1 n2] at h
    cases h
theorem Sv.put {d c p : Addr} {H H1 : Hp} {o : HO} (a : Sv d c H H1) (n : H p = none) : Sv d c H (upd H1 p o) := fun x u e n1 n2 => by
  rw [upd_ne (ne_of_none e n)]
  exact a x u e n1 n2
theorem Lets.app {a b : Str} (h : Lets a) (k : Lets b) : Lets (a ++ b) := fun c hc => by
  rw [cs_app] at hc
  exact (List.mem_append.mp hc).elim (h c) (k c)
theorem Lets.to {z : Str} (h : Lets z) (n : Nat) : Lets (cutS z none (some (n : Int))) := fun c hc => by
  rw [cs_to] at hc
  exact h c (List.mem_of_mem_take hc)
theorem Lets.from_ {z : Str} (h : Lets z) (n : Nat) : Lets (cutS z (some (n : Int)) none) := fun c hc => by
  rw [cs_from] at hc
  exact h c (List.mem_of_mem_drop hc)
theorem Lets.rep {z : Str} (h : Lets z) (n : Nat) : Lets (repS z n) := fun c hc => by
  have hc' : c ∈ (List.replicate n (cs z)).flatten := by
    rw [show cs (repS z n) = (List.replicate n (cs z)).flatten from repS_list z n] at hc
    exact hc
  obtain ⟨l, hl, hm⟩ := List.mem_flatten.mp hc'
  rw [(List.mem_replicate.mp hl).2] at hm
  exact h c hm
theorem Lets.sgn {c : Nat} (h : c ∈ cs abc) : Lets (sgn c) := fun x hx => by
  have : x = c := by simpa [cs, Vf.sgn] using hx
  rw [this]
  exact h
theorem wholes_at {lo : Int} {n i : Nat} {x : V} (h : (wholes lo n)[i]? = some x) : i < n ∧ x = .int (lo + (i : Nat)) := by
  have hi := (List.getElem?_eq_some_iff.mp h).1
  rw [wholes_len] at hi
  refine ⟨hi, ?_⟩
  unfold wholes at h
  rw [List.getElem?_map, List.getElem?_range hi] at h
  exact (Option.some.inj h).symm
theorem cutV_from (xs : List V) (n : Nat) : cutV xs (some (n : Int)) none = xs.drop n := by
  unfold cutV
  rw [HT.sIx_none, HT.sIx_nat]
  by_cases h : n ≤ xs.length
  · rw [Nat.min_eq_left h, List.take_of_length_le (by rw [List.length_drop]; exact Nat.le_refl _)]
  · rw [Nat.min_eq_right (by omega), Nat.sub_self, List.take_zero, List.drop_of_length_le (by omega)]
theorem filt_names (f : List Str) : ((f.map V.str).filter fun x => !inV x (kept.map V.str)).map id = (f.filter fun s => !decide (s ∈ kept)).map V.str := by
  rw [List.map_id, List.filter_map]
  congr 1
  refine List.filter_congr fun s _ => ?_
  show (!inV (.str s) (kept.map V.str)) = _
  rw [inV_strs]
theorem flat_strs (l : List Str) : (l.map V.str).all flatV = true := by
  rw [List.all_map]
  exact List.all_eq_true.mpr fun _ _ => rfl
theorem sum_sgn : ∀ l : List Nat, ((l.map sgn).map (·.length)).sum = l.length
  | [] => rfl
  | c :: l => by
    rw [List.map_cons, List.map_cons, List.sum_cons, sum_sgn l, List.length_cons]
    show 1 + l.length = _
    omega
theorem Deck.same {d c : Addr} {H H' : Hp} (k : Deck H d c) (s : Same H H') : Deck H' d c := by
  obtain ⟨ne, ⟨t, n, hd⟩, ⟨ns, hc, hn⟩⟩ := k
  exact ⟨ne, ⟨t, n, s _ _ hd⟩, ⟨ns, s _ _ hc, hn⟩⟩
theorem Deck.off {d c p : Addr} {H : Hp} {o : HO} (k : Deck H d c) (n1 : p ≠ d) (n2 : p ≠ c) : Deck (upd H p o) d c := by
  obtain ⟨ne, ⟨t, n, hd⟩, ⟨ns, hc, hn⟩⟩ := k
  exact ⟨ne, ⟨t, n, by rw [upd_ne n1.symm]; exact hd⟩, ⟨ns, by rw [upd_ne n2.symm]; exact hc, hn⟩⟩
theorem Deck.fresh {d c p : Addr} {H : Hp} (k : Deck H d c) (h : H p = none) : p ≠ d ∧ p ≠ c := by
  obtain ⟨ne, ⟨t, n, hd⟩, ⟨ns, hc, hn⟩⟩ := k
  exact ⟨fun z => (by rw [z, hd] at h; cases h), fun z => (by rw [z, hc] at h; cases h)⟩
section
variable {P : Program} {w : World} {K : PySem.W.Frag} {mg : Str → Option Value} {base : Heap}
def spNames : Sp := fun vs H Q _ => ∃ (d c : Addr) (m : Nat), vs = [.ref d, .int m] ∧ Deck H d c ∧ m ≤ 8 ∧
  ∀ (l : List Str) (p : Addr) (H' : Hp), l.length = m → l.Nodup → (∀ s ∈ l, isName (.str s) = true) → Deck H' d c → Sv d c H H' → H p = none → H' p = some (.lst (l.map V.str)) → Q (.ref p) H'
abbrev s__law_names : Stmt := top 8
theorem sc__law_names : FnScope ["_law_deck_here", "_law_many", "_law_kept_here", "_law_letters", "_law_way", "_law_first", "_law_word", "_law_k", "_law_at", "_law_found", "_law_sign", "_law_some", "_law_name", "_law_good"] ["_law_deck_here", "_law_many"] (defScope s__law_names) := ⟨rfl, rfl, rfl, by decide +kernel, rfl, by decide +kernel, by decide +kernel⟩
theorem ok__law_names {f : Addr} {fd : FuncData} (D : Df K mg "_law_names" s__law_names f fd) (T : Tx K mg) (c__law_draw : Cal P w K mg base "_law_draw" ["_law_deck_here", "_law_many"] 1 spDraw) : Cal P w K mg base "_law_names" ["_law_deck_here", "_law_many"] 2 spNames := by
  refine D.cal sc__law_names (fun vs H Q E h => ?_) (fun _ _ _ _ _ _ us hl => match us, hl with | [_, _], _ => rfl) (fun cdv A outer s H vs Q E hgu hr h => ?_)
  · obtain ⟨d, c, m, rfl, _⟩ := h
    rfl
  · obtain ⟨d, c, m, rfl, hd, hm, q⟩ := h
    refine ⟨_, (pss_cons (ps_set (i := 2) sc__law_names.nd rfl (by first | exact Or.inl rfl | exact Or.inr rfl) (pe_lst (pa_cons pe_str (pa_cons pe_str (pa_cons pe_str (pa_cons pe_str (pa_cons pe_str (pa_cons pe_str (pa_cons pe_str (pa_cons pe_str (pa_cons pe_str (pa_cons pe_str (pa_cons pe_str (pa_cons pe_str (pa_cons pe_str (pa_cons pe_str pa_nil)))))))))))))))) (pss_cons (ps_set (i := 2) sc__law_names.nd rfl (by first | exact Or.inl rfl | exact Or.inr rfl) (pe_op op_cat (pv 2) (pe_lst (pa_cons pe_str (pa_cons pe_str (pa_cons pe_str (pa_cons pe_str (pa_cons pe_str (pa_cons pe_str (pa_cons pe_str (pa_cons pe_str (pa_cons pe_str (pa_cons pe_str (pa_cons pe_str pa_nil)))))))))))))) (pss_cons (ps_set (i := 3) sc__law_names.nd rfl (by first | exact Or.inl rfl | exact Or.inr rfl) pe_str) (pss_cons (ps_par (i := 4) (j := 5) (by rfl) sc__law_names.nd rfl rfl (by decide) rfl rfl (pa_cons (pe_cal c__law_draw hgu (hr.mono (by decide)) (by rfl) (pa_cons (pv 0) (pa_cons pe_int pa_nil))) (pa_cons (pe_cal c__law_draw hgu (hr.mono (by decide)) (by rfl) (pa_cons (pv 0) (pa_cons pe_int pa_nil))) pa_nil)) (by rfl)) (pss_cons (ps_set (i := 6) sc__law_names.nd rfl (by first | exact Or.inl rfl | exact Or.inr rfl) (pe_join pe_str (pe_lc (own := [("_law_k", 7)]) (g := gName 7) (tt := tYes) (by rfl) sc__law_names.nd (pi_range1 rfl T.range (pa_cons pe_int pa_nil)) (blkOk_by (own := [("_law_k", 7)]) (N := ["_law_deck_here", "_law_many", "_law_kept_here", "_law_letters", "_law_way", "_law_first", "_law_word", "_law_k", "_law_at", "_law_found", "_law_sign", "_law_some", "_law_name", "_law_good"]) (sc := defScope s__law_names) (by decide +kernel)) (fun _ _ _ _ _ => (pg_name (i := 7) sc__law_names.nd rfl (Or.inl rfl))) (fun _ _ _ _ _ => pts_nil) (fun _ _ _ _ _ => (pe_ix ix_str (pv 3) (pe_cal c__law_draw hgu (hr.mono (by decide)) (by rfl) (pa_cons (pv 0) (pa_cons pe_int pa_nil))) (fun _ _ => rfl)))))) (pss_cons (ps_set (i := 8) sc__law_names.nd rfl (by first | exact Or.inl rfl | exact Or.inr rfl) (pe_cal c__law_draw hgu (hr.mono (by decide)) (by rfl) (pa_cons (pv 0) (pa_cons pe_int pa_nil)))) (pss_cons (ps_set (i := 9) sc__law_names.nd rfl (by first | exact Or.inl rfl | exact Or.inr rfl) (pe_lst pa_nil)) (pss_cons (ps_for PassesOwn.never rfl (pi_range1 rfl T.range (pa_cons pe_int pa_nil)) (pg_name (i := 7) sc__law_names.nd rfl (by first | exact Or.inl rfl | exact Or.inr rfl)) (pss_cons (ps_set (i := 10) sc__law_names.nd rfl (by first | exact Or.inl rfl | exact Or.inr rfl) (pe_ix ix_str (pv 3) (pe_op op_mod (pe_op op_add (pv 5) (pv 7)) pe_int) (fun _ _ => rfl))) (pss_one (ps_expr (pe_bm PySem.F.plainAttrs_list PySem.F.slot_list_append PySem.F.type_list_append mt_append (pv 9) (pa_cons (pe_ix (aIxL (K := K) rfl) (pe_lst (pa_cons (pv 10) (pa_cons (pe_op op_add_str (pe_op op_add_str (pe_slice sl_str (pv 6) po_none (po_some (pv 8))) (pv 10)) (pe_slice sl_str (pv 6) (po_some (pv 8)) po_none)) (pa_cons (pe_slice sl_str (pe_op aMulS (pv 6) pe_int) po_none (po_some (pe_op op_add (pe_op op_mod (pv 7) pe_int) pe_int))) pa_nil)))) (pv 4) (fun _ _ => rfl)) pa_nil)))))) (pss_cons (ps_setLc (i := 11) (own := [("_law_name", 12)]) (g := gName 12) (tt := _) (by rfl) sc__law_names.nd rfl rfl (sw_true rfl rfl rfl (by decide +kernel)) (aWalkL (K := K) rfl (pe_op op_cat (pe_slice (aSlL (K := K) rfl) (pv 9) po_none (po_some pe_int)) (pe_slice (aSlL (K := K) rfl) (pv 9) (po_some pe_int) po_none))) (blkOk_by (own := [("_law_name", 12)]) (N := ["_law_deck_here", "_law_many", "_law_kept_here", "_law_letters", "_law_way", "_law_first", "_law_word", "_law_k", "_law_at", "_law_found", "_law_sign", "_law_some", "_law_name", "_law_good"]) (sc := defScope s__law_names) (by decide +kernel)) (fun _ _ _ _ _ => (pg_name (i := 12) sc__law_names.nd rfl (Or.inl rfl))) (fun _ _ _ _ _ => (pts_one (pt_cmpR (aNotInSeq (K := K) rfl) (pv 12) (pv 2) (by rfl)))) (fun _ _ _ _ _ => (pv 12))) (pss_cons (ps_set (i := 13) sc__law_names.nd rfl (by first | exact Or.inl rfl | exact Or.inr rfl) (pe_lst pa_nil)) (pss_cons (ps_for PassesOwn.never rfl (aWalkL (K := K) rfl (pe_op op_cat (pv 11) (pe_lst (pa_cons pe_str (pa_cons pe_str (pa_cons pe_str (pa_cons pe_str (pa_cons pe_str (pa_cons pe_str (pa_cons pe_str (pa_cons pe_str pa_nil))))))))))) (pg_name (i := 12) sc__law_names.nd rfl (by first | exact Or.inl rfl | exact Or.inr rfl)) (pss_one (ps_if (pt_cmpR (aNotInSeq (K := K) rfl) (pv 12) (pv 13) (by rfl)) (pss_one (ps_expr (pe_bm PySem.F.plainAttrs_list PySem.F.slot_list_append PySem.F.type_list_append mt_append (pv 13) (pa_cons (pv 12) pa_nil)))) pss_nil))) (pss_one (ps_ret (pe_slice (aSlL (K := K) rfl) (pv 13) po_none (po_some (pv 1)))))))))))))))), ?_⟩
    walk_at "rd"
    refine ⟨line_le (by decide), fun p hp => ⟨line_le (by decide), fun p1 hp1 => ⟨_, ne_upd hp1 upd_same, _, upd_same, line_le (by decide), fun pk hpk => ?_⟩⟩⟩
    obtain ⟨nkd, nkc⟩ := hd.fresh (((same_upd hp).trans (same_upd hp1)).free hpk)
    refine (show ∀ H0 : Hp, Same H H0 → H0 pk = some (.lst (kept.map V.str)) → spDraw [V.ref d, V.int 3] H0 ?k E0 from ?h) _ (((same_upd hp).trans (same_upd hp1)).trans (same_upd hpk)) upd_same
    clear hpk hp1 hp
    intro H0 s0 hk0
    have d0 := hd.same s0
    refine ⟨d, c, 3, rfl, d0, by decide, by decide, fun way H1 w0 w1 d1 v1 => ⟨d, c, 26, rfl, d1, by decide, by decide, fun first H2 f0 f1 d2 v2 => ⟨_, _, ⟨rfl, rfl⟩, ⟨_, rfl⟩, ?_⟩⟩⟩
    have v02 := v1.trans v2
    -- the word
    refine ⟨7, rfl, by decide, by decide, fun L hL => ?_⟩
    obtain ⟨nLd, nLc⟩ := d2.fresh hL
    refine lc_steps (steps_range 0 7) (fun i Hc => ∃ l : List Nat, l.length = i ∧ (∀ x ∈ l, x ∈ cs abc) ∧ Hc L = some (.lst ((l.map sgn).map V.str)) ∧ Deck Hc d c ∧ Sv d c H2 Hc) ⟨[], rfl, nofun, upd_same, d2.off nLd nLc, (Sv.refl d c H2).new hL⟩ (fun _ _ _ _ => trivial) ?_ ?_
    · rintro i x Hc hx ⟨l, hl, ha, e, dk, sv⟩
      refine ⟨rfl, ?_⟩
      walk_at "rd"
      refine ⟨_, rfl, _, rfl, d, c, 26, rfl, dk, by decide, by decide, fun r H3 r0 r1 d3 v3 => ?_⟩
      obtain ⟨x', ex, hx'⟩ := atI_in (xs := cs abc) r0 (by rw [show (cs abc).length = 26 from rfl]; exact r1)
      have hi : i < 7 := by
        have := (List.getElem?_eq_some_iff.mp hx).1
        rw [wholes_len] at this
        exact this
      refine ⟨_, rfl, _, rfl, line_le (by decide +kernel), x', ex, (l.map sgn).map V.str, v3 _ _ e nLd nLc, small1000 (by simp; omega), l ++ [x'], by simp [hl], fun y hy => ?_, by rw [upd_same]; simp [sgn], d3.off nLd nLc, (sv.trans v3).put hL⟩
      rcases List.mem_append.mp hy with z | z
      · exact ha y z
      · rw [List.mem_singleton.mp z]
        exact hx'
    · rintro Hc ⟨l, hl, ha, e, dk, sv⟩
      have v0c := v02.trans sv
      rw [wholes_len] at hl
      refine ⟨L, rfl, l.map sgn, .inl (.of e), by rw [sum_sgn, List.length_map, hl]; decide +kernel, ?_⟩
      generalize hw : Txt.join "" (l.map sgn) = word
      have cw : cs word = l := by rw [← hw, TL.join_eq, join_sgn]
      clear hw
      -- the place, the found ones
      refine ⟨d, c, 7, rfl, dk, by decide, by decide, fun plc H4 a0 a1 d4 v4 => ⟨Nat.zero_le _, fun pf hpf => ⟨24, rfl, by decide, by decide, ?_⟩⟩⟩
      have v04 := v0c.trans v4
      obtain ⟨nfd, nfc⟩ := d4.fresh hpf
      refine for_steps (steps_range 0 24) (fun i σ Hc => ∃ (f : List Str) (v7 v10 : Option V), f.length = i ∧ (∀ s ∈ f, Cand s) ∧ σ = [some (.ref d), some (.int m), some (.ref pk), some (.str abc), some (.int way), some (.int first), some (.str word), v7, some (.int plc), some (.ref pf), v10, none, none, none] ∧
        Hc pf = some (.lst (f.map V.str)) ∧ Deck Hc d c ∧ Sv d c H4 Hc) ⟨[], _, _, rfl, nofun, rfl, upd_same, d4.off nfd nfc, (Sv.refl d c H4).new hpf⟩ (fun _ _ _ _ _ => trivial) ?_ ?_
      · rintro i x σ H5 hx ⟨f, v7, v10, hf, hc, rfl, ef, d5, v5⟩
        walk_at "rd"
        obtain ⟨hi, rfl⟩ := wholes_at hx
        obtain ⟨pn, rfl⟩ : ∃ n : Nat, plc = n := ⟨plc.toNat, by omega⟩
        obtain ⟨x2, e2, m2⟩ := atI_in (xs := cs abc) (i := (first + (0 + (i : Int))) % 26) (Int.emod_nonneg _ (by decide)) (by rw [show (cs abc).length = 26 from rfl]; exact Int.emod_lt_of_pos _ (by decide))
        have wl : word.length = 7 := by rw [← cs_len, cw, hl]
        have lw : Lets word := fun y hy => ha y (by rw [← cw]; exact hy)
        have l1 : (cutS word none (some (pn : Int))).length + (cutS word (some (pn : Int)) none).length = 7 := by
          rw [← cs_len, ← cs_len, cs_to, cs_from, List.length_take, List.length_drop, cs_len]
          omega
        obtain ⟨kn, ek, k1, k8⟩ : ∃ n : Nat, (0 + (i : Int)) % 8 + 1 = n ∧ 1 ≤ n ∧ n ≤ 8 := ⟨((0 + (i : Int)) % 8 + 1).toNat, by omega, by omega, by omega⟩
        have rl : (repS word 4).length = 28 := by rw [repS_len, wl]
        have c1 : Cand (sgn x2) := ⟨Nat.le_refl 1, by show 1 ≤ 8; decide, .sgn m2⟩
        have c2 : Cand (cutS word none (some (pn : Int)) ++ sgn x2 ++ cutS word (some (pn : Int)) none) := by
          have e : (sgn x2).length = 1 := rfl
          refine ⟨?_, ?_, ((lw.to pn).app (.sgn m2)).app (lw.from_ pn)⟩
          · rw [strLen_append, strLen_append]; omega
          · rw [strLen_append, strLen_append]; omega
        have c3 : Cand (cutS (repS word 4) none (some (kn : Int))) := by
          have e : (cutS (repS word 4) none (some (kn : Int))).length = kn := by
            rw [← cs_len, cs_to, List.length_take, cs_len, rl]
            omega
          exact ⟨by omega, by omega, (lw.rep 4).to kn⟩
        obtain ⟨sv, e3, hs⟩ : ∃ s, atI [V.str (sgn x2), V.str (cutS word none (some (pn : Int)) ++ sgn x2 ++ cutS word (some (pn : Int)) none), V.str (cutS (repS word 4) none (some (kn : Int)))] way = some (.str s) ∧ Cand s := by
          rcases (by omega : way = 0 ∨ way = 1 ∨ way = 2) with rfl | rfl | rfl
          · exact ⟨_, rfl, c1⟩
          · exact ⟨_, rfl, c2⟩
          · exact ⟨_, rfl, c3⟩
        refine ⟨_, rfl, by decide, line_le (by decide +kernel), x2, e2, .inl ⟨rfl, _, .of ef⟩, line_le (by omega), line_le (by show _ + 1 ≤ _; omega), line_le (by omega), line_le (by rw [strLen_append]; show _ + 1 + _ ≤ _; omega), by decide, by decide, by omega, by omega, _, rfl, by decide, line_le (by show (repS word 4).length ≤ _; omega), line_le (by decide), fun p hp => ?_⟩
        rw [ek]
        obtain ⟨npd, npc⟩ := d5.fresh hp
        refine ⟨_, .of upd_same, .str sv, e3, _, ne_upd hp ef, small1000 (by rw [List.length_map]; omega), f ++ [sv], by simp [hf], fun y hy => ?_, ⟨_, rfl⟩, by rw [upd_same]; simp, (d5.off npd npc).off nfd nfc, (v5.new hp).put hpf⟩
        rcases List.mem_append.mp hy with z | z
        · exact hc y z
        · rw [List.mem_singleton.mp z]
          exact hs
      · rintro σ H5 ⟨f, v7, v10, hf, hc, rfl, ef, d5, v5⟩
        walk_at "rd"
        have v05 := v04.trans v5
        have hk5 := v05 _ _ hk0 nkd nkc
        rw [wholes_len] at hf
        -- those that are no kept words
        refine ⟨_, rfl, 8, rfl, pf, _, rfl, .of ef, fun pa hpa => ⟨_, rfl, 8, rfl, pf, _, rfl, .of (ne_upd hpa ef), fun pb hpb => ⟨pa, pb, _, _, rfl, rfl, ne_upd hpb upd_same, upd_same, line_le ?_, fun pc hpc => ?_⟩⟩⟩
        · have e1 := cutV_length (f.map V.str) none (some 8)
          have e2 := cutV_length (f.map V.str) (some 8) none
          rw [List.length_map] at e1 e2
          omega
        have ex : cutV (f.map V.str) none (some 8) ++ cutV (f.map V.str) (some 8) none = f.map V.str := by
          rw [show (8 : Int) = ((8 : Nat) : Int) from rfl, cutV_to, cutV_from, List.take_append_drop]
        rw [ex]
        obtain ⟨nad, nac⟩ := d5.fresh hpa
        have d6 := d5.off (o := .lst (cutV (f.map V.str) none (some 8))) nad nac
        obtain ⟨nbd, nbc⟩ := d6.fresh hpb
        have d7 := d6.off (o := .lst (cutV (f.map V.str) (some 8) none)) nbd nbc
        obtain ⟨ncd, ncc⟩ := d7.fresh hpc
        have d8 := d7.off (o := .lst (f.map V.str)) ncd ncc
        have v8 := ((v05.new (o := .lst (cutV (f.map V.str) none (some 8))) hpa).new (o := .lst (cutV (f.map V.str) (some 8) none)) hpb).new (o := .lst (f.map V.str)) hpc
        have hk8 := ne_upd (u := .lst (f.map V.str)) hpc (ne_upd (u := .lst (cutV (f.map V.str) (some 8) none)) hpb (ne_upd (u := .lst (cutV (f.map V.str) none (some 8))) hpa hk5))
        have hc8 := upd_same (H := upd (upd H5 pa (.lst (cutV (f.map V.str) none (some 8)))) pb (.lst (cutV (f.map V.str) (some 8) none))) (a := pc) (o := .lst (f.map V.str))
        clear hpa hpb hpc d6 d7
        revert d8 v8 hk8 hc8
        generalize upd (upd (upd H5 pa (.lst (cutV (f.map V.str) none (some 8)))) pb (.lst (cutV (f.map V.str) (some 8) none))) pc (.lst (f.map V.str)) = H8
        intro d8 v8 hk8 hc8
        refine ⟨pc, rfl, ⟨_, .of hc8⟩, fun L2 hL2 => lc_pure (steps_list K pc (f.map V.str)) (fun x => !inV x (kept.map V.str)) id (fun acc => seqL_upd hL2 (.of hc8)) (line_le (by rw [List.length_map]; omega)) ?_ ?_ ?_ ?_⟩
        · exact fun _ => rfl
        · intro x hm acc R r
          obtain ⟨s, _, rfl⟩ := List.mem_map.mp hm
          exact ⟨_, rfl, _, rfl, pk, _, rfl, .inl (.of (ne_upd hL2 hk8)), rfl, by decide +kernel, _, rfl, r⟩
        · intro x hm _ acc R r
          exact ⟨_, rfl, r⟩
        · rw [filt_names]
          generalize hg : f.filter (fun s => !decide (s ∈ kept)) = g
          have gg : ∀ s ∈ g, Cand s ∧ s ∉ kept := fun s hs => by
            rw [← hg] at hs
            obtain ⟨h1, h2⟩ := List.mem_filter.mp hs
            exact ⟨hc s h1, by simpa using h2⟩
          have gl : g.length ≤ 24 := by
            rw [← hg, ← hf]
            exact List.length_filter_le _ _
          obtain ⟨n2d, n2c⟩ := d8.fresh hL2
          have d9 := d8.off (o := .lst (g.map V.str)) n2d n2c
          have v9 := v8.new (o := .lst (g.map V.str)) hL2
          have hg9 := upd_same (H := H8) (a := L2) (o := .lst (g.map V.str))
          revert d9 v9 hg9
          generalize upd H8 L2 (.lst (g.map V.str)) = H9
          intro d9 v9 hg9
          -- each once
          refine ⟨Nat.zero_le _, fun pg hpg => ?_⟩
          obtain ⟨ngd, ngc⟩ := d9.fresh hpg
          refine ⟨_, rfl, line_le (by decide), fun pq hpq => ⟨L2, pq, _, _, rfl, rfl, ne_upd hpq (ne_upd hpg hg9), upd_same, line_le (by rw [List.length_map]; show g.length + 8 ≤ _; omega), fun pr hpr => ⟨pr, rfl, ⟨_, .of upd_same⟩, ?_⟩⟩⟩
          obtain ⟨nqd, nqc⟩ := (d9.off (o := .lst []) ngd ngc).fresh hpq
          obtain ⟨nrd, nrc⟩ := ((d9.off (o := .lst []) ngd ngc).off (o := .lst (qqs.map V.str)) nqd nqc).fresh hpr
          have dA := ((d9.off (o := .lst []) ngd ngc).off (o := .lst (qqs.map V.str)) nqd nqc).off (o := .lst ((g ++ qqs).map V.str)) nrd nrc
          have vA := ((v9.new (o := .lst []) hpg).new (o := .lst (qqs.map V.str)) hpq).new (o := .lst ((g ++ qqs).map V.str)) hpr
          have hgA := ne_upd (u := .lst ((g ++ qqs).map V.str)) hpr (ne_upd (u := .lst (qqs.map V.str)) hpq (upd_same (H := H9) (a := pg) (o := .lst [])))
          have hrA := upd_same (H := upd (upd H9 pg (.lst [])) pq (.lst (qqs.map V.str))) (a := pr) (o := .lst ((g ++ qqs).map V.str))
          have ngr : pg ≠ pr := fun e => by
            rw [← e] at hpr
            have z := ne_upd (u := .lst (qqs.map V.str)) hpq (upd_same (H := H9) (a := pg) (o := .lst []))
            exact absurd (hpr.symm.trans z) (by intro y; cases y)
          have exs : g.map V.str ++ [V.str "qqa", V.str "qqb", V.str "qqc", V.str "qqd", V.str "qqe", V.str "qqf", V.str "qqg", V.str "qqh"] = (g ++ qqs).map V.str := by
            rw [List.map_append]
            rfl
          rw [exs]
          refine for_steps (steps_list K pr ((g ++ qqs).map V.str)) (fun i σ Hc => ∃ v12 : Option V, σ = [some (.ref d), some (.int m), some (.ref pk), some (.str abc), some (.int way), some (.int first), some (.str word), v7, some (.int plc), some (.ref pf), v10, some (.ref L2), v12, some (.ref pg)] ∧
            Hc pr = some (.lst ((g ++ qqs).map V.str)) ∧ Hc pg = some (.lst ((onces ((g ++ qqs).take i)).map V.str)) ∧ Deck Hc d c ∧ Sv d c H0 Hc) ⟨none, rfl, hrA, hgA, dA, vA⟩ ?_ ?_ ?_
          · rintro i σ Hc _ ⟨_, _, hr, _⟩
            exact .of hr
          · rintro i x σ Hc hx ⟨v12, rfl, hr, hgd, dk, sv⟩
            obtain ⟨s, rfl, hs⟩ : ∃ s, x = V.str s ∧ (g ++ qqs)[i]? = some s := by
              rw [List.getElem?_map] at hx
              cases e : (g ++ qqs)[i]? with
              | none => rw [e] at hx; cases hx
              | some s => rw [e] at hx; exact ⟨s, (Option.some.inj hx).symm, rfl⟩
            have et : onces ((g ++ qqs).take (i + 1)) = once (onces ((g ++ qqs).take i)) s := by
              rw [List.take_add_one, hs]
              exact onces_end _ s
            have hlen : (onces ((g ++ qqs).take i)).length ≤ 32 := by
              have h1 := sub_len (onces_nodup ((g ++ qqs).take i)) fun x hx => (onces_mem _ x).mp hx
              rw [List.length_take, List.length_append, show qqs.length = 8 from rfl] at h1
              omega
            walk_at "rd"
            refine ⟨_, .inl (.of hgd), rfl, flat_strs _, ?_⟩
            rw [inV_strs]
            by_cases hm : s ∈ onces ((g ++ qqs).take i)
            · rw [if_neg (by simp [hm])]
              refine ⟨hr, ?_, dk, sv⟩
              rw [et, hgd]
              unfold once
              rw [if_pos hm]
            · rw [if_pos (by simp [hm])]
              refine ⟨.inl ⟨rfl, _, .of hgd⟩, _, hgd, small1000 (by rw [List.length_map]; omega), ?_, ?_, dk.off ngd ngc, fun b o e n1 n2 => ?_⟩
              · rw [upd_ne ngr.symm]
                exact hr
              · rw [et, upd_same]
                unfold once
                rw [if_neg hm, List.map_append]
                rfl
              · rw [upd_ne (fun z => by rw [z] at e; exact absurd (v9 _ _ e ngd ngc) (by rw [hpg]; intro y; cases y))]
                exact sv b o e n1 n2
          · rintro σ Hc ⟨v12, rfl, hr, hgd, dk, sv⟩
            rw [List.length_map, List.take_length] at hgd
            walk_at "rd"
            refine ⟨_, .of hgd, fun p hp => ?_⟩
            obtain ⟨n1, n2, n3⟩ := names_good gg hm
            obtain ⟨npd, npc⟩ := dk.fresh hp
            rw [cutV_to, ← List.map_take]
            exact q _ p _ n1 n2 n3 (dk.off npd npc) (((Same.sv s0).trans sv).new hp) (Same.free s0 (sv.free dk hp)) upd_same
end
end Vf
namespace Vf
open PySem L2 PyProof.Rows PySem.Spec

local macro_rules | `(tactic| walk_at "rd") => `(tactic| simp only [tSeq, tIfS, tOr, tAnd, tNot, tB, tTest, tChain, tCB, tCons, tNil, tVar, tC, tRet, tAndV, tOrV, tNotV, tOp, tNext, tDrop, tAsg, tPar, tYes, tIf, tCall, tCalK, tTup, tLst, tSl, tNoPart, tPart, tM0, tM1, tRevL, tBM0, tBM, gName, rI0, rI, rU, rInA, rEqA, rAddA, rMulA, rSlAny, iAny, rIsi, rAll, rAny, rSum, rList, rTuple, rLen, rLenS, rLenSeq, rMulS, CDiv, rIn, rEqD, rNeD, iList, iTup, iStr, rCat, rCatA, rSlL, rSlA, rSlS, gSub, rPop, rAppend, rSetL, rIx, rIxL, rIxT, rIxS, LenV,
  L2.start, List.map_cons, List.map_nil, List.length_cons, List.length_nil, List.cons_append, List.nil_append, List.append_nil, Nat.zero_add, Nat.add_sub_cancel, Nat.sub_self, List.replicate_succ, List.replicate_zero, List.getElem?_cons_zero, List.getElem?_cons_succ, List.set_cons_zero, List.set_cons_succ,
  Option.some.injEq, V.int.injEq, V.str.injEq, V.bl.injEq, V.ref.injEq, List.cons.injEq, and_true, true_and, exists_eq_left', exists_eq_left, exists_eq_right, exists_and_left, exists_and_right, false_or, or_false, reduceCtorEq, false_and, and_false, exists_false, Bool.not_true, Bool.not_false, if_true, if_false, Bool.false_eq_true, ite_true, ite_false])
/-! ## things that may be asked and shown -/
def StrGood (x : V) : Prop := match x with
  | .str s => s.length ≤ 1000 ∧ PyData.strOk s = true
  | _ => True
structure Item (H : Hp) (x : V) : Prop where
  good : StrGood x
  shows : ∃ d, Dv H x d ∧ d.showable = true ∧ (d.hasDict = false ∨ FlatDict H x) ∧ d.depth ≤ 50 ∧ d.shown.length ≤ sizeLine
theorem Item.same {H H' : Hp} {x : V} (s : Same H H') (i : Item H x) : Item H' x := by
  obtain ⟨d, h1, h2, h3, h4, h5⟩ := i.shows
  refine ⟨i.good, d, h1.same s, h2, h3.imp id fun ⟨a, kvs, e1, e2, e3⟩ => ⟨a, kvs, e1, s _ _ e2, e3⟩, h4, h5⟩
theorem Item.kind {K : PySem.W.Frag} {H : Hp} {x : V} (i : Item H x) : Kind K H x := by
  obtain ⟨d, h1, -⟩ := i.shows
  have g := i.good
  cases h1 with
  | non => exact ⟨_, .base .non, show kitB "NoneType" "str" = some false by decide +kernel⟩
  | bl b => exact ⟨_, .base (.bl b), show kitB "bool" "str" = some false by decide +kernel⟩
  | int n => exact ⟨_, .base (.int n), show kitB "int" "str" = some false by decide +kernel⟩
  | str s => exact ⟨_, .base (.str s), rfl, g⟩
  | lst e _ => exact ⟨_, .base (.lst e), show kitB "list" "str" = some false by decide +kernel⟩
  | tup e _ => exact ⟨_, .base (.tup e), show kitB "tuple" "str" = some false by decide +kernel⟩
  | dic e _ => exact ⟨_, .base (.dK e), show kitB "dict" "str" = some false by decide +kernel⟩
theorem repr_fits {s : Str} (h : s.length ≤ 1000) (k : PyData.strOk s = true) : (reprText s).length ≤ 10002 := by
  have h1 := StrLaws.reprText_len s fun c hc => by
    have := Array.all_eq_true_iff_forall_mem.mp k c (by simpa using hc)
    have : c < 0x110000 := by simpa using this
    omega
  omega
theorem item_str {H : Hp} {s : Str} (h : s.length ≤ 1000) (k : PyData.strOk s = true) : Item H (.str s) :=
  ⟨⟨h, k⟩, .str s, .str s, rfl, .inl rfl, Nat.zero_le _, by
    show (reprText s).length ≤ _
    exact Nat.le_trans (repr_fits h k) (line_le (by decide))⟩
theorem item_tup1 {H : Hp} {s : Str} {a : Addr} (h : s.length ≤ 1000) (k : PyData.strOk s = true) (e : H a = some (.tup [.str s])) : Item H (.ref a) :=
  ⟨trivial, .tuple [.str s], .tup e (.cons (.str s) .nil), rfl, .inl rfl, by simp [PyData.depth, PyData.depthAll], by
    have h1 := repr_fits h k
    simp only [PyData.shown, PyData.shownAll]
    rw [tupleText_one, strLen_append, strLen_append]
    have e1 : (Str.ofString "(").length = 1 := rfl
    have e2 : (Str.ofString ",)").length = 2 := rfl
    exact line_le (by omega)⟩
theorem item_lst1 {H : Hp} {s : Str} {a : Addr} (h : s.length ≤ 1000) (k : PyData.strOk s = true) (e : H a = some (.lst [.str s])) : Item H (.ref a) :=
  ⟨trivial, .list [.str s], .lst e (.cons (.str s) .nil), rfl, .inl rfl, by simp [PyData.depth, PyData.depthAll], by
    have h1 := repr_fits h k
    simp only [PyData.shown, PyData.shownAll]
    rw [listText_one, strLen_append, strLen_append, strLen_append]
    have e1 : (Str.ofString "[").length = 1 := rfl
    have e2 : (Str.ofString "]").length = 1 := rfl
    have e3 : (Str.ofString "").length = 0 := rfl
    exact line_le (by omega)⟩
/-- the heap without the deck -/
def off (d c : Addr) (H : Hp) : Hp := fun b => if b = d ∨ b = c then none else H b
theorem off_same {d c : Addr} {H H' : Hp} (v : Sv d c H H') : Same (off d c H) (off d c H') := fun b o e => by
  unfold off at e ⊢
  split at e
  · cases e
  · rename_i h
    rw [if_neg h]
    exact v b o e (fun z => h (.inl z)) fun z => h (.inr z)
theorem off_get {d c b : Addr} {H : Hp} {o : HO} (e : H b = some o) (n1 : b ≠ d) (n2 : b ≠ c) : off d c H b = some o := by
  unfold off
  rw [if_neg fun z => z.elim n1 n2]
  exact e
theorem off_sub (d c : Addr) (H : Hp) : Same (off d c H) H := fun b o e => by
  unfold off at e
  split at e
  · cases e
  · exact e
theorem strOk_of {s : Str} (h : ∀ x ∈ cs s, x < 0x110000) : PyData.strOk s = true := by
  refine Array.all_eq_true_iff_forall_mem.mpr fun c hc => decide_eq_true (h c ?_)
  simpa [cs] using hc
theorem abc_small : ∀ x ∈ cs abc, x < 0x110000 := by decide +kernel
theorem Lets.ok {s : Str} (h : Lets s) : ∀ x ∈ cs s, x < 0x110000 := fun x hx => abc_small x (h x hx)
theorem name_lets {s : Str} (h : isName (.str s) = true) : 1 ≤ s.length ∧ s.length ≤ 8 ∧ Lets s := by
  have h' : (decide (1 ≤ s.length) && decide (s.length ≤ 8) && !inV (.str s) (kept.map V.str) && s.cps.toList.all fun c => decide (c ∈ abc.cps.toList)) = true := h
  simp only [Bool.and_eq_true, decide_eq_true_eq] at h'
  exact ⟨h'.1.1.1, h'.1.1.2, fun c hc => of_decide_eq_true (List.all_eq_true.mp h'.2 c hc)⟩
theorem up_small : ∀ c ∈ cs abc, ∀ u ∈ Unicode.upperOf c, u < 0x110000 := by decide +kernel
theorem up_ok {s : Str} (h : Lets s) : ∀ x ∈ cs (Txt.upper s), x < 0x110000 := by
  intro x hx
  have hx' : x ∈ (Txt.upper s).cps := by simpa [cs] using hx
  unfold Txt.upper placed at hx'
  obtain ⟨l, hl, hm⟩ := Array.mem_flatten.mp hx'
  obtain ⟨i, hi, rfl⟩ := Array.mem_mapIdx.mp hl
  refine up_small _ (h _ ?_) x (by simpa using hm)
  unfold cs
  simp
/-- a text of at most n signs, all of them signs -/
structure Fine (n : Nat) (s : Str) : Prop where
  len : s.length ≤ n
  ok : ∀ x ∈ cs s, x < 0x110000
theorem Fine.app {m n : Nat} {a b : Str} (h : Fine m a) (k : Fine n b) : Fine (m + n) (a ++ b) :=
  ⟨by rw [strLen_append]; exact Nat.add_le_add h.len k.len, fun x hx => by
    rw [cs_app] at hx
    exact (List.mem_append.mp hx).elim (h.ok x) (k.ok x)⟩
theorem Fine.cut {n : Nat} {a : Str} (h : Fine n a) (lo hi : Option Int) : Fine n (cutS a lo hi) :=
  ⟨Nat.le_trans (cutS_length a lo hi) h.len, fun x hx => h.ok x (by
    unfold cutS at hx
    exact List.mem_of_mem_drop (List.mem_of_mem_take hx))⟩
theorem Fine.mono {m n : Nat} {a : Str} (h : Fine m a) (k : m ≤ n) : Fine n a := ⟨Nat.le_trans h.len k, h.ok⟩
theorem Fine.line {n : Nat} {a : Str} (h : Fine n a) (k : n ≤ 1000 := by decide) : a.length ≤ sizeLine := line_le (Nat.le_trans h.len (by omega))
theorem Fine.item {n : Nat} {a : Str} {H : Hp} (h : Fine n a) (k : n ≤ 1000 := by decide) : Item H (.str a) := item_str (Nat.le_trans h.len k) (strOk_of h.ok)
theorem fine_two {m n : Nat} {a b : Str} (h : Fine m a) (k : Fine n b) (z : m + n ≤ 1000 := by decide) : a.length + b.length ≤ sizeLine := line_le (by have := h.len; have := k.len; omega)
def odd : Str := "qzA0 _-.#\n"
theorem odd_small : ∀ x ∈ cs odd, x < 0x110000 := by decide +kernel
section
variable {P : Program} {w : World} {K : PySem.W.Frag} {mg : Str → Option Value} {base : Heap}
def spNear : Sp := fun vs H Q _ => ∃ (d c : Addr) (s : Str), vs = [.ref d, .str s] ∧ Deck H d c ∧ isName (.str s) = true ∧ ∀ (x : V) (H' : Hp), Item (off d c H') x → Deck H' d c → Sv d c H H' → Q x H'
abbrev s__law_near : Stmt := top 11
theorem sc__law_near : FnScope ["_law_deck_here", "_law_word", "_law_way", "_law_at", "_law_sign", "_law_some"] ["_law_deck_here", "_law_word"] (defScope s__law_near) := ⟨rfl, rfl, rfl, by decide +kernel, rfl, by decide +kernel, by decide +kernel⟩
theorem ok__law_near {f : Addr} {fd : FuncData} (D : Df K mg "_law_near" s__law_near f fd) (T : Tx K mg) (c__law_draw : Cal P w K mg base "_law_draw" ["_law_deck_here", "_law_many"] 1 spDraw)
    (c__law_pick : Cal P w K mg base "_law_pick" ["_law_deck_here", "_law_some"] 2 spPickS) : Cal P w K mg base "_law_near" ["_law_deck_here", "_law_word"] 3 spNear := by
  refine D.cal sc__law_near (fun vs H Q E h => ?_) (fun _ _ _ _ _ _ us hl => match us, hl with | [_, _], _ => rfl) (fun cdv A outer s H vs Q E hgu hr h => ?_)
  · obtain ⟨d, c, m, rfl, _⟩ := h
    rfl
  · obtain ⟨d, c, wd, rfl, hd, hn, q⟩ := h
    refine ⟨_, (pss_cons (ps_set (i := 2) sc__law_near.nd rfl (by first | exact Or.inl rfl | exact Or.inr rfl) (pe_cal c__law_draw hgu (hr.mono (by decide)) (by rfl) (pa_cons (pv 0) (pa_cons pe_int pa_nil)))) (pss_cons (ps_set (i := 3) sc__law_near.nd rfl (by first | exact Or.inl rfl | exact Or.inr rfl) (pe_cal c__law_draw hgu (hr.mono (by decide)) (by rfl) (pa_cons (pv 0) (pa_cons (pe_op op_add (pe_callB aLenS (by rfl) T.len (by decide +kernel) (pa_cons (pv 1) pa_nil)) pe_int) pa_nil)))) (pss_cons (ps_set (i := 4) sc__law_near.nd rfl (by first | exact Or.inl rfl | exact Or.inr rfl) (pe_cal c__law_pick hgu (hr.mono (by decide)) (by rfl) (pa_cons (pv 0) (pa_cons pe_str pa_nil)))) (pss_cons (ps_set (i := 5) sc__law_near.nd rfl (by first | exact Or.inl rfl | exact Or.inr rfl) (pe_lst (pa_cons (pe_op op_add_str (pe_op op_add_str (pe_slice sl_str (pv 1) po_none (po_some (pv 3))) (pv 4)) (pe_slice sl_str (pv 1) (po_some (pv 3)) po_none)) (pa_cons (pe_op op_add_str (pe_op op_add_str (pe_slice sl_str (pv 1) po_none (po_some (pv 3))) (pv 4)) (pe_slice sl_str (pv 1) (po_some (pe_op op_add (pv 3) pe_int)) po_none)) (pa_cons (pe_op op_add_str (pe_slice sl_str (pv 1) po_none (po_some (pv 3))) (pe_slice sl_str (pv 1) (po_some (pe_op op_add (pv 3) pe_int)) po_none)) (pa_cons (pe_upper (pv 1)) pa_nil)))))) (pss_one (ps_ret (pe_ix (aIxL (K := K) rfl) (pe_op op_cat (pv 5) (pe_lst (pa_cons (pe_op op_add_str (pv 1) (pe_slice sl_str pe_str (po_some (pe_op op_sub (pe_callB aLenS (by rfl) T.len (by decide +kernel) (pa_cons (pv 1) pa_nil)) pe_int)) po_none)) (pa_cons (pe_op op_add_str (pv 1) (pe_slice sl_str pe_str po_none (po_some (pe_op op_sub pe_int (pe_callB aLenS (by rfl) T.len (by decide +kernel) (pa_cons (pv 1) pa_nil)))))) (pa_cons (pe_tup (pa_cons (pv 1) pa_nil)) (pa_cons (pe_lst (pa_cons (pv 1) pa_nil)) pa_nil)))))) (pv 2) (fun _ _ => rfl)))))))), ?_⟩
    walk_at "rd"
    obtain ⟨n1, n8, nl⟩ := name_lets hn
    refine ⟨d, c, 8, rfl, hd, by decide, by decide, fun way H1 w0 w1 d1 v1 => ⟨line_le (by omega), d, c, _, rfl, d1, by omega, by omega, fun plc H2 a0 a1 d2 v2 => ⟨d, c, _, rfl, d2, by decide, by decide, fun x3 H3 hx3 d3 v3 => ?_⟩⟩⟩
    have fw : Fine 8 wd := ⟨n8, nl.ok⟩
    have fs : Fine 1 ⟨#[x3]⟩ := ⟨Nat.le_refl 1, fun x hx => by
      have e : x = x3 := by simpa [cs] using hx
      rw [e]
      exact odd_small x3 hx3⟩
    have fa : Fine 8 "abcdefgh" := ⟨by decide +kernel, by decide +kernel⟩
    refine ⟨_, rfl, fw.line, _, rfl, fine_two (fw.cut _ _) fs, _, rfl, fw.line, fine_two ((fw.cut _ _).app fs) (fw.cut _ _), _, rfl, fw.line, _, rfl, fine_two (fw.cut _ _) fs, _, rfl, fw.line, fine_two ((fw.cut _ _).app fs) (fw.cut _ _), _, rfl, fw.line, _, rfl, fw.line, fine_two (fw.cut _ _) (fw.cut _ _), ⟨_, rfl⟩, by omega, line_le (by decide), fun p hp => ?_⟩
    have f1 := ((fw.cut none (some plc)).app fs).app (fw.cut (some plc) none)
    have f2 := ((fw.cut none (some plc)).app fs).app (fw.cut (some (plc + 1)) none)
    have f3 := (fw.cut none (some plc)).app (fw.cut (some (plc + 1)) none)
    have f4 : Fine 24 (Txt.upper wd) := ⟨by have := len_upper wd; omega, up_ok nl⟩
    have g5 := fine_two fw (fa.cut (some ((wd.length : Int) - 1)) none)
    have f5 := fw.app (fa.cut (some ((wd.length : Int) - 1)) none)
    have g6 := fine_two fw (fa.cut none (some (8 - (wd.length : Int))))
    have f6 := fw.app (fa.cut none (some (8 - (wd.length : Int))))
    refine ⟨fw.line, fa.line, g5, fw.line, fa.line, g6, ?_⟩
    clear g5 g6
    revert f1 f2 f3 f4 f5 f6 hp
    generalize cutS wd none (some plc) ++ ⟨#[x3]⟩ ++ cutS wd (some plc) none = t1
    generalize cutS wd none (some plc) ++ ⟨#[x3]⟩ ++ cutS wd (some (plc + 1)) none = t2
    generalize cutS wd none (some plc) ++ cutS wd (some (plc + 1)) none = t3
    generalize Txt.upper wd = t4
    generalize wd ++ cutS (Str.ofString "abcdefgh") (some ((wd.length : Int) - 1)) none = t5
    generalize wd ++ cutS (Str.ofString "abcdefgh") none (some (8 - (wd.length : Int))) = t6
    intro hp f1 f2 f3 f4 f5 f6
    refine ⟨line_le (by decide), fun pt hpt => ⟨line_le (by decide), fun pl hpl => ⟨line_le (by decide), fun p2 hp2 => ⟨_, ne_upd hp2 (ne_upd hpl (ne_upd hpt upd_same)), _, upd_same, line_le (by show (4 + 4 : Nat) ≤ _; decide), fun pr hpr => ?_⟩⟩⟩⟩
    obtain ⟨npd, npc⟩ := d3.fresh hp
    have d4 := d3.off (o := .lst [.str t1, .str t2, .str t3, .str t4]) npd npc
    obtain ⟨ntd, ntc⟩ := d4.fresh hpt
    have d5 := d4.off (o := .tup [.str wd]) ntd ntc
    obtain ⟨nld, nlc⟩ := d5.fresh hpl
    have d6 := d5.off (o := .lst [.str wd]) nld nlc
    obtain ⟨n2d, n2c⟩ := d6.fresh hp2
    have d7 := d6.off (o := .lst [.str t5, .str t6, .ref pt, .ref pl]) n2d n2c
    obtain ⟨nrd, nrc⟩ := d7.fresh hpr
    have d8 := d7.off (o := .lst ([.str t1, .str t2, .str t3, .str t4] ++ [.str t5, .str t6, .ref pt, .ref pl])) nrd nrc
    have v8 := ((((((v1.trans v2).trans v3).new (o := .lst [.str t1, .str t2, .str t3, .str t4]) hp).new (o := .tup [.str wd]) hpt).new (o := .lst [.str wd]) hpl).new (o := .lst [.str t5, .str t6, .ref pt, .ref pl]) hp2).new (o := .lst ([.str t1, .str t2, .str t3, .str t4] ++ [.str t5, .str t6, .ref pt, .ref pl])) hpr
    have et := ne_upd (u := .lst ([.str t1, .str t2, .str t3, .str t4] ++ [.str t5, .str t6, .ref pt, .ref pl])) hpr (ne_upd (u := .lst [.str t5, .str t6, .ref pt, .ref pl]) hp2 (ne_upd (u := .lst [.str wd]) hpl (upd_same (H := upd H3 p (.lst [.str t1, .str t2, .str t3, .str t4])) (a := pt) (o := .tup [.str wd]))))
    have el := ne_upd (u := .lst ([.str t1, .str t2, .str t3, .str t4] ++ [.str t5, .str t6, .ref pt, .ref pl])) hpr (ne_upd (u := .lst [.str t5, .str t6, .ref pt, .ref pl]) hp2 (upd_same (H := upd (upd H3 p (.lst [.str t1, .str t2, .str t3, .str t4])) pt (.tup [.str wd])) (a := pl) (o := .lst [.str wd])))
    have wk := strOk_of fw.ok
    rcases (by omega : way = 0 ∨ way = 1 ∨ way = 2 ∨ way = 3 ∨ way = 4 ∨ way = 5 ∨ way = 6 ∨ way = 7) with rfl | rfl | rfl | rfl | rfl | rfl | rfl | rfl
    · exact ⟨_, _, rfl, .of upd_same, _, rfl, q _ _ f1.item d8 v8⟩
    · exact ⟨_, _, rfl, .of upd_same, _, rfl, q _ _ f2.item d8 v8⟩
    · exact ⟨_, _, rfl, .of upd_same, _, rfl, q _ _ f3.item d8 v8⟩
    · exact ⟨_, _, rfl, .of upd_same, _, rfl, q _ _ f4.item d8 v8⟩
    · exact ⟨_, _, rfl, .of upd_same, _, rfl, q _ _ f5.item d8 v8⟩
    · exact ⟨_, _, rfl, .of upd_same, _, rfl, q _ _ f6.item d8 v8⟩
    · exact ⟨_, _, rfl, .of upd_same, _, rfl, q _ _ (item_tup1 (by omega) wk (off_get et ntd ntc)) d8 v8⟩
    · exact ⟨_, _, rfl, .of upd_same, _, rfl, q _ _ (item_lst1 (by omega) wk (off_get el nld nlc)) d8 v8⟩
end
end Vf
namespace Vf
open PySem L2 PyProof.Rows PySem.Spec

local macro_rules | `(tactic| walk_at "rd") => `(tactic| simp only [tSeq, tIfS, tOr, tAnd, tNot, tB, tTest, tChain, tCB, tCons, tNil, tVar, tC, tRet, tAndV, tOrV, tNotV, tOp, tNext, tDrop, tAsg, tPar, tYes, tIf, tCall, tCalK, tTup, tLst, tSl, tNoPart, tPart, tM0, tM1, tRevL, tBM0, tBM, gName, rI0, rI, rU, rInA, rEqA, rAddA, rMulA, rSlAny, iAny, rIsi, rAll, rAny, rSum, rList, rTuple, rLen, rLenS, rLenSeq, rMulS, CDiv, rIn, rEqD, rNeD, iList, iTup, iStr, rCat, rCatA, rSlL, rSlA, rSlS, gSub, rPop, rAppend, rSetL, rIx, rIxL, rIxT, rIxS, LenV,
  L2.start, List.map_cons, List.map_nil, List.length_cons, List.length_nil, List.cons_append, List.nil_append, List.append_nil, Nat.zero_add, Nat.add_sub_cancel, Nat.sub_self, List.replicate_succ, List.replicate_zero, List.getElem?_cons_zero, List.getElem?_cons_succ, List.set_cons_zero, List.set_cons_succ,
  Option.some.injEq, V.int.injEq, V.str.injEq, V.bl.injEq, V.ref.injEq, List.cons.injEq, and_true, true_and, exists_eq_left', exists_eq_left, exists_eq_right, exists_and_left, exists_and_right, false_or, or_false, reduceCtorEq, false_and, and_false, exists_false, Bool.not_true, Bool.not_false, if_true, if_false, Bool.false_eq_true, ite_true, ite_false])
/-- a row of statements, the rest held back -/
theorem seq_cut {t u : TS} {D : Ends} {σ : L2.St} {H : Hp} (h : ∀ u', u' = u → tSeq t u' D σ H) : tSeq t u D σ H := h u rfl
/-- the deck, and a list of things that may be asked -/
structure Bag (d c : Addr) (n : Nat) (H : Hp) (p : Addr) : Prop where
  deck : Deck H d c
  nd : p ≠ d
  nc : p ≠ c
  has : ∃ xs, H p = some (.lst xs) ∧ xs.length ≤ n ∧ ∀ x ∈ xs, Item (off d c H) x
def litOk (x : V) : Bool := match x with
  | .str s => decide (s.length ≤ 1000) && PyData.strOk s
  | _ => false
theorem lit_items {H : Hp} {xs : List V} (h : xs.all litOk = true) : ∀ x ∈ xs, Item H x := fun x hx => by
  have k := List.all_eq_true.mp h x hx
  cases x with
  | str s =>
    have k' : (decide (s.length ≤ 1000) && PyData.strOk s) = true := k
    rw [Bool.and_eq_true, decide_eq_true_eq] at k'
    exact item_str k'.1 k'.2
  | _ => cases k
theorem Bag.next {d c p p2 : Addr} {n m : Nat} {H H' : Hp} {xs ys : List V} (B : Bag d c n H p) (hx : H p = some (.lst xs)) (v : Sv d c H H') (k : Deck H' d c) (np : H' p2 = none) (hy : ys.length ≤ m) (iy : ∀ y ∈ ys, Item (off d c H') y) :
    Bag d c (n + m) (upd H' p2 (.lst (xs ++ ys))) p2 := by
  obtain ⟨xs', e, l, i⟩ := B.has
  rw [hx] at e
  cases e
  obtain ⟨n1, n2⟩ := k.fresh np
  have s : Same (off d c H') (off d c (upd H' p2 (.lst (xs ++ ys)))) := off_same ((Sv.refl d c H').new np)
  refine ⟨k.off n1 n2, n1, n2, _, upd_same, by rw [List.length_append]; exact Nat.add_le_add l hy, fun y h => ?_⟩
  rcases List.mem_append.mp h with z | z
  · exact ((i y z).same (off_same v)).same s
  · exact (iy y z).same s
def addS (x : V) : V := match x with
  | .str s => .str (s ++ "s")
  | _ => .non
def cutS1 (x : V) : V := match x with
  | .str s => .str (cutS s none (some (-1)))
  | _ => .non
theorem kept_add : (((kept.map V.str).filter fun _ => true).map addS).all litOk = true ∧ (((kept.map V.str).filter fun _ => true).map addS).length ≤ 25 := by decide +kernel
theorem kept_cut : (((kept.map V.str).filter fun _ => true).map cutS1).all litOk = true ∧ (((kept.map V.str).filter fun _ => true).map cutS1).length ≤ 25 := by decide +kernel
theorem kept_short : ∀ s ∈ kept, s.length ≤ 8 := by decide +kernel
theorem one_merge : mergeK [] [((Sum.inr "a" : Key), V.int 1)] = [((Sum.inr "a" : Key), V.int 1)] := rfl
theorem flat_same {H H' : Hp} {x : V} (s : Same H H') : FlatDict H x → FlatDict H' x := fun ⟨a, kvs, e1, e2, e3⟩ => ⟨a, kvs, e1, s _ _ e2, e3⟩
theorem two_shown (b : Bool) : (PyData.list [.bool b, .bool b]).shown.length ≤ 1000000 := by
  cases b <;> decide +kernel
theorem two_deep (b : Bool) : (PyData.list [.bool b, .bool b]).depth ≤ 50 := by simp [PyData.depth, PyData.depthAll]
theorem ne_self {z : Str} {H : Hp} {Q : VK} (h : Q (.bl false) H) : rNe (.str z) (.str z) H Q := ⟨rfl, by simpa using h⟩
theorem Bag.sv {d c p : Addr} {n : Nat} {H H' : Hp} (B : Bag d c n H p) (v : Sv d c H H') (k : Deck H' d c) : Bag d c n H' p := by
  obtain ⟨xs, e, l, i⟩ := B.has
  exact ⟨k, B.nd, B.nc, xs, v _ _ e B.nd B.nc, l, fun x hx => (i x hx).same (off_same v)⟩
def closed (d : PyData) : Bool := d.showable && !d.hasDict && decide (d.depth ≤ 50) && decide (d.shown.length ≤ 1000000)
theorem item_closed {H : Hp} {x : V} {d : PyData} (g : StrGood x) (h : Dv H x d) (k : closed d = true) : Item H x := by
  simp only [closed, Bool.and_eq_true, Bool.not_eq_true', decide_eq_true_eq] at k
  exact ⟨g, d, h, k.1.1.1, .inl k.1.1.2, k.1.2, line_le k.2⟩
def closedD (d : PyData) : Bool := d.showable && decide (d.depth ≤ 50) && decide (d.shown.length ≤ 1000000)
theorem item_dict {H : Hp} {a : Addr} {kvs : List (Key × V)} {ds : List PyData} (e : H a = some (.dK kvs)) (h : DvAll H (kvs.map (·.2)) ds) (f : (kvs.map (·.2)).all flatV = true) (k : closedD (.dict ((kvs.map fun p => keyD p.1).zip ds)) = true) : Item H (.ref a) := by
  simp only [closedD, Bool.and_eq_true, decide_eq_true_eq] at k
  exact ⟨trivial, _, .dic e h, k.1.1, .inr ⟨a, kvs, rfl, e, f⟩, k.1.2, line_le k.2⟩
section
variable {P : Program} {w : World} {K : PySem.W.Frag} {mg : Str → Option Value} {base : Heap}
abbrev s_law : Stmt := top 12
theorem sc_law : FnScope ["_law_script", "_law_deck_here", "_law_some", "_law_word", "_law_turn", "_law_it", "_law_kept_here", "_law_due"] ["_law_script"] (defScope s_law) := ⟨rfl, rfl, rfl, by decide +kernel, rfl, by decide +kernel, by decide +kernel⟩
theorem ok_law {f : Addr} {fd : FuncData} (D : Df K mg "law" s_law f fd) (T : Tx K mg) (c__law_draw : Cal P w K mg base "_law_draw" ["_law_deck_here", "_law_many"] 1 spDraw) (c__law_deck : Cal P w K mg base "_law_deck" ["_law_script"] 1 (spDeck K))
    (c__law_kept : Cal P w K mg base "_law_kept" [] 1 spKept) (c__law_names : Cal P w K mg base "_law_names" ["_law_deck_here", "_law_many"] 2 spNames) (c__law_near : Cal P w K mg base "_law_near" ["_law_deck_here", "_law_word"] 3 spNear)
    (c__law_is_name : Cal P w K mg base "_law_is_name" ["_law_it"] 2 (spLawIsName K)) (c_is_name : Cal P w K mg base "is_name" ["thing"] 1 (spIsName K)) (k_is_name_thing : CalK P w K mg base "is_name" ["thing"] ["thing"] 0 (fun _ us ws => us ++ ws) 1 (spIsName K)) : FnG P w K mg base CX0 4 f fd ["_law_script"] (spLaw K) := by
  refine D.fnG sc_law (fun vs H Q E h => ?_) (fun cdv A outer s H vs Q E hgu hr h => ?_)
  · obtain ⟨a, ns, rfl, _⟩ := h
    rfl
  · obtain ⟨a, ns, rfl, ha, hn, q⟩ := h
    refine ⟨_, (pss_cons (ps_set (i := 1) sc_law.nd rfl (by first | exact Or.inl rfl | exact Or.inr rfl) (pe_cal c__law_deck hgu (hr.mono (by decide)) (by rfl) (pa_cons (pv 0) pa_nil))) (pss_cons (ps_set (i := 2) sc_law.nd rfl (by first | exact Or.inl rfl | exact Or.inr rfl) (pe_lst (pa_cons pe_str (pa_cons pe_str (pa_cons pe_str (pa_cons pe_str (pa_cons pe_str (pa_cons pe_str (pa_cons pe_str (pa_cons pe_str (pa_cons pe_str (pa_cons pe_str (pa_cons pe_str (pa_cons pe_str (pa_cons pe_str (pa_cons pe_str (pa_cons pe_str pa_nil))))))))))))))))) (pss_cons (ps_set (i := 2) sc_law.nd rfl (by first | exact Or.inl rfl | exact Or.inr rfl) (pe_op op_cat (pv 2) (pe_lst (pa_cons pe_str (pa_cons pe_str (pa_cons pe_str (pa_cons pe_str (pa_cons pe_str (pa_cons pe_str (pa_cons pe_str (pa_cons pe_str (pa_cons pe_str (pa_cons pe_str (pa_cons pe_str pa_nil)))))))))))))) (pss_cons (ps_set (i := 2) sc_law.nd rfl (by first | exact Or.inl rfl | exact Or.inr rfl) (pe_op op_cat (pe_op op_cat (pe_op op_cat (pv 2) (pe_cal0 c__law_kept hgu (hr.mono (by decide)) (by rfl))) (pe_lc (own := [("_law_word", 3)]) (g := gName 3) (tt := tYes) (by rfl) sc_law.nd (aWalkL (K := K) rfl (pe_cal0 c__law_kept hgu (hr.mono (by decide)) (by rfl))) (blkOk_by (own := [("_law_word", 3)]) (N := ["_law_script", "_law_deck_here", "_law_some", "_law_word", "_law_turn", "_law_it", "_law_kept_here", "_law_due"]) (sc := defScope s_law) (by decide +kernel)) (fun _ _ _ _ _ => (pg_name (i := 3) sc_law.nd rfl (Or.inl rfl))) (fun _ _ _ _ _ => pts_nil) (fun _ _ _ _ _ => (pe_op op_add_str (pv 3) pe_str)))) (pe_lc (own := [("_law_word", 3)]) (g := gName 3) (tt := tYes) (by rfl) sc_law.nd (aWalkL (K := K) rfl (pe_cal0 c__law_kept hgu (hr.mono (by decide)) (by rfl))) (blkOk_by (own := [("_law_word", 3)]) (N := ["_law_script", "_law_deck_here", "_law_some", "_law_word", "_law_turn", "_law_it", "_law_kept_here", "_law_due"]) (sc := defScope s_law) (by decide +kernel)) (fun _ _ _ _ _ => (pg_name (i := 3) sc_law.nd rfl (Or.inl rfl))) (fun _ _ _ _ _ => pts_nil) (fun _ _ _ _ _ => (pe_slice sl_str (pv 3) po_none (po_some (pe_un un_neg pe_int))))))) (pss_cons (ps_set (i := 2) sc_law.nd rfl (by first | exact Or.inl rfl | exact Or.inr rfl) (pe_op op_cat (pv 2) (pe_lst (pa_cons pe_non (pa_cons pe_bl (pa_cons pe_bl (pa_cons pe_int (pa_cons pe_int (pa_cons (pe_tup pa_nil) (pa_cons (pe_tup (pa_cons pe_str pa_nil)) (pa_cons (pe_lst (pa_cons pe_str pa_nil)) (pa_cons pe_dnewK (pa_cons (pe_disp (pps_cons pe_str pe_int pps_nil) (by rfl) (by rfl) (fun z => by cases z) (by decide)) (pa_cons (pe_tup (pa_cons (pe_tup (pa_cons pe_str pa_nil)) pa_nil)) (pa_cons (pe_lst (pa_cons (pe_lst (pa_cons (pe_lst (pa_cons (pe_lst (pa_cons pe_str pa_nil)) pa_nil)) pa_nil)) pa_nil)) (pa_cons (pe_op op_pow pe_int pe_int) (pa_cons pe_str pa_nil))))))))))))))))) (pss_cons (ps_for PassesOwn.never rfl (pi_range1 rfl T.range (pa_cons pe_int pa_nil)) (pg_name (i := 4) sc_law.nd rfl (by first | exact Or.inl rfl | exact Or.inr rfl)) (pss_one (ps_for PassesOwn.never rfl (aWalkL (K := K) rfl (pe_cal c__law_names hgu (hr.mono (by decide)) (by rfl) (pa_cons (pv 1) (pa_cons pe_int pa_nil)))) (pg_name (i := 3) sc_law.nd rfl (by first | exact Or.inl rfl | exact Or.inr rfl)) (pss_one (ps_set (i := 2) sc_law.nd rfl (by first | exact Or.inl rfl | exact Or.inr rfl) (pe_op op_cat (pv 2) (pe_lst (pa_cons (pv 3) (pa_cons (pe_cal c__law_near hgu (hr.mono (by decide)) (by rfl) (pa_cons (pv 1) (pa_cons (pv 3) pa_nil))) (pa_cons (pe_cal c__law_near hgu (hr.mono (by decide)) (by rfl) (pa_cons (pv 1) (pa_cons (pv 3) pa_nil))) pa_nil)))))))))) (pss_cons (ps_for PassesOwn.never rfl (aWalkL (K := K) rfl (pv 2)) (pg_name (i := 5) sc_law.nd rfl (by first | exact Or.inl rfl | exact Or.inr rfl)) (pss_cons (ps_set (i := 6) sc_law.nd rfl (by first | exact Or.inl rfl | exact Or.inr rfl) (pe_callB (call_reprD hgu hr.units) (by rfl) T.repr (by decide +kernel) (pa_cons (pv 5) pa_nil))) (pss_cons (ps_set (i := 7) sc_law.nd rfl (by first | exact Or.inl rfl | exact Or.inr rfl) (pe_cal c__law_is_name hgu (hr.mono (by decide)) (by rfl) (pa_cons (pv 5) pa_nil))) (pss_one (ps_if (PW.pt (pw_or (pt_cmpR op_ne (pe_callB (call_reprD hgu hr.units) (by rfl) T.repr (by decide +kernel) (pa_cons (pe_lst (pa_cons (pe_cal c_is_name hgu (hr.mono (by decide)) (by rfl) (pa_cons (pv 5) pa_nil)) (pa_cons (pe_calK0 k_is_name_thing hgu (hr.mono (by decide)) (by rfl) (pk_cons (pv 5) pk_nil)) pa_nil))) pa_nil)) (pe_callB (call_reprD hgu hr.units) (by rfl) T.repr (by decide +kernel) (pa_cons (pe_lst (pa_cons (pv 7) (pa_cons (pv 7) pa_nil))) pa_nil)) (by rfl)) (pw_or1 (pt_cmpR op_ne (pe_callB (call_reprD hgu hr.units) (by rfl) T.repr (by decide +kernel) (pa_cons (pv 5) pa_nil)) (pv 6) (by rfl))))) (pss_one (ps_ret pe_bl)) pss_nil))))) (pss_one (ps_ret pe_bl))))))))), ?_⟩
    refine seq_cut fun u hu => ?_
    walk_at "rd"
    refine ⟨a, ns, rfl, ha, hn, fun d c H1 s1 fd1 fc1 k1 => ?_⟩
    clear ha
    subst hu
    refine seq_cut fun u hu => ?_
    walk_at "rd"
    refine ⟨line_le (by decide), fun p hp => ?_⟩
    obtain ⟨npd, npc⟩ := k1.fresh hp
    refine (show ∀ H2 : Hp, Bag d c 15 H2 p → u ?D1 [some (.ref a), some (.ref d), some (.ref p), none, none, none, none, none] H2 from ?h1) _ ?b1
    case b1 => exact ⟨k1.off npd npc, npd, npc, _, upd_same, by decide, lit_items (by decide +kernel)⟩
    case h1 =>
    clear hp s1 fd1 fc1 k1 npd npc H1
    intro H1 B
    subst hu
    -- more words
    refine seq_cut fun u hu => ?_
    walk_at "rd"
    obtain ⟨xs, hx, hl, hi⟩ := id B.has
    refine ⟨line_le (by decide), fun p1 hp1 => ⟨xs, ne_upd hp1 hx, _, upd_same, line_le (by simp; omega), fun p2 hp2 => ?_⟩⟩
    obtain ⟨n1d, n1c⟩ := B.deck.fresh hp1
    refine (show ∀ H2 : Hp, Bag d c (15 + 11) H2 p2 → u ?D2 [some (.ref a), some (.ref d), some (.ref p2), none, none, none, none, none] H2 from ?h2) _ ?b2
    case b2 => exact B.next hx ((Sv.refl d c H1).new hp1) (B.deck.off n1d n1c) hp2 (by decide) (lit_items (by decide +kernel))
    case h2 =>
    clear hp1 hp2 n1d n1c hx hl hi
    clear B xs
    clear H1 p
    intro H1 B
    subst hu
    -- the kept words, and near ones
    refine seq_cut fun u hu => ?_
    walk_at "rd"
    obtain ⟨xs, hx, hl, hi⟩ := id B.has
    refine ⟨rfl, fun q1 H2 s2 nq1 e1 => ⟨q1, rfl, xs, s2 _ _ hx, _, e1, line_le (by rw [List.length_map]; show _ + 25 ≤ _; omega), fun p3 hp3 => ?_⟩⟩
    refine (show ∀ H3 : Hp, Bag d c (15 + 11 + 25) H3 p3 → tLc ?w3 ?g3 ?t3 ?e3 ?v3 ?s3 H3 ?k3 from ?h3) _ ?b3
    case b3 => exact B.next hx (Same.sv s2) (B.deck.same s2) hp3 (by decide) (lit_items (by decide +kernel))
    case h3 =>
    clear hp3 e1 nq1 s2 hx hl hi
    clear B xs
    intro H2 B
    obtain ⟨xs, hx, hl, hi⟩ := id B.has
    refine ⟨rfl, fun q2 H4 s4 nq2 e2 => ⟨q2, rfl, ⟨_, .of e2⟩, fun L hL => lc_pure (steps_list K q2 (kept.map V.str)) (fun _ => true) addS (fun acc => seqL_upd hL (.of e2)) (line_le (by decide)) ?_ ?_ ?_ ?_⟩⟩
    · exact fun _ => rfl
    · exact fun x _ acc R r => r
    · intro x hm _ acc R r
      obtain ⟨z, hz, rfl⟩ := List.mem_map.mp hm
      exact ⟨_, rfl, _, rfl, _, rfl, line_le (by have := kept_short z hz; show _ + 1 ≤ _; omega), r⟩
    obtain ⟨nLd, nLc⟩ := (B.deck.same s4).fresh hL
    refine ⟨L, rfl, xs, ne_upd hL (s4 _ _ hx), _, upd_same, line_le (by have := kept_add.2; omega), fun p4 hp4 => ?_⟩
    refine (show ∀ H3 : Hp, Bag d c (15 + 11 + 25 + 25) H3 p4 → tLc ?w4 ?g4 ?t4 ?e4 ?v4 ?s4 H3 ?k4 from ?h4) _ ?b4
    case b4 => exact B.next hx ((Same.sv s4).new hL) ((B.deck.same s4).off nLd nLc) hp4 kept_add.2 (lit_items kept_add.1)
    case h4 =>
    clear hp4 hL nLd nLc e2 nq2 s4 hx hl hi
    clear B xs
    intro H5 B
    obtain ⟨xs, hx, hl, hi⟩ := id B.has
    refine ⟨rfl, fun q3 H6 s6 nq3 e3 => ⟨q3, rfl, ⟨_, .of e3⟩, fun L2 hL2 => lc_pure (steps_list K q3 (kept.map V.str)) (fun _ => true) cutS1 (fun acc => seqL_upd hL2 (.of e3)) (line_le (by decide)) ?_ ?_ ?_ ?_⟩⟩
    · exact fun _ => rfl
    · exact fun x _ acc R r => r
    · intro x hm _ acc R r
      obtain ⟨z, hz, rfl⟩ := List.mem_map.mp hm
      exact ⟨_, rfl, 1, rfl, _, rfl, _, rfl, line_le (by have := kept_short z hz; omega), r⟩
    obtain ⟨nLd, nLc⟩ := (B.deck.same s6).fresh hL2
    refine ⟨L2, rfl, xs, ne_upd hL2 (s6 _ _ hx), _, upd_same, line_le (by have := kept_cut.2; omega), fun p5 hp5 => ?_⟩
    refine (show ∀ H3 : Hp, Bag d c (15 + 11 + 25 + 25 + 25) H3 p5 → u ?D5 [some (.ref a), some (.ref d), some (.ref p5), none, none, none, none, none] H3 from ?h5) _ ?b5
    case b5 => exact B.next hx ((Same.sv s6).new hL2) ((B.deck.same s6).off nLd nLc) hp5 kept_cut.2 (lit_items kept_cut.1)
    case h5 =>
    clear hp5 hL2 nLd nLc e3 nq3 s6 hx hl hi
    clear B xs
    clear H1 H2 H4 H5 H6 p2 p3 p4 q1 q2 q3 L L2
    intro H1 B
    subst hu
    -- things of other kinds
    refine seq_cut fun u hu => ?_
    walk_at "rd"
    obtain ⟨xs, hx, hl, hi⟩ := id B.has
    refine ⟨line_le (by decide), fun o1 h1 => ⟨line_le (by decide), fun o2 h2 => ⟨line_le (by decide), fun o3 h3 => fun o4 h4 => fun o5 h5 => ⟨upd_same, [(Sum.inr "a", V.int 1)], rfl, by decide, ?_⟩⟩⟩⟩
    rw [upd_upd, one_merge]
    refine ⟨line_le (by decide), fun o6 h6 => ⟨line_le (by decide), fun o7 h7 => ⟨line_le (by decide), fun o8 h8 => ⟨line_le (by decide), fun o9 h9 => ⟨line_le (by decide), fun o10 h10 => ⟨line_le (by decide), fun o11 h11 => ⟨⟨by decide, by decide, by decide⟩, line_le (by decide), fun o12 h12 => ?_⟩⟩⟩⟩⟩⟩⟩
    have s1 := same_upd (o := .tup []) h1
    have s2 := s1.trans (same_upd (o := .tup [.str "a"]) h2)
    have s3 := s2.trans (same_upd (o := .lst [.str "a"]) h3)
    have s4 := s3.trans (same_upd (o := .dK []) h4)
    have s5 := s4.trans (same_upd (o := .dK [(Sum.inr "a", V.int 1)]) h5)
    have s6 := s5.trans (same_upd (o := .tup [.str "a"]) h6)
    have s7 := s6.trans (same_upd (o := .tup [.ref o6]) h7)
    have s8 := s7.trans (same_upd (o := .lst [.str "a"]) h8)
    have s9 := s8.trans (same_upd (o := .lst [.ref o8]) h9)
    have s10 := s9.trans (same_upd (o := .lst [.ref o9]) h10)
    have s11 := s10.trans (same_upd (o := .lst [.ref o10]) h11)
    have s12 := s11.trans (same_upd (o := .lst [V.non, .bl true, .bl false, .int 0, .int 1, .ref o1, .ref o2, .ref o3, .ref o4, .ref o5, .ref o7, .ref o11, .int (10 ^ (39 : Int).toNat), .str "#x"]) h12)
    refine ⟨xs, s12 _ _ hx, _, upd_same, line_le (by show _ + 14 ≤ _; omega), fun p6 hp6 => ?_⟩
    refine (show ∀ H3 : Hp, Bag d c (15 + 11 + 25 + 25 + 25 + 14) H3 p6 → u ?D6 [some (.ref a), some (.ref d), some (.ref p6), none, none, none, none, none] H3 from ?h6) _ ?b6
    case b6 =>
      have b11 := same_upd (o := .lst [V.non, .bl true, .bl false, .int 0, .int 1, .ref o1, .ref o2, .ref o3, .ref o4, .ref o5, .ref o7, .ref o11, .int (10 ^ (39 : Int).toNat), .str "#x"]) h12
      have b10 := Same.trans (same_upd (o := .lst [.ref o10]) h11) b11
      have b9 := Same.trans (same_upd (o := .lst [.ref o9]) h10) b10
      have b8 := Same.trans (same_upd (o := .lst [.ref o8]) h9) b9
      have b7 := Same.trans (same_upd (o := .lst [.str "a"]) h8) b8
      have b6 := Same.trans (same_upd (o := .tup [.ref o6]) h7) b7
      have b5 := Same.trans (same_upd (o := .tup [.str "a"]) h6) b6
      have b4 := Same.trans (same_upd (o := .dK [(Sum.inr "a", V.int 1)]) h5) b5
      have b3 := Same.trans (same_upd (o := .dK []) h4) b4
      have b2 := Same.trans (same_upd (o := .lst [.str "a"]) h3) b3
      have b1 := Same.trans (same_upd (o := .tup [.str "a"]) h2) b2
      have e1 := b1 o1 (.tup []) upd_same
      have e2 := b2 o2 (.tup [.str "a"]) upd_same
      have e3 := b3 o3 (.lst [.str "a"]) upd_same
      have e4 := b4 o4 (.dK []) upd_same
      have e5 := b5 o5 (.dK [(Sum.inr "a", V.int 1)]) upd_same
      have e6 := b6 o6 (.tup [.str "a"]) upd_same
      have e7 := b7 o7 (.tup [.ref o6]) upd_same
      have e8 := b8 o8 (.lst [.str "a"]) upd_same
      have e9 := b9 o9 (.lst [.ref o8]) upd_same
      have e10 := b10 o10 (.lst [.ref o9]) upd_same
      have e11 := b11 o11 (.lst [.ref o10]) upd_same
      have n1 := B.deck.fresh h1
      have n2 := B.deck.fresh (Same.free s1 h2)
      have n3 := B.deck.fresh (Same.free s2 h3)
      have n4 := B.deck.fresh (Same.free s3 h4)
      have n5 := B.deck.fresh (Same.free s4 h5)
      have n6 := B.deck.fresh (Same.free s5 h6)
      have n7 := B.deck.fresh (Same.free s6 h7)
      have n8 := B.deck.fresh (Same.free s7 h8)
      have n9 := B.deck.fresh (Same.free s8 h9)
      have n10 := B.deck.fresh (Same.free s9 h10)
      have n11 := B.deck.fresh (Same.free s10 h11)
      have g1 := off_get e1 n1.1 n1.2
      have g2 := off_get e2 n2.1 n2.2
      have g3 := off_get e3 n3.1 n3.2
      have g4 := off_get e4 n4.1 n4.2
      have g5 := off_get e5 n5.1 n5.2
      have g6 := off_get e6 n6.1 n6.2
      have g7 := off_get e7 n7.1 n7.2
      have g8 := off_get e8 n8.1 n8.2
      have g9 := off_get e9 n9.1 n9.2
      have g10 := off_get e10 n10.1 n10.2
      have g11 := off_get e11 n11.1 n11.2
      refine B.next hx (Same.sv s12) (B.deck.same s12) hp6 (by show 14 ≤ 14; decide) fun y hy => ?_
      simp only [List.mem_cons, List.not_mem_nil, or_false] at hy
      rcases hy with rfl | rfl | rfl | rfl | rfl | rfl | rfl | rfl | rfl | rfl | rfl | rfl | rfl | rfl
      · exact item_closed trivial .non (by decide +kernel)
      · exact item_closed trivial (.bl true) (by decide +kernel)
      · exact item_closed trivial (.bl false) (by decide +kernel)
      · exact item_closed trivial (.int 0) (by decide +kernel)
      · exact item_closed trivial (.int 1) (by decide +kernel)
      · exact item_closed trivial (.tup g1 .nil) (by decide +kernel)
      · exact item_closed trivial (.tup g2 (.cons (.str _) .nil)) (by decide +kernel)
      · exact item_closed trivial (.lst g3 (.cons (.str _) .nil)) (by decide +kernel)
      · exact item_dict g4 .nil rfl (by decide +kernel)
      · exact item_dict g5 (.cons (.int 1) .nil) rfl (by decide +kernel)
      · exact item_closed trivial (.tup g7 (.cons (.tup g6 (.cons (.str _) .nil)) .nil)) (by decide +kernel)
      · exact item_closed trivial (.lst g11 (.cons (.lst g10 (.cons (.lst g9 (.cons (.lst g8 (.cons (.str _) .nil)) .nil)) .nil)) .nil)) (by decide +kernel)
      · exact item_closed trivial (.int _) (by decide +kernel)
      · exact lit_items (xs := [.str "#x"]) (by decide +kernel) _ List.mem_cons_self
    case h6 =>
    clear hp6 hx hl hi
    clear s1 s2 s3 s4 s5 s6 s7 s8 s9 s10 s11 s12
    clear h12 h11 h10 h9 h8 h7 h6 h5 h4 h3 h2 h1 o1 o2 o3 o4 o5 o6 o7 o8 o9 o10 o11 o12
    clear B xs
    clear H1 p5
    intro H1 B
    subst hu
    -- the names, and things near them
    refine seq_cut fun u hu => ?_
    refine ⟨3, rfl, by decide, by decide, for_steps (steps_range 0 3) (fun i σ Hc => ∃ (ps : Addr) (v3 v4 : Option V), σ = [some (.ref a), some (.ref d), some (.ref ps), v3, v4, none, none, none] ∧ Bag d c (115 + 21 * i) Hc ps) ⟨_, _, _, rfl, B⟩ (fun _ _ _ _ _ => trivial) ?_ ?_⟩
    · rintro i x σ H2 hx ⟨ps, v3, v4, rfl, B2⟩
      obtain ⟨hi, rfl⟩ := wholes_at hx
      refine ⟨_, rfl, d, c, 7, rfl, B2.deck, by decide, fun l pn H3 hl _ good d3 w3 npn epn => ⟨pn, rfl, ⟨_, .of epn⟩, ?_⟩⟩
      obtain ⟨nnd, nnc⟩ := B2.deck.fresh npn
      refine for_steps (steps_list K pn (l.map V.str)) (fun j σ Hc => ∃ (ps : Addr) (v3 : Option V), σ = [some (.ref a), some (.ref d), some (.ref ps), v3, some (.int (0 + (i : Nat))), none, none, none] ∧ Hc pn = some (.lst (l.map V.str)) ∧ Bag d c (115 + 21 * i + 3 * j) Hc ps)
        ⟨ps, v3, rfl, epn, B2.sv w3 d3⟩ (fun j σ Hc _ ⟨_, _, _, e, _⟩ => .of e) ?_ ?_
      · rintro j x σ H4 hx4 ⟨ps4, v34, rfl, e4, B4⟩
        obtain ⟨sw, hsw, rfl⟩ := List.mem_map.mp (List.mem_of_getElem? hx4)
        have hj : j < 7 := by
          have := (List.getElem?_eq_some_iff.mp hx4).1
          rw [List.length_map, hl] at this
          exact this
        obtain ⟨xs, hx, hlen, hi'⟩ := id B4.has
        have hname := good sw hsw
        obtain ⟨m1, m8, ml⟩ := name_lets hname
        walk_at "rd"
        refine ⟨d, c, sw, rfl, B4.deck, hname, fun x1 Ha i1 da va => ⟨d, c, sw, rfl, da, hname, fun x2 Hb i2 db vb => ⟨line_le (by decide), fun p1 hp1 => ⟨xs, ne_upd hp1 ((va.trans vb) _ _ hx B4.nd B4.nc), _, upd_same, line_le (by show _ + 3 ≤ _; omega), fun p2 hp2 => ?_⟩⟩⟩⟩
        obtain ⟨q1d, q1c⟩ := db.fresh hp1
        have iy : ∀ y ∈ [V.str sw, x1, x2], Item (off d c (upd Hb p1 (.lst [V.str sw, x1, x2]))) y := by
          intro y hy
          have sb : Same (off d c Hb) (off d c (upd Hb p1 (.lst [V.str sw, x1, x2]))) := off_same ((Sv.refl d c Hb).new hp1)
          simp only [List.mem_cons, List.not_mem_nil, or_false] at hy
          rcases hy with rfl | rfl | rfl
          · exact item_str (by omega) (strOk_of ml.ok)
          · exact (i1.same (off_same vb)).same sb
          · exact i2.same sb
        exact ⟨p2, ⟨rfl, _, rfl⟩, ne_upd hp2 (ne_upd hp1 ((va.trans vb) _ _ e4 nnd nnc)), B4.next hx ((va.trans vb).new hp1) (db.off q1d q1c) hp2 (Nat.le_refl 3) iy⟩
      · rintro σ H4 ⟨ps4, v34, rfl, e4, B4⟩
        rw [List.length_map, hl] at B4
        exact ⟨_, _, _, rfl, B4⟩
    · rintro σ H2 ⟨ps, v3, v4, rfl, B2⟩
      rw [wholes_len] at B2
      obtain ⟨xs, hx, hl, hi⟩ := B2.has
      clear B
      show u _ _ _
      subst hu
      -- each is asked
      refine seq_cut fun u hu => ?_
      refine ⟨_, rfl, ps, rfl, ⟨_, .of hx⟩, for_steps (steps_list K ps xs) (fun i σ Hc => ∃ v5 v6 v7 : Option V, σ = [some (.ref a), some (.ref d), some (.ref ps), v3, v4, v5, v6, v7] ∧ Same H2 Hc) ⟨_, _, _, rfl, Same.refl H2⟩ (fun i σ Hc _ ⟨_, _, _, _, sm⟩ => .of (sm _ _ hx)) ?_ ?_⟩
      · rintro i x σ H3 hx3 ⟨v5, v6, v7, rfl, sm⟩
        have it : Item H3 x := (hi x (List.mem_of_getElem? hx3)).same (Same.trans (off_sub d c H2) sm)
        walk_at "rd"
        obtain ⟨dx, h1, h2, h3, h4, h5⟩ := it.shows
        refine ⟨x, dx, rfl, h1, h2, h3, h4, h5, x, rfl, it.kind, fun Ha sa => ⟨x, rfl, (it.same sa).kind, fun Hb sb => ⟨x, rfl, ((it.same sa).same sb).kind, fun Hc sc => ⟨line_le (by decide), fun p1 hp1 => ?_⟩⟩⟩⟩
        refine ⟨.ref p1, .list [.bool (isName x), .bool (isName x)], rfl, .lst upd_same (.cons (.bl _) (.cons (.bl _) .nil)), rfl, .inl rfl, two_deep _, line_le (two_shown _), line_le (by decide), fun p2 hp2 => ?_⟩
        refine ⟨.ref p2, .list [.bool (isName x), .bool (isName x)], rfl, .lst upd_same (.cons (.bl _) (.cons (.bl _) .nil)), rfl, .inl rfl, two_deep _, line_le (two_shown _), ne_self ⟨false, rfl, ?_⟩⟩
        rw [if_neg (by decide)]
        have s5 := Same.trans (Same.trans (Same.trans (Same.trans sa sb) sc) (same_upd (o := .lst [.bl (isName x), .bl (isName x)]) hp1)) (same_upd (o := .lst [.bl (isName x), .bl (isName x)]) hp2)
        refine ⟨x, dx, rfl, h1.same s5, h2, h3.imp id (flat_same s5), h4, h5, ne_self ⟨false, rfl, ?_⟩⟩
        rw [if_neg (by decide)]
        exact ⟨⟨_, rfl⟩, Same.trans sm s5⟩
      · rintro σ H3 ⟨v5, v6, v7, rfl, sm⟩
        subst hu
        walk_at "rd"
        exact q H3
end
end Vf
namespace Vf
open PySem L2 PyProof.Rows PySem.Spec
/-- a def as the top has left it -/
def DefAt (K : PySem.W.Frag) (x : Str) (st : Stmt) : Prop := ∃ (f : Addr) (oc : Value) (od : Option Addr) (kV doc pm : Value) (an : Option Addr) (cdv ct : Value) (osl : Array (Option Value)),
  PySem.W.nsIn K mainGlobals x = some (some (.ref f)) ∧ K.lookup f = some ⟨oc, od, .func (PySem.W.fnOf x x (defArgs st) (defBody st) (defScope st) .none kV doc pm an cdv ct), osl⟩ ∧ PySem.W.codeIn K cdv x = true ∧ PySem.W.keepIn K (.ref f) = true
theorem DefAt.mk {K : PySem.W.Frag} {x : Str} {st : Stmt} {f : Addr} {oc : Value} {od : Option Addr} {kV doc pm : Value} {an : Option Addr} {cdv ct : Value} {osl : Array (Option Value)}
    (a : PySem.W.nsIn K mainGlobals x = some (some (.ref f))) (l : K.lookup f = some ⟨oc, od, .func (PySem.W.fnOf x x (defArgs st) (defBody st) (defScope st) .none kV doc pm an cdv ct), osl⟩) (c : PySem.W.codeIn K cdv x = true) (k : PySem.W.keepIn K (.ref f) = true) : DefAt K x st :=
  ⟨f, oc, od, kV, doc, pm, an, cdv, ct, osl, a, l, c, k⟩
theorem DefAt.df {K : PySem.W.Frag} {x : Str} {st : Stmt} {h : Heap} {mg : Str → Option Value} (X : K.In h) (G : h.Ns mainGlobals mg) (A : DefAt K x st) : ∃ f kV doc pm an cdv ct, Df K mg x st f (PySem.W.fnOf x x (defArgs st) (defBody st) (defScope st) .none kV doc pm an cdv ct) := by
  obtain ⟨f, oc, od, kV, doc, pm, an, cdv, ct, osl, a, l, c, k⟩ := A
  exact ⟨f, kV, doc, pm, an, cdv, ct, fun_mk l c k, PySem.W.mg_of X G a⟩
/-- a tuple of texts as the top has left it -/
def TupAt (K : PySem.W.Frag) (x : Str) (l : List Str) : Prop := ∃ (a : Addr) (o : Obj) (its : Array Value) (n : Nat), PySem.W.nsIn K mainGlobals x = some (some (.ref a)) ∧ K.lookup a = some o ∧ o.cls = .type "tuple" ∧ o.data = .seq its n ∧ its.size ≤ 1000 ∧ Vals (l.map V.str) its.toList
/-- a text as the top has left it -/
def TextAt (K : PySem.W.Frag) (x z : Str) : Prop := ∃ z' t, PySem.W.nsIn K mainGlobals x = some (some (.str z' t)) ∧ z' = z
theorem TextAt.mk {K : PySem.W.Frag} {x z z' : Str} {t : Tok} (h : PySem.W.nsIn K mainGlobals x = some (some (.str z' t))) (e : z' = z) : TextAt K x z := ⟨z', t, h, e⟩
theorem TupAt.mk {K : PySem.W.Frag} {x : Str} {l : List Str} {a : Addr} {od : Option Addr} {its : Array Value} {n : Nat} {sl : Array (Option Value)} (h1 : PySem.W.nsIn K mainGlobals x = some (some (.ref a))) (h2 : K.lookup a = some ⟨.type "tuple", od, .seq its n, sl⟩)
    (h3 : its.size ≤ 1000) (h4 : Vals (l.map V.str) its.toList) : TupAt K x l := ⟨a, ⟨.type "tuple", od, .seq its n, sl⟩, its, n, h1, h2, rfl, rfl, h3, h4⟩
theorem all_mk {l : PySem.W.OpenLaw} {w : World} {K : PySem.W.Frag} {h : Heap} {mg : Str → Option Value} {fa : Addr} (X : K.In h) (G : h.Ns mainGlobals mg) (hfa : mg "law" = some (.ref fa))
    (d_is_name : DefAt K "is_name" s_is_name) (d_deck : DefAt K "_law_deck" s__law_deck) (d_draw : DefAt K "_law_draw" s__law_draw) (d_pick : DefAt K "_law_pick" s__law_pick) (d_names : DefAt K "_law_names" s__law_names)
    (d_kept : DefAt K "_law_kept" s__law_kept) (d_lname : DefAt K "_law_is_name" s__law_is_name) (d_near : DefAt K "_law_near" s__law_near) (d_law : DefAt K "law" s_law)
    (t_kept : TupAt K "KEPT" kept) (t_letters : TextAt K "LETTERS" "abcdefghijklmnopqrstuvwxyz")
    (z1 : PySem.W.nsIn K mainGlobals "isinstance" = some none) (z2 : PySem.W.nsIn K mainGlobals "str" = some none) (z3 : PySem.W.nsIn K mainGlobals "len" = some none) (z4 : PySem.W.nsIn K mainGlobals "all" = some none)
    (z5 : PySem.W.nsIn K mainGlobals "sum" = some none) (z6 : PySem.W.nsIn K mainGlobals "list" = some none) (z7 : PySem.W.nsIn K mainGlobals "range" = some none) (z8 : PySem.W.nsIn K mainGlobals "repr" = some none) :
    ∃ fd : FuncData, (∀ (s : Shared) (v : Value), BindsTo s fd ⟨[v], []⟩ [("_law_script", v)]) ∧ ∀ base : Heap, K.In base → base.Ns mainGlobals mg → FnG l.prog w K mg base CX0 4 fa fd ["_law_script"] (spLaw K) := by
  have T : Tx K mg := ⟨PySem.W.mg_none_of X G z1, PySem.W.mg_none_of X G z2, PySem.W.mg_none_of X G z3, PySem.W.mg_none_of X G z4, PySem.W.mg_none_of X G z5, PySem.W.mg_none_of X G z6, PySem.W.mg_none_of X G z7, PySem.W.mg_none_of X G z8⟩
  obtain ⟨f1, _, _, _, _, _, _, D1⟩ := d_is_name.df X G
  obtain ⟨f2, _, _, _, _, _, _, D2⟩ := d_deck.df X G
  obtain ⟨f3, _, _, _, _, _, _, D3⟩ := d_draw.df X G
  obtain ⟨f4, _, _, _, _, _, _, D4⟩ := d_pick.df X G
  obtain ⟨f5, _, _, _, _, _, _, D5⟩ := d_names.df X G
  obtain ⟨f6, _, _, _, _, _, _, D6⟩ := d_kept.df X G
  obtain ⟨f7, _, _, _, _, _, _, D7⟩ := d_lname.df X G
  obtain ⟨f8, _, _, _, _, _, _, D8⟩ := d_near.df X G
  obtain ⟨f9, kV9, doc9, pm9, an9, cd9, ct9, D9⟩ := d_law.df X G
  obtain ⟨aK, o, its, n, k1, k2, k3, k4, k5, k6⟩ := t_kept
  obtain ⟨zL, tL, l1, rfl⟩ := t_letters
  obtain rfl : f9 = fa := by
    have e := hfa.symm.trans D9.gl
    cases e
    rfl
  refine ⟨PySem.W.fnOf "law" "law" (defArgs s_law) (defBody s_law) (defScope s_law) .none kV9 doc9 pm9 an9 cd9 ct9, fun s v => .of_eq rfl, fun base _ _ => ?_⟩
  have draw := ok__law_draw (P := l.prog) (w := w) (base := base) D3 T
  have keptc := ok__law_kept (P := l.prog) (w := w) (base := base) D6 T
  have pick := ok__law_pick D4 T draw
  have isn := fn_is_name (P := l.prog) (w := w) (base := base) D1 T (PySem.W.mg_of X G k1) (fun H => .inr ⟨o, its, n, k2, k3, k4, Nat.le_trans k5 (line_le (by decide)), k6⟩) (PySem.W.mg_of X G l1)
  exact ok_law D9 T draw (ok__law_deck D2 T) keptc (ok__law_names D5 T draw) (ok__law_near D8 T draw pick) (ok__law_is_name D7 T keptc)
    ⟨f1, _, isn, D1.gl, D1.fn.kp, D1.fn.binds fun _ _ _ _ _ _ us hl => match us, hl with | [_], _ => rfl⟩
    ⟨⟨f1, _, isn, D1.gl, D1.fn.kp, fun s us ws h1 h2 => match us, ws, h1, h2 with | [], [_], _, _ => .of_eq rfl⟩, fun r1 r2 => r1.append r2⟩
end Vf
open PySem PySem.W PyProof.Rows
set_option maxHeartbeats 0 in
theorem PySem.Challenge.cw_poisonrules_k01_what_are_names_holds : PySem.Challenge.rw_poisonrules_k01_what_are_names.Holds := by
  w_on; o_law; k_head; (case hw => w_witness2)
  k_fill
  refine Vf.walk_ofG (l := PySem.Challenge.rw_poisonrules_k01_what_are_names) (k := 4) (x := "_law_script") rfl rfl ⟨rfl, by decide, by decide⟩ (fun w h Y => PySem.W.kIn_of Y) ?F
  case F =>
    intro w mg fa h KX G hmg
    refine Vf.all_mk (w := w) KX G hmg ?d1 ?d2 ?d3 ?d4 ?d5 ?d6 ?d7 ?d8 ?d9 ?t1 ?t2 ?z1 ?z2 ?z3 ?z4 ?z5 ?z6 ?z7 ?z8
    case t1 =>
      refine' Vf.TupAt.mk ?ta ?tb ?tc ?td
      (case ta => k_is); (case tb => k_is); (case tc => decide)
      case td => repeat (first | exact .nil | refine .cons ⟨_, rfl⟩ ?_)
    case t2 =>
      refine' Vf.TextAt.mk ?tl ?te
      (case tl => k_is)
      case te => first | rfl | decide +kernel
    case z1 => k_is
    case z2 => k_is
    case z3 => k_is
    case z4 => k_is
    case z5 => k_is
    case z6 => k_is
    case z7 => k_is
    case z8 => k_is
    case d1 =>
      refine' Vf.DefAt.mk ?a1 ?l1 ?c1 ?k1
      (case a1 => k_is); (case l1 => k_is); (case c1 => k_is); (case k1 => k_is)
    case d2 =>
      refine' Vf.DefAt.mk ?a2 ?l2 ?c2 ?k2
      (case a2 => k_is); (case l2 => k_is); (case c2 => k_is); (case k2 => k_is)
    case d3 =>
      refine' Vf.DefAt.mk ?a3 ?l3 ?c3 ?k3
      (case a3 => k_is); (case l3 => k_is); (case c3 => k_is); (case k3 => k_is)
    case d4 =>
      refine' Vf.DefAt.mk ?a4 ?l4 ?c4 ?k4
      (case a4 => k_is); (case l4 => k_is); (case c4 => k_is); (case k4 => k_is)
    case d5 =>
      refine' Vf.DefAt.mk ?a5 ?l5 ?c5 ?k5
      (case a5 => k_is); (case l5 => k_is); (case c5 => k_is); (case k5 => k_is)
    case d6 =>
      refine' Vf.DefAt.mk ?a6 ?l6 ?c6 ?k6
      (case a6 => k_is); (case l6 => k_is); (case c6 => k_is); (case k6 => k_is)
    case d7 =>
      refine' Vf.DefAt.mk ?a7 ?l7 ?c7 ?k7
      (case a7 => k_is); (case l7 => k_is); (case c7 => k_is); (case k7 => k_is)
    case d8 =>
      refine' Vf.DefAt.mk ?a8 ?l8 ?c8 ?k8
      (case a8 => k_is); (case l8 => k_is); (case c8 => k_is); (case k8 => k_is)
    case d9 =>
      refine' Vf.DefAt.mk ?a9 ?l9 ?c9 ?k9
      (case a9 => k_is); (case l9 => k_is); (case c9 => k_is); (case k9 => k_is)
#print axioms PySem.Challenge.cw_poisonrules_k01_what_are_names_holds
