import PyProof.Rows.All
import Wide.All
import OpenK.AllK
import Wide.FinOn
import HandS.ForMost
import HandS.IsInst
import HandS.TupAny
import HandS.TupMul
import HandS.Style
import PyProof.ReprRoads
import PyProof.FactsAll.subtypes
import PyProof.FactsAll.dict
import HandS.More
import PyProof.AutoSeq1
import HandS.Defaults
import PyProof.Rows.IntBool
import PyProof.Rows.StrCase
import PyProof.CallStr
import HandS.SetTxt0
import HandS.Set
import KE.GoesSet
import HandS.TupSets
import HandS.Strs
import HandS.SetBool
import HandS.TupLe
import PySem.Challenge.RW_poisonrules_k03_what_are_tests
set_option Elab.async false
set_option linter.all false
set_option maxRecDepth 100000
set_option maxHeartbeats 6000000
namespace Vf
open PySem L2 PyProof.Rows PySem.Spec
/-! ## data: what stands at a value, dicts too -/
def keyD : Key → PyData
  | .inl i => .int i
  | .inr x => .str x
mutual
inductive Dv (H : Hp) : V → PyData → Prop
  | non : Dv H .non .none
  | bl (b : Bool) : Dv H (.bl b) (.bool b)
  | int (i : Int) : Dv H (.int i) (.int i)
  | str (x : Str) : Dv H (.str x) (.str x)
  | lst {a : Addr} {xs : List V} {ds : List PyData} : H a = some (.lst xs) → DvAll H xs ds → Dv H (.ref a) (.list ds)
  | tup {a : Addr} {xs : List V} {ds : List PyData} : H a = some (.tup xs) → DvAll H xs ds → Dv H (.ref a) (.tuple ds)
  | dic {a : Addr} {kvs : List (Key × V)} {ds : List PyData} : H a = some (.dK kvs) → DvAll H (kvs.map (·.2)) ds → Dv H (.ref a) (.dict ((kvs.map fun p => keyD p.1).zip ds))
inductive DvAll (H : Hp) : List V → List PyData → Prop
  | nil : DvAll H [] []
  | cons {v : V} {vs : List V} {d : PyData} {ds : List PyData} : Dv H v d → DvAll H vs ds → DvAll H (v :: vs) (d :: ds)
end
mutual
theorem Dv.same {H H' : Hp} (s : Same H H') : ∀ {v : V} {d : PyData}, Dv H v d → Dv H' v d
  | _, _, .non => .non
  | _, _, .bl b => .bl b
  | _, _, .int i => .int i
  | _, _, .str x => .str x
  | _, _, .lst e h => .lst (s _ _ e) (h.same s)
  | _, _, .tup e h => .tup (s _ _ e) (h.same s)
  | _, _, .dic e h => .dic (s _ _ e) (h.same s)
theorem DvAll.same {H H' : Hp} (s : Same H H') : ∀ {v : List V} {d : List PyData}, DvAll H v d → DvAll H' v d
  | _, _, .nil => .nil
  | _, _, .cons h t => .cons (h.same s) (t.same s)
end
theorem DvAll.len {H : Hp} : ∀ {v : List V} {d : List PyData}, DvAll H v d → v.length = d.length
  | _, _, .nil => rfl
  | _, _, .cons _ t => congrArg (· + 1) t.len
section
variable {X : Cx} {s : Shared} {H : Hp} {σ : L2.St} {pins : List (Addr × Obj)}
theorem keys_read {P : Program} {w : World} {h : Heap} : ∀ {es : List DictEntry} {vs : List (Key × Value)} {kvs : List (Key × V)}, Pairs (mixKind P w) es vs → KV kvs vs →
    ReadsAll h (es.map (·.key)) (kvs.map fun p => keyD p.1) [] ∧ Vals (kvs.map (·.2)) (es.map (·.val))
  | [], [], _, .nil, k => by
    cases k
    exact ⟨.nil, .nil⟩
  | e :: es, (k, u) :: vs, _, .cons hk hv hp, .cons (a := p) r t => by
    obtain ⟨r1, r2⟩ := keys_read (h := h) hp t
    obtain ⟨e1, e2⟩ := r
    obtain ⟨k', v⟩ := p
    have ek : k' = k := e1
    subst ek
    refine ⟨?_, .cons (show RelV v e.val by rw [hv]; exact e2) r2⟩
    show ReadsAll h (e.key :: es.map (·.key)) (keyD k' :: _) ([] ++ [])
    refine .cons ?_ r1
    rcases keyIs_shape hk with ⟨i, tk, rfl, ev⟩ | ⟨x, tk, rfl, ev⟩
    · rw [ev]
      exact .int _ _
    · rw [ev]
      exact .str _ _
theorem zip_fst : ∀ {a : List PyData} {b : List PyData}, a.length = b.length → (a.zip b).map (·.1) = a
  | [], [], _ => rfl
  | x :: a, y :: b, h => by
    show x :: (a.zip b).map (·.1) = x :: a
    rw [zip_fst (Nat.succ.inj h)]
theorem zip_snd : ∀ {a : List PyData} {b : List PyData}, a.length = b.length → (a.zip b).map (·.2) = b
  | [], [], _ => rfl
  | x :: a, y :: b, h => by
    show y :: (a.zip b).map (·.2) = y :: b
    rw [zip_snd (Nat.succ.inj h)]
mutual
theorem Dv.read (I : Inv X pins σ H s) : ∀ {v : V} {d : PyData}, Dv H v d → ∀ (u : Value), RelV v u → ∃ as, Reads s.heap u d as ∧ ∀ b ∈ as, H b ≠ none
  | _, _, .non, u, r => by
    cases r
    exact ⟨_, .none, nofun⟩
  | _, _, .bl b, u, r => by
    cases r
    exact ⟨_, .bool b, nofun⟩
  | _, _, .int i, u, r => by
    obtain ⟨t, rfl⟩ := r
    exact ⟨_, .int i t, nofun⟩
  | _, _, .str x, u, r => by
    obtain ⟨t, rfl⟩ := r
    exact ⟨_, .str x t, nofun⟩
  | _, _, @Dv.lst _ a xs ds e ha, u, r => by
    cases r
    obtain ⟨_, its, n, rv, ho⟩ : ObjOk X.prog X.w H s.heap a (.lst xs) := I.hok a _ e
    obtain ⟨as, hr, hb⟩ := DvAll.read I ha its rv
    exact ⟨_, .list ho rfl rfl hr, fun b m => by
      rcases List.mem_cons.mp m with rfl | m
      · rw [e]; nofun
      · exact hb b m⟩
  | _, _, @Dv.tup _ a xs ds e ha, u, r => by
    cases r
    obtain ⟨_, its, rv, o, ho, hc, n, hd⟩ : ObjOk X.prog X.w H s.heap a (.tup xs) := I.hok a _ e
    obtain ⟨as, hr, hb⟩ := DvAll.read I ha its rv
    exact ⟨_, .tuple ho hc hd hr, hb⟩
  | _, _, @Dv.dic _ a kvs ds e ha, u, r => by
    cases r
    obtain ⟨_, hsys, vs, kv, o, es, ep, ho, ⟨hc, _⟩, hd, _, hp, _⟩ : ObjOk X.prog X.w H s.heap a (.dK kvs) := I.hok a _ e
    obtain ⟨rk, rv⟩ := keys_read (h := s.heap) hp kv
    have hl : (kvs.map fun p => keyD p.1).length = ds.length := by
      have := ha.len
      simpa using this
    obtain ⟨bs, hr, hb⟩ := DvAll.read I ha _ rv
    refine ⟨_, .dict ho hc hd (by rw [zip_fst hl]; exact rk) (by rw [zip_snd hl]; exact hr), fun b m => ?_⟩
    rcases List.mem_cons.mp (by simpa using m) with rfl | m
    · rw [e]; nofun
    · exact hb b m
theorem DvAll.read (I : Inv X pins σ H s) : ∀ {vs : List V} {ds : List PyData}, DvAll H vs ds → ∀ (us : List Value), Vals vs us → ∃ as, ReadsAll s.heap us ds as ∧ ∀ b ∈ as, H b ≠ none
  | _, _, .nil, us, r => by
    cases r
    exact ⟨_, .nil, nofun⟩
  | _, _, .cons h1 h2, us, r => by
    cases r with
    | cons r1 r2 =>
      obtain ⟨as, q1, b1⟩ := Dv.read I h1 _ r1
      obtain ⟨bs, q2, b2⟩ := DvAll.read I h2 _ r2
      exact ⟨_, .cons q1 q2, fun b m => (List.mem_append.mp m).elim (b1 b) (b2 b)⟩
end
theorem flat_read (I : Inv X pins σ H s) : ∀ {vs : List V} {ds : List PyData}, DvAll H vs ds → vs.all flatV = true → ∀ (us : List Value), Vals vs us → ReadsAll s.heap us ds []
  | _, _, .nil, _, us, r => by
    cases r
    exact .nil
  | _, _, @DvAll.cons _ v vs d ds h1 h2, f, us, r => by
    have f := (Bool.and_eq_true _ _).mp f
    cases r with
    | @cons _ u _ us r1 r2 =>
      have q2 := flat_read I h2 f.2 _ r2
      have q1 : Reads s.heap u d [] := by
        cases h1 with
        | non => cases r1; exact .none
        | bl b => cases r1; exact .bool b
        | int i =>
          obtain ⟨t, rfl⟩ := r1
          exact .int i t
        | str x =>
          obtain ⟨t, rfl⟩ := r1
          exact .str x t
        | lst _ _ => cases f.1
        | tup _ _ => cases f.1
        | dic _ _ => cases f.1
      exact .cons q1 q2
/-- a dict is shown where it stands alone, its values flat -/
def FlatDict (H : Hp) (x : V) : Prop := ∃ a kvs, x = .ref a ∧ H a = some (.dK kvs) ∧ (kvs.map (·.2)).all flatV = true
/-- repr(x), x data -/
def rRepr : List V → Hp → VK → Prop := fun xs H Q => ∃ x d, xs = [x] ∧ Dv H x d ∧ d.showable = true ∧ (d.hasDict = false ∨ FlatDict H x) ∧ d.depth ≤ 50 ∧ d.shown.length ≤ sizeLine ∧ Q (.str d.shown) H
theorem call_reprD (hg : X.A.guards = some []) (hu : X.A.units + 64 < cLine) : CallR X (.builtin "repr") rRepr := by
  intro pins s σ H xs us Q I rr h
  obtain ⟨x, d, rfl, hd, hs, hn, hp, hz, q⟩ := h
  obtain ⟨u, rfl, rx⟩ := vals1 rr
  have fin : ∀ (h' : Heap) (t k : Tok), (∀ b o, s.heap.get? b = some o → h'.get? b = some o) → EP X pins σ Q (.str d.shown t) { s with heap := h', toks := k } := fun h' t k kp =>
    ⟨.str d.shown, H, I.kept kp, ⟨t, rfl⟩, q⟩
  have main : ∃ as, Reads s.heap u d as ∧ (d.hasDict = true → sysModules ∉ as) := by
    rcases hn with hn | ⟨a, kvs, rfl, ha, hf⟩
    · obtain ⟨as, rd, -⟩ := Dv.read I hd u rx
      exact ⟨as, rd, fun z => by rw [hn] at z; cases z⟩
    · cases hd with
      | lst e _ => rw [ha] at e; cases e
      | tup e _ => rw [ha] at e; cases e
      | @dic _ kvs' ds e hv =>
        rw [ha] at e; cases e
        cases rx
        obtain ⟨_, hsys, vs, kv, o, es, ep, ho, ⟨hc, _⟩, hdd, _, hpp, _⟩ : ObjOk X.prog X.w H s.heap a (.dK kvs) := I.hok a _ ha
        obtain ⟨rk, rv⟩ := keys_read (h := s.heap) hpp kv
        have hl : (kvs.map fun p => keyD p.1).length = ds.length := by
          have := hv.len
          simpa using this
        refine ⟨_, .dict ho hc hdd (by rw [zip_fst hl]; exact rk) (by rw [zip_snd hl]; exact flat_read I hv hf _ rv), fun _ m => ?_⟩
        have m' : sysModules = a := by simpa using m
        rw [m'] at hsys
        simp at hsys
  obtain ⟨as, rd, hm⟩ := main
  cases rd with
  | none =>
    simp only [PyData.shown] at fin
    exact PySem.P.repr_of_none (fin _ _ _ fun _ _ e => e)
  | bool b =>
    simp only [PyData.shown] at fin
    exact PySem.P.repr_of_bool (fin _ _ _ fun _ _ e => e)
  | int i t =>
    simp only [PyData.shown] at fin
    exact PySem.P.repr_of_int (by simpa [PyData.showable] using hs) (fin _ _ _ fun _ _ e => e)
  | str y t =>
    simp only [PyData.shown] at fin hz
    exact PySem.P.repr_of_str (fin _ _ _ fun _ _ e => e) hz
  | list h1 h2 h3 h4 => exact repr_of_reads' (.list h1 h2 h3 h4) hs hm hg (by omega) (fun _ _ e => e) fin hz
  | tuple h1 h2 h3 h4 => exact repr_of_reads' (.tuple h1 h2 h3 h4) hs hm hg (by omega) (fun _ _ e => e) fin hz
  | dict h1 h2 h3 h4 h5 => exact repr_of_reads' (.dict h1 h2 h3 h4 h5) hs hm hg (by omega) (fun _ _ e => e) fin hz
end
end Vf
namespace Vf
open PySem L2 PyProof.Rows PySem.Spec
/-! ## a def's promise where no repr is under way -/
structure FnG (P : Program) (w : World) (K : PySem.W.Frag) (mg : Str → Option Value) (base : Heap) (C : CXT) (k : Nat) (f : Addr) (fd : FuncData) (ps : List Str) (sp : Sp) : Prop where
  many : ∀ vs H Q E, sp vs H Q E → vs.length = ps.length
  go : ∀ (A : Around) (outer : List Env) (s : Shared) (H : Hp) (args : Args) (us : List Value) (vs : List V) (Q : VK) (E : XK), A.guards = some [] → Room k A → Env0 P w K mg base A outer s H → BindsTo s fd args (ps.zip us) →
    Vals vs us → sp vs H Q E → codeAny (model P w) A (.call (.ref f) args) (CR C outer P w H s Q E) s
section
variable {K : PySem.W.Frag} {P : Program} {w : World} {base : Heap} {mg : Str → Option Value}
theorem fnG_of {C : CXT} {k : Nat} {f : Addr} {name qual : Str} {params : Arguments} {body : List Stmt} {scope : Scope} {dV kV doc pm cdv ct oc : Value} {an od : Option Addr} {osl : Array (Option Value)} {N ps : List Str} {sp : Sp}
    (at_ : K.lookup f = some ⟨oc, od, .func (PySem.W.fnOf name qual params body scope dV kV doc pm an cdv ct), osl⟩) (code : PySem.W.codeIn K cdv qual = true) (S : FnScope N ps scope) (many : ∀ vs H Q E, sp vs H Q E → vs.length = ps.length)
    (bd : ∀ (A : Around) (outer : List Env) (s : Shared) (H : Hp) (vs : List V) (Q : VK) (E : XK), (A.deeper (envOfC qual scope s.heap.objs.size f cdv)).guards = some [] → Room k (A.deeper (envOfC qual scope s.heap.objs.size f cdv)) → sp vs H Q E →
      ∃ t, PSs (cxOf C P w K mg base N qual scope f cdv A outer s H E) body t ∧ t { nx := fun _ H' => Q .non H', rt := Q } (start N vs) H) :
    FnG P w K mg base C (k + 1) f (PySem.W.fnOf name qual params body scope dV kV doc pm an cdv ct) ps sp where
  many := many
  go := by
    intro A outer s H args us vs Q E hg hr env0 hb rv hsp
    have hKs : K.In s.heap := env0.mod.kin.keeps fun b o z => (env0.bs b o z).1
    have hlim : s.heap.NoLimit := env0.mod.nolimit.keeps fun b o z => (env0.bs b o z).1
    refine codeAny_call_function hr.depth (hKs _ _ at_) rfl S.co S.gen rfl (PySem.W.codeRec_of hKs code) (hb _ _ _ _ ?_)
    refine wpAny_newFunctionEnv_cells S.kind (fun y hy => ?_) fun env he s1 x => ?_
    · rcases S.par y.1 (List.of_mem_zip hy).1 with z | z
      · exact .inl z
      · exact .inr ⟨z, PySem.W.cellsFrom_some _ _ _ (.inl z)⟩
    · subst he
      obtain ⟨t, derived, reads⟩ := bd A outer s H vs Q E hg (hr.deeper _) hsp
      refine ⟨hlim.keeps x.toInCall.keep, codeAny_func (wpAny_mono (derived.run [] s1 (start N vs) H _ (inv_start S hr.hd env0 (many _ _ _ _ hsp) rv x) reads) (fun fl s' hs => ?_) fun _ _ hs => hs)⟩
      cases fl with
      | ret u =>
        obtain ⟨v, σ', H', J, rv', q⟩ := hs
        exact ⟨v, H', J.os, J.bare, J.base, J.hok, rv', q⟩
      | next =>
        obtain ⟨σ', H', J, q⟩ := hs
        exact ⟨V.non, H', J.os, J.bare, J.base, J.hok, rfl, q⟩
      | brk =>
        obtain ⟨_, _, _, q⟩ := hs
        exact q.elim
      | cont =>
        obtain ⟨_, _, _, q⟩ := hs
        exact q.elim
/-- a def of the top's text, as it stands in the module -/
structure Df (K : PySem.W.Frag) (mg : Str → Option Value) (x : Str) (st : Stmt) (f : Addr) (fd : FuncData) : Prop where
  fn : Fun K x x st f fd
  gl : mg x = some (.ref f)
/-- a def that may be called -/
structure Cal (P : Program) (w : World) (K : PySem.W.Frag) (mg : Str → Option Value) (base : Heap) (x : Str) (ps : List Str) (k : Nat) (sp : Sp) : Prop where
  ex : ∃ f fd, FnG P w K mg base CX0 k f fd ps sp ∧ mg x = some (.ref f) ∧ PySem.W.keepIn K (.ref f) = true ∧ Binds K fd ps []
theorem Df.fnG {x : Str} {st : Stmt} {f : Addr} {fd : FuncData} {N ps : List Str} {k : Nat} {sp : Sp} (D : Df K mg x st f fd) (S : FnScope N ps (defScope st)) (many : ∀ vs H Q E, sp vs H Q E → vs.length = ps.length)
    (bd : ∀ (cdv : Value) (A : Around) (outer : List Env) (s : Shared) (H : Hp) (vs : List V) (Q : VK) (E : XK), (A.deeper (envOfC x (defScope st) s.heap.objs.size f cdv)).guards = some [] → Room k (A.deeper (envOfC x (defScope st) s.heap.objs.size f cdv)) → sp vs H Q E →
      ∃ t, PSs (cxOf CX0 P w K mg base N x (defScope st) f cdv A outer s H E).nox (defBody st) t ∧ t { nx := fun _ H' => Q .non H', rt := Q } (start N vs) H) : FnG P w K mg base CX0 (k + 1) f fd ps sp := by
  obtain ⟨oc, od, kV, doc, pm, an, cdv, ct, osl, rfl, here, code⟩ := D.fn.ex
  refine fnG_of here code S many fun A outer s H vs Q E hg hr hsp => ?_
  obtain ⟨t, h1, h2⟩ := bd cdv A outer s H vs Q E hg hr hsp
  exact ⟨t, h1.nox, h2⟩
theorem Df.cal {x : Str} {st : Stmt} {f : Addr} {fd : FuncData} {N ps : List Str} {k : Nat} {sp : Sp} (D : Df K mg x st f fd) (S : FnScope N ps (defScope st)) (many : ∀ vs H Q E, sp vs H Q E → vs.length = ps.length)
    (bi : ∀ (kV doc pm : Value) (an : Option Addr) (cdv ct : Value) (us : List Value), us.length = ps.length → bindArgs (PySem.W.fnOf x x (defArgs st) (defBody st) (defScope st) .none kV doc pm an cdv ct) ⟨us, []⟩ = pure (ps.zip us))
    (bd : ∀ (cdv : Value) (A : Around) (outer : List Env) (s : Shared) (H : Hp) (vs : List V) (Q : VK) (E : XK), (A.deeper (envOfC x (defScope st) s.heap.objs.size f cdv)).guards = some [] → Room k (A.deeper (envOfC x (defScope st) s.heap.objs.size f cdv)) → sp vs H Q E →
      ∃ t, PSs (cxOf CX0 P w K mg base N x (defScope st) f cdv A outer s H E).nox (defBody st) t ∧ t { nx := fun _ H' => Q .non H', rt := Q } (start N vs) H) : Cal P w K mg base x ps (k + 1) sp :=
  ⟨f, fd, D.fnG S many bd, D.gl, D.fn.kp, D.fn.binds bi⟩
end
section
variable {X : Cx} {k : Nat} {ps ks : List Str} {sp : Sp} {x : Str} {p pos kpos : Pos} {e : Expr} {es : List Expr} {kws : List Keyword} {t tk : TA} {nm : Option Str}
theorem go_cal {f : Addr} {fd : FuncData} {pins : List (Addr × Obj)} {σ : L2.St} {H : Hp} {s : Shared} {Q : VK} {args : Args} {us : List Value} {vs : List V} (F : FnG X.prog X.w X.K X.mg X.base CX0 k f fd ps sp) (hg : X.A.guards = some []) (hr : Room k X.A)
    (I : Inv X pins σ H s) (hb : BindsTo s fd args (ps.zip us)) (r : Vals vs us) (h : sp vs H Q E0) : codeAny (model X.prog X.w) X.A (.call (.ref f) args) (callEnd (EP X pins σ Q) X.xe) s := by
  refine codeAny_mono (F.go X.A X.stack s H args us vs Q E0 hg hr I.env0 hb r h) fun res s' hq => ?_
  cases res with
  | error _ => exact False.elim hq
  | ok fl =>
    cases fl with
    | ret u => exact I.after hq
    | next => exact False.elim hq
    | brk => exact False.elim hq
    | cont => exact False.elim hq
theorem pe_cal (c : Cal X.prog X.w X.K X.mg X.base x ps k sp) (hgd : X.A.guards = some []) (hr : Room k X.A) (hg : Gl X x) (ha : PA X (e :: es) t) (hdb : (x == ("__debug__" : Str)) = false := by decide)
    (he : starEach (e :: es) X.env = (false, eval e X.env) :: starEach es X.env := by rfl) (hpl : (backTo pos (starEach es X.env)).any (·.1) = false := by rfl) : PE X (.Call (.Name x p) (e :: es) [] pos) (tCall sp [] E0 t) := by
  obtain ⟨f, fd, F, gl, kp, bi⟩ := c.ex
  refine ⟨fun pins s σ H Q I h => wpAny_Call_Name_kw (ld_glob I hg gl ?_ hdb)⟩
  refine PySem.W.callWith_K (h₀ := X.base) I.ok.mod.kin kp (thn (ha.run pos pins s σ H _ I h) fun us s1 ⟨vs, H1, I1, r, q⟩ => ⟨I1.kIn, ?_⟩) he hpl
  have q : sp (vs ++ []) H1 Q E0 := q
  rw [List.append_nil] at q
  have hb := bi s1 us I1.kIn (by rw [List.append_nil, ← r.length]; exact F.many _ _ _ _ q)
  rw [List.append_nil] at hb
  exact wpAny_call (go_cal F hgd hr I1 hb r q)
theorem pe_cal0 (c : Cal X.prog X.w X.K X.mg X.base x ps k sp) (hgd : X.A.guards = some []) (hr : Room k X.A) (hg : Gl X x) (hdb : (x == ("__debug__" : Str)) = false := by decide) : PE X (.Call (.Name x p) [] [] pos) (tCall sp [] E0 tNil) := by
  obtain ⟨f, fd, F, gl, kp, bi⟩ := c.ex
  refine ⟨fun pins s σ H Q I h => wpAny_Call_Name_kw (ld_glob I hg gl ?_ hdb)⟩
  have h' : sp [] H Q E0 := h
  have hb := bi s [] I.kIn (by rw [List.append_nil]; exact F.many _ _ _ _ h')
  exact PySem.W.callWith_K0 I.kIn kp (wpAny_call (go_cal F hgd hr I hb .nil h'))
/-- a def that may be called by keywords: n by places, then the names ks; g puts them in the parameters' order -/
structure CalK (P : Program) (w : World) (K : PySem.W.Frag) (mg : Str → Option Value) (base : Heap) (x : Str) (ps ks : List Str) (n : Nat) (g : ∀ α : Type, List α → List α → List α) (k : Nat) (sp : Sp) : Prop where
  ex : ∃ f fd, FnG P w K mg base CX0 k f fd ps sp ∧ mg x = some (.ref f) ∧ PySem.W.keepIn K (.ref f) = true ∧ (∀ (s : Shared) (us ws : List Value), us.length = n → ws.length = ks.length → BindsTo s fd ⟨us, ks.zip ws⟩ (ps.zip (g Value us ws)))
  rel : ∀ {vs : List V} {us : List Value} {zs : List V} {ws : List Value}, Vals vs us → Vals zs ws → Vals (g V vs zs) (g Value us ws)
def tCalK (n m : Nat) (g : ∀ α : Type, List α → List α → List α) (sp : Sp) (t tk : TA) : TE := fun σ H Q => t σ H fun vs H1 => tk σ H1 fun zs H2 => vs.length = n ∧ zs.length = m ∧ sp (g V vs zs) H2 Q E0
theorem pe_calK0 {n : Nat} {g : ∀ α : Type, List α → List α → List α} (c : CalK X.prog X.w X.K X.mg X.base x ps ks n g k sp) (hgd : X.A.guards = some []) (hr : Room k X.A) (hg : Gl X x) (hkw : PK X kws tk)
    (hal : (backToKw pos (keywordEach kws X.env)).all (·.1.isSome) = true := by rfl) (hks : (backToKw pos (keywordEach kws X.env)).filterMap (·.1) = ks := by rfl) (hdb : (x == ("__debug__" : Str)) = false := by decide)
    (hpl : ((backTo pos (starEach [] X.env)).any (·.1) || (backToKw pos (keywordEach kws X.env)).any (·.1.isNone)) = false := by rfl) : PE X (.Call (.Name x p) [] kws pos) (tCalK n ks.length g sp tNil tk) := by
  obtain ⟨f, fd, F, gl, kp, bi⟩ := c.ex
  refine ⟨fun pins s σ H Q I h => wpAny_Call_Name_kw (ld_glob I hg gl ?_ hdb)⟩
  refine PySem.W.callWith_KW0 (h₀ := X.base) I.ok.mod.kin kp hal (thn (hkw.run pos pins s σ H _ I h) fun ws s1 ⟨zs, H1, I1, rz, n0, m0, q⟩ => ⟨I1.kIn, ?_⟩) hpl
  rw [hks]
  exact wpAny_call (go_cal F hgd hr I1 (bi s1 [] ws n0 (by rw [← rz.length]; exact m0)) (c.rel .nil rz) q)
theorem pe_calK {n : Nat} {g : ∀ α : Type, List α → List α → List α} (c : CalK X.prog X.w X.K X.mg X.base x ps ks n g k sp) (hgd : X.A.guards = some []) (hr : Room k X.A) (hg : Gl X x) (ha : PA X (e :: es) t) (hkw : PK X kws tk)
    (hal : (backToKw pos (keywordEach kws X.env)).all (·.1.isSome) = true := by rfl) (hks : (backToKw pos (keywordEach kws X.env)).filterMap (·.1) = ks := by rfl) (hdb : (x == ("__debug__" : Str)) = false := by decide)
    (he : starEach (e :: es) X.env = (false, eval e X.env) :: starEach es X.env := by rfl)
    (hpl : ((backTo pos (starEach (e :: es) X.env)).any (·.1) || (backToKw pos (keywordEach kws X.env)).any (·.1.isNone)) = false := by rfl) : PE X (.Call (.Name x p) (e :: es) kws pos) (tCalK n ks.length g sp t tk) := by
  obtain ⟨f, fd, F, gl, kp, bi⟩ := c.ex
  refine ⟨fun pins s σ H Q I h => wpAny_Call_Name_kw (ld_glob I hg gl ?_ hdb)⟩
  refine PySem.W.callWith_KW (h₀ := X.base) I.ok.mod.kin kp hal (thn (ha.run pos pins s σ H _ I h) fun us s1 ⟨vs, H1, I1, r1, q1⟩ => ?_) hpl he
  refine thn (hkw.run pos pins s1 σ H1 _ I1 q1) fun ws s2 ⟨zs, H2, I2, rz, n0, m0, q⟩ => ⟨I2.kIn, ?_⟩
  rw [hks]
  exact wpAny_call (go_cal F hgd hr I2 (bi s2 us ws (by rw [← r1.length]; exact n0) (by rw [← rz.length]; exact m0)) (c.rel r1 rz) q)
end
end Vf
namespace Vf
open PySem L2 PyProof.Rows PySem.Spec
/-! ## operations by the kinds of what they get -/
section
variable {X : Cx}
def rAddA (K : PySem.W.Frag) : R2 := fun x y H Q => match x, y with
  | .int i, .int j => Q (.int (i + j)) H
  | .str a, .str b => a.length + b.length ≤ sizeLine ∧ Q (.str (a ++ b)) H
  | .ref l, .ref b => (∃ xs zs, H l = some (.lst xs) ∧ H b = some (.lst zs) ∧ xs.length + zs.length ≤ sizeLine ∧ ∀ p, H p = none → Q (.ref p) (upd H p (.lst (xs ++ zs)))) ∨ rCatA K x y H Q
  | _, _ => False
theorem opAdd : OpR X (binaryOp .Add) (rAddA X.K) := by
  intro pins s σ H x y v u Q I rx ry h
  match x, y, h with
  | .int i, .int j, h => exact op_add pins s σ H _ _ v u Q I rx ry ⟨i, j, rfl, rfl, h⟩
  | .str a, .str b, h => exact op_add_str pins s σ H _ _ v u Q I rx ry ⟨a, b, rfl, rfl, h⟩
  | .ref l, .ref b, .inl ⟨xs, zs, h⟩ => exact op_cat pins s σ H _ _ v u Q I rx ry ⟨l, b, xs, zs, rfl, rfl, h⟩
  | .ref l, .ref b, .inr h => exact op_catA pins s σ H _ _ v u Q I rx ry h
/-- s * n of a text -/
def repS (x : Str) (n : Nat) : Str := ⟨(List.replicate n x.cps).foldl (· ++ ·) #[]⟩
theorem fold_cat (c : Array Nat) : ∀ (n : Nat) (a : Array Nat), ((List.replicate n c).foldl (· ++ ·) a).toList = a.toList ++ (List.replicate n c.toList).flatten
  | 0, a => by simp
  | n + 1, a => by
    rw [List.replicate_succ, List.foldl_cons, fold_cat c n, List.replicate_succ, List.flatten_cons]
    simp
theorem repS_list (x : Str) (n : Nat) : (repS x n).cps.toList = (List.replicate n x.cps.toList).flatten := by
  unfold repS
  rw [fold_cat]
  rfl
theorem repS_len (x : Str) (n : Nat) : (repS x n).length = n * x.length := by
  have h : (repS x n).cps.toList.length = n * x.cps.toList.length := by
    rw [repS_list]
    simp
  show (repS x n).cps.size = n * x.cps.size
  simpa using h
def rMulA : R2 := fun x y H Q => match x, y with
  | .int i, .int j => CMul i j ∧ Q (.int (i * j)) H
  | .str a, .int n => 2 ≤ n ∧ n ≤ 1000 ∧ a.length ≠ 0 ∧ a.length ≤ 1000 ∧ Q (.str (repS a n.toNat)) H
  | .ref l, .int k => ∃ xs, H l = some (.lst xs) ∧ -(2 ^ 63) ≤ k ∧ k < 2 ^ 63 ∧ xs.length * k.toNat ≤ sizeLine ∧ ∀ p, H p = none → Q (.ref p) (upd H p (.lst (List.replicate k.toNat xs).flatten))
  | _, _ => False
theorem opMul : OpR X (binaryOp .Mult) rMulA := by
  intro pins s σ H x y v u Q I rx ry h
  match x, y, h with
  | .int i, .int j, h => exact op_mul pins s σ H _ _ v u Q I rx ry ⟨i, j, rfl, rfl, h⟩
  | .ref l, .int k, ⟨xs, h⟩ => exact op_rep pins s σ H _ _ v u Q I rx ry ⟨l, k, xs, rfl, rfl, h⟩
  | .str a, .int n, ⟨n2, n1, a0, a1, q⟩ =>
    obtain ⟨t, rfl⟩ := rx
    obtain ⟨t', rfl⟩ := ry
    have e1 : ¬ n < 1 := by omega
    have e2 : (n == 1 || a.length == 0) = false := by
      rw [Bool.or_eq_false_iff, beq_eq_false_iff_ne, beq_eq_false_iff_ne]
      exact ⟨by omega, a0⟩
    have hs : a.length * n.toNat ≤ 1000 * 1000 := Nat.mul_le_mul a1 (by omega)
    refine PySem.P.mul_str ?_ (fun _ _ => ?_) (fun _ _ => ?_) ?_
    · rw [decide_eq_false (by omega), decide_eq_false (by omega)]; rfl
    · have : (a.length : Int) ≤ (2 ^ 63 - 1) / n := by
        rw [Int.le_ediv_iff_mul_le (by omega)]
        have : ((a.length * n.toNat : Nat) : Int) ≤ 1000 * 1000 := by exact_mod_cast hs
        rw [Int.natCast_mul, Int.toNat_of_nonneg (by omega)] at this
        omega
      omega
    · have := sizeLine_eq
      unfold Builtin.Str.tooLong
      simp
      omega
    · rw [if_neg e1, e2]
      refine ⟨?_, ⟨.str (repS a n.toNat), H, I.tok _, ⟨_, rfl⟩, q⟩⟩
      have e3 := repS_len a n.toNat
      have e4 := sizeLine_eq
      have e5 : n.toNat * a.length ≤ 1000 * 1000 := by rw [Nat.mul_comm]; exact hs
      show (repS a n.toNat).length ≤ sizeLine
      omega
def rEqA (K : PySem.W.Frag) (neg : Bool) : R2 := fun x y H Q => match x, y with
  | .ref a, .ref b => ∃ d e, Dp K H (.ref a) d ∧ Dp K H (.ref b) e ∧ SeqAt.shaped d = true ∧ SeqAt.shaped e = true ∧ Q (.bl (neg ^^ PyData.eqv d e)) H
  | x, y => scal x y = true ∧ Q (.bl (neg ^^ decide (x = y))) H
theorem opEq (hu : X.A.units + 64 < cLine) : OpR X (compareOp .Eq) (rEqA X.K false) := by
  intro pins s σ H x y v u Q I rx ry h
  have sc : scal x y = true → Q (.bl (false ^^ decide (x = y))) H → wpAny (model X.prog X.w) X.A (compareOp .Eq v u) (EP X pins σ Q) X.xe s := fun h1 h2 =>
    op_eq pins s σ H x y v u Q I rx ry ⟨h1, by simpa using h2⟩
  cases x <;> cases y <;> first
    | exact sc h.1 h.2
    | (obtain ⟨d, e, hd, he, sd, se, q⟩ := h; exact op_eqD hu pins s σ H _ _ v u Q I rx ry ⟨d, e, hd, he, sd, se, by simpa using q⟩)
theorem opNe (hu : X.A.units + 64 < cLine) : OpR X (compareOp .NotEq) (rEqA X.K true) := by
  intro pins s σ H x y v u Q I rx ry h
  have sc : scal x y = true → Q (.bl (true ^^ decide (x = y))) H → wpAny (model X.prog X.w) X.A (compareOp .NotEq v u) (EP X pins σ Q) X.xe s := fun h1 h2 =>
    op_ne pins s σ H x y v u Q I rx ry ⟨h1, by simpa using h2⟩
  cases x <;> cases y <;> first
    | exact sc h.1 h.2
    | (obtain ⟨d, e, hd, he, sd, se, q⟩ := h; exact op_neD hu pins s σ H _ _ v u Q I rx ry ⟨d, e, hd, he, sd, se, by simpa using q⟩)
/-- one sign in a text; a flat thing in a list or tuple of flat things -/
def rInA (K : PySem.W.Frag) (neg : Bool) : R2 := fun x y H Q => match x, y with
  | .str c, .str z => ∃ a, c = ⟨#[a]⟩ ∧ Q (.bl (neg ^^ decide (a ∈ z.cps.toList))) H
  | x, .ref p => ∃ xs, (SqL K H p xs ∨ SqT K H p xs) ∧ flatV x = true ∧ xs.all flatV = true ∧ Q (.bl (neg ^^ inV x xs)) H
  | _, _ => False
theorem opIn : OpR X (compareOp .In) (rInA X.K false) := by
  intro pins s σ H x y v u Q I rx ry h
  have sc : ∀ p xs, y = .ref p → (SqL X.K H p xs ∨ SqT X.K H p xs) → flatV x = true → xs.all flatV = true → Q (.bl (false ^^ inV x xs)) H → wpAny (model X.prog X.w) X.A (compareOp .In v u) (EP X pins σ Q) X.xe s := fun p xs e h1 h2 h3 h4 =>
    op_in_seq pins s σ H x y v u Q I rx ry ⟨p, xs, e, h1, h2, h3, by simpa using h4⟩
  cases y with
  | ref p =>
    have h' : ∃ xs, (SqL X.K H p xs ∨ SqT X.K H p xs) ∧ flatV x = true ∧ xs.all flatV = true ∧ Q (.bl (false ^^ inV x xs)) H := by cases x <;> exact h
    obtain ⟨xs, h1, h2, h3, h4⟩ := h'
    exact sc p xs rfl h1 h2 h3 h4
  | str z =>
    cases x with
    | str c =>
      obtain ⟨a, rfl, q⟩ := h
      exact op_in_sign pins s σ H _ _ v u Q I rx ry ⟨a, z, rfl, rfl, by simpa using q⟩
    | _ => exact False.elim h
  | _ => exact False.elim (by cases x <;> exact h)
theorem opNotIn : OpR X (compareOp .NotIn) (rInA X.K true) := by
  intro pins s σ H x y v u Q I rx ry h
  have sc : ∀ p xs, y = .ref p → (SqL X.K H p xs ∨ SqT X.K H p xs) → flatV x = true → xs.all flatV = true → Q (.bl (true ^^ inV x xs)) H → wpAny (model X.prog X.w) X.A (compareOp .NotIn v u) (EP X pins σ Q) X.xe s := fun p xs e h1 h2 h3 h4 =>
    op_notIn_seq pins s σ H x y v u Q I rx ry ⟨p, xs, e, h1, h2, h3, by simpa using h4⟩
  cases y with
  | ref p =>
    have h' : ∃ xs, (SqL X.K H p xs ∨ SqT X.K H p xs) ∧ flatV x = true ∧ xs.all flatV = true ∧ Q (.bl (true ^^ inV x xs)) H := by cases x <;> exact h
    obtain ⟨xs, h1, h2, h3, h4⟩ := h'
    exact sc p xs rfl h1 h2 h3 h4
  | str z =>
    cases x with
    | str c =>
      obtain ⟨a, rfl, q⟩ := h
      exact op_notIn_sign pins s σ H _ _ v u Q I rx ry ⟨a, z, rfl, rfl, by simpa using q⟩
    | _ => exact False.elim h
  | _ => exact False.elim (by cases x <;> exact h)
/-- a cut of a text, a list, a tuple -/
def rSlAny (K : PySem.W.Frag) : V → Option Int → Option Int → Hp → VK → Prop := fun x lo hi H Q => match x with
  | .str z => z.length ≤ sizeLine ∧ Q (.str (cutS z lo hi)) H
  | .ref a => (∃ xs, SqL K H a xs ∧ ∀ p, H p = none → Q (.ref p) (upd H p (.lst (cutV xs lo hi)))) ∨ rSlA K (.ref a) lo hi H Q
  | _ => False
theorem slAny : SlR X (rSlAny X.K) := by
  intro pins s σ H x v vl vu lo hi sl Q I rx hs pl pu q
  match x, q with
  | .str z, q => exact sl_str pins s σ H _ v vl vu lo hi sl Q I rx hs pl pu ⟨z, rfl, q⟩
  | .ref a, .inl ⟨xs, q⟩ => exact sl_list pins s σ H _ v vl vu lo hi sl Q I rx hs pl pu ⟨a, xs, rfl, q⟩
  | .ref a, .inr q => exact sl_tupA pins s σ H _ v vl vu lo hi sl Q I rx hs pl pu q
/-- what a for walks: a list, a tuple, a text -/
def iAny (K : PySem.W.Frag) (te : TE) : TI := fun σ H R => te σ H fun v H1 => match v with
  | .str x => R (Its x) H1
  | .ref a => ((∃ xs, SqL K H1 a xs) ∧ R (Itl K a) H1) ∨ ((∃ xs, SqT K H1 a xs) ∧ R (Itt K a) H1)
  | _ => False
theorem piAny {tg e : Expr} {te : TE} (he : PE X e te) : PI X tg e (iAny X.K te) := by
  refine ⟨fun pins s σ H R I h => thn (he.run pins s σ H _ I h) fun v s1 ⟨x, H1, I1, rx, q⟩ => ?_⟩
  match x, q with
  | .str y, q =>
    obtain ⟨t, rfl⟩ := rx
    cases ha : y.cps.all (· < 128)
    · exact wpAny_pyIter_wide ha (pi_one (tk := s1.toks) I1 _ (turn_str _ y t _ (.inr rfl)) ⟨_, Heap.get?_push_size _ rfl, rfl, rfl⟩ q)
    · exact wpAny_pyIter_ascii ha (pi_one (tk := s1.toks) I1 _ (turn_str _ y t _ (.inl rfl)) ⟨_, Heap.get?_push_size _ rfl, rfl, rfl⟩ q)
  | .ref a, .inl ⟨⟨xs, hq⟩, q⟩ =>
    cases rx
    obtain ⟨its, rv, p, hz⟩ := I1.list hq
    exact wpAny_pyIter_list p.isList (pi_one (tk := s1.toks) I1 _ (turn_list a _) ⟨_, Heap.get?_push_size _ rfl, rfl, rfl⟩ q)
  | .ref a, .inr ⟨⟨xs, hq⟩, q⟩ =>
    cases rx
    obtain ⟨its, rv, p, hz⟩ := I1.tuple hq
    exact wpAny_pyIter_tuple (show s1.heap.IsTuple a its.toArray from p) (pi_one (tk := s1.toks) I1 _ (turn_tuple a _) ⟨_, Heap.get?_push_size _ rfl, rfl, rfl⟩ q)
/-! ### the same, the written part named -/
section
variable {K : PySem.W.Frag}
theorem aAdd (e : X.K = K) : OpR X (binaryOp .Add) (rAddA K) := e ▸ opAdd
theorem aEq (e : X.K = K) (hu : X.A.units + 64 < cLine) : OpR X (compareOp .Eq) (rEqA K false) := e ▸ opEq hu
theorem aNe (e : X.K = K) (hu : X.A.units + 64 < cLine) : OpR X (compareOp .NotEq) (rEqA K true) := e ▸ opNe hu
theorem aIn (e : X.K = K) : OpR X (compareOp .In) (rInA K false) := e ▸ opIn
theorem aNotIn (e : X.K = K) : OpR X (compareOp .NotIn) (rInA K true) := e ▸ opNotIn
theorem aIxL (e : X.K = K) : IxR X (rIxL K) := e ▸ ix_list
theorem aIxT (e : X.K = K) : IxR X (rIxT K) := e ▸ ix_tup
theorem aWalkL (e : X.K = K) {tg l : Expr} {te : TE} (he : PE X l te) : PI X tg l (iList K te) := e ▸ pi_list he
theorem aWalkT (e : X.K = K) {tg l : Expr} {te : TE} (he : PE X l te) : PI X tg l (iTup K te) := e ▸ pi_tup he
theorem aInSeq (e : X.K = K) : OpR X (compareOp .In) (rIn K false) := e ▸ op_in_seq
theorem aNotInSeq (e : X.K = K) : OpR X (compareOp .NotIn) (rIn K true) := e ▸ op_notIn_seq
theorem aEqD (e : X.K = K) (hu : X.A.units + 64 < cLine) : OpR X (compareOp .Eq) (rEqD K) := e ▸ op_eqD hu
theorem aNeD (e : X.K = K) (hu : X.A.units + 64 < cLine) : OpR X (compareOp .NotEq) (rNeD K) := e ▸ op_neD hu
theorem aCatT (e : X.K = K) : OpR X (binaryOp .Add) (rCatA K) := e ▸ op_catA
theorem aSlL (e : X.K = K) : SlR X (rSlL K) := e ▸ sl_list
theorem aSlT (e : X.K = K) : SlR X (rSlA K) := e ▸ sl_tupA
def rLenSeq (K : PySem.W.Frag) : List V → Hp → VK → Prop := fun xs H Q => ∃ p ys, xs = [.ref p] ∧ (SqL K H p ys ∨ SqT K H p ys) ∧ Q (.int ys.length) H
theorem aLenSeq (e : X.K = K) : CallR X (.builtin "len") (rLenSeq K) := e ▸ call_len_seq
def rLenS : List V → Hp → VK → Prop := fun xs H Q => ∃ z : Str, xs = [.str z] ∧ z.length ≤ sizeLine ∧ Q (.int z.length) H
theorem aLenS : CallR X (.builtin "len") rLenS := fun pins s σ H xs us Q I r ⟨z, e, h1, h2⟩ => call_len pins s σ H xs us Q I r ⟨.str z, z.length, e, ⟨h1, rfl⟩, h2⟩
def rMulS : R2 := fun x y H Q => ∃ (a : Str) (n : Int), x = .str a ∧ y = .int n ∧ 2 ≤ n ∧ n ≤ 1000 ∧ a.length ≠ 0 ∧ a.length ≤ 1000 ∧ Q (.str (repS a n.toNat)) H
theorem aMulS : OpR X (binaryOp .Mult) rMulS := fun pins s σ H x y v u Q I rx ry ⟨a, n, ex, ey, h⟩ => by
  subst ex ey
  exact opMul pins s σ H _ _ v u Q I rx ry h
theorem aRev (h : X.K = K) {e : Expr} {te : TE} {k : Nat} {p1 p2 p3 pos : Pos} (he : PE X e te) : PE X (.Subscript e (.Slice none none (some (.UnaryOp .USub (.Constant (.int 1) k p1) p2)) p3) pos) (tRevL K te) := h ▸ pe_revL he
theorem aSl (e : X.K = K) : SlR X (rSlAny K) := e ▸ slAny
theorem aIx (e : X.K = K) : IxR X (rIx K) := e ▸ ix_seq
theorem aWalk (e : X.K = K) {tg l : Expr} {te : TE} (he : PE X l te) : PI X tg l (iAny K te) := e ▸ piAny he
def rLen (K : PySem.W.Frag) : List V → Hp → VK → Prop := fun xs H Q => ∃ x n, xs = [x] ∧ LenV K x H n ∧ Q (.int n) H
theorem aLen (e : X.K = K) : CallR X (.builtin "len") (rLen K) := e ▸ call_len
theorem aIsi (e : X.K = K) : CallR X (.builtin "isinstance") (rIsi K) := e ▸ call_isi
theorem aAll (e : X.K = K) (hc : X.calm = true) : CallR X (.builtin "all") (rAll K) := e ▸ cr_all hc
theorem aAny (e : X.K = K) (hc : X.calm = true) : CallR X (.builtin "any") (rAny K) := e ▸ cr_any hc
theorem aSum (e : X.K = K) (hc : X.calm = true) : CallR X (.builtin "sum") (rSum K) := e ▸ cr_sum hc
def rList (K : PySem.W.Frag) : List V → Hp → VK → Prop := fun xs H Q => ∃ p ys, xs = [.ref p] ∧ (SqL K H p ys ∨ SqT K H p ys) ∧ ∀ l, H l = none → Q (.ref l) (upd H l (.lst ys))
theorem aList (e : X.K = K) : CallR X (.type "list") (rList K) := e ▸ call_list_of
def rTuple (K : PySem.W.Frag) : List V → Hp → VK → Prop := fun xs H Q => ∃ p ys, xs = [.ref p] ∧ ((SqL K H p ys ∧ ∀ l, H l = none → Q (.ref l) (upd H l (.tup ys))) ∨ (SqT K H p ys ∧ Q (.ref p) H))
theorem aTuple (e : X.K = K) : CallR X (.type "tuple") (rTuple K) := e ▸ call_tuple_of
end
end
end Vf
namespace Vf
open PySem L2 PyProof.Rows PySem.Spec
/-! ## the end: the law's def, called where no repr is under way -/
def spLaw (K : PySem.W.Frag) : Sp := fun vs H Q _ => ∃ (a : Addr) (ns : List Int), vs = [.ref a] ∧ SqL K H a (ns.map V.int) ∧ ns.length ≤ 63 ∧ ∀ H', Q (.bl true) H'
section
variable {P : Program} {w : World} {K : PySem.W.Frag} {mg mb : Str → Option Value} {k : Nat} {fa a : Addr} {fd : FuncData} {x : Str} {s₁ : Shared} {vs : List Value} {ns : List Int}
/-- over one abstract heap, in which the script alone may be tracked -/
theorem law_one {H : Hp} (KX : K.In s₁.heap) (glob : s₁.heap.Ns mainGlobals mg) (blt : s₁.heap.Ns builtinsNs mb) (boot : ∀ x : Str, x ≠ "__name__" → mb x = bootBuiltins x) (lim : s₁.heap.NoLimit) (gens : s₁.gens = #[])
    (here : s₁.heap.get? a = some { cls := .type "list", data := .seq vs.toArray }) (room : Room k callerA) (F : ∀ base : Heap, K.In base → base.Ns mainGlobals mg → FnG P w K mg base CX0 k fa fd [x] (spLaw K))
    (bind : ∀ (s : Shared) (u : Value), BindsTo s fd ⟨[u], []⟩ [(x, u)]) (sq : SqL K H a (ns.map V.int)) (short : ns.length ≤ 63) (hok : HOk P w H s₁.heap) (only : ∀ b u, H b = some u → b = a ∧ K.lookup a = none ∧ ∃ xs, u = .frz { cls := .type "list", data := .seq vs.toArray } (.lst xs)) :
    codeAny (model P w) callerA (.call (.ref fa) ⟨[.ref a], []⟩) (fun r s' => r = .ok (.ret (.bool true)) ∧ OldK s₁.heap s'.heap ∧ s'.os = s₁.os ∧ AllBare s'.gens) s₁ := by
  have clear : ∀ {b : Addr} {o : Obj} {es : Array DictEntry} {ep : Nat}, s₁.heap.get? b = some o → o.data = .dict es ep → H b = none := by
    intro b o es ep e d
    cases q : H b with
    | none => rfl
    | some u =>
      obtain ⟨rfl, -⟩ := only b u q
      rw [here] at e
      cases e
      cases d
  have space : ∀ {b : Addr} {m : Str → Option Value}, s₁.heap.Ns b m → (hidT s₁.heap H).Ns b m := by
    rintro b m ⟨o, es, ep, e, d, r⟩
    exact ⟨o, es, ep, hidT_get e (clear e d), d, r⟩
  have frag : K.In (hidT s₁.heap H) := by
    intro b o e
    refine hidT_get (KX b o e) ?_
    cases q : H b with
    | none => rfl
    | some u =>
      obtain ⟨rfl, no, -⟩ := only b u q
      rw [no] at e
      cases e
  obtain ⟨mc, l1, l2⟩ := lim
  have env : Env0 P w K mg (hidT s₁.heap H) callerA [] s₁ H :=
    { frames := rfl, mod := ⟨frag, space glob, ⟨mb, space blt, boot⟩, ⟨mc, space l1, l2⟩⟩, bs := fun b o e => of_hidT e, bsz := Nat.le_of_eq (hidT_size _ _), funs := trivial, frf := fun b z => (List.not_mem_nil z).elim, hok := hok, bare := .of_eq gens }
  refine codeAny_mono ((F _ frag (space glob)).go callerA [] s₁ H ⟨[.ref a], []⟩ [.ref a] [.ref a] (fun v _ => v = .bl true) E0 rfl room env (bind s₁ (.ref a)) (.cons rfl .nil) ⟨a, ns, rfl, sq, short, fun _ => rfl⟩) fun r s' h => ?_
  rcases r with _ | fl
  · exact h.elim
  · cases fl with
    | next => exact h.elim
    | brk => exact h.elim
    | cont => exact h.elim
    | ret u =>
      obtain ⟨v, H', os, bare, un, hok', rv, ev⟩ := h
      cases ev
      cases rv
      refine ⟨rfl, .of_keep fun b o e => ?_, os, bare⟩
      cases q : H b with
      | none => exact un.keep b o e q (fun z => (List.not_mem_nil z).elim) (fun z => (List.not_mem_nil z).elim)
      | some u =>
        obtain ⟨rfl, -, xs, rfl⟩ := only b u q
        rw [here] at e
        cases e
        exact (hok' b _ (un.frzs b _ _ q)).1
theorem law_callG (KX : K.In s₁.heap) (glob : s₁.heap.Ns mainGlobals mg) (blt : s₁.heap.Ns builtinsNs mb) (boot : ∀ x : Str, x ≠ "__name__" → mb x = bootBuiltins x) (lim : s₁.heap.NoLimit) (gens : s₁.gens = #[])
    (here : s₁.heap.get? a = some { cls := .type "list", data := .seq vs.toArray }) (whole : IntsAre vs ns) (short : ns.length ≤ 63) (room : Room k callerA) (F : ∀ base : Heap, K.In base → base.Ns mainGlobals mg → FnG P w K mg base CX0 k fa fd [x] (spLaw K))
    (bind : ∀ (s : Shared) (u : Value), BindsTo s fd ⟨[u], []⟩ [(x, u)]) :
    codeAny (model P w) callerA (.call (.ref fa) ⟨[.ref a], []⟩) (fun r s' => r = .ok (.ret (.bool true)) ∧ OldK s₁.heap s'.heap ∧ s'.os = s₁.os ∧ AllBare s'.gens) s₁ := by
  have small : ns.length ≤ sizeLine := by
    rw [sizeLine_eq]
    omega
  have same := whole.length
  cases q : K.lookup a with
  | some o =>
    have e := KX a o q
    rw [here] at e
    cases e
    exact law_one (H := fun _ => none) KX glob blt boot lim gens here room F bind (.inr ⟨_, vs.toArray, _, q, rfl, rfl, rfl, by rw [List.size_toArray, same]; exact small, by simpa using vals_ints whole⟩) short (fun b u z => nomatch z) (fun b u z => nomatch z)
  | none =>
    let H : Hp := upd (fun _ => none) a (.frz { cls := .type "list", data := .seq vs.toArray } (.lst (ns.map V.int)))
    have only : ∀ b u, H b = some u → b = a ∧ u = .frz { cls := .type "list", data := .seq vs.toArray } (.lst (ns.map V.int)) := by
      intro b u z
      by_cases e : b = a
      · subst e
        exact ⟨rfl, (Option.some.inj (upd_same.symm.trans z)).symm⟩
      · have z' := (upd_ne (H := fun _ => none) (o := .frz { cls := .type "list", data := .seq vs.toArray } (.lst (ns.map V.int))) e).symm.trans z
        cases z'
    refine law_one (H := H) KX glob blt boot lim gens here room F bind (.inl (.inr ⟨_, upd_same⟩)) short (fun b u z => ?_) (fun b u z => ?_)
    · obtain ⟨rfl, rfl⟩ := only b u z
      exact ⟨here, by rw [List.length_map]; exact small, vs, _, vals_ints whole, here⟩
    · obtain ⟨rfl, rfl⟩ := only b u z
      exact ⟨rfl, q, _, rfl⟩
end
theorem walk_ofG {l : PySem.W.OpenLaw} {k : Nat} {q : Program} {loose : List Str} {XP : (Str → Option Value) → Heap → Prop} {YP : World → Heap → Prop} {d : DefRec} {K : Params → PySem.W.Frag} {x : Str}
    (most : l.most = some 63) (plain : d.params.defaults = []) (room : Room k callerA) (hY : ∀ (w : World) (h : Heap), YP w h → (K w.params).In h)
    (F : ∀ (w : World) (mg : Str → Option Value) (fa : Addr) (h : Heap), (K w.params).In h → h.Ns mainGlobals mg → mg d.name = some (.ref fa) →
      ∃ fd : FuncData, (∀ (s : Shared) (u : Value), BindsTo s fd ⟨[u], []⟩ [(x, u)]) ∧ ∀ base : Heap, (K w.params).In base → base.Ns mainGlobals mg → FnG l.prog w (K w.params) mg base CX0 k fa fd [x] (spLaw (K w.params))) :
    PySem.W.WalkO q loose XP YP l.row.toRowW d [] (fun f vs => PySem.call f vs) := by
  refine Att.attach_call most plain fun w s₀ s₁ mg mb fa o pm cd doc a vs ns G Y ho hd hcd hmg here whole short gens => ?_
  obtain ⟨fd, bind, hF⟩ := F w mg fa _ (hY w _ Y) G.T.g hmg
  exact law_callG (hY w _ Y) G.T.g G.T.b G.T.builtins G.T.nolimit gens here whole short room hF bind
end Vf
namespace Vf
open PySem L2 PyProof.Rows PySem.Spec
/-! ## walks over known items -/
structure Steps (J : It) (xs : List V) (G : Hp → Prop) : Prop where
  stop : ∀ H, G H → J.stop xs.length H
  go : ∀ i H, i < xs.length → G H → J.go i H
  yld : ∀ i H x H', i < xs.length → G H → J.yld i H x H' → xs[i]? = some x ∧ H' = H
theorem steps_list (K : PySem.W.Frag) (a : Addr) (xs : List V) : Steps (Itl K a) xs (fun H => SqL K H a xs) where
  stop := fun H g => ⟨xs, g, Nat.le_refl _⟩
  go := fun i H h g => ⟨xs, xs[i], g, by simp [h]⟩
  yld := fun i H x H' h g y => by
    obtain ⟨e, f⟩ := y
    exact ⟨f xs g, e⟩
theorem steps_tup (K : PySem.W.Frag) (a : Addr) (xs : List V) : Steps (Itt K a) xs (fun H => SqT K H a xs) where
  stop := fun H g => ⟨xs, g, Nat.le_refl _⟩
  go := fun i H h g => ⟨xs, xs[i], g, by simp [h]⟩
  yld := fun i H x H' h g y => by
    obtain ⟨e, f⟩ := y
    exact ⟨f xs g, e⟩
def signs (z : Str) : List V := z.cps.toList.map fun c => .str ⟨#[c]⟩
theorem signs_len (z : Str) : (signs z).length = z.cps.size := by simp [signs]
theorem steps_str (z : Str) : Steps (Its z) (signs z) (fun _ => True) where
  stop := fun H g => by
    show z.cps.size ≤ _
    rw [signs_len]
    exact Nat.le_refl _
  go := fun i H h g => by
    rw [signs_len] at h
    exact h
  yld := fun i H x H' h g y => by
    obtain ⟨e, c, hc, rfl⟩ := y
    refine ⟨?_, e⟩
    unfold signs
    rw [List.getElem?_map, Array.getElem?_toList, hc]
    rfl
def wholes (lo : Int) (n : Nat) : List V := (List.range n).map fun i => .int (lo + (i : Nat))
theorem wholes_len (lo : Int) (n : Nat) : (wholes lo n).length = n := by simp [wholes]
theorem steps_range (lo : Int) (n : Nat) : Steps (Itr lo n) (wholes lo n) (fun _ => True) where
  stop := fun H g => by
    show n ≤ _
    rw [wholes_len]
    exact Nat.le_refl _
  go := fun i H h g => by
    rw [wholes_len] at h
    exact h
  yld := fun i H x H' h g y => by
    rw [wholes_len] at h
    obtain ⟨e, rfl⟩ := y
    refine ⟨?_, e⟩
    unfold wholes
    rw [List.getElem?_map, List.getElem?_range h]
    rfl
section
variable {J : It} {xs : List V} {G : Hp → Prop} {D : Ends} {σ : L2.St} {H : Hp} {tb : TS} {g : TG}
/-- a for over known items -/
theorem for_steps (S : Steps J xs G) (Pv : Nat → L2.St → Hp → Prop) (h0 : Pv 0 σ H) (hl : ∀ i σ H, i ≤ xs.length → Pv i σ H → G H)
    (hs : ∀ i x σ H, xs[i]? = some x → Pv i σ H → g x σ H fun σ2 H2 => tb { D with nx := Pv (i + 1), ct := Pv (i + 1), bk := D.nx } σ2 H2) (hd : ∀ σ H, Pv xs.length σ H → D.nx σ H) :
    ∃ W : Nat → Nat → L2.St → Hp → Prop, (∃ m, W 0 m σ H) ∧ ∀ i m σ H, W i m σ H → (J.stop i H ∧ D.nx σ H) ∨
      (J.go i H ∧ ∃ N : L2.St → Hp → Prop, (∀ σ' H', N σ' H' → ∃ m', m' < m ∧ W (i + 1) m' σ' H') ∧ ∀ x H', J.yld i H x H' → g x σ H' fun σ2 H2 => tb { D with nx := N, ct := N, bk := D.nx } σ2 H2) := by
  refine ⟨fun i m σ H => i + m = xs.length ∧ Pv i σ H, ⟨xs.length, Nat.zero_add _, h0⟩, ?_⟩
  rintro i m σ H ⟨em, p⟩
  have gH := hl i σ H (by omega) p
  cases m with
  | zero =>
    have e : i = xs.length := by omega
    subst e
    exact .inl ⟨S.stop H gH, hd σ H p⟩
  | succ m =>
    have hi : i < xs.length := by omega
    refine .inr ⟨S.go i H hi gH, Pv (i + 1), fun σ' H' p' => ⟨m, Nat.lt_succ_self _, by omega, p'⟩, fun x H' y => ?_⟩
    obtain ⟨ex, rfl⟩ := S.yld i H x H' hi gH y
    exact hs i x σ _ ex p
variable {j : Nat} {tt : TT} {te : TE} {vs : List Nat} {L : Addr} {Qd : Hp → Prop}
/-- a comprehension over known items -/
theorem lc_steps (S : Steps J xs G) (Pv : Nat → Hp → Prop) (h0 : Pv 0 (upd H L (.lst []))) (hl : ∀ i H, i ≤ xs.length → Pv i H → G H)
    (hs : ∀ i x H, xs[i]? = some x → Pv i H → g x (wipe σ vs) H fun σ2 H2 => wipe σ2 vs = wipe σ vs ∧ tt σ2 H2 fun b H3 =>
      if b = true then te σ2 H3 fun y H4 => ∃ acc, H4 L = some (.lst acc) ∧ acc.length < sizeLine ∧ Pv (i + 1) (upd H4 L (.lst (acc ++ [y]))) else Pv (i + 1) H3) (hd : ∀ H, Pv xs.length H → Qd H) :
    ∃ W : Nat → Nat → Hp → Prop, (∃ m, W 0 m (upd H L (.lst []))) ∧ ∀ i m H, W i m H → (J.stop i H ∧ Qd H) ∨
      (J.go i H ∧ ∃ Nx : Hp → Prop, (∀ H', Nx H' → ∃ m', m' < m ∧ W (i + 1) m' H') ∧ ∀ x H', J.yld i H x H' → g x (wipe σ vs) H' fun σ2 H2 => wipe σ2 vs = wipe σ vs ∧ tt σ2 H2 fun b H3 =>
        if b = true then te σ2 H3 fun y H4 => ∃ acc, H4 L = some (.lst acc) ∧ acc.length < sizeLine ∧ Nx (upd H4 L (.lst (acc ++ [y]))) else Nx H3) := by
  refine ⟨fun i m H => i + m = xs.length ∧ Pv i H, ⟨xs.length, Nat.zero_add _, h0⟩, ?_⟩
  rintro i m H ⟨em, p⟩
  have gH := hl i H (by omega) p
  cases m with
  | zero =>
    have e : i = xs.length := by omega
    subst e
    exact .inl ⟨S.stop H gH, hd H p⟩
  | succ m =>
    have hi : i < xs.length := by omega
    refine .inr ⟨S.go i H hi gH, Pv (i + 1), fun H' p' => ⟨m, Nat.lt_succ_self _, by omega, p'⟩, fun x H' y => ?_⟩
    obtain ⟨ex, rfl⟩ := S.yld i H x H' hi gH y
    exact hs i x _ ex p
/-- .. whose test and element change nothing -/
theorem lc_pure (S : Steps J xs G) (p : V → Bool) (f : V → V) (hG : ∀ acc, G (upd H L (.lst acc))) (hz : xs.length ≤ sizeLine) (hw : ∀ x, wipe ((wipe σ vs).set j (some x)) vs = wipe σ vs)
    (ht : ∀ x ∈ xs, ∀ (acc : List V) (R : Bool → Hp → Prop), R (p x) (upd H L (.lst acc)) → tt ((wipe σ vs).set j (some x)) (upd H L (.lst acc)) R)
    (he : ∀ x ∈ xs, p x = true → ∀ (acc : List V) (R : VK), R (f x) (upd H L (.lst acc)) → te ((wipe σ vs).set j (some x)) (upd H L (.lst acc)) R) (hd : Qd (upd H L (.lst ((xs.filter p).map f)))) :
    ∃ W : Nat → Nat → Hp → Prop, (∃ m, W 0 m (upd H L (.lst []))) ∧ ∀ i m H, W i m H → (J.stop i H ∧ Qd H) ∨
      (J.go i H ∧ ∃ Nx : Hp → Prop, (∀ H', Nx H' → ∃ m', m' < m ∧ W (i + 1) m' H') ∧ ∀ x H', J.yld i H x H' → gName j x (wipe σ vs) H' fun σ2 H2 => wipe σ2 vs = wipe σ vs ∧ tt σ2 H2 fun b H3 =>
        if b = true then te σ2 H3 fun y H4 => ∃ acc, H4 L = some (.lst acc) ∧ acc.length < sizeLine ∧ Nx (upd H4 L (.lst (acc ++ [y]))) else Nx H3) := by
  refine lc_steps S (fun i H' => H' = upd H L (.lst (((xs.take i).filter p).map f))) rfl (fun i H' _ e => e ▸ hG _) (fun i x H' hx e => ?_) (fun H' e => ?_)
  · subst e
    have hi : i < xs.length := (List.getElem?_eq_some_iff.mp hx).1
    have hm := List.mem_of_getElem? hx
    refine ⟨hw x, ht x hm _ _ ?_⟩
    have et : xs.take (i + 1) = xs.take i ++ [x] := by rw [List.take_add_one, hx]; rfl
    have hlen : (((xs.take i).filter p).map f).length < sizeLine := by
      rw [List.length_map]
      have h1 := List.length_filter_le p (xs.take i)
      rw [List.length_take] at h1
      omega
    cases hp : p x with
    | true =>
      rw [if_pos rfl]
      refine he x hm hp _ _ ⟨_, upd_same, hlen, ?_⟩
      rw [upd_upd, et, List.filter_append, List.map_append]
      simp [hp]
    | false =>
      rw [if_neg (by decide), et, List.filter_append, List.map_append]
      simp [hp]
  · subst e
    rw [List.take_length]
    exact hd
end
theorem same_upd {H : Hp} {p : Addr} {o : HO} (h : H p = none) : Same H (upd H p o) := fun b u e => by
  rw [upd_ne (ne_of_none e h)]
  exact e
theorem seqL_upd {K : PySem.W.Frag} {H : Hp} {p a : Addr} {o : HO} {xs : List V} (h : H p = none) (s : SqL K H a xs) : SqL K (upd H p o) a xs := (same_upd h).seq s
end Vf
namespace Vf
open PySem L2 PyProof.Rows PySem.Spec
/-! ## a text beside a dict; a thing of any kind in a row of texts -/
theorem str_dict_no (b : Str) (u : Tok) (l : Addr) (es : Array DictEntry) (n : Nat) (dd : Option Addr) (sl : Array (Option Value)) :
    Meets (Builtin.«str.__eq__» ⟨[.str b u, .ref l], []⟩) (fun _ R s => s.heap.get? l = some { cls := .type "dict", dict := dd, data := .dict es n, slots := sl } ∧ R (.ok (.ret .notImplemented)) s) :=
  .of_wp fun prog w A R s h => by
    obtain ⟨hp, g, d, tk, os⟩ := s
    obtain ⟨hl, h⟩ := h
    wp_walk using wpAny_load hl
    exact ⟨_, rfl, h⟩
theorem dict_str_no (b : Str) (u : Tok) (l : Addr) (es : Array DictEntry) (n : Nat) (dd : Option Addr) (sl : Array (Option Value)) :
    Meets (Builtin.«dict.__eq__» ⟨[.ref l, .str b u], []⟩) (fun _ R s => s.heap.get? l = some { cls := .type "dict", dict := dd, data := .dict es n, slots := sl } ∧ R (.ok (.ret .notImplemented)) s) :=
  .of_wp fun prog w A R s h => by
    obtain ⟨hp, g, d, tk, os⟩ := s
    obtain ⟨hl, h⟩ := h
    have f1 := F.sub_str_dict
    wp_walk using wpAny_load hl
    exact ⟨_, rfl, h⟩
theorem rc_str_dict {A : Around} {s : Shared} {l : Addr} {o : Obj} {es : Array DictEntry} {n : Nat} (b : Str) (u : Tok) (ho : s.heap.get? l = some o) (hc : o.cls = .type "dict") (hd : o.data = .dict es n) (hu : A.units < cLine) : SeqAt.RcAt A s (.str b u) (.ref l) false := fun prog w E Q h => by
  obtain ⟨cls, dd, data, sl⟩ := o
  simp only at hc hd
  subst hc hd
  exact SeqAt.rc_eq_decline_or (k := false) (typeIs_str s b u) ⟨_, ho, rfl⟩ (by decide) F.sub_dict_str F.slot_str_eq F.slot_dict_eq
    (fun _ z => call_meets F.slot_str_eq (typeIs_str s b u) F.entry_str_eq (F.args_str_eq_2 _ _) (str_dict_no b u l es n dd sl) ⟨ho, z⟩)
    (fun _ z => call_meets F.slot_dict_eq ⟨_, ho, rfl⟩ F.entry_dict_eq (F.args_dict_eq_2 _ _) (dict_str_no b u l es n dd sl) ⟨ho, z⟩)
    (fun _ z => wpAny_of_eq (rfl : isSame (.str b u) (.ref l) = pure false) z) (.inr hu) h
theorem eq_str_dict {A : Around} {s : Shared} {l : Addr} {o : Obj} {es : Array DictEntry} {n : Nat} (b : Str) (u : Tok) (ho : s.heap.get? l = some o) (hc : o.cls = .type "dict") (hd : o.data = .dict es n) (hu : A.units < cLine) : SeqAt.EqAt A s (.str b u) (.ref l) false := fun prog w E Q h => by
  unfold eqBool
  exact wpAny_holding (wpAny_ite_split (fun z => absurd (eq_of_beq z) nofun) fun _ => wpAny_bind (rc_str_dict b u ho hc hd hu prog w E _ (wpAny_truthy_bool h)))
/-- is it one of these texts -/
def among (l : List Str) (x : V) : Bool := match x with
  | .str s => decide (s ∈ l)
  | _ => false
/-- what it is: any data but a float, bytes, a class -/
def Thing (H : Hp) (x : V) : Prop := match x with
  | .non | .bl _ | .int _ | .str _ => True
  | .ref a => (∃ xs, H a = some (.lst xs)) ∨ (∃ xs, H a = some (.tup xs)) ∨ ∃ kvs, H a = some (.dK kvs)
  | _ => False
theorem Dv.thing {H : Hp} {x : V} {d : PyData} (h : Dv H x d) : Thing H x := by
  cases h with
  | lst e _ => exact .inl ⟨_, e⟩
  | tup e _ => exact .inr (.inl ⟨_, e⟩)
  | dic e _ => exact .inr (.inr ⟨_, e⟩)
  | _ => trivial
section
variable {X : Cx} {s : Shared} {H : Hp} {σ : L2.St} {pins : List (Addr × Obj)}
/-- is it this text -/
def isT (x : V) (b : Str) : Bool := match x with
  | .str y => b == y
  | _ => false
def isTv (x : V) (z : Value) : Bool := match z with
  | .str b _ => isT x b
  | _ => false
theorem eq_text (I : Inv X pins σ H s) {A : Around} (hu : A.units < cLine) {x : V} {v : Value} (rx : RelV x v) (t : Thing H x) (b : Str) (k : Tok) : SeqAt.EqAt A s (.str b k) v (isT x b) := by
  cases x with
  | non => cases rx; exact SeqAt.EqAt.str_none b k
  | bl c => cases rx; exact SeqAt.EqAt.str_bool b k c
  | int i =>
    obtain ⟨u, rfl⟩ := rx
    exact SeqAt.EqAt.str_int b k i u
  | str y =>
    obtain ⟨u, rfl⟩ := rx
    exact SeqAt.EqAt.str_str b k y u
  | ref a =>
    cases rx
    rcases t with ⟨xs, e⟩ | ⟨xs, e⟩ | ⟨kvs, e⟩
    · obtain ⟨its, r, p, z⟩ := I.list (SqL.of (K := X.K) e)
      exact SeqAt.EqAt.str_list b k p.isList hu
    · obtain ⟨its, r, p, z⟩ := I.tuple (SqT.of (K := X.K) e)
      exact SeqAt.EqAt.str_tuple b k p hu
    · obtain ⟨_, _, vs, kv, o, es, ep, ho, ⟨hc, _⟩, hd, _⟩ : ObjOk X.prog X.w H s.heap a (.dK kvs) := I.hok a _ e
      exact eq_str_dict b k ho hc hd hu
  | byt _ => exact t.elim
  | flt _ => exact t.elim
  | ty _ => exact t.elim
theorem str_of_vals : ∀ {l : List Str} {us : List Value} {z : Value}, Vals (l.map V.str) us → z ∈ us → ∃ b k, z = Value.str b k
  | [], _, _, .nil, h => absurd h List.not_mem_nil
  | b :: l, _, z, .cons r rs, h => by
    rcases List.mem_cons.mp h with e | h
    · obtain ⟨t, rfl⟩ := r
      exact ⟨b, t, e⟩
    · exact str_of_vals rs h
def rInT (K : PySem.W.Frag) (neg : Bool) : R2 := fun x y H Q => ∃ (p : Addr) (l : List Str), y = .ref p ∧ SqT K H p (l.map V.str) ∧ Thing H x ∧ Q (.bl (neg ^^ among l x)) H
theorem any_texts (x : V) (f : Value → Bool) (hf : ∀ b t, f (.str b t) = isT x b) : ∀ (l : List Str) (us : List Value), Vals (l.map V.str) us → us.any f = among l x
  | [], _, .nil => by
    unfold among
    cases x <;> simp
  | b :: l, _, .cons r rs => by
    obtain ⟨t, rfl⟩ := r
    rw [List.any_cons, any_texts x f hf l _ rs, hf]
    unfold among isT
    cases x with
    | str y =>
      by_cases e : b = y
      · subst e; simp
      · have e' : ¬ y = b := fun z => e z.symm
        simp [e, e']
    | _ => simp
theorem opInT (hu : X.A.units + 1 < cLine) : OpR X (compareOp .In) (rInT X.K false) := by
  intro pins s σ H x y v u Q I rx ry h
  obtain ⟨p, l, rfl, hs, t, q⟩ := h
  cases ry
  obtain ⟨its, r, pl, hz⟩ := I.tuple hs
  refine SeqAt.in_tupleAt (isTv x) pl (fun z hz' => ?_) ⟨.bl _, H, I, rfl, ?_⟩
  · obtain ⟨b, k, rfl⟩ : ∃ b k, z = Value.str b k := str_of_vals r (by simpa using hz')
    exact eq_text I (A := X.A.in1) hu rx t b k
  · have e : its.toArray.any (isTv x) = among l x := by
      rw [List.any_toArray]
      exact any_texts x (isTv x) (fun _ _ => rfl) l its r
    rw [e]
    simpa using q
theorem opNotInT (hu : X.A.units + 1 < cLine) : OpR X (compareOp .NotIn) (rInT X.K true) := by
  intro pins s σ H x y v u Q I rx ry h
  obtain ⟨p, l, rfl, hs, t, q⟩ := h
  cases ry
  obtain ⟨its, r, pl, hz⟩ := I.tuple hs
  refine SeqAt.notIn_tupleAt (isTv x) pl (fun z hz' => ?_) ⟨.bl _, H, I, rfl, ?_⟩
  · obtain ⟨b, k, rfl⟩ : ∃ b k, z = Value.str b k := str_of_vals r (by simpa using hz')
    exact eq_text I (A := X.A.in1) hu rx t b k
  · have e : its.toArray.any (isTv x) = among l x := by
      rw [List.any_toArray]
      exact any_texts x (isTv x) (fun _ _ => rfl) l its r
    rw [e]
    simpa using q
/-- a tuple beside an empty tuple -/
def rEqE (K : PySem.W.Frag) : R2 := fun x y H Q => ∃ (a b : Addr) (xs : List V), x = .ref a ∧ y = .ref b ∧ SqT K H a xs ∧ SqT K H b [] ∧ Q (.bl xs.isEmpty) H
theorem opEqE (hu : X.A.units < cLine) : OpR X (compareOp .Eq) (rEqE X.K) := by
  intro pins s σ H x y v u Q I rx ry h
  obtain ⟨a, b, xs, rfl, rfl, h1, h2, q⟩ := h
  cases rx
  cases ry
  obtain ⟨its, r, p, -⟩ := I.tuple h1
  obtain ⟨its2, r2, p2, -⟩ := I.tuple h2
  cases r2
  refine SeqAt.eq_tupleAt (e := fun _ => true) p p2 hu (fun j _ h2 => absurd h2 (Nat.not_lt_zero _)) ⟨.bl _, H, I, rfl, ?_⟩
  have e : ((List.range (min its.toArray.size ([] : List Value).toArray.size)).all (fun _ => true) && its.toArray.size == ([] : List Value).toArray.size) = xs.isEmpty := by
    have e0 : ((List.range (min its.toArray.size ([] : List Value).toArray.size)).all (fun _ => true)) = true := List.all_eq_true.mpr fun _ _ => rfl
    rw [e0, Bool.true_and]
    cases r with
    | nil => rfl
    | cons _ _ => rfl
  rw [e]
  exact q
variable {K : PySem.W.Frag}
theorem aInT (e : X.K = K) (hu : X.A.units + 64 < cLine) : OpR X (compareOp .In) (rInT K false) := e ▸ opInT (by omega)
theorem aNotInT (e : X.K = K) (hu : X.A.units + 64 < cLine) : OpR X (compareOp .NotIn) (rInT K true) := e ▸ opNotInT (by omega)
theorem aEqE (e : X.K = K) (hu : X.A.units + 64 < cLine) : OpR X (compareOp .Eq) (rEqE K) := e ▸ opEqE (by omega)
end
end Vf
namespace Vf
open PySem L2 PyProof.Rows PySem.Spec
/-! ## a list grown by a tuple; a written dict of the module -/
theorem extend_tuple (l : Addr) (items : Array Value) (n : Nat) (b : Addr) (items2 : Array Value) (n2 : Nat) (dd : Option Addr) (sl : Array (Option Value)) (hs0 : ¬(!items.isEmpty && Builtin.List.listTooLong (items.size + items2.size)) = true) (hs1 : items.size ≤ sizeLine) (hs2 : items.size + items2.size ≤ sizeLine + 1) :
    Meets (Builtin.«list.extend» ⟨[.ref l, .ref b], []⟩) (fun _ R s => s.heap.get? l = some { cls := .type "list", dict := none, data := .seq items n, slots := #[] } ∧ s.heap.get? b = some { cls := .type "tuple", dict := dd, data := .seq items2 n2, slots := sl } ∧ R (.ok (.ret Value.none)) { s with heap := s.heap.update l (Obj.mapSeq fun x => x ++ items2), toks := s.toks }) :=
  .of_wp fun prog w A R s h => by
    obtain ⟨hp, g, d, tk, os⟩ := s
    obtain ⟨hl, hb, h⟩ := h
    have f2 := F.sub_tuple_tuple
    have f3 := F.sub_list_list
    have f4 := F.sub_tuple_list
    have f5 := F.sub_list_tuple
    have hz' : (items ++ items2).size ≤ sizeLine + 1 := by rw [Array.size_append]; exact hs2
    wp_walk using (wpAny_updateSeq hl rfl (hz := hs1) (_hz' := hz')), wpAny_loadPart' hl, wpAny_loadPart' hb
    exact ⟨_, rfl, h⟩
section
variable {X : Cx}
def rExtendT (K : PySem.W.Frag) : V → List V → Hp → VK → Prop := fun x vs H Q => ∃ l b xs zs, x = .ref l ∧ vs = [.ref b] ∧ H l = some (.lst xs) ∧ SqT K H b zs ∧ xs.length + zs.length ≤ sizeLine ∧ Q .non (upd H l (.lst (xs ++ zs)))
theorem mt_extendT : MtM X "list.extend" (rExtendT X.K) := by
  intro pins s σ H x vs v us Q I rx rv h
  obtain ⟨l, b, xs, zs, rfl, rfl, hH, hB, hz, q⟩ := h
  cases rx
  obtain ⟨u, rfl, ru⟩ := rv.one
  cases ru
  obtain ⟨z, its, n, r, hl, e⟩ := I.lstM hH
  obtain ⟨its2, r2, p2, hz2⟩ := I.tuple hB
  obtain ⟨⟨cls, dd, data, sl⟩, e2, hc, n2, hd⟩ := p2
  simp only at hc hd
  subst hc hd
  have hl2 := r2.length
  have hsz : its.toArray.size + its2.toArray.size ≤ sizeLine := by rw [List.size_toArray, List.size_toArray]; omega
  have hlong : ¬ (!its.toArray.isEmpty && Builtin.List.listTooLong (its.toArray.size + its2.toArray.size)) = true := by
    rw [notLongL hsz, Bool.and_false]
    exact Bool.false_ne_true
  refine call_meets F.slot_list_extend ⟨_, e, rfl⟩ F.entry_list_extend (F.args_list_extend_2 _ _)
    (extend_tuple l its.toArray n b its2.toArray n2 dd sl hlong (by rw [List.size_toArray]; omega) (by omega)) ⟨e, e2, ?_⟩
  refine ⟨.non, _, I.lset (its' := its ++ its2) hH e (by simp) (r.append r2) ?_, rfl, q⟩
  rw [List.length_append]
  omega
theorem aExtendT {K : PySem.W.Frag} (e : X.K = K) : MtM X "list.extend" (rExtendT K) := e ▸ mt_extendT
/-- a text among the keys of a written dict of the module; f: what is at each -/
structure Cnt (K : PySem.W.Frag) (w : World) (d : Addr) (f : Str → Option Int) : Prop where
  ex : ∃ es n, KDict K w d es n
  at_ : ∀ z : Str, ∃ r : Option Value, PySem.W.nsIn K d z = some r ∧ RelO ((f z).map V.int) r
variable {K : PySem.W.Frag} {w : World} {d : Addr} {f : Str → Option Int}
def rInK (d : Addr) (f : Str → Option Int) (neg : Bool) : R2 := fun x y H Q => ∃ z : Str, x = .str z ∧ y = .ref d ∧ Q (.bl (neg ^^ (f z).isSome)) H
theorem relO_some {g : Option V} {r : Option Value} (h : RelO g r) : r.isSome = g.isSome := by
  cases g <;> cases r <;> first | rfl | exact h.elim
theorem aInK (D : Cnt X.K X.w d f) : OpR X (compareOp .In) (rInK d f false) := by
  obtain ⟨es, n, k⟩ := D.ex
  intro pins s σ H x y v u Q I rx ry ⟨z, ex, ey, q⟩
  obtain ⟨r, e, ro⟩ := D.at_ z
  refine op_in_kd k pins s σ H x y v u Q I rx ry ⟨z, r, ex, ey, e, ?_⟩
  rw [relO_some ro]
  simpa using q
theorem aNotInK (D : Cnt X.K X.w d f) : OpR X (compareOp .NotIn) (rInK d f true) := by
  obtain ⟨es, n, k⟩ := D.ex
  intro pins s σ H x y v u Q I rx ry ⟨z, ex, ey, q⟩
  obtain ⟨r, e, ro⟩ := D.at_ z
  refine op_notIn_kd k pins s σ H x y v u Q I rx ry ⟨z, r, ex, ey, e, ?_⟩
  rw [relO_some ro]
  simpa using q
def rIxK (d : Addr) (f : Str → Option Int) : R2 := fun x y H Q => ∃ (z : Str) (i : Int), x = .ref d ∧ y = .str z ∧ f z = some i ∧ Q (.int i) H
theorem aIxK (D : Cnt X.K X.w d f) : IxR X (rIxK d f) := by
  obtain ⟨es, n, k⟩ := D.ex
  intro value slice pins s σ H x y v u Q I rx ry ⟨z, i, ex, ey, ef, q⟩ hs
  obtain ⟨r, e, ro⟩ := D.at_ z
  rw [ef] at ro
  cases r with
  | none => exact ro.elim
  | some r => exact ix_kdict value slice pins s σ H x y v u Q I rx ry ⟨d, z, .int i, ex, ey, ⟨es, n, r, k.at_, k.lit, e, ro⟩, q⟩ hs
/-- a cut of a tuple, told in one way -/
def rSlU (K : PySem.W.Frag) : V → Option Int → Option Int → Hp → VK → Prop := fun x lo hi H Q => ∃ a xs, x = .ref a ∧ SqT K H a xs ∧ ∀ (p : Addr) (H' : Hp), Same H H' → SqT K H' p (cutV xs lo hi) → Q (.ref p) H'
theorem slU : SlR X (rSlU X.K) := by
  intro pins s σ H x v vl vu lo hi sl Q I rx hs pl pu h
  obtain ⟨a, xs, rfl, hx, q⟩ := h
  refine sl_tupA pins s σ H _ v vl vu lo hi sl Q I rx hs pl pu ⟨a, xs, rfl, hx, fun e => q a H (Same.refl H) ?_, fun _ p hp => q p _ (same_upd hp) (.of upd_same)⟩
  unfold cutV
  rw [e.1, e.2, List.drop_zero, Nat.sub_zero, List.take_of_length_le (Nat.le_refl _)]
  exact hx
theorem aSlU {K : PySem.W.Frag} (e : X.K = K) : SlR X (rSlU K) := e ▸ slU
def rCatU (K : PySem.W.Frag) : R2 := fun x y H Q => ∃ a b xs ys, x = .ref a ∧ y = .ref b ∧ SqT K H a xs ∧ SqT K H b ys ∧ xs.length + ys.length ≤ sizeLine ∧ ∀ (p : Addr) (H' : Hp), Same H H' → SqT K H' p (xs ++ ys) → Q (.ref p) H'
theorem opCatU : OpR X (binaryOp .Add) (rCatU X.K) := by
  intro pins s σ H x y v u Q I rx ry h
  obtain ⟨a, b, xs, ys, rfl, rfl, h1, h2, l, q⟩ := h
  refine op_catA pins s σ H _ _ v u Q I rx ry ⟨a, b, xs, ys, rfl, rfl, h1, h2, l, fun e => q b H (Same.refl H) ?_, fun _ e => q a H (Same.refl H) ?_, fun _ _ p hp => q p _ (same_upd hp) (.of upd_same)⟩
  · subst e
    exact h2
  · subst e
    rw [List.append_nil]
    exact h1
theorem aCatU {K : PySem.W.Frag} (e : X.K = K) : OpR X (binaryOp .Add) (rCatU K) := e ▸ opCatU
end
end Vf
namespace Vf
open PySem L2 PyProof.Rows PySem.Spec
/-! ## repr of data with dicts anywhere; the law's end, where it is known that the table of modules stands at its place -/
def SysAt (base : Heap) : Prop := ∃ o, base.get? sysModules = some o
section
variable {X : Cx} {s : Shared} {H : Hp} {σ : L2.St} {pins : List (Addr × Obj)}
def rReprS : List V → Hp → VK → Prop := fun xs H Q => ∃ x d, xs = [x] ∧ Dv H x d ∧ d.showable = true ∧ d.depth ≤ 60 ∧ d.shown.length ≤ sizeLine ∧ Q (.str d.shown) H
theorem call_reprS (hb : SysAt X.base) (hg : X.A.guards = some []) (hu : X.A.units + 64 < cLine) : CallR X (.builtin "repr") rReprS := by
  intro pins s σ H xs us Q I rr h
  obtain ⟨x, d, rfl, hd, hs, hp, hz, q⟩ := h
  obtain ⟨u, rfl, rx⟩ := vals1 rr
  have fin : ∀ (h' : Heap) (t k : Tok), (∀ b o, s.heap.get? b = some o → h'.get? b = some o) → EP X pins σ Q (.str d.shown t) { s with heap := h', toks := k } := fun h' t k kp =>
    ⟨.str d.shown, H, I.kept kp, ⟨t, rfl⟩, q⟩
  obtain ⟨as, rd, hm⟩ : ∃ as, Reads s.heap u d as ∧ (d.hasDict = true → sysModules ∉ as) := by
    obtain ⟨as, rd, h⟩ := Dv.read I hd u rx
    refine ⟨as, rd, fun _ m => h _ m ?_⟩
    obtain ⟨o, e⟩ := hb
    exact (I.bs _ _ e).2
  cases rd with
  | none =>
    simp only [PyData.shown] at fin
    exact PySem.P.repr_of_none (fin _ _ _ fun _ _ e => e)
  | bool b =>
    simp only [PyData.shown] at fin
    exact PySem.P.repr_of_bool (fin _ _ _ fun _ _ e => e)
  | int i t =>
    simp only [PyData.shown] at fin
    exact PySem.P.repr_of_int (by simpa [PyData.showable] using hs) (fin _ _ _ fun _ _ e => e)
  | str y t =>
    simp only [PyData.shown] at fin hz
    exact PySem.P.repr_of_str (fin _ _ _ fun _ _ e => e) hz
  | list h1 h2 h3 h4 => exact repr_of_reads' (.list h1 h2 h3 h4) hs hm hg (by omega) (fun _ _ e => e) fin hz
  | tuple h1 h2 h3 h4 => exact repr_of_reads' (.tuple h1 h2 h3 h4) hs hm hg (by omega) (fun _ _ e => e) fin hz
  | dict h1 h2 h3 h4 h5 => exact repr_of_reads' (.dict h1 h2 h3 h4 h5) hs hm hg (by omega) (fun _ _ e => e) fin hz
end
section
variable {P : Program} {w : World} {K : PySem.W.Frag} {mg mb : Str → Option Value} {k : Nat} {fa a : Addr} {fd : FuncData} {x : Str} {s₁ : Shared} {vs : List Value} {ns : List Int}
/-- over one abstract heap, in which the script alone may be tracked -/
theorem law_oneS {H : Hp} (KX : K.In s₁.heap) (glob : s₁.heap.Ns mainGlobals mg) (blt : s₁.heap.Ns builtinsNs mb) (boot : ∀ x : Str, x ≠ "__name__" → mb x = bootBuiltins x) (lim : s₁.heap.NoLimit) (seer : s₁.heap.NoSeer) (gens : s₁.gens = #[])
    (here : s₁.heap.get? a = some { cls := .type "list", data := .seq vs.toArray }) (room : Room k callerA) (F : ∀ base : Heap, K.In base → base.Ns mainGlobals mg → SysAt base → FnG P w K mg base CX0 k fa fd [x] (spLaw K))
    (bind : ∀ (s : Shared) (u : Value), BindsTo s fd ⟨[u], []⟩ [(x, u)]) (sq : SqL K H a (ns.map V.int)) (short : ns.length ≤ 63) (hok : HOk P w H s₁.heap) (only : ∀ b u, H b = some u → b = a ∧ K.lookup a = none ∧ ∃ xs, u = .frz { cls := .type "list", data := .seq vs.toArray } (.lst xs)) :
    codeAny (model P w) callerA (.call (.ref fa) ⟨[.ref a], []⟩) (fun r s' => r = .ok (.ret (.bool true)) ∧ OldK s₁.heap s'.heap ∧ s'.os = s₁.os ∧ AllBare s'.gens) s₁ := by
  have clear : ∀ {b : Addr} {o : Obj} {es : Array DictEntry} {ep : Nat}, s₁.heap.get? b = some o → o.data = .dict es ep → H b = none := by
    intro b o es ep e d
    cases q : H b with
    | none => rfl
    | some u =>
      obtain ⟨rfl, -⟩ := only b u q
      rw [here] at e
      cases e
      cases d
  have space : ∀ {b : Addr} {m : Str → Option Value}, s₁.heap.Ns b m → (hidT s₁.heap H).Ns b m := by
    rintro b m ⟨o, es, ep, e, d, r⟩
    exact ⟨o, es, ep, hidT_get e (clear e d), d, r⟩
  have frag : K.In (hidT s₁.heap H) := by
    intro b o e
    refine hidT_get (KX b o e) ?_
    cases q : H b with
    | none => rfl
    | some u =>
      obtain ⟨rfl, no, -⟩ := only b u q
      rw [no] at e
      cases e
  obtain ⟨mc, l1, l2⟩ := lim
  have env : Env0 P w K mg (hidT s₁.heap H) callerA [] s₁ H :=
    { frames := rfl, mod := ⟨frag, space glob, ⟨mb, space blt, boot⟩, ⟨mc, space l1, l2⟩⟩, bs := fun b o e => of_hidT e, bsz := Nat.le_of_eq (hidT_size _ _), funs := trivial, frf := fun b z => (List.not_mem_nil z).elim, hok := hok, bare := .of_eq gens }
  refine codeAny_mono ((F _ frag (space glob) (by
    obtain ⟨ms, ⟨o, es, ep, e, d, r⟩, -⟩ := seer.mods
    exact ⟨o, hidT_get e (clear e d)⟩)).go callerA [] s₁ H ⟨[.ref a], []⟩ [.ref a] [.ref a] (fun v _ => v = .bl true) E0 rfl room env (bind s₁ (.ref a)) (.cons rfl .nil) ⟨a, ns, rfl, sq, short, fun _ => rfl⟩) fun r s' h => ?_
  rcases r with _ | fl
  · exact h.elim
  · cases fl with
    | next => exact h.elim
    | brk => exact h.elim
    | cont => exact h.elim
    | ret u =>
      obtain ⟨v, H', os, bare, un, hok', rv, ev⟩ := h
      cases ev
      cases rv
      refine ⟨rfl, .of_keep fun b o e => ?_, os, bare⟩
      cases q : H b with
      | none => exact un.keep b o e q (fun z => (List.not_mem_nil z).elim) (fun z => (List.not_mem_nil z).elim)
      | some u =>
        obtain ⟨rfl, -, xs, rfl⟩ := only b u q
        rw [here] at e
        cases e
        exact (hok' b _ (un.frzs b _ _ q)).1
theorem law_callS (KX : K.In s₁.heap) (glob : s₁.heap.Ns mainGlobals mg) (blt : s₁.heap.Ns builtinsNs mb) (boot : ∀ x : Str, x ≠ "__name__" → mb x = bootBuiltins x) (lim : s₁.heap.NoLimit) (seer : s₁.heap.NoSeer) (gens : s₁.gens = #[])
    (here : s₁.heap.get? a = some { cls := .type "list", data := .seq vs.toArray }) (whole : IntsAre vs ns) (short : ns.length ≤ 63) (room : Room k callerA) (F : ∀ base : Heap, K.In base → base.Ns mainGlobals mg → SysAt base → FnG P w K mg base CX0 k fa fd [x] (spLaw K))
    (bind : ∀ (s : Shared) (u : Value), BindsTo s fd ⟨[u], []⟩ [(x, u)]) :
    codeAny (model P w) callerA (.call (.ref fa) ⟨[.ref a], []⟩) (fun r s' => r = .ok (.ret (.bool true)) ∧ OldK s₁.heap s'.heap ∧ s'.os = s₁.os ∧ AllBare s'.gens) s₁ := by
  have small : ns.length ≤ sizeLine := by
    rw [sizeLine_eq]
    omega
  have same := whole.length
  cases q : K.lookup a with
  | some o =>
    have e := KX a o q
    rw [here] at e
    cases e
    exact law_oneS (H := fun _ => none) KX glob blt boot lim seer gens here room F bind (.inr ⟨_, vs.toArray, _, q, rfl, rfl, rfl, by rw [List.size_toArray, same]; exact small, by simpa using vals_ints whole⟩) short (fun b u z => nomatch z) (fun b u z => nomatch z)
  | none =>
    let H : Hp := upd (fun _ => none) a (.frz { cls := .type "list", data := .seq vs.toArray } (.lst (ns.map V.int)))
    have only : ∀ b u, H b = some u → b = a ∧ u = .frz { cls := .type "list", data := .seq vs.toArray } (.lst (ns.map V.int)) := by
      intro b u z
      by_cases e : b = a
      · subst e
        exact ⟨rfl, (Option.some.inj (upd_same.symm.trans z)).symm⟩
      · have z' := (upd_ne (H := fun _ => none) (o := .frz { cls := .type "list", data := .seq vs.toArray } (.lst (ns.map V.int))) e).symm.trans z
        cases z'
    refine law_oneS (H := H) KX glob blt boot lim seer gens here room F bind (.inl (.inr ⟨_, upd_same⟩)) short (fun b u z => ?_) (fun b u z => ?_)
    · obtain ⟨rfl, rfl⟩ := only b u z
      exact ⟨here, by rw [List.length_map]; exact small, vs, _, vals_ints whole, here⟩
    · obtain ⟨rfl, rfl⟩ := only b u z
      exact ⟨rfl, q, _, rfl⟩
end
theorem walk_ofS {l : PySem.W.OpenLaw} {k : Nat} {q : Program} {loose : List Str} {XP : (Str → Option Value) → Heap → Prop} {YP : World → Heap → Prop} {d : DefRec} {K : Params → PySem.W.Frag} {x : Str}
    (imp : importsNone q = true) (most : l.most = some 63) (plain : d.params.defaults = []) (room : Room k callerA) (hY : ∀ (w : World) (h : Heap), YP w h → (K w.params).In h)
    (F : ∀ (w : World) (mg : Str → Option Value) (fa : Addr) (h : Heap), (K w.params).In h → h.Ns mainGlobals mg → mg d.name = some (.ref fa) →
      ∃ fd : FuncData, (∀ (s : Shared) (u : Value), BindsTo s fd ⟨[u], []⟩ [(x, u)]) ∧ ∀ base : Heap, (K w.params).In base → base.Ns mainGlobals mg → SysAt base → FnG l.prog w (K w.params) mg base CX0 k fa fd [x] (spLaw (K w.params))) :
    PySem.W.WalkO q loose XP YP l.row.toRowW d [] (fun f vs => PySem.call f vs) := by
  refine Att.attach_call most plain fun w s₀ s₁ mg mb fa o pm cd doc a vs ns G Y ho hd hcd hmg here whole short gens => ?_
  obtain ⟨fd, bind, hF⟩ := F w mg fa _ (hY w _ Y) G.T.g hmg
  exact law_callS (hY w _ Y) G.T.g G.T.b G.T.builtins G.T.nolimit (G.T.seer imp) gens here whole short room hF bind
end Vf
namespace Vf
open PySem L2 PyProof.Rows PySem.Spec
/-! ## lists and tuples as written, the heap behind them told by what stays -/
def tWide (t : TA) : TA := fun σ H R => ∃ R0 : List V → Hp → Prop, t σ H R0 ∧ ∀ vs H1, R0 vs H1 → R vs H1
def tTupU (t : TA) : TE := fun σ H Q => t σ H fun xs H1 => xs.length ≤ sizeLine ∧ ∀ p H', Same H1 H' → H1 p = none → H' p = some (.tup xs) → Q (.ref p) H'
def tLstU (t : TA) : TE := fun σ H Q => t σ H fun xs H1 => xs.length ≤ sizeLine ∧ ∀ p H', Same H1 H' → H1 p = none → H' p = some (.lst xs) → Q (.ref p) H'
section
variable {X : Cx} {es : List Expr} {t : TA} {pos : Pos}
theorem pa_wide (h : PA X es t) : PA X es (tWide t) :=
  ⟨fun pos pins s σ H R I ⟨R0, h0, m⟩ => thn (h.run pos pins s σ H R0 I h0) fun us s1 ⟨xs, H1, I1, r, z⟩ => ⟨xs, H1, I1, r, m _ _ z⟩⟩
theorem pe_tupU {x1} (h : PA X es t) : PE X (.Tuple es x1 pos) (tTupU t) :=
  ⟨fun pins s σ H Q I hq => (pe_tup (pa_wide h)).run pins s σ H Q I ⟨_, hq, fun xs H1 ⟨z, q⟩ => ⟨z, fun p hp => q p _ (same_upd hp) hp upd_same⟩⟩⟩
theorem pe_lstU (h : PA X es t) : PE X (.List es pos) (tLstU t) :=
  ⟨fun pins s σ H Q I hq => (pe_lst (pa_wide h)).run pins s σ H Q I ⟨_, hq, fun xs H1 ⟨z, q⟩ => ⟨z, fun p hp => q p _ (same_upd hp) hp upd_same⟩⟩⟩
end
end Vf
namespace Vf
open PySem L2 PyProof.Rows PySem.Spec
/-! ## how long data is when shown: a weight that adds up -/
mutual
def wt : PyData → Nat
  | .none => 10
  | .bool _ => 10
  | .int _ => 600
  | .str x => 10 * x.length + 7
  | .list l => 10 + wtL l
  | .tuple l => 10 + wtL l
  | .dict l => 10 + wtK l
def wtL : List PyData → Nat
  | [] => 0
  | d :: l => wt d + 5 + wtL l
def wtK : List (PyData × PyData) → Nat
  | [] => 0
  | (k, v) :: l => wt k + wt v + 10 + wtK l
end
theorem join_piled : ∀ ts : List Str, (Str.join ", " ts).length ≤ piled ts
  | [] => Nat.zero_le _
  | t :: ts => by
    have := join_length_add (t :: ts) (by simp)
    omega
theorem tuple_len (ts : List Str) : (tupleText ts).length ≤ 4 + piled ts := by
  have h := join_piled ts
  unfold tupleText
  rw [strLen_append, strLen_append]
  have e1 : (Str.ofString "(").length = 1 := rfl
  have e2 : (Str.ofString (if (ts.length == 1) = true then ",)" else ")" : String)).length ≤ 2 := by
    split <;> decide +kernel
  omega
theorem dict_len (ts : List Str) : (dictText ts).length ≤ 4 + piled ts := by
  have h := join_piled ts
  unfold dictText
  rw [strLen_append, strLen_append]
  have e1 : (Str.ofString "{").length = 1 := rfl
  have e2 : (Str.ofString "}").length = 1 := rfl
  omega
theorem text_from : ∀ (ts : List Str) (k : Nat) (acc : Str), (textFrom k acc ts).length ≤ acc.length + piled ts
  | [], _, _ => Nat.le_refl _
  | t :: ts, k, acc => by
    have h := text_from ts (k + 1) (acc ++ (if k > 0 then ", " else "" : String) ++ t)
    rw [strLen_append, strLen_append] at h
    have e : (Str.ofString (if k > 0 then ", " else "" : String)).length ≤ 2 := by
      split <;> decide +kernel
    rw [piled_cons]
    show (textFrom (k + 1) (acc ++ (if k > 0 then ", " else "" : String) ++ t) ts).length ≤ _
    omega
theorem list_len (ts : List Str) : (listText ts).length ≤ 4 + piled ts := by
  have h := text_from ts 0 "["
  unfold listText
  rw [strLen_append]
  have e1 : (Str.ofString "[").length = 1 := rfl
  have e2 : (Str.ofString "]").length = 1 := rfl
  omega
mutual
/-- its texts may be shown, its whole numbers are no greater -/
def okD (B : Nat) : PyData → Bool
  | .str x => PyData.strOk x
  | .int i => decide (i.natAbs ≤ B)
  | .list l => okL B l
  | .tuple l => okL B l
  | .dict l => okK B l
  | _ => true
def okL (B : Nat) : List PyData → Bool
  | [] => true
  | d :: l => okD B d && okL B l
def okK (B : Nat) : List (PyData × PyData) → Bool
  | [] => true
  | (k, v) :: l => okD B k && okD B v && okK B l
end
theorem repr_len {s : Str} (k : PyData.strOk s = true) : (reprText s).length ≤ 10 * s.length + 2 := by
  have h1 := StrLaws.reprText_len s fun c hc => by
    have := Array.all_eq_true_iff_forall_mem.mp k c (by simpa using hc)
    have : c < 0x110000 := by simpa using this
    omega
  omega
theorem int_len {i : Int} (h : i.natAbs ≤ 10 ^ 50) : (PyData.shown (.int i)).length ≤ 52 ∧ PyData.showable (.int i) = true := by
  constructor
  · have hd : (Nat.toDigits 10 i.natAbs).length ≤ 51 := digits10_le (by decide) (Nat.lt_of_le_of_lt h (by decide))
    have e : (PyData.shown (.int i)).length = (toString i).toList.length := by
      simp only [PyData.shown]
      show (Str.ofString (toString i)).length = _
      rw [Str.ofString_eq_toList]
      simp [Str.length]
    rw [e, Int.toString_eq_repr, Int.repr_eq_if]
    split
    · rw [Nat.toList_repr]
      have : i.toNat = i.natAbs := by omega
      rw [this]
      omega
    · rw [String.toList_append, List.length_append, Nat.toList_repr]
      have : (-i).toNat = i.natAbs := by omega
      have e1 : ("-" : String).toList.length = 1 := by decide
      rw [this, e1]
      omega
  · simp only [PyData.showable, decide_eq_true_eq]
    by_cases h0 : i.natAbs = 0
    · rw [h0]
      decide
    · rw [Nat.log2_lt h0]
      exact Nat.lt_of_le_of_lt h (by decide +kernel)
mutual
theorem shown_wt {B : Nat} (hB : B ≤ 10 ^ 50) : ∀ d : PyData, okD B d = true → (PyData.shown d).length ≤ wt d
  | .none, _ => by decide +kernel
  | .bool true, _ => by decide +kernel
  | .bool false, _ => by decide +kernel
  | .int i, h => by
    simp only [okD, decide_eq_true_eq] at h
    have := (int_len (i := i) (by omega)).1
    simp only [wt]
    omega
  | .str x, h => by
    simp only [okD] at h
    have := repr_len h
    simp only [wt, PyData.shown]
    omega
  | .list l, h => by
    simp only [okD] at h
    have h := shownL_wt hB l h
    have h2 := list_len (PyData.shownAll l)
    simp only [wt, PyData.shown]
    omega
  | .tuple l, h => by
    simp only [okD] at h
    have h := shownL_wt hB l h
    have h2 := tuple_len (PyData.shownAll l)
    simp only [wt, PyData.shown]
    omega
  | .dict l, h => by
    simp only [okD] at h
    have h := shownK_wt hB l h
    have h2 := dict_len (PyData.shownKv l)
    simp only [wt, PyData.shown]
    omega
theorem shownL_wt {B : Nat} (hB : B ≤ 10 ^ 50) : ∀ l : List PyData, okL B l = true → piled (PyData.shownAll l) ≤ wtL l
  | [], _ => Nat.le_refl _
  | d :: l, h => by
    simp only [okL, Bool.and_eq_true] at h
    have h1 := shown_wt hB d h.1
    have h2 := shownL_wt hB l h.2
    simp only [PyData.shownAll, piled_cons, wtL]
    omega
theorem shownK_wt {B : Nat} (hB : B ≤ 10 ^ 50) : ∀ l : List (PyData × PyData), okK B l = true → piled (PyData.shownKv l) ≤ wtK l
  | [], _ => Nat.le_refl _
  | (k, v) :: l, h => by
    simp only [okK, Bool.and_eq_true] at h
    have h0 := shown_wt hB k h.1.1
    have h1 := shown_wt hB v h.1.2
    have h2 := shownK_wt hB l h.2
    have e : (Str.ofString ": ").length = 2 := rfl
    simp only [PyData.shownKv, piled_cons, wtK, strLen_append]
    omega
end
theorem wtL_append : ∀ a b : List PyData, wtL (a ++ b) = wtL a + wtL b
  | [], b => by simp [wtL]
  | x :: a, b => by
    rw [List.cons_append, wtL, wtL, wtL_append a b]
    omega
theorem wtL_len : ∀ l : List PyData, 5 * l.length ≤ wtL l
  | [] => Nat.le_refl _
  | d :: l => by
    have h := wtL_len l
    simp only [wtL, List.length_cons]
    omega
theorem wtL_take (n : Nat) (l : List PyData) : wtL (l.take n) + wtL (l.drop n) = wtL l := by
  rw [← wtL_append, List.take_append_drop]
end Vf
namespace Vf
open PySem L2 PyProof.Rows PySem.Spec
/-! ## a def with defaults, called by places, where no repr is under way -/
/-- a def of the top's text with defaults, as it stands in the module -/
structure DfD (K : PySem.W.Frag) (mg : Str → Option Value) (x : Str) (st : Stmt) (dvs : List V) (f : Addr) (fd : FuncData) : Prop where
  fn : FunD K x x (defArgs st) (defBody st) (defScope st) dvs [] f fd
  gl : mg x = some (.ref f)
/-- a def that may be called, the last of its values left out -/
structure CalD (P : Program) (w : World) (K : PySem.W.Frag) (mg : Str → Option Value) (base : Heap) (x : Str) (ps : List Str) (k : Nat) (sp : Sp) (dvs : List V) : Prop where
  ex : ∃ f fd ds, FnG P w K mg base CX0 k f fd ps sp ∧ mg x = some (.ref f) ∧ PySem.W.keepIn K (.ref f) = true ∧ Binds K fd ps ds ∧ Vals dvs ds
section
variable {K : PySem.W.Frag} {P : Program} {w : World} {base : Heap} {mg : Str → Option Value} {x : Str} {st : Stmt} {f : Addr} {fd : FuncData} {N ps : List Str} {k : Nat} {sp : Sp} {dvs : List V}
theorem DfD.fnG (D : DfD K mg x st dvs f fd) (S : FnScope N ps (defScope st)) (many : ∀ vs H Q E, sp vs H Q E → vs.length = ps.length)
    (bd : ∀ (cdv : Value) (A : Around) (outer : List Env) (s : Shared) (H : Hp) (vs : List V) (Q : VK) (E : XK), (A.deeper (envOfC x (defScope st) s.heap.objs.size f cdv)).guards = some [] → Room k (A.deeper (envOfC x (defScope st) s.heap.objs.size f cdv)) → sp vs H Q E →
      ∃ t, PSs (cxOf CX0 P w K mg base N x (defScope st) f cdv A outer s H E).nox (defBody st) t ∧ t { nx := fun _ H' => Q .non H', rt := Q } (start N vs) H) : FnG P w K mg base CX0 (k + 1) f fd ps sp := by
  obtain ⟨oc, od, dV, kV, doc, pm, an, cdv, ct, osl, rfl, here, code, _, _⟩ := D.fn.ex
  refine fnG_of here code S many fun A outer s H vs Q E hg hr hsp => ?_
  obtain ⟨t, h1, h2⟩ := bd cdv A outer s H vs Q E hg hr hsp
  exact ⟨t, h1.nox, h2⟩
/-- called with n values, the first j defaults being given -/
theorem DfD.calD (D : DfD K mg x st dvs f fd) (F : FnG P w K mg base CX0 k f fd ps sp) (n j : Nat) (hd : dvs ≠ []) (hn : n + (dvs.length - j) = ps.length)
    (h : ∀ (T : Addr) (kV doc pm : Value) (an : Option Addr) (cdv ct : Value) (us its : List Value), us.length = n → its.length = dvs.length →
      ∃ k, bindArgs (PySem.W.fnOf x x (defArgs st) (defBody st) (defScope st) (.ref T) kV doc pm an cdv ct) ⟨us, []⟩ = seqItems? (.ref T) >>= k ∧ k (some its.toArray) = pure (ps.zip (us ++ its.drop j))) : CalD P w K mg base x ps k sp (dvs.drop j) := by
  obtain ⟨ds, r, b⟩ := D.fn.binds1 n j hd hn h
  exact ⟨f, fd, ds, F, D.gl, D.fn.kp, b, r⟩
end
section
variable {X : Cx} {k : Nat} {ps : List Str} {sp : Sp} {x : Str} {p pos : Pos} {e : Expr} {es : List Expr} {t : TA} {dvs : List V}
theorem pe_calD (c : CalD X.prog X.w X.K X.mg X.base x ps k sp dvs) (hgd : X.A.guards = some []) (hr : Room k X.A) (hg : Gl X x) (ha : PA X (e :: es) t) (hdb : (x == ("__debug__" : Str)) = false := by decide)
    (he : starEach (e :: es) X.env = (false, eval e X.env) :: starEach es X.env := by rfl) (hpl : (backTo pos (starEach es X.env)).any (·.1) = false := by rfl) : PE X (.Call (.Name x p) (e :: es) [] pos) (tCall sp dvs E0 t) := by
  obtain ⟨f, fd, ds, F, gl, kp, bi, rd⟩ := c.ex
  refine ⟨fun pins s σ H Q I h => wpAny_Call_Name_kw (ld_glob I hg gl ?_ hdb)⟩
  refine PySem.W.callWith_K (h₀ := X.base) I.ok.mod.kin kp (thn (ha.run pos pins s σ H _ I h) fun us s1 ⟨vs, H1, I1, r, q⟩ => ⟨I1.kIn, ?_⟩) he hpl
  have q : sp (vs ++ dvs) H1 Q E0 := q
  have rr := r.append rd
  exact wpAny_call (go_cal F hgd hr I1 (bi s1 us I1.kIn (by rw [← rr.length]; exact F.many _ _ _ _ q)) rr q)
end
end Vf
namespace Vf
open PySem L2 PyProof.Rows PySem.Spec
/-! ## whole numbers that may be truths; great letters -/
def numV : V → Option Int
  | .int i => some i
  | .bl b => some (if b = true then 1 else 0)
  | _ => none
def rNumL (g : Int → Int → Int) : R2 := fun x y H Q => ∃ i j, numV x = some i ∧ y = .int j ∧ Q (.int (g i j)) H
def rNumR (g : Int → Int → Int) : R2 := fun x y H Q => ∃ i j, x = .int i ∧ numV y = some j ∧ Q (.int (g i j)) H
def rEqN : R2 := fun x y H Q => ∃ i j, numV x = some i ∧ y = .int j ∧ Q (.bl (decide (i = j))) H
def rStrN : List V → Hp → VK → Prop := fun xs H Q => (∃ i, xs = [.int i] ∧ i.natAbs.log2 < 1920 ∧ Q (.str (Str.ofString (toString i))) H) ∨ ∃ b : Bool, xs = [.bl b] ∧ Q (.str (Str.ofString (if b = true then "True" else "False"))) H
section
variable {X : Cx}
theorem aAddN : OpR X (binaryOp .Add) (rNumL fun i j => i + j) := by
  intro pins s σ H x y v u Q I rx ry ⟨i, j, hx, hy, q⟩
  subst hy
  cases x with
  | int k =>
    cases hx
    exact op_add pins s σ H _ _ v u Q I rx ry ⟨_, _, rfl, rfl, q⟩
  | bl b =>
    cases hx
    cases rx
    obtain ⟨t, rfl⟩ := ry
    exact PySem.IntBool.add_bool_int ⟨.int _, H, I.tok _, ⟨_, rfl⟩, q⟩
  | _ => cases hx
theorem aSubN : OpR X (binaryOp .Sub) (rNumL fun i j => i - j) := by
  intro pins s σ H x y v u Q I rx ry ⟨i, j, hx, hy, q⟩
  subst hy
  cases x with
  | int k =>
    cases hx
    exact op_sub pins s σ H _ _ v u Q I rx ry ⟨_, _, rfl, rfl, q⟩
  | bl b =>
    cases hx
    cases rx
    obtain ⟨t, rfl⟩ := ry
    exact PySem.IntBool.sub_bool_int ⟨.int _, H, I.tok _, ⟨_, rfl⟩, q⟩
  | _ => cases hx
theorem aSubR : OpR X (binaryOp .Sub) (rNumR fun i j => i - j) := by
  intro pins s σ H x y v u Q I rx ry ⟨i, j, hx, hy, q⟩
  subst hx
  cases y with
  | int k =>
    cases hy
    exact op_sub pins s σ H _ _ v u Q I rx ry ⟨_, _, rfl, rfl, q⟩
  | bl b =>
    cases hy
    cases ry
    obtain ⟨t, rfl⟩ := rx
    exact PySem.IntBool.sub_int_bool ⟨.int _, H, I.tok _, ⟨_, rfl⟩, q⟩
  | _ => cases hy
theorem aEqN : OpR X (compareOp .Eq) rEqN := by
  intro pins s σ H x y v u Q I rx ry ⟨i, j, hx, hy, q⟩
  subst hy
  cases x with
  | int k =>
    cases hx
    have e : decide (V.int i = V.int j) = decide (i = j) := by simp
    exact op_eq pins s σ H _ _ v u Q I rx ry ⟨rfl, by rw [e]; exact q⟩
  | bl b =>
    cases hx
    cases rx
    obtain ⟨t, rfl⟩ := ry
    refine SeqAt.RcAt.bool_int b j t X.prog X.w _ _ ⟨.bl _, H, I, rfl, ?_⟩
    have e : ((if b = true then (1 : Int) else 0) == j) = decide ((if b = true then (1 : Int) else 0) = j) := rfl
    rw [e]
    exact q
  | _ => cases hx
theorem aStrN : CallR X (.type "str") rStrN := by
  intro pins s σ H xs us Q I rr h
  rcases h with h | ⟨b, rfl, q⟩
  · exact call_str_int pins s σ H xs us Q I rr h
  · obtain ⟨u, rfl, rx⟩ := vals1 rr
    cases rx
    refine PySem.P.str_of_bool ⟨.str _, H, I.tok _, ⟨_, rfl⟩, ?_⟩
    cases b <;> exact q
end
/-! great letters of any text are signs, too -/
theorem shifted_small : ∀ (l : List (Nat × Nat × Nat)) (c u : Nat), l.all (fun r => decide (r.2.2 + (r.2.1 - r.1) < 0x110000)) = true → Unicode.shifted l c = some u → u < 0x110000
  | [], _, _, _, h => by cases h
  | (a, b, t) :: r, c, u, hall, h => by
    rw [List.all_cons, Bool.and_eq_true, decide_eq_true_eq] at hall
    unfold Unicode.shifted at h
    by_cases h1 : c < a
    · rw [if_pos h1] at h
      cases h
    · rw [if_neg h1] at h
      by_cases h2 : c ≤ b
      · rw [if_pos h2] at h
        cases h
        have := hall.1
        simp only at this
        omega
      · rw [if_neg h2] at h
        exact shifted_small r c u hall.2 h
theorem upperOf_small {c : Nat} (hc : c < 0x110000) : ∀ u ∈ Unicode.upperOf c, u < 0x110000 := by
  intro u hu
  unfold Unicode.upperOf Unicode.image at hu
  split at hu
  · next cs hl =>
    have := StrLaws.lookup_all (p := fun l => l.all fun x => decide (x < 0x110000)) UnicodeData.severalUpper c cs (by decide +kernel) hl
    simpa using List.all_eq_true.mp this u hu
  · rw [List.mem_singleton] at hu
    subst hu
    cases e : Unicode.shifted UnicodeData.oneUpper c with
    | none => exact hc
    | some u => exact shifted_small _ c u (by decide +kernel) e
theorem upper_strOk {s : Str} (h : PyData.strOk s = true) : PyData.strOk (Txt.upper s) = true := by
  refine Array.all_eq_true_iff_forall_mem.mpr fun x hx' => ?_
  have hs := Array.all_eq_true_iff_forall_mem.mp h
  unfold Txt.upper placed at hx'
  obtain ⟨l, hl, hm⟩ := Array.mem_flatten.mp hx'
  obtain ⟨i, hi, rfl⟩ := Array.mem_mapIdx.mp hl
  have hc := hs s.cps[i] (by simp)
  have hc : s.cps[i] < 0x110000 := by simpa using hc
  simpa using upperOf_small hc x (by simpa using hm)
end Vf
namespace Vf
open PySem L2 PyProof.Rows PySem.Spec
/-! ## what is written out: tuples, lists, dicts of constants and of names; all of it lies in a part G of the heap, and in what is new -/
theorem lineLe {n : Nat} (h : n ≤ 1000000) : n ≤ sizeLine := by
  rw [sizeLine_eq]
  omega
def Only (H G G' : Hp) : Prop := ∀ b, H b ≠ none → G b = none → G' b = none
theorem Only.refl (H G : Hp) : Only H G G := fun _ _ h => h
theorem Only.trans {H H1 G G1 G2 : Hp} (s : Same H H1) (a : Only H G G1) (b : Only H1 G1 G2) : Only H G G2 := fun x h1 h2 => b x (fun e => h1 (s.free e)) (a x h1 h2)
/-- the state's slots hold these data, within G -/
def Has (σ : L2.St) (G : Hp) : List (Nat × PyData) → Prop
  | [] => True
  | (i, d) :: r => (∃ v, σ[i]? = some (some v) ∧ Dv G v d) ∧ Has σ G r
theorem Has.same {σ : L2.St} {G G' : Hp} (s : Same G G') : ∀ {vs : List (Nat × PyData)}, Has σ G vs → Has σ G' vs
  | [], _ => trivial
  | (_, _) :: _, ⟨⟨v, e, h⟩, t⟩ => ⟨⟨v, e, h.same s⟩, t.same s⟩
theorem Has.app {σ : L2.St} {G : Hp} : ∀ {vs ws : List (Nat × PyData)}, Has σ G (vs ++ ws) → Has σ G vs ∧ Has σ G ws
  | [], _, h => ⟨trivial, h⟩
  | (_, _) :: _, _, ⟨a, t⟩ => ⟨⟨a, t.app.1⟩, t.app.2⟩
structure Grow (H G H' G' : Hp) : Prop where
  big : Same H H'
  part : Same G G'
  sub : Same G' H'
  only : Only H G G'
theorem Grow.refl {H G : Hp} (s : Same G H) : Grow H G H G := ⟨Same.refl H, Same.refl G, s, Only.refl H G⟩
theorem Grow.trans {H G H1 G1 H2 G2 : Hp} (a : Grow H G H1 G1) (b : Grow H1 G1 H2 G2) : Grow H G H2 G2 := ⟨a.big.trans b.big, a.part.trans b.part, b.sub, a.only.trans a.big b.only⟩
/-- a new thing, in both -/
theorem Grow.new {H G : Hp} {p : Addr} {o : HO} (s : Same G H) (n : H p = none) : Grow H G (upd H p o) (upd G p o) := by
  have ng : G p = none := s.free n
  refine ⟨same_upd n, same_upd ng, fun b u e => ?_, fun b h1 h2 => ?_⟩
  · by_cases hb : b = p
    · subst hb
      rw [upd_same] at e ⊢
      exact e
    · rw [upd_ne hb] at e ⊢
      exact s b u e
  · have hb : b ≠ p := fun z => h1 (by rw [z]; exact n)
    rw [upd_ne hb]
    exact h2
def tD (vs : List (Nat × PyData)) (d : PyData) : TE := fun σ H Q => ∃ G, Same G H ∧ Has σ G vs ∧ ∀ x H' G', Grow H G H' G' → Dv G' x d → Q x H'
def tDs (vs : List (Nat × PyData)) (ds : List PyData) : TA := fun σ H Q => ∃ G, Same G H ∧ Has σ G vs ∧ ∀ xs H' G', Grow H G H' G' → DvAll G' xs ds → Q xs H'
/-- a new list of such things, its place told apart -/
def tDL (vs : List (Nat × PyData)) (ds : List PyData) : TE := fun σ H Q => ∃ G, Same G H ∧ Has σ G vs ∧ ∀ p xs H' G', Grow H G H' G' → DvAll G' xs ds → H' p = none → Q (.ref p) (upd H' p (.lst xs))
section
variable {X : Cx} {pos : Pos} {e : Expr} {es : List Expr} {vs ws : List (Nat × PyData)} {d : PyData} {ds : List PyData}
theorem peTo {t t' : TE} (h : PE X e t) (m : ∀ σ H Q, t' σ H Q → t σ H Q) : PE X e t' := ⟨fun pins s σ H Q I q => h.run pins s σ H Q I (m σ H Q q)⟩
theorem paTo {t t' : TA} (h : PA X es t) (m : ∀ σ H Q, t' σ H Q → t σ H Q) : PA X es t' := ⟨fun pos pins s σ H Q I q => h.run pos pins s σ H Q I (m σ H Q q)⟩
theorem wD_con {v : V} (h : PE X e (tC v)) (k : ∀ H, Dv H v d) : PE X e (tD [] d) := peTo h fun σ H Q ⟨G, s, _, q⟩ => q v H G (Grow.refl s) (k G)
theorem wD_var {i : Nat} (d : PyData) (h : PE X e (tVar i)) : PE X e (tD [(i, d)] d) := peTo h fun σ H Q ⟨G, s, ⟨⟨v, e, hv⟩, _⟩, q⟩ => ⟨v, e, q v H G (Grow.refl s) hv⟩
theorem wDs_nil : PA X [] (tDs [] []) := paTo pa_nil fun σ H Q ⟨G, s, _, q⟩ => q [] H G (Grow.refl s) .nil
theorem wDs_cons (h : PE X e (tD vs d)) (t : PA X es (tDs ws ds)) (hs : starEach (e :: es) X.env = (false, eval e X.env) :: starEach es X.env := by rfl) : PA X (e :: es) (tDs (vs ++ ws) (d :: ds)) :=
  paTo (pa_cons h t hs) fun σ H Q ⟨G, s, hv, q⟩ => ⟨G, s, hv.app.1, fun x H1 G1 g1 hx => ⟨G1, g1.sub, hv.app.2.same g1.part, fun xs H2 G2 g2 hxs => q (x :: xs) H2 G2 (g1.trans g2) (.cons (hx.same g2.part) hxs)⟩⟩
theorem wD_tup {x1} (t : PA X es (tDs vs ds)) (hl : ds.length ≤ 1000000 := by exact Nat.le_of_ble_eq_true rfl) : PE X (.Tuple es x1 pos) (tD vs (.tuple ds)) :=
  peTo (pe_tup t) fun σ H Q ⟨G, s, hv, q⟩ => ⟨G, s, hv, fun xs H1 G1 g1 hxs => ⟨lineLe (by rw [hxs.len]; exact hl), fun p hp => q (.ref p) _ _ (g1.trans (Grow.new g1.sub hp)) (.tup upd_same (hxs.same (same_upd (g1.sub.free hp))))⟩⟩
theorem wD_lst (t : PA X es (tDs vs ds)) (hl : ds.length ≤ 1000000 := by exact Nat.le_of_ble_eq_true rfl) : PE X (.List es pos) (tD vs (.list ds)) :=
  peTo (pe_lst t) fun σ H Q ⟨G, s, hv, q⟩ => ⟨G, s, hv, fun xs H1 G1 g1 hxs => ⟨lineLe (by rw [hxs.len]; exact hl), fun p hp => q (.ref p) _ _ (g1.trans (Grow.new g1.sub hp)) (.lst upd_same (hxs.same (same_upd (g1.sub.free hp))))⟩⟩
theorem wDL (t : PA X es (tDs vs ds)) (hl : ds.length ≤ 1000000 := by exact Nat.le_of_ble_eq_true rfl) : PE X (.List es pos) (tDL vs ds) :=
  peTo (pe_lst t) fun σ H Q ⟨G, s, hv, q⟩ => ⟨G, s, hv, fun xs H1 G1 g1 hxs => ⟨lineLe (by rw [hxs.len]; exact hl), fun p hp => q p xs H1 G1 g1 hxs hp⟩⟩
theorem wD_dic0 : PE X (.Dict [] [] pos) (tD [] (.dict [])) :=
  peTo pe_dnewK fun σ H Q ⟨G, s, _, q⟩ p hp => q (.ref p) _ _ (Grow.new s hp) (.dic upd_same .nil)
theorem wD_dic1 {k : Int} {j : Nat} {p1 : Pos} (h : PE X e (tD vs d)) : PE X (.Dict [some (.Constant (.int k) j p1)] [e] pos) (tD vs (.dict [(.int k, d)])) :=
  peTo (pe_disp (pps_cons pe_int h pps_nil) (by rfl) (by rfl) (fun z => by cases z) (by first | decide | exact Nat.succ_le_succ (Nat.zero_le _))) fun σ H Q ⟨G, s, hv, q⟩ p hp => by
    have ng : G p = none := s.free hp
    have s1 : Same G (upd H p (.dK [])) := s.trans (same_upd hp)
    refine ⟨G, s1, hv, fun y H2 G2 g2 hy => ?_⟩
    have n2 : G2 p = none := g2.only p (by rw [upd_same]; nofun) ng
    refine ⟨g2.big _ _ upd_same, [(Sum.inl k, y)], rfl, Nat.succ_le_succ (Nat.zero_le _), ?_⟩
    show Q (.ref p) (upd H2 p (.dK [(Sum.inl k, y)]))
    refine q (.ref p) _ (upd G2 p (.dK [(Sum.inl k, y)])) ⟨fun b u e => ?_, g2.part.trans (same_upd n2), fun b u e => ?_, fun b h1 h2 => ?_⟩ (.dic (ds := [d]) upd_same (.cons (hy.same (same_upd n2)) .nil))
    · have hb : b ≠ p := fun z => by rw [z, hp] at e; cases e
      rw [upd_ne hb]
      exact g2.big _ _ (same_upd hp _ _ e)
    · by_cases hb : b = p
      · subst hb
        rw [upd_same] at e ⊢
        exact e
      · rw [upd_ne hb] at e ⊢
        exact g2.sub b u e
    · have hb : b ≠ p := fun z => h1 (by rw [z]; exact hp)
      rw [upd_ne hb]
      exact g2.only b (fun z => h1 ((same_upd hp).free z)) h2
theorem wD_neg {i : Int} {j : Nat} {p1 : Pos} : PE X (.UnaryOp .USub (.Constant (.int i) j p1) pos) (tD [] (.int (-i))) :=
  peTo (pe_un un_neg pe_int) fun σ H Q ⟨G, s, _, q⟩ => ⟨i, rfl, q _ H G (Grow.refl s) (.int _)⟩
theorem wD_pow {i n : Int} {j j2 : Nat} {p1 p2 : Pos} (h : CPow i n) : PE X (.BinOp (.Constant (.int i) j p1) .Pow (.Constant (.int n) j2 p2) pos) (tD [] (.int (i ^ n.toNat))) :=
  peTo (pe_op op_pow pe_int pe_int) fun σ H Q ⟨G, s, _, q⟩ => ⟨i, n, rfl, rfl, h, q _ H G (Grow.refl s) (.int _)⟩
end
/-- the heap without one thing -/
def offp (p : Addr) (H : Hp) : Hp := fun b => if b = p then none else H b
theorem offp_sub (p : Addr) (H : Hp) : Same (offp p H) H := fun b o e => by
  unfold offp at e
  split at e
  · cases e
  · exact e
theorem offp_self (p : Addr) (H : Hp) : offp p H p = none := by simp [offp]
theorem offp_ne {p b : Addr} {H : Hp} (h : b ≠ p) : offp p H b = H b := by simp [offp, h]
/-- what lies in a part without p lies in the heap without p -/
theorem into_offp {p : Addr} {G H : Hp} (s : Same G H) (n : G p = none) : Same G (offp p H) := fun b u e => by
  have hb : b ≠ p := fun z => by rw [z, n] at e; cases e
  rw [offp_ne hb]
  exact s b u e
theorem offp_upd (p : Addr) (H : Hp) (o : HO) : offp p (upd H p o) = offp p H := by
  funext b
  by_cases hb : b = p
  · simp [offp, hb]
  · rw [offp_ne hb, offp_ne hb, upd_ne hb]
theorem offp_same {p : Addr} {H H' : Hp} (s : Same H H') : Same (offp p H) (offp p H') := fun b u e => by
  by_cases hb : b = p
  · subst hb
    rw [offp_self] at e
    cases e
  · rw [offp_ne hb] at e ⊢
    exact s b u e
end Vf
namespace Vf
open PySem L2 PyProof.Rows PySem.Spec HT
/-! ## a tuple turned about; cuts and sums of tuples that lie in a part of the heap -/
theorem adjust_rev (n : Nat) : Builtin.Slice.sliceAdjust none none (-1) (n : Int) = ((n : Int) - 1, -1) := rfl
theorem places_rev (n : Nat) : Builtin.Slice.slicePlaces ((n : Int) - 1) (-1) (-1) = n := by
  unfold Builtin.Slice.slicePlaces
  rw [if_neg (by decide)]
  cases n with
  | zero => rfl
  | succ n =>
    rw [if_pos (by omega)]
    have : ((n + 1 : Nat) : Int) - 1 - -1 - 1 = (n : Nat) := by omega
    rw [this, show -(-1 : Int) = 1 by decide, Int.ediv_one]
    omega
theorem pick_rev (xs : Array Value) : ((List.range xs.size).filterMap fun (m : Nat) => xs[(((xs.size : Int) - 1) + (m : Int) * (-1)).toNat]?) = xs.toList.reverse := by
  apply List.ext_getElem?
  intro i
  have e : ∀ m ∈ List.range xs.size, xs[(((xs.size : Int) - 1) + (m : Int) * (-1)).toNat]? = some (xs.toList.reverse.getD m .none) := by
    intro m hm
    have hm := List.mem_range.mp hm
    have e1 : (((xs.size : Int) - 1) + (m : Int) * (-1)).toNat = xs.size - 1 - m := by omega
    rw [e1, List.getD_eq_getElem?_getD, List.getElem?_reverse (by simpa using hm)]
    simp only [Array.length_toList, Array.getElem?_toList]
    rw [Array.getElem?_eq_getElem (by omega)]
    rfl
  have e2 : ((List.range xs.size).filterMap fun (m : Nat) => xs[(((xs.size : Int) - 1) + (m : Int) * (-1)).toNat]?) = (List.range xs.size).map fun m => xs.toList.reverse.getD m .none := by
    have : ∀ l : List Nat, (∀ m ∈ l, m ∈ List.range xs.size) → (l.filterMap fun (m : Nat) => xs[(((xs.size : Int) - 1) + (m : Int) * (-1)).toNat]?) = l.map fun m => xs.toList.reverse.getD m .none := by
      intro l
      induction l with
      | nil => intro _; rfl
      | cons a l ih =>
        intro h
        rw [List.filterMap_cons, e a (h a List.mem_cons_self), List.map_cons, ih fun m hm => h m (List.mem_cons_of_mem _ hm)]
    exact this _ fun _ h => h
  rw [e2, List.getElem?_map]
  by_cases hi : i < xs.size
  · rw [List.getElem?_range hi]
    simp only [Option.map_some]
    rw [List.getD_eq_getElem?_getD, List.getElem?_eq_getElem (by simpa using hi)]
    rfl
  · rw [List.getElem?_eq_none (by simpa using Nat.le_of_not_lt hi), List.getElem?_eq_none (by simpa using Nat.le_of_not_lt hi)]
    rfl
section
variable {prog : Program} {w : World} {A : Around} {E : Value → Shared → Prop} {s : Shared}
theorem getItem_tuple_rev {t sl : Addr} {items : Array Value} {vs : Value} {Q : Value → Shared → Prop} (ht : IsTup s.heap t items) (hs : s.heap.IsSliceOf sl .none .none vs) (ps : IsPart vs (some (-1)))
    (h : Q (.ref s.heap.objs.size) { s with heap := s.heap.push { cls := .type "tuple", data := .seq items.toList.reverse.toArray } }) (hsz : items.size ≤ sizeLine) : wpAny (model prog w) A (getItem (.ref t) (.ref sl)) Q E s := by
  have htake : sizeOk (.seq items.toList.reverse.toArray) := by
    show items.toList.reverse.toArray.size ≤ sizeLine
    rw [List.size_toArray, List.length_reverse, Array.length_toList]
    exact hsz
  obtain ⟨os, hos, hcs, hds⟩ := id hs
  have hTs : s.TypeIs (.ref sl) "slice" := ⟨os, hos, hcs⟩
  unfold getItem
  try with_reducible refine wpAny_holding ?_
  first | refine wpAny_bind (wpAny_pure ?_) | skip
  refine wpAny_bind (wpAny_sequenceKey ht.typeIs (by decide) ?_)
  refine wpAny_bind (wpAny_callSpecial?_slot (name := Str.ofString "__getitem__") ht.typeIs PyProof.Rows.slot_tuple_getitem
    (wpAny_call_entry PyProof.Rows.slot_tuple_getitem ht.typeIs entry_tuple_getitem ?_ (args_tuple_getitem _ _)))
  show wpAny _ _ (Builtin.Tuple.tupleItemsOf (.ref t) >>= _) _ _ s
  refine wpAny_bind (tupleItemsOf_ ht ?_)
  refine wpAny_bind (wpAny_typeOf hTs ?_)
  rw [if_pos (by decide)]
  refine wpAny_bind (m := Builtin.Slice.sliceApplied (.ref sl) (pure (items.size : Int))) ?_
  · unfold Builtin.Slice.sliceApplied Builtin.Slice.sliceFields
    refine wpAny_bind (wpAny_bind (wpAny_field hos hds (x := .none) rfl (wpAny_bind (wpAny_field hos hds (x := .none) rfl (wpAny_bind (wpAny_field hos hds (x := vs) rfl (wpAny_pure ?_)))))))
    refine wpAny_bind (slicePart_ ps ?_)
    show wpAny _ _ (if ((-1 : Int) == 0) = true then _ else _) _ _ s
    rw [if_neg (by decide)]
    refine wpAny_bind (slicePart_none (wpAny_bind (slicePart_none (wpAny_bind (wpAny_pure ?_)))))
    show wpAny _ _ (match Builtin.Slice.sliceAdjust none none (-1) (items.size : Int) with | (lo, hi) => pure (lo, (-1 : Int), Builtin.Slice.slicePlaces lo hi (-1))) _ _ s
    rw [adjust_rev]
    show wpAny _ _ (pure (((items.size : Int) - 1), (-1 : Int), Builtin.Slice.slicePlaces ((items.size : Int) - 1) (-1) (-1))) _ _ s
    rw [places_rev]
    refine wpAny_pure ?_
    have hno : ¬ ((((items.size : Int) - 1) == 0 && (-1 : Int) == 1 && items.size == items.size) = true) := by
      rw [show ((-1 : Int) == 1) = false from rfl, Bool.and_false, Bool.false_and]
      exact Bool.false_ne_true
    show wpAny _ _ (if (((items.size : Int) - 1) == 0 && (-1 : Int) == 1 && items.size == items.size) = true then _ else _) _ _ s
    rw [if_neg hno, pick_rev]
    first
      | exact wpAny_bind (m := Builtin.Tuple.tupleExact _) (wpAny_newObj_type (wpAny_pure ⟨_, rfl, wpAny_pure h⟩) htake)
      | exact wpAny_bind (m := Builtin.Tuple.tupleExact _) (wpAny_newObj_type (wpAny_bind (wpAny_pure (wpAny_pure ⟨_, rfl, wpAny_pure h⟩))) htake)
      | exact wpAny_bind (wpAny_bind (m := Builtin.Tuple.tupleExact _) (wpAny_newObj_type (wpAny_pure (wpAny_pure ⟨_, rfl, wpAny_pure h⟩)) htake))
      | exact wpAny_bind (wpAny_bind (m := Builtin.Tuple.tupleExact _) (wpAny_newObj_type (wpAny_pure ⟨_, rfl, wpAny_pure h⟩) htake))
end
section
variable {X : Cx}
def tRevT (K : PySem.W.Frag) (te : TE) : TE := fun σ H Q => te σ H fun x H1 => ∃ a xs, x = .ref a ∧ SqT K H1 a xs ∧ ∀ p, H1 p = none → Q (.ref p) (upd H1 p (.tup xs.reverse))
theorem pe_revT {e : Expr} {te : TE} {k : Nat} {p1 p2 p3 pos : Pos} (he : PE X e te) : PE X (.Subscript e (.Slice none none (some (.UnaryOp .USub (.Constant (.int 1) k p1) p2)) p3) pos) (tRevT X.K te) := by
  refine ⟨fun pins s σ H Q I h => ?_⟩
  refine Subscript_ (thn (he.run pins s σ H _ I h) fun v s1 ⟨x, H1, I1, r1, q1⟩ => ?_)
  obtain ⟨a, xs, ex, hx, q⟩ := q1
  subst ex
  cases r1
  have hst : PO X (some (.UnaryOp .USub (.Constant (.int 1) k p1) p2)) (tPart (tUn (rU fun i => .int (-i)) (tC (.int 1)))) := po_some (pe_un un_neg pe_int)
  refine wpAny_Slice (thn (po_none.run pins s1 σ H1 (fun o H2 => o = none ∧ H2 = H1) I1 ⟨rfl, rfl⟩) fun vl s2 ⟨l, H2, I2, pl, el, e2⟩ => ?_)
  subst el e2
  refine thn (po_none.run pins s2 σ H2 (fun o H3 => o = none ∧ H3 = H2) I2 ⟨rfl, rfl⟩) fun vu s3 ⟨u, H3, I3, pu, eu, e3⟩ => ?_
  subst eu e3
  refine thn (hst.run pins s3 σ H3 (fun o H4 => o = some (-1) ∧ H4 = H3) I3 ⟨1, rfl, -1, rfl, rfl, rfl⟩) fun vs s4 ⟨o, H4, I4, ps, eo, e4⟩ => ?_
  subst eo e4
  have I5 : Inv X pins σ H4 { s4 with heap := s4.heap.push { cls := .type "slice", data := .fields #[vl, vu, vs] } } := I4.kept (t' := s4.toks) fun b ob q => Heap.get?_push_of_some _ q
  obtain ⟨its, r, ht, hz⟩ := I5.tuple hx
  have hlen := r.length
  cases pl
  cases pu
  show wpAny (model X.prog X.w) X.A (subscriptTail e (.Slice none none (some (.UnaryOp .USub (.Constant (.int 1) k p1) p2)) p3) (.ref a) (.ref s4.heap.objs.size)) (EP X pins σ Q) X.xe { s4 with heap := s4.heap.push { cls := .type "slice", data := .fields #[.none, .none, vs] } }
  refine tail_any (ops := [.ref a, .ref s4.heap.objs.size]) ht.typeIs (PyProof.Rows.slot_tuple_getitem.lookup) ?_ (by with_unfolding_all rfl)
  refine getItem_tuple_rev ht (Heap.IsSliceOf.new _ .none .none vs) ps ?_ (by rw [List.size_toArray]; omega)
  refine ⟨.ref _, _, I5.laid (t' := s4.toks) (o := .tup xs.reverse) (fun b ob q => Heap.get?_push_of_some _ q) (Nat.le_refl _) ?_, rfl, q _ (I5.hok.fresh (Nat.le_refl _))⟩
  refine ⟨by rw [List.length_reverse]; exact hz, _, r.reverse, ?_⟩
  exact IsTup.new _ _
theorem aRevT {K : PySem.W.Frag} (h : X.K = K) {e : Expr} {te : TE} {k : Nat} {p1 p2 p3 pos : Pos} (he : PE X e te) : PE X (.Subscript e (.Slice none none (some (.UnaryOp .USub (.Constant (.int 1) k p1) p2)) p3) pos) (tRevT K te) := h ▸ pe_revT he
/-! within a part -/
def rSlD : V → Option Int → Option Int → Hp → VK → Prop := fun x lo hi H Q => ∃ G a xs, x = .ref a ∧ Same G H ∧ G a = some (.tup xs) ∧ ∀ p H' G', Grow H G H' G' → G' p = some (.tup (cutV xs lo hi)) → Q (.ref p) H'
theorem aSlD : SlR X rSlD := by
  intro pins s σ H x v vl vu lo hi sl Q I rx hs pl pu h
  obtain ⟨G, a, xs, rfl, sG, hx, q⟩ := h
  refine sl_tupA pins s σ H _ v vl vu lo hi sl Q I rx hs pl pu ⟨a, xs, rfl, .of (sG _ _ hx), fun e => q a H G (Grow.refl sG) ?_, fun _ p hp => q p _ _ (Grow.new sG hp) upd_same⟩
  unfold cutV
  rw [e.1, e.2, List.drop_zero, Nat.sub_zero, List.take_of_length_le (Nat.le_refl _)]
  exact hx
def rCatD : R2 := fun x y H Q => ∃ G a b xs ys, x = .ref a ∧ y = .ref b ∧ Same G H ∧ G a = some (.tup xs) ∧ G b = some (.tup ys) ∧ xs.length + ys.length ≤ sizeLine ∧ ∀ p H' G', Grow H G H' G' → G' p = some (.tup (xs ++ ys)) → Q (.ref p) H'
theorem aCatD : OpR X (binaryOp .Add) rCatD := by
  intro pins s σ H x y v u Q I rx ry h
  obtain ⟨G, a, b, xs, ys, rfl, rfl, sG, h1, h2, l, q⟩ := h
  refine op_catA pins s σ H _ _ v u Q I rx ry ⟨a, b, xs, ys, rfl, rfl, .of (sG _ _ h1), .of (sG _ _ h2), l, fun e => q b H G (Grow.refl sG) ?_, fun _ e => q a H G (Grow.refl sG) ?_, fun _ _ p hp => q p _ _ (Grow.new sG hp) upd_same⟩
  · subst e
    exact h2
  · subst e
    rw [List.append_nil]
    exact h1
def tRevD (te : TE) : TE := fun σ H Q => te σ H fun x H1 => ∃ G a xs, x = .ref a ∧ Same G H1 ∧ G a = some (.tup xs) ∧ ∀ p H' G', Grow H1 G H' G' → G' p = some (.tup xs.reverse) → Q (.ref p) H'
end
end Vf
namespace Vf
open PySem L2 PyProof.Rows PySem.Spec
/-! ## lists that are grown step by step, beside a part -/
theorem Grow.at_ {H G H' : Hp} {p : Addr} {o : HO} (s0 : Same G H) (s : Same H H') (n : H p = none) (e : H' p = some o) : Grow H G H' (upd G p o) := by
  refine ⟨s, same_upd (s0.free n), fun b u eb => ?_, fun b h1 h2 => ?_⟩
  · by_cases hb : b = p
    · subst hb
      rw [upd_same] at eb
      rw [e]
      exact eb
    · rw [upd_ne hb] at eb
      exact s _ _ (s0 _ _ eb)
  · rw [upd_ne fun z => h1 (by rw [z]; exact n)]
    exact h2
theorem Grow.same {H G H' : Hp} (s0 : Same G H) (s : Same H H') : Grow H G H' G := ⟨s, Same.refl G, s0.trans s, Only.refl H G⟩
theorem Grow.setp {H G H1 G1 : Hp} {p : Addr} {o : HO} (g : Grow H G H1 G1) (n : H p = none) (ng : G1 p = none) : Grow H G (upd H1 p o) G1 :=
  ⟨fun b u e => by
    rw [upd_ne fun z => by rw [z, n] at e; cases e]
    exact g.big b u e, g.part, fun b u e => by
    rw [upd_ne fun z => by rw [z, ng] at e; cases e]
    exact g.sub b u e, g.only⟩
def noHp : Hp := fun _ => none
theorem noHp_sub (H : Hp) : Same noHp H := fun _ _ e => by cases e
/-- a new list of things that lie in a part and in what is new -/
def GotL (H G : Hp) (ds : List PyData) (Q : VK) : Prop := ∀ (p : Addr) (xs : List V) (H1 H2 G' : Hp), Grow H G H1 G' → DvAll G' xs ds → H1 p = none → Same H1 H2 → H2 p = some (.lst xs) → Q (.ref p) H2
/-- a list under way: at p, apart from the part -/
structure Lst (H H1 G1 : Hp) (p : Addr) (ds : List PyData) : Prop where
  new : H p = none
  grow : Grow H noHp H1 G1
  out : G1 p = none
  has : ∃ xs, H1 p = some (.lst xs) ∧ DvAll G1 xs ds
theorem Lst.more {H H1 G1 H2 G2 : Hp} {p : Addr} {ds : List PyData} (l : Lst H H1 G1 p ds) (g : Grow H1 G1 H2 G2) : Lst H H2 G2 p ds := by
  obtain ⟨xs, e, h⟩ := l.has
  exact ⟨l.new, l.grow.trans g, g.only p (by rw [e]; nofun) l.out, xs, g.big _ _ e, h.same g.part⟩
end Vf
namespace Vf
open PySem L2 PyProof.Rows PySem.Spec
/-! ## what is written out, the data of its names told where it is run -/
def HasE (σ : L2.St) (G : Hp) (env : Nat → PyData) : List Nat → Prop
  | [] => True
  | i :: r => (∃ v, σ[i]? = some (some v) ∧ Dv G v (env i)) ∧ HasE σ G env r
theorem HasE.same {σ : L2.St} {G G' : Hp} {env : Nat → PyData} (s : Same G G') : ∀ {vs : List Nat}, HasE σ G env vs → HasE σ G' env vs
  | [], _ => trivial
  | _ :: _, ⟨⟨v, e, h⟩, t⟩ => ⟨⟨v, e, h.same s⟩, t.same s⟩
theorem HasE.app {σ : L2.St} {G : Hp} {env : Nat → PyData} : ∀ {vs ws : List Nat}, HasE σ G env (vs ++ ws) → HasE σ G env vs ∧ HasE σ G env ws
  | [], _, h => ⟨trivial, h⟩
  | _ :: _, _, ⟨a, t⟩ => ⟨⟨a, t.app.1⟩, t.app.2⟩
abbrev Fd := (Nat → PyData) → PyData
abbrev Fds := (Nat → PyData) → List PyData
def tE (vs : List Nat) (F : Fd) : TE := fun σ H Q => ∃ (env : Nat → PyData) (G : Hp), Same G H ∧ HasE σ G env vs ∧ ∀ x H' G', Grow H G H' G' → Dv G' x (F env) → Q x H'
def tEs (vs : List Nat) (F : Fds) : TA := fun σ H Q => ∃ (env : Nat → PyData) (G : Hp), Same G H ∧ HasE σ G env vs ∧ ∀ xs H' G', Grow H G H' G' → DvAll G' xs (F env) → Q xs H'
def tEL (vs : List Nat) (F : Fds) : TE := fun σ H Q => ∃ (env : Nat → PyData) (G : Hp), Same G H ∧ HasE σ G env vs ∧ ∀ p xs H' G', Grow H G H' G' → DvAll G' xs (F env) → H' p = none → Q (.ref p) (upd H' p (.lst xs))
section
variable {X : Cx} {pos : Pos} {e : Expr} {es : List Expr} {vs ws : List Nat} {F : Fd} {Fs : Fds}
theorem wE_con {v : V} {d : PyData} (h : PE X e (tC v)) (k : ∀ H, Dv H v d) : PE X e (tE [] fun _ => d) := peTo h fun σ H Q ⟨env, G, s, _, q⟩ => q v H G (Grow.refl s) (k G)
theorem wE_var {i : Nat} (h : PE X e (tVar i)) : PE X e (tE [i] fun env => env i) := peTo h fun σ H Q ⟨env, G, s, ⟨⟨v, e, hv⟩, _⟩, q⟩ => ⟨v, e, q v H G (Grow.refl s) hv⟩
theorem wEs_nil : PA X [] (tEs [] fun _ => []) := paTo pa_nil fun σ H Q ⟨env, G, s, _, q⟩ => q [] H G (Grow.refl s) .nil
theorem wEs_cons (h : PE X e (tE vs F)) (t : PA X es (tEs ws Fs)) (hs : starEach (e :: es) X.env = (false, eval e X.env) :: starEach es X.env := by rfl) : PA X (e :: es) (tEs (vs ++ ws) fun env => F env :: Fs env) :=
  paTo (pa_cons h t hs) fun σ H Q ⟨env, G, s, hv, q⟩ => ⟨env, G, s, hv.app.1, fun x H1 G1 g1 hx => ⟨env, G1, g1.sub, hv.app.2.same g1.part, fun xs H2 G2 g2 hxs => q (x :: xs) H2 G2 (g1.trans g2) (.cons (hx.same g2.part) hxs)⟩⟩
theorem wE_tup {x1} (t : PA X es (tEs vs Fs)) (hl : ∀ env, (Fs env).length ≤ 1000000 := by exact fun _ => Nat.le_of_ble_eq_true rfl) : PE X (.Tuple es x1 pos) (tE vs fun env => .tuple (Fs env)) :=
  peTo (pe_tup t) fun σ H Q ⟨env, G, s, hv, q⟩ => ⟨env, G, s, hv, fun xs H1 G1 g1 hxs => ⟨lineLe (by rw [hxs.len]; exact hl env), fun p hp => q (.ref p) _ _ (g1.trans (Grow.new g1.sub hp)) (.tup upd_same (hxs.same (same_upd (g1.sub.free hp))))⟩⟩
theorem wE_lst (t : PA X es (tEs vs Fs)) (hl : ∀ env, (Fs env).length ≤ 1000000 := by exact fun _ => Nat.le_of_ble_eq_true rfl) : PE X (.List es pos) (tE vs fun env => .list (Fs env)) :=
  peTo (pe_lst t) fun σ H Q ⟨env, G, s, hv, q⟩ => ⟨env, G, s, hv, fun xs H1 G1 g1 hxs => ⟨lineLe (by rw [hxs.len]; exact hl env), fun p hp => q (.ref p) _ _ (g1.trans (Grow.new g1.sub hp)) (.lst upd_same (hxs.same (same_upd (g1.sub.free hp))))⟩⟩
theorem wEL (t : PA X es (tEs vs Fs)) (hl : ∀ env, (Fs env).length ≤ 1000000 := by exact fun _ => Nat.le_of_ble_eq_true rfl) : PE X (.List es pos) (tEL vs Fs) :=
  peTo (pe_lst t) fun σ H Q ⟨env, G, s, hv, q⟩ => ⟨env, G, s, hv, fun xs H1 G1 g1 hxs => ⟨lineLe (by rw [hxs.len]; exact hl env), fun p hp => q p xs H1 G1 g1 hxs hp⟩⟩
theorem wE_of {d : PyData} (h : PE X e (tD [] d)) : PE X e (tE [] fun _ => d) := peTo h fun σ H Q ⟨env, G, s, _, q⟩ => ⟨G, s, trivial, q⟩
theorem wE_dic1 {k : Int} {j : Nat} {p1 : Pos} (h : PE X e (tE vs F)) : PE X (.Dict [some (.Constant (.int k) j p1)] [e] pos) (tE vs fun env => .dict [(.int k, F env)]) := by
  refine peTo (pe_disp (pps_cons pe_int h pps_nil) (by rfl) (by rfl) (fun z => by cases z) (Nat.succ_le_succ (Nat.zero_le _))) fun σ H Q ⟨env, G, s, hv, q⟩ p hp => ?_
  have ng : G p = none := s.free hp
  have s1 : Same G (upd H p (.dK [])) := s.trans (same_upd hp)
  refine ⟨env, G, s1, hv, fun y H2 G2 g2 hy => ?_⟩
  have n2 : G2 p = none := g2.only p (by rw [upd_same]; nofun) ng
  refine ⟨g2.big _ _ upd_same, [(Sum.inl k, y)], rfl, Nat.succ_le_succ (Nat.zero_le _), ?_⟩
  show Q (.ref p) (upd H2 p (.dK [(Sum.inl k, y)]))
  refine q (.ref p) _ (upd G2 p (.dK [(Sum.inl k, y)])) ⟨fun b u e => ?_, g2.part.trans (same_upd n2), fun b u e => ?_, fun b h1 h2 => ?_⟩ (.dic (ds := [F env]) upd_same (.cons (hy.same (same_upd n2)) .nil))
  · have hb : b ≠ p := fun z => by rw [z, hp] at e; cases e
    rw [upd_ne hb]
    exact g2.big _ _ (same_upd hp _ _ e)
  · by_cases hb : b = p
    · subst hb
      rw [upd_same] at e ⊢
      exact e
    · rw [upd_ne hb] at e ⊢
      exact g2.sub b u e
  · have hb : b ≠ p := fun z => h1 (by rw [z]; exact hp)
    rw [upd_ne hb]
    exact g2.only b (fun z => h1 ((same_upd hp).free z)) h2
end
end Vf
namespace Vf
open PySem L2 PyProof.Rows PySem.Spec PySem.Froz
/-! ## sets of texts, grown text by text -/
def ins (l : List Str) (k : Str) : List Str := if k ∈ l then l else k :: l
theorem ins_len (l : List Str) (k : Str) : (ins l k).length ≤ l.length + 1 := by
  unfold ins
  split
  · omega
  · simp
theorem ins_nodup {l : List Str} (h : l.Nodup) (k : Str) : (ins l k).Nodup := by
  unfold ins
  split
  · exact h
  · next n => exact List.nodup_cons.mpr ⟨n, h⟩
theorem ins_mem {l : List Str} {k x : Str} : x ∈ ins l k ↔ x = k ∨ x ∈ l := by
  unfold ins
  split
  · next m => exact ⟨.inr, fun h => h.elim (fun e => e ▸ m) id⟩
  · exact List.mem_cons
/-- a table whose places rise, of a maker that is known where the order is not the world's -/
def Led (w : World) (t : SetTable) : Prop := Ris t.place.toList ∧ (w.params.followText "set-order" = true ∨ t.led = true)
theorem led_tail {w : World} {ep : Nat} {es : Array (Int × Value)} {t : SetTable} {was : Bool} (r : Led w t) : Led w (tailTx ep es t was).2.2 := by
  unfold tailTx
  split
  · refine ⟨relayAll_ris _ _ _, r.2.imp id fun z => ?_⟩
    show (relayAll t es (SetTable.grown es.size)).2.1.led = true
    rw [relayAll_led, z]
  · exact r
theorem led_plain {w : World} {t : SetTable} (r : Led w t) : Led w (if t.plain = true then { t with plain := false } else t) := by
  split
  · exact ⟨r.1, r.2⟩
  · exact r
theorem led_add {w : World} {D : SD} (h : Int) (v : Value) (r : Led w D.2.2) : Led w (addTx h v D).2.2 :=
  led_tail (led_plain ⟨layNew_ris D.2.2 D.1 h v r.1, r.2.imp id fun z => by rw [layNew_led, z]⟩)
structure Txs (P : Program) (w : World) (h : Heap) (a : Addr) (l : List Str) : Prop where
  ex : ∃ D : SD, h.get? a = some (sObj "set" D) ∧ TxOk P w D l ∧ Led w D.2.2
  nd : l.Nodup
section
variable {P : Program} {w : World} {A : Around} {E : Value → Shared → Prop} {s : Shared} {a : Addr} {l : List Str}
theorem Txs.at_ {h h' : Heap} (R : Txs P w h a l) (k : ∀ o, h.get? a = some o → h'.get? a = some o) : Txs P w h' a l := by
  obtain ⟨⟨D, e, r⟩, n⟩ := R
  exact ⟨⟨D, k _ e, r⟩, n⟩
theorem Txs.type {R : Txs P w s.heap a l} : s.TypeIs (.ref a) "set" := by
  obtain ⟨⟨D, e, _⟩, _⟩ := R
  exact ⟨_, e, rfl⟩
/-- what is there already -/
theorem had_x {T : String} {D : SD} {k : Str} {u : Tok} {Q : Bool → Shared → Prop} (ho : s.heap.get? a = some (sObj T D)) (F : TxOk P w D l) (hk : k ∈ l) (hb : l.length < scanBound) (h : Q false s) :
    wpAny (model P w) A (setAddHashed a (.str k u) (hashStr w k)) Q E s := by
  obtain ⟨es, ep, t⟩ := D
  have sz : es.size = l.length := F.sz
  have el : ElemsOf (strKind P w) es.toList := F.el
  have dd : (sObj T (es, ep, t)).data = .set es ep t := rfl
  obtain ⟨e, he, q⟩ := (F.mem k).mp hk
  obtain ⟨j, hj⟩ : ∃ j, List.findIdx? (fun e => (strKind P w).is k e.2) es.toList = some j := by
    cases f : List.findIdx? (fun e => (strKind P w).is k e.2) es.toList with
    | some j => exact ⟨j, rfl⟩
    | none =>
      have := List.findIdx?_eq_none_iff.mp f e he
      rw [q] at this
      cases this
  unfold setAddHashed
  refine wpAny_holding ?_
  unfold setAddHashedIn
  refine wpAny_bind (wpAny_setState_of ho dd F.fit ?_)
  dsimp only
  rw [byScan_of (knd := strKind P w) (x := Value.str k u) rfl (by rw [sz]; exact hb) el, if_pos rfl]
  unfold setAddByScan
  refine wpAny_bind (wpAny_bind (wpAny_rule (wpAny_bind (wpAny_setScan_of (knd := strKind P w) (k := k) (is_str k u) ho dd F.fit el ?_))))
  rw [hj]
  exact wpAny_pure (wpAny_pure h)
theorem grow_x {k : Str} {u : Tok} {Q : Bool → Shared → Prop} (R : Txs P w s.heap a l) (hb : l.length + 1 < scanBound) (h : ∀ b h', Heap.SameBut a s.heap h' → Txs P w h' a (ins l k) → Q b { s with heap := h' }) :
    wpAny (model P w) A (setAddHashed a (.str k u) (hashStr w k)) Q E s := by
  obtain ⟨⟨D, e, F, r⟩, n⟩ := R
  by_cases hk : k ∈ l
  · refine had_x e F hk (by omega) (h false s.heap (Heap.SameBut.refl a s.heap) ?_)
    rw [ins, if_pos hk]
    exact ⟨⟨D, e, F, r⟩, n⟩
  · refine add_x e F hk hb (h true _ (Heap.SameBut.update ..) ?_)
    rw [ins, if_neg hk]
    exact ⟨⟨_, get_upd _ e rfl, add_ok u F, led_add _ _ r⟩, List.nodup_cons.mpr ⟨hk, n⟩⟩
theorem grow_add {k : Str} {u : Tok} {Q : Bool → Shared → Prop} (R : Txs P w s.heap a l) (hb : l.length + 1 < scanBound) (h : ∀ b h', Heap.SameBut a s.heap h' → Txs P w h' a (ins l k) → Q b { s with heap := h', toks := s.toks + 1 }) :
    wpAny (model P w) A (setAdd a (.str k u)) Q E s := by
  unfold setAdd
  refine wpAny_holding (wpAny_bind ((strKind P w).pyHash (is_str k u) ?_))
  exact grow_x (s := { s with toks := s.toks + 1 }) R hb h
/-- D.add(k) -/
theorem grow_call {k : Str} {u : Tok} {Q : Value → Shared → Prop} (R : Txs P w s.heap a l) (hb : l.length + 1 < scanBound) (h : ∀ h', Heap.SameBut a s.heap h' → Txs P w h' a (ins l k) → Q .none { s with heap := h', toks := s.toks + 1 }) :
    wpAny (model P w) A (call (.builtin "set.add") [.ref a, .str k u]) Q E s := by
  refine wpAny_call_entry PySem.F.slot_set_add (Txs.type (R := R)) PySem.F.entry_set_add ?_ (PySem.F.args_set_add_2 _ _)
  unfold Builtin.«set.add»
  unfold Builtin.Frozenset.oneOther Builtin.Frozenset.addrOf
  simp only [List.isEmpty_nil, bind_assoc]
  refine wpAny_bind (wpAny_pure ?_)
  try dsimp only
  refine wpAny_bind (wpAny_pure ?_)
  try dsimp only
  refine wpAny_bind (grow_add R hb fun b h' sb r => ?_)
  show wpAny _ _ (ret Value.none) _ _ _
  exact wpAny_pure ⟨_, rfl, h h' sb r⟩
theorem Txs.fresh {h : Heap} (e : h.get? a = some { cls := .type "set", dict := none, data := .set #[] 0 (.fresh 0 0 (!w.params.followText "set-order")) }) : Txs P w h a [] := by
  refine ⟨⟨(#[], 0, .fresh 0 0 (!w.params.followText "set-order")), e, TxOk.nil (by rfl), List.Pairwise.nil, ?_⟩, List.nodup_nil⟩
  show w.params.followText "set-order" = true ∨ (!w.params.followText "set-order") = true
  cases w.params.followText "set-order"
  · exact .inr rfl
  · exact .inl rfl
end
end Vf
namespace Vf
open PySem L2 PyProof.Rows PySem.Spec PySem.Froz
/-! ## set(texts), sorted(set of texts) -/
def inss (xs : List Str) : List Str := xs.foldl ins []
theorem inss_end (xs : List Str) (x : Str) : inss (xs ++ [x]) = ins (inss xs) x := by simp [inss, List.foldl_append]
theorem inss_mem : ∀ {xs : List Str} {x : Str}, x ∈ inss xs ↔ x ∈ xs := by
  intro xs x
  have h : ∀ (ys acc : List Str), x ∈ ys.foldl ins acc ↔ x ∈ acc ∨ x ∈ ys := by
    intro ys
    induction ys with
    | nil => simp
    | cons y ys ih =>
      intro acc
      rw [List.foldl_cons, ih, ins_mem, List.mem_cons]
      constructor
      · rintro ((h | h) | h)
        · exact .inr (.inl h)
        · exact .inl h
        · exact .inr (.inr h)
      · rintro (h | h | h)
        · exact .inl (.inr h)
        · exact .inl (.inl h)
        · exact .inr h
  simpa [inss] using h xs []
theorem inss_nodup (xs : List Str) : (inss xs).Nodup := by
  have h : ∀ (ys acc : List Str), acc.Nodup → (ys.foldl ins acc).Nodup := by
    intro ys
    induction ys with
    | nil => exact fun _ h => h
    | cons y ys ih => exact fun acc h => ih _ (ins_nodup h y)
  exact h xs [] List.nodup_nil
theorem inss_len (xs : List Str) : (inss xs).length ≤ xs.length := by
  have h : ∀ (ys acc : List Str), (ys.foldl ins acc).length ≤ acc.length + ys.length := by
    intro ys
    induction ys with
    | nil => exact fun acc => Nat.le_refl _
    | cons y ys ih =>
      intro acc
      have h1 := ih (ins acc y)
      have h2 := ins_len acc y
      rw [List.foldl_cons, List.length_cons]
      omega
  simpa [inss] using h xs []
/-- the set of texts at a -/
def TxO (P : Program) (w : World) (a : Addr) (l : List Str) : HO := .ext fun h => Txs P w h a l
theorem txo_ok {P : Program} {w : World} {H : Hp} {h : Heap} {a : Addr} {l : List Str} (R : Txs P w h a l) : ObjOk P w H h a (TxO P w a l) := by
  obtain ⟨D, e, _⟩ := R.ex
  exact ⟨R, ⟨_, e⟩, fun h1 h2 p k => Txs.at_ p k⟩
section
variable {P : Program} {w : World} {A : Around} {E : Value → Shared → Prop} {s : Shared} {I : Addr} {fp wr : List Addr} {G : Array GenState → Array GenState → Prop} {n : Nat} {Pv : Nat → Value → Prop} {St : Nat → Shared → Prop} {R : Result → Shared → Prop}
/-- the rest of a row of texts, taken into the set at S -/
theorem into_set (W : WalksS P w A.in1 I fp wr G n Pv St) (S : Addr) (hS : S ∉ fp) (xs : List Str) (hn : xs.length = n) (hb : n + 1 < scanBound) (hv : ∀ i v, Pv i v → ∃ t, v = .str (xs.getD i Str.empty) t) :
    ∀ (k i : Nat) (s : Shared), i + k = n → St i s → Txs P w s.heap S (inss (xs.take i)) → (∀ s', Moved (S :: wr) G s s' → Txs P w s'.heap S (inss xs) → R (.ok (.ret .none)) s') →
      codeAny (model P w) A (.builtin "set.update.loop" ⟨[.ref S, .ref I], []⟩) R s := by
  have nw : S ∉ wr := fun z => hS (W.sub _ z)
  have up : ∀ b ∈ wr, b ∈ S :: wr := fun b z => .tail _ z
  intro k
  induction k with
  | zero =>
    intro i s e st hs q
    refine codeAny_builtin PyProof.Rows.F.entry_set_update_loop ?_
    rw [Around.under_plainId PyProof.Rows.F.plain_set_update_loop _]
    have ei : i = n := e
    subst ei
    rw [← hn, List.take_length] at hs
    refine wpAny_bind (W.done s _ _ st fun s' hm => ?_)
    exact wpAny_pure (q s' (hm.mono up) (hs.at_ fun o e => hm.heap S o nw e))
  | succ k ih =>
    intro i s e st hs q
    have hi : i < n := by omega
    refine codeAny_builtin PyProof.Rows.F.entry_set_update_loop ?_
    rw [Around.under_plainId PyProof.Rows.F.plain_set_update_loop _]
    refine wpAny_bind (W.item i s _ _ hi st fun v s' hp st' hm => ?_)
    obtain ⟨t, rfl⟩ := hv i v hp
    have hs' : Txs P w s'.heap S (inss (xs.take i)) := hs.at_ fun o e => hm.heap S o nw e
    have et : xs.take (i + 1) = xs.take i ++ [xs.getD i Str.empty] := by
      have hx : i < xs.length := by omega
      rw [List.take_add_one, List.getD_eq_getElem?_getD, List.getElem?_eq_getElem hx]
      rfl
    have hl := inss_len (xs.take i)
    rw [List.length_take] at hl
    refine wpAny_bind (wpAny_holding (grow_add hs' (by omega) fun b h' sb r => ?_))
    rw [← inss_end, ← et] at r
    refine wpAny_pure ⟨plainId_quiet PyProof.Rows.F.plain_set_update_loop _, ih (i + 1) _ (by omega) (W.frame _ s' _ _ st' (Nat.le_succ _) fun c hc o e => ?_) r fun s2 hm2 hs2 => ?_⟩
    · exact (sb.2 c fun z => hS (z ▸ hc)).trans e
    · exact q s2 (Moved.trans W.gtrans ((hm.mono up).then_heap (Nat.le_succ _) fun c o hc e => (sb.2 c fun z => hc (z ▸ List.mem_cons_self)).trans e) hm2) hs2

set_option maxHeartbeats 4000000 in
/-- set(l), l a list of texts -/
theorem set_of_texts {E : Value → Shared → Prop} {s : Shared} {l : Addr} {items : Array Value} {xs : List Str} {Q : Value → Shared → Prop} (hh : A.handled = none) (hl : s.heap.IsList l items) (hx : StrsAre items.toList xs) (hb : xs.length + 1 < scanBound)
    (h : ∀ (h' : Heap) (tk : Nat), Txs P w h' s.heap.objs.size (inss xs) → (∀ b o, s.heap.get? b = some o → h'.get? b = some o) → Q (.ref s.heap.objs.size) { s with heap := h', toks := tk }) :
    wpAny (model P w) A (call (.type "set") [.ref l]) Q E s := by
  obtain ⟨c, tl, mro⟩ := PySem.F.called_set.mro
  have made := PySem.F.called_set.made
  have sub := PySem.F.called_set.sub
  refine wpAny_call (codeAny_of_tree ?_)
  show wpAny (model P w) _ (callAny (.type "set") _) _ _ s
  refine wpAny_pure ⟨Code.quiet_builtin _ (by decide +kernel), codeAny_builtin PySem.F.entry_type_call ?_⟩
  rw [Around.under_plain (weight_type_call_type "set" [.ref l] []) rfl]
  have no1 := PySem.F.called_set.notType
  have no2 := PySem.F.called_set.canCreate
  have ok := PySem.F.typeCall_set_1 (.ref l)
  repeat any_goals first | assumption | wp_step
  generalize hO : ({ cls := .type "set", dict := none, data := .set #[] 0 (.fresh 0 0 (!w.params.followText "set-order")) } : Obj) = O
  refine codeAny_mono (code_set_led1 (.ref l) (E := E) (Q₁ := fun obj s1 => obj = .ref s.heap.objs.size ∧ s1 = { s with heap := s.heap.push O }) ⟨rfl, by rw [hO]⟩) fun r s1 hr => ?_
  rcases r with e | fl
  · exact hr
  match fl, hr with
  | .ret obj, hr =>
    obtain ⟨rfl, rfl⟩ := hr
    have hc : O.cls = .type "set" := by rw [← hO]
    have hf : O.isFreed = false := by rw [← hO]; rfl
    have hS : (s.heap.push O).get? s.heap.objs.size = some O := Heap.get?_push_size _ hf
    have hT : Shared.TypeIs { s with heap := s.heap.push O } (.ref s.heap.objs.size) "set" := ⟨O, hS, hc⟩
    have li := PySem.F.called_set.init.lookup
    have bi := PySem.F.called_set.init.bind (.ref s.heap.objs.size)
    repeat any_goals first | assumption | wp_step
    refine codeAny_mono (codeAny_call_builtin (R := wants (fun r s2 => r = .none ∧ ∃ h' tk, s2 = { s with heap := h', toks := tk } ∧ Txs P w h' s.heap.objs.size (inss xs) ∧ ∀ b o, s.heap.get? b = some o → h'.get? b = some o) E)
      PySem.F.called_set.init.plain PySem.F.entry_set_init (check_set_init_1 hT ?_)) fun r2 s2 hr2 => ?_
    · have hl1 : (s.heap.push O).IsList l items := hl.push _
      obtain ⟨⟨lc, ld, lD, ls⟩, ho, c1, nl, d1⟩ := id hl
      simp only at c1 d1
      subst c1 d1
      have ho1 := Heap.get?_push_of_some O ho
      have b1 := PySem.F.sub_list_set
      have b2 := PySem.F.sub_list_frozenset
      have b3 : (Value.type "list" == Value.type "dict") = false := by decide
      subst hO
      unfold Builtin.«set.__init__»
      unfold noKeywords Builtin.Frozenset.updateFrom
      generalize hp : pyIter = PI
      wp_walk
      subst hp
      generalize hO : ({ cls := .type "set", dict := none, data := .set #[] 0 (.fresh 0 0 (!w.params.followText "set-order")) } : Obj) = O at *
      refine wpAny_pyIter_list (items := items) hl1 ?_
      refine wpAny_bind (wpAny_runValue ?_)
      have ll : l < s.heap.objs.size := Heap.lt_size ho
      have zs : (s.heap.push O).objs.size = s.heap.objs.size + 1 := Heap.size_push ..
      have n1 : l ≠ (s.heap.push O).objs.size := Nat.ne_of_lt (by rw [zs]; exact Nat.lt_succ_of_lt ll)
      have n2 : s.heap.objs.size ∉ [(s.heap.push O).objs.size, l] := by
        simp only [List.mem_cons, List.not_mem_nil, or_false, not_or]
        exact ⟨Nat.ne_of_lt (by rw [zs]; exact Nat.lt_succ_self _), Nat.ne_of_gt ll⟩
      have len : xs.length = items.size := by rw [← StrsAre.len_eq hx, Array.length_toList]
      refine into_set ((Walks.list (show A.in1.in1.in1.handled = none by simp [hh]) _ l n1 items).toS) s.heap.objs.size n2 xs len (by omega) (fun i v hv => SS.strs_at hx i v (by rw [Array.getElem?_toList]; exact hv)) items.size 0 _ (Nat.zero_add _)
        ⟨⟨_, Heap.get?_push_size _ rfl, rfl, rfl⟩, hl1.push _⟩ (Txs.fresh (by rw [Heap.get?_push_of_some _ hS, hO])) fun s' hm r => ?_
      obtain ⟨h', g', d', tk', os'⟩ := s'
      obtain rfl : g' = s.gens := hm.gens
      obtain rfl : d' = s.drawn := hm.drawn
      obtain rfl : os' = s.os := hm.os
      show wpAny _ _ _ _ _ _
      refine wpAny_pure ?_
      show wpAny _ _ (ret Value.none) _ _ _
      refine wpAny_pure ⟨rfl, h', tk', rfl, r, fun b o e => ?_⟩
      have lb := Heap.lt_size e
      refine hm.heap b o ?_ (Heap.get?_push_of_some _ (Heap.get?_push_of_some _ e))
      simp only [List.mem_cons, List.not_mem_nil, or_false, not_or]
      exact ⟨Nat.ne_of_lt lb, Nat.ne_of_lt (by rw [zs]; exact Nat.lt_succ_of_lt lb)⟩
    · rcases r2 with e | fl2
      · exact hr2
      · match fl2, hr2 with
        | .ret r3, hr2 =>
          obtain ⟨rfl, h', tk, rfl, q1, q2⟩ := hr2
          repeat any_goals first | assumption | wp_step
          exact h _ _ q1 q2
        | .next, hr2 => exact hr2.elim
        | .brk, hr2 => exact hr2.elim
        | .cont, hr2 => exact hr2.elim
  | .next, hr => exact hr.elim
  | .brk, hr => exact hr.elim
  | .cont, hr => exact hr.elim
end
end Vf
namespace Vf
open PySem L2 PyProof.Rows PySem.Spec PySem.Froz
/-! ## sets of texts over the hand layer -/
def rSetS (K : PySem.W.Frag) (P : Program) (w : World) : List V → Hp → VK → Prop := fun vs H Q => ∃ (a : Addr) (xs : List Str), vs = [V.ref a] ∧ SqL K H a (xs.map V.str) ∧ xs.length + 1 < scanBound ∧ ∀ p, H p = none → Q (.ref p) (upd H p (TxO P w p (inss xs)))
def rSortedTx (P : Program) (w : World) : List V → Hp → VK → Prop := fun vs H Q => ∃ (a : Addr) (l : List Str), vs = [V.ref a] ∧ H a = some (TxO P w a l) ∧ l.length < 64 ∧ ∀ (ys : List Str) (p : Addr), ys.Perm l → sortedS ys = true → H p = none → Q (.ref p) (upd H p (.lst (ys.map V.str)))
theorem shared_same {s s' : Shared} (o : s'.os = s.os) : s' = { s with heap := s'.heap, gens := s'.gens, drawn := s'.drawn, toks := s'.toks } := by
  obtain ⟨h', g', d', t', o'⟩ := s'
  obtain rfl : o' = s.os := o
  rfl
theorem perm_of {α : Type} [DecidableEq α] : ∀ {l ks : List α}, l.Nodup → (∀ x ∈ l, x ∈ ks) → ks.length ≤ l.length → ks.Perm l
  | [], ks, _, _, h => by
    have : ks = [] := List.length_eq_zero_iff.mp (Nat.le_zero.mp h)
    rw [this]
  | x :: l, ks, n, m, h => by
    obtain ⟨n1, n2⟩ := List.nodup_cons.mp n
    have hx := m x List.mem_cons_self
    have p1 := List.perm_cons_erase hx
    refine p1.trans ((perm_of (ks := ks.erase x) n2 (fun y hy => ?_) ?_).cons x)
    · have : y ≠ x := fun e => n1 (e ▸ hy)
      exact (List.mem_erase_of_ne this).mpr (m y (List.mem_cons_of_mem _ hy))
    · have := p1.length_eq
      simp only [List.length_cons] at this h
      omega
section
variable {X : Cx}
theorem cr_setS (hc : X.calm = true) : CallR X (.type "set") (rSetS X.K X.prog X.w) := by
  intro pins s σ H xs us Q I r h
  obtain ⟨a, xs, rfl, hl, hb, q⟩ := h
  rw [Vals.ref1 r]
  obtain ⟨its, rv, pl, hz⟩ := I.list hl
  refine set_of_texts (P := X.prog) (w := X.w) (I.ok.hd hc) pl.isList (by simpa using rv.strs) hb fun h' tk R k => ?_
  exact ⟨.ref _, _, I.laid (t' := tk) k (Nat.le_refl _) (txo_ok R), rfl, q _ (I.hok.fresh (Nat.le_refl _))⟩
/-- sorted(a set of texts) -/
theorem cr_sortedTx (hc : X.calm = true) : CallR X (.builtin "sorted") (rSortedTx X.prog X.w) := by
  intro pins s σ H xs us Q I r h
  obtain ⟨a, l, rfl, ha, h64, q⟩ := h
  rw [Vals.ref1 r]
  obtain ⟨⟨D, e, F, led⟩, nd⟩ : Txs X.prog X.w s.heap a l := (I.hok a _ ha).1
  obtain ⟨es, ep, t⟩ := D
  have el : ElemsOf (strKind X.prog X.w) es.toList := F.el
  have sz : es.size = l.length := F.sz
  refine Calls.call_function_entry kind_sorted plain_sorted entry_sorted (args_sorted1 _) ?_
  unfold Builtin.«sorted»
  refine wpAny_bind (m := checkCount "sorted" 1 1 _) (wpAny_pure ?_)
  refine wpAny_bind (collect_set (A := X.A.in1) (I.ok.hd hc) ⟨_, e, rfl, rfl⟩ F.fit (by rw [sz]; exact Nat.lt_trans h64 (by decide)) led.1 led.2 fun s1 out k1 z1 g1 o1 pm => ?_)
  obtain ⟨ss, hS, hp⟩ : ∃ ss, StrsAre out ss ∧ ss.Perm l := by
    refine ⟨out.map strOf, strsAre_map out fun v hv => ?_, ?_⟩
    · obtain ⟨x, hx, rfl⟩ := List.mem_map.mp (pm.mem_iff.mp hv)
      obtain ⟨⟨k, hk, _⟩, _⟩ := el x hx
      obtain ⟨u, eu⟩ := Value.isStrOf_shape (x := k) (v := x.2) hk
      exact ⟨k, u, eu⟩
    · refine perm_of nd (fun k hk => ?_) ?_
      · obtain ⟨x, hx, hi⟩ := (F.mem k).mp hk
        obtain ⟨u, eu⟩ := Value.isStrOf_shape (x := k) (v := x.2) hi
        refine List.mem_map.mpr ⟨x.2, pm.mem_iff.mpr (List.mem_map.mpr ⟨x, hx, rfl⟩), ?_⟩
        rw [eu]
        rfl
      · rw [List.length_map, pm.length_eq, List.length_map, Array.length_toList, sz]
        exact Nat.le_refl _
  have ol : out.length = l.length := by rw [pm.length_eq, List.length_map, Array.length_toList, sz]
  rw [shared_same o1]
  refine wpAny_bind (wpAny_newList ?_ (by rw [ol, sizeLine_eq]; omega))
  have hL : (s1.heap.push (seqObj "list" out.toArray 0)).get? s1.heap.objs.size = some (seqObj "list" out.toArray 0) := Heap.get?_push_size _ rfl
  refine wpAny_bind (wpAny_holding (wpAny_call_entry slot_list_sort ⟨_, hL, rfl⟩ entry_list_sort (list_sort_treeK strKind_oneLt (s := { s with heap := s1.heap.push (seqObj "list" out.toArray 0), gens := s1.gens, drawn := s1.drawn, toks := s1.toks }) hL hS.keysOf
    (fun v1 v2 rest e => keyKind_strs (by rw [← e]; exact hS)) (by rw [ol]; exact h64) fun st hp' hs => ⟨_, rfl, ?_⟩) (args_list_sort _)))
  obtain ⟨ys, y1, y2, y3⟩ := sorted_out_str hS hp' hs
  obtain ⟨ep', hat⟩ := sortedHeap_at (vs := out) (out := (arrOf st).map (·.2)) hL
  have len : (ys.map V.str).length ≤ sizeLine := by
    rw [List.length_map, y2.length_eq, hp.length_eq, sizeLine_eq]
    omega
  have np : H s1.heap.objs.size = none := I.hok.fresh z1
  have kp : ∀ b o, s.heap.get? b = some o → (sortedHeap (s1.heap.push (seqObj "list" out.toArray 0)) s1.heap.objs.size out ((arrOf st).map (·.2))).get? b = some o := fun b o e => by
    have e1 := k1 b o e
    have lt := Heap.lt_size e1
    rw [sortedHeap_old (Nat.ne_of_lt lt) (by rw [size_push']; exact Nat.lt_succ_of_lt lt)]
    exact Heap.get?_push_of_some _ e1
  have J : L2.Inv X pins σ (upd H s1.heap.objs.size (.lst (ys.map V.str))) { s with heap := sortedHeap (s1.heap.push (seqObj "list" out.toArray 0)) s1.heap.objs.size out ((arrOf st).map (·.2)), gens := s1.gens, drawn := s1.drawn, toks := s1.toks } :=
    I.call (ch := []) (Un.laid kp z1 np) (I.hok.laid kp z1 (show ObjOk X.prog X.w _ _ _ (.lst (ys.map V.str)) from ⟨len, ((arrOf st).map (·.2)).toList, ep', vals_of_strs y1, by rw [Array.toArray_toList]; exact hat⟩)) (by rw [g1]; exact I.bare) (fun _ z => nomatch z)
  exact wpAny_pure ⟨_, rfl, .ref s1.heap.objs.size, _, J, rfl, q ys _ (y2.trans hp) y3 np⟩
end
end Vf
namespace Vf
open PySem L2 PyProof.Rows PySem.Spec PySem.Froz
/-! ## {a text for .. in .. if ..} -/
def tScT (P : Program) (w : World) (wi : TI) (g : TG) (tt : TT) (te : TE) (vs : List Nat) : TE := fun σ H Q => wi σ H fun J H1 => ∀ D, H1 D = none → ∃ W : Nat → Nat → Hp → Prop, (∃ m, W 0 m (upd H1 D (TxO P w D []))) ∧ ∀ i m H, W i m H →
  (J.stop i H ∧ Q (.ref D) H) ∨ (J.go i H ∧ ∃ N : Hp → Prop, (∀ H', N H' → ∃ m', m' < m ∧ W (i + 1) m' H') ∧ ∀ x H', J.yld i H x H' → g x (wipe σ vs) H' fun σ2 H2 => wipe σ2 vs = wipe σ vs ∧ tt σ2 H2 fun b H3 =>
    if b = true then te σ2 H3 fun y H4 => ∃ (k : Str) (l : List Str), y = .str k ∧ H4 D = some (TxO P w D l) ∧ l.length + 1 < scanBound ∧ N (upd H4 D (TxO P w D (ins l k))) else N H3)
section
variable {X : Cx}
theorem grow_inv {pins : List (Addr × Obj)} {σ : L2.St} {H : Hp} {s : Shared} {E : Value → Shared → Prop} {D : Addr} {l : List Str} {k : Str} {u : Tok} {Q : Value → Shared → Prop} (I : Inv X pins σ H s) (hD : H D = some (TxO X.prog X.w D l)) (hb : l.length + 1 < scanBound)
    (h : ∀ s', Inv X pins σ (upd H D (TxO X.prog X.w D (ins l k))) s' → Q .none s') : wpAny (model X.prog X.w) X.A (call (.builtin "set.add") [.ref D, .str k u]) Q E s := by
  have R : Txs X.prog X.w s.heap D l := (I.hok D _ hD).1
  refine grow_call R hb fun h' sb new => h _ ?_
  have he : ∃ o, h'.get? D = some o := by
    obtain ⟨B, e, _⟩ := new.ex
    exact ⟨_, e⟩
  exact I.write (e := D) (t' := s.toks + 1) (by rw [hD]; trivial) (.inl rfl) (fun b o nb e => (sb.2 b nb).trans e) he (txo_ok new)
theorem pe_scT {elt tg iter : Expr} {ifs : List Expr} {scope : Scope} {own : List (PySem.Str × Nat)} {pos : Pos} {wi : TI} {g : TG} {tt : TT} {te : TE} (hc : X.calm = true) (hN : X.N.Nodup) (hi : PI X tg iter wi) (ok : BlkOk X.N X.env.scope scope own)
    (hg : ∀ (s : Shared) (H : Hp) (C : Addr) (cl : List (PySem.Str × Addr)) (fp : List Addr), PG (X.blk s H scope (compEnvC scope cl C X.env) fp) tg g) (ht : ∀ (s : Shared) (H : Hp) (C : Addr) (cl : List (PySem.Str × Addr)) (fp : List Addr), PTs (X.blk s H scope (compEnvC scope cl C X.env) fp) ifs tt)
    (he : ∀ (s : Shared) (H : Hp) (C : Addr) (cl : List (PySem.Str × Addr)) (fp : List Addr), PE (X.blk s H scope (compEnvC scope cl C X.env) fp) elt te) (hs : ∀ x, foldedSetIterable iter X.env x = pure x := by intro _; rfl) :
    PE X (.SetComp elt [⟨tg, iter, ifs, 0⟩] scope pos) (tScT X.prog X.w wi g tt te (own.map (·.2))) := by
  refine ⟨fun pins s σ H Q I h => ?_⟩
  rw [PpSet.eval_SetComp]
  refine wpAny_comprehension_free (use := none) rfl hs (closure_ok fun y hy e => ?_) ok.kind (fun y hy e => by rw [ok.uniq y hy, e]) (thn (hi.run pins s σ H _ I h) fun _ s1 h1 => thn h1 fun _ s2 h2 => ?_)
  · exact (ok.free y hy e).elim (fun k => I.ok.has _ (.inl k)) fun k => I.ok.has _ (.inr k)
  obtain ⟨it, fp, tn, J, H2, rfl, I2, T, st2, f2, q⟩ := h2
  refine PpSet.newSet_ok (newEnv_comp ?_)
  obtain ⟨D, hD⟩ : ∃ D, s2.heap.objs.size = D := ⟨_, rfl⟩
  rw [hD]
  obtain ⟨W, ⟨m0, w0⟩, turn⟩ := q D (I2.hok.fresh (Nat.le_of_eq hD))
  generalize hO : ({ cls := .type "set", dict := none, data := .set #[] 0 (.fresh 0 0 (!X.w.params.followText "set-order")) } : Obj) = O
  have fO : O.isFreed = false := by rw [← hO]; rfl
  obtain ⟨s3, hs3⟩ : ∃ s3 : Shared, s3 = { s2 with heap := s2.heap.push O } := ⟨_, rfl⟩
  have hh3 : s3.heap = s2.heap.push O := by rw [hs3]
  have up3 : ∀ b o, s2.heap.get? b = some o → s3.heap.get? b = some o := fun b o e => by rw [hh3]; exact Heap.get?_push_of_some _ e
  have I3 : Inv X pins σ (upd H2 D (TxO X.prog X.w D [])) s3 := by
    rw [hs3]
    refine I2.laid (t' := s2.toks) (fun b o e => Heap.get?_push_of_some _ e) (Nat.le_of_eq hD) (txo_ok (.fresh ?_))
    rw [← hD, Heap.get?_push_size _ fO, hO]
  generalize hH3 : upd H2 D (TxO X.prog X.w D []) = H3 at I3 w0
  have f3 : ∀ b ∈ fp, FpOk X pins H3 b ∧ b < s3.heap.objs.size := fun b hb => by
    obtain ⟨o, e, _⟩ := T.obj _ _ st2 b hb
    have lt := Heap.lt_size e
    refine ⟨⟨?_, (f2 b hb).2⟩, by rw [hh3, Heap.size_push]; exact Nat.lt_succ_of_lt lt⟩
    rw [← hH3, upd_ne (by rw [← hD]; exact Nat.ne_of_lt lt)]
    exact (f2 b hb).1
  have st3 : tn 0 s3.heap := T.keep _ _ _ st2 fun b _ o e => up3 b o e
  have I4 := block_start I3 ok hN f3
  have pg := hg s3 H3 s3.heap.objs.size (cellsFrom (s3.heap.objs.size + 1) scope.names (cloFrom X.env.cells scope.names [])) fp
  have pt := ht s3 H3 s3.heap.objs.size (cellsFrom (s3.heap.objs.size + 1) scope.names (cloFrom X.env.cells scope.names [])) fp
  have pe := he s3 H3 s3.heap.objs.size (cellsFrom (s3.heap.objs.size + 1) scope.names (cloFrom X.env.cells scope.names [])) fp
  rw [← hs3]
  show codeAny (model X.prog X.w) X.A (.compStart (.SetComp elt [⟨tg, iter, ifs, 0⟩] scope pos) 0 (.ref it) (.ref D) (compEnvC scope (cellsFrom (s3.heap.objs.size + 1) scope.names (cloFrom X.env.cells scope.names [])) s3.heap.objs.size X.env))
    (compPost (model X.prog X.w) X.A X.xe none (EP X pins σ Q) (.ref D) s3.heap.objs.size) { s3 with heap := pushCells (s3.heap.push { cls := .type "dict", data := .dict #[] }) scope.names }
  obtain ⟨ce, hce⟩ : ∃ ce, ce = compEnvC scope (cellsFrom (s3.heap.objs.size + 1) scope.names (cloFrom X.env.cells scope.names [])) s3.heap.objs.size X.env := ⟨_, rfl⟩
  have loc : ce.locals = s3.heap.objs.size := by rw [hce]; rfl
  rw [← hce] at I4 pg pt pe ⊢
  obtain ⟨s4, hs4⟩ : ∃ s4 : Shared, s4 = { s3 with heap := pushCells (s3.heap.push { cls := .type "dict", data := .dict #[] }) scope.names } := ⟨_, rfl⟩
  rw [← hs4] at I4 ⊢
  have st4 : tn 0 s4.heap := T.keep _ _ _ st3 fun b _ o e => by
    rw [hs4]
    exact pushCells_keeps _ _ _ _ (Heap.get?_push_of_some _ e)
  have pinned : ∀ {σ' : L2.St} {H' : Hp} {s' : Shared}, Inv (X.blk s3 H3 scope ce fp) [] σ' H' s' → (∀ b ∈ fp, H' b = none) → ∀ b ∈ fp, FpOk (X.blk s3 H3 scope ce fp) [] H' b := fun J' n b hb =>
    ⟨n b hb, (J'.ok.exf b hb).1, J'.ok.exfs b hb, .inl hb, fun x c e => (J'.ok.exf b hb).2 x c e, fun p hp => by cases hp⟩
  have loop : codeAny (model X.prog X.w) X.A (.compLoop (.SetComp elt [⟨tg, iter, ifs, 0⟩] scope pos) 0 (.ref it) (.ref D) ce) (compPost (model X.prog X.w) X.A X.xe none (EP X pins σ Q) (.ref D) s3.heap.objs.size) s4 := by
    refine PpSet.compLoopS_any (fun n s' => ∃ i H', Inv (X.blk s3 H3 scope ce fp) [] (wipe σ (own.map (·.2))) H' s' ∧ tn i s'.heap ∧ (∀ b ∈ fp, H' b = none) ∧ W i n H') ?_ m0 ⟨0, H3, I4, st4, fun b hb => (f3 b hb).1.1, w0⟩
    rintro n s5 ⟨i, H5, I5, st5, n5, w5⟩
    rcases turn i n H5 w5 with ⟨stop, fin⟩ | ⟨go, N, hN', step⟩
    · refine thnF (T.done (X.blk s3 H3 scope ce fp) rfl rfl rfl hc i [] s5 _ H5 (fun _ _ => False) I5 (pinned I5 n5) st5 stop) fun r s6 ⟨hr, I6⟩ => ?_
      subst hr
      have I7 : Inv X pins σ H5 s6 := I3.call' (ch := fp) I6.os I6.base I6.hok I6.bare fun b hb => ⟨(f3 b hb).1.2.2.2.1, (f3 b hb).1.2.1, (f3 b hb).1.2.2.2.2.1, (f3 b hb).1.2.2.2.2.2⟩
      have nC : H5 s3.heap.objs.size = none := loc ▸ (I6.free : H5 ce.locals = none)
      obtain ⟨m, hn, _⟩ := I6.loc
      have hn : s6.heap.Ns s3.heap.objs.size m := loc ▸ (hn : s6.heap.Ns ce.locals m)
      refine ⟨m, hn, fun h7 sb => ?_⟩
      obtain ⟨a0, a1, a2, a3, a4, a5⟩ := I3.fpOk (Nat.le_refl _) nC
      exact ⟨.ref D, H5, I7.turned (t' := s6.toks) (fun b o nb e => (sb.2 b nb).trans e) a0 a1 a3 a4 a5, rfl, fin⟩
    · refine thnF (T.item (X.blk s3 H3 scope ce fp) rfl rfl rfl hc i [] s5 _ H5 (fun _ _ => False) I5 (pinned I5 n5) st5 go) fun r s6 ⟨u, hr, h6⟩ => ?_
      subst hr
      refine thnF h6 fun _ s7 ⟨x, H7, I7, r7, y7, st7, n7⟩ => ?_
      have I8 := I7.pinned (pinned I7 n7) (T.obj _ _ st7)
      refine thnF (pg.run _ s7 _ H7 x u _ I8 r7 (step x H7 y7)) fun _ s8 ⟨σ8, H8, I9, hw, q8⟩ => ?_
      refine thnF (pt.run _ s8 σ8 H8 _ I9 q8) fun b s9 ⟨H9, I10, q9⟩ => ?_
      have back : ∀ {s' : Shared} {H' : Hp}, Inv (X.blk s3 H3 scope ce fp) ([] ++ pinsAt fp s7.heap) σ8 H' s' → N H' → ∃ m, m < n ∧ ∃ i H', Inv (X.blk s3 H3 scope ce fp) [] (wipe σ (own.map (·.2))) H' s' ∧ tn i s'.heap ∧ (∀ b ∈ fp, H' b = none) ∧ W i m H' := fun {s' H'} J' nx => by
        obtain ⟨m', lt, w'⟩ := hN' H' nx
        have kept : ∀ b ∈ fp, ∀ o, s7.heap.get? b = some o → s'.heap.get? b = some o ∧ H' b = none := fun b hb o e => by
          have z := J'.pin (b, o) (List.mem_append_right _ (List.mem_append_right _ (mem_pinsAt hb e)))
          exact ⟨z.1, z.2.1⟩
        refine ⟨m', lt, i + 1, H', (J'.unpinned (pins := [])).weak (by rw [← hw, wipe_length]) (fun j v e => ?_), T.keep _ _ _ st7 fun b hb o e => (kept b hb o e).1, fun b hb => ?_, w'⟩
        · rw [← hw] at e
          exact (wipe_some e).1
        · obtain ⟨o, e, _⟩ := T.obj _ _ st7 b hb
          exact (kept b hb o e).2
      cases b with
      | false =>
        rw [if_neg (by decide)] at q9 ⊢
        exact back I10 q9
      | true =>
        rw [if_pos rfl] at q9 ⊢
        refine thnF (pe.run _ s9 σ8 H9 _ I10 q9) fun z s10 ⟨yv, H10, I11, r10, k, l, ey, hD10, hz, nx⟩ => ?_
        subst ey
        obtain ⟨t, rfl⟩ := r10
        exact grow_inv (X := X.blk s3 H3 scope ce fp) I11 hD10 hz fun s11 I12 => back I12 nx
  exact PpSet.codeAny_compStart_set loop (T.self X.A 0 _ _ _ st4 loop)
end
end Vf
namespace Vf
open PySem L2 PyProof.Rows PySem.Spec HT
/-! ## t[:k:-1]: a tuple from its end down to what stands behind k -/
theorem adjust_to {n k : Nat} (h : k < n) : Builtin.Slice.sliceAdjust none (some (k : Int)) (-1) (n : Int) = ((n : Int) - 1, (k : Int)) := by
  unfold Builtin.Slice.sliceAdjust
  simp only [show ((-1 : Int) < 0) = True from eq_true (by decide), if_true]
  rw [if_neg (by omega), Int.min_def, if_pos (by omega)]
theorem places_to {n k : Nat} (h : k < n) : Builtin.Slice.slicePlaces ((n : Int) - 1) (k : Int) (-1) = n - (k + 1) := by
  unfold Builtin.Slice.slicePlaces
  rw [if_neg (by decide)]
  by_cases e : (n : Int) - 1 > k
  · rw [if_pos e, show -(-1 : Int) = 1 by decide, Int.ediv_one]
    omega
  · rw [if_neg e]
    omega
theorem pick_to (xs : Array Value) {k : Nat} (h : k < xs.size) : ((List.range (xs.size - (k + 1))).filterMap fun (m : Nat) => xs[(((xs.size : Int) - 1) + (m : Int) * (-1)).toNat]?) = (xs.toList.drop (k + 1)).reverse := by
  have e1 : ∀ m, m < xs.size - (k + 1) → xs[(((xs.size : Int) - 1) + (m : Int) * (-1)).toNat]? = some (xs.toList.reverse.getD m .none) := by
    intro m hm
    rw [show (((xs.size : Int) - 1) + (m : Int) * (-1)).toNat = xs.size - 1 - m by omega, List.getD_eq_getElem?_getD, List.getElem?_reverse (by rw [Array.length_toList]; omega)]
    simp only [Array.length_toList, Array.getElem?_toList]
    rw [Array.getElem?_eq_getElem (by omega)]
    rfl
  have e2 : ((List.range (xs.size - (k + 1))).filterMap fun (m : Nat) => xs[(((xs.size : Int) - 1) + (m : Int) * (-1)).toNat]?) = (List.range (xs.size - (k + 1))).map fun m => xs.toList.reverse.getD m .none := by
    have all : ∀ l : List Nat, (∀ m ∈ l, m < xs.size - (k + 1)) → (l.filterMap fun (m : Nat) => xs[(((xs.size : Int) - 1) + (m : Int) * (-1)).toNat]?) = l.map fun m => xs.toList.reverse.getD m .none := by
      intro l
      induction l with
      | nil => exact fun _ => rfl
      | cons b l ih => exact fun hl => by rw [List.filterMap_cons, e1 b (hl b List.mem_cons_self), List.map_cons, ih fun m hm => hl m (List.mem_cons_of_mem _ hm)]
    exact all _ fun m hm => List.mem_range.mp hm
  have e3 : (xs.toList.drop (k + 1)).reverse = xs.toList.reverse.take (xs.size - (k + 1)) := by
    rw [List.take_reverse, Array.length_toList, show xs.size - (xs.size - (k + 1)) = k + 1 by omega]
  rw [e2, e3]
  apply List.ext_getElem?
  intro i
  rw [List.getElem?_map]
  by_cases hi : i < xs.size - (k + 1)
  · rw [List.getElem?_range hi, List.getElem?_take, if_pos hi]
    simp only [Option.map_some]
    rw [List.getD_eq_getElem?_getD, List.getElem?_eq_getElem (by rw [List.length_reverse, Array.length_toList]; omega)]
    rfl
  · rw [List.getElem?_eq_none (by rw [List.length_range]; omega), List.getElem?_eq_none (by rw [List.length_take, Array.length_toList]; omega)]
    rfl
section
variable {prog : Program} {w : World} {A : Around} {E : Value → Shared → Prop} {s : Shared}
theorem getItem_tuple_to {t sl : Addr} {items : Array Value} {vu vs : Value} {k : Nat} {Q : Value → Shared → Prop} (ht : IsTup s.heap t items) (hs : s.heap.IsSliceOf sl .none vu vs) (pu : IsPart vu (some (k : Int))) (ps : IsPart vs (some (-1))) (hk : k < items.size)
    (h : Q (.ref s.heap.objs.size) { s with heap := s.heap.push { cls := .type "tuple", data := .seq (items.toList.drop (k + 1)).reverse.toArray } }) (hsz : items.size ≤ sizeLine) : wpAny (model prog w) A (getItem (.ref t) (.ref sl)) Q E s := by
  have fits : sizeOk (.seq (items.toList.drop (k + 1)).reverse.toArray) := by
    show (items.toList.drop (k + 1)).reverse.toArray.size ≤ sizeLine
    rw [List.size_toArray, List.length_reverse, List.length_drop, Array.length_toList]
    omega
  obtain ⟨o, ho, hc, hd⟩ := id hs
  unfold getItem
  try with_reducible refine wpAny_holding ?_
  first | refine wpAny_bind (wpAny_pure ?_) | skip
  refine wpAny_bind (wpAny_sequenceKey ht.typeIs (by decide) (wpAny_bind (wpAny_callSpecial?_slot (name := Str.ofString "__getitem__") ht.typeIs PyProof.Rows.slot_tuple_getitem
    (wpAny_call_entry PyProof.Rows.slot_tuple_getitem ht.typeIs entry_tuple_getitem ?_ (args_tuple_getitem _ _)))))
  show wpAny _ _ (Builtin.Tuple.tupleItemsOf (.ref t) >>= _) _ _ s
  refine wpAny_bind (tupleItemsOf_ ht (wpAny_bind (wpAny_typeOf (T := "slice") ⟨o, ho, hc⟩ ?_)))
  rw [if_pos (by decide)]
  refine wpAny_bind (m := Builtin.Slice.sliceApplied (.ref sl) (pure (items.size : Int))) ?_
  unfold Builtin.Slice.sliceApplied Builtin.Slice.sliceFields
  refine wpAny_bind (wpAny_bind (wpAny_field ho hd (x := .none) rfl (wpAny_bind (wpAny_field ho hd (x := vu) rfl (wpAny_bind (wpAny_field ho hd (x := vs) rfl (wpAny_pure ?_)))))))
  refine wpAny_bind (slicePart_ ps ?_)
  show wpAny _ _ (if ((-1 : Int) == 0) = true then _ else _) _ _ s
  rw [if_neg (by decide)]
  refine wpAny_bind (slicePart_none (wpAny_bind (slicePart_ pu (wpAny_bind (wpAny_pure ?_)))))
  show wpAny _ _ (match Builtin.Slice.sliceAdjust none (some (k : Int)) (-1) (items.size : Int) with | (lo, hi) => pure (lo, (-1 : Int), Builtin.Slice.slicePlaces lo hi (-1))) _ _ s
  rw [adjust_to hk]
  show wpAny _ _ (pure (((items.size : Int) - 1), (-1 : Int), Builtin.Slice.slicePlaces ((items.size : Int) - 1) (k : Int) (-1))) _ _ s
  rw [places_to hk]
  refine wpAny_pure ?_
  have hno : ¬ ((((items.size : Int) - 1) == 0 && (-1 : Int) == 1 && items.size - (k + 1) == items.size) = true) := by
    rw [show ((-1 : Int) == 1) = false from rfl, Bool.and_false, Bool.false_and]
    exact Bool.false_ne_true
  show wpAny _ _ (if (((items.size : Int) - 1) == 0 && (-1 : Int) == 1 && items.size - (k + 1) == items.size) = true then _ else _) _ _ s
  rw [if_neg hno, pick_to items hk]
  first
    | exact wpAny_bind (m := Builtin.Tuple.tupleExact _) (wpAny_newObj_type (wpAny_pure ⟨_, rfl, wpAny_pure h⟩) fits)
    | exact wpAny_bind (m := Builtin.Tuple.tupleExact _) (wpAny_newObj_type (wpAny_bind (wpAny_pure (wpAny_pure ⟨_, rfl, wpAny_pure h⟩))) fits)
    | exact wpAny_bind (wpAny_bind (m := Builtin.Tuple.tupleExact _) (wpAny_newObj_type (wpAny_pure (wpAny_pure ⟨_, rfl, wpAny_pure h⟩)) fits))
    | exact wpAny_bind (wpAny_bind (m := Builtin.Tuple.tupleExact _) (wpAny_newObj_type (wpAny_pure ⟨_, rfl, wpAny_pure h⟩) fits))
end
section
variable {X : Cx}
def tToT (K : PySem.W.Frag) (te tu : TE) : TE := fun σ H Q => te σ H fun x H1 => tPart tu σ H1 fun o H2 => ∃ (a : Addr) (xs : List V) (k : Nat), x = .ref a ∧ o = some ((k : Nat) : Int) ∧ SqT K H2 a xs ∧ k < xs.length ∧ ∀ p, H2 p = none → Q (.ref p) (upd H2 p (.tup (xs.drop (k + 1)).reverse))
theorem pe_toT {e u : Expr} {te tu : TE} {j : Nat} {p1 p2 p3 pos : Pos} (he : PE X e te) (hu : PE X u tu) : PE X (.Subscript e (.Slice none (some u) (some (.UnaryOp .USub (.Constant (.int 1) j p1) p2)) p3) pos) (tToT X.K te tu) := by
  refine ⟨fun pins s σ H Q I h => ?_⟩
  refine Subscript_ (thn (he.run pins s σ H _ I h) fun v s1 ⟨x, H1, I1, r1, q1⟩ => ?_)
  have hst : PO X (some (.UnaryOp .USub (.Constant (.int 1) j p1) p2)) (tPart (tUn (rU fun i => .int (-i)) (tC (.int 1)))) := po_some (pe_un un_neg pe_int)
  refine wpAny_Slice (thn (po_none.run pins s1 σ H1 (fun o H2 => o = none ∧ H2 = H1) I1 ⟨rfl, rfl⟩) fun vl s2 ⟨l, H2, I2, pl, el, e2⟩ => ?_)
  subst el e2
  refine thn ((po_some hu).run pins s2 σ H2 _ I2 q1) fun vu s3 ⟨o, H3, I3, pu, a, xs, k, ex, eo, hx, hk, q⟩ => ?_
  subst ex eo
  cases r1
  refine thn (hst.run pins s3 σ H3 (fun o H4 => o = some (-1) ∧ H4 = H3) I3 ⟨1, rfl, -1, rfl, rfl, rfl⟩) fun vs s4 ⟨o, H4, I4, ps, eo, e4⟩ => ?_
  subst eo e4
  have I5 : L2.Inv X pins σ H4 { s4 with heap := s4.heap.push { cls := .type "slice", data := .fields #[vl, vu, vs] } } := I4.kept (t' := s4.toks) fun b ob q => Heap.get?_push_of_some _ q
  obtain ⟨its, r, ht, hz⟩ := I5.tuple hx
  have hlen := r.length
  cases pl
  show wpAny (model X.prog X.w) X.A (subscriptTail e (.Slice none (some u) (some (.UnaryOp .USub (.Constant (.int 1) j p1) p2)) p3) (.ref a) (.ref s4.heap.objs.size)) (EP X pins σ Q) X.xe { s4 with heap := s4.heap.push { cls := .type "slice", data := .fields #[.none, vu, vs] } }
  refine tail_any (ops := [.ref a, .ref s4.heap.objs.size]) ht.typeIs (PyProof.Rows.slot_tuple_getitem.lookup) ?_ (by with_unfolding_all rfl)
  refine getItem_tuple_to ht (Heap.IsSliceOf.new _ .none vu vs) pu ps (by rw [List.size_toArray]; omega) ?_ (by rw [List.size_toArray]; omega)
  refine ⟨.ref _, _, I5.laid (t' := s4.toks) (o := .tup (xs.drop (k + 1)).reverse) (fun b ob q => Heap.get?_push_of_some _ q) (Nat.le_refl _) ?_, rfl, q _ (I5.hok.fresh (Nat.le_refl _))⟩
  refine ⟨by rw [List.length_reverse, List.length_drop]; omega, _, (r.drop (k + 1)).reverse, ?_⟩
  exact IsTup.new _ _
theorem aToT {K : PySem.W.Frag} (h : X.K = K) {e u : Expr} {te tu : TE} {j : Nat} {p1 p2 p3 pos : Pos} (he : PE X e te) (hu : PE X u tu) : PE X (.Subscript e (.Slice none (some u) (some (.UnaryOp .USub (.Constant (.int 1) j p1) p2)) p3) pos) (tToT K te tu) := h ▸ pe_toT he hu
theorem aSetS {K : PySem.W.Frag} {P : Program} {w : World} (e : X.K = K) (e1 : X.prog = P) (e2 : X.w = w) (hc : X.calm = true) : CallR X (.type "set") (rSetS K P w) := e ▸ e1 ▸ e2 ▸ cr_setS hc
theorem aSortedTx {P : Program} {w : World} (e1 : X.prog = P) (e2 : X.w = w) (hc : X.calm = true) : CallR X (.builtin "sorted") (rSortedTx P w) := e1 ▸ e2 ▸ cr_sortedTx hc
end
section
variable {J : It} {xs : List V} {G : Hp → Prop} {σ : L2.St} {H : Hp} {g : TG} {tt : TT} {te : TE} {vs : List Nat} {L : Addr} {Qd : Hp → Prop} {P : Program} {w : World}
/-- a set of texts made over known items -/
theorem sc_steps (S : Steps J xs G) (Pv : Nat → Hp → Prop) (h0 : Pv 0 (upd H L (TxO P w L []))) (hl : ∀ i H, i ≤ xs.length → Pv i H → G H)
    (hs : ∀ i x H, xs[i]? = some x → Pv i H → g x (wipe σ vs) H fun σ2 H2 => wipe σ2 vs = wipe σ vs ∧ tt σ2 H2 fun b H3 =>
      if b = true then te σ2 H3 fun y H4 => ∃ (k : Str) (l : List Str), y = .str k ∧ H4 L = some (TxO P w L l) ∧ l.length + 1 < scanBound ∧ Pv (i + 1) (upd H4 L (TxO P w L (ins l k))) else Pv (i + 1) H3) (hd : ∀ H, Pv xs.length H → Qd H) :
    ∃ W : Nat → Nat → Hp → Prop, (∃ m, W 0 m (upd H L (TxO P w L []))) ∧ ∀ i m H, W i m H → (J.stop i H ∧ Qd H) ∨
      (J.go i H ∧ ∃ N : Hp → Prop, (∀ H', N H' → ∃ m', m' < m ∧ W (i + 1) m' H') ∧ ∀ x H', J.yld i H x H' → g x (wipe σ vs) H' fun σ2 H2 => wipe σ2 vs = wipe σ vs ∧ tt σ2 H2 fun b H3 =>
        if b = true then te σ2 H3 fun y H4 => ∃ (k : Str) (l : List Str), y = .str k ∧ H4 L = some (TxO P w L l) ∧ l.length + 1 < scanBound ∧ N (upd H4 L (TxO P w L (ins l k))) else N H3) := by
  refine ⟨fun i m H => i + m = xs.length ∧ Pv i H, ⟨xs.length, Nat.zero_add _, h0⟩, fun i m H w => ?_⟩
  obtain ⟨em, p⟩ := w
  have gH := hl i H (by omega) p
  rcases Nat.eq_zero_or_pos m with rfl | hm
  · obtain rfl : i = xs.length := em
    exact .inl ⟨S.stop H gH, hd H p⟩
  · have hi : i < xs.length := by omega
    refine .inr ⟨S.go i H hi gH, Pv (i + 1), fun H' p' => ⟨m - 1, by omega, by omega, p'⟩, fun x H' y => ?_⟩
    obtain ⟨ex, rfl⟩ := S.yld i H x H' hi gH y
    exact hs i x _ ex p
end
end Vf
namespace Vf
open PySem L2 PyProof.Rows PySem.Spec
def top (i : Nat) : Stmt := PySem.Challenge.pw_poisonrules_k03_what_are_tests.main.body.getD i (.Pass ⟨0, 0, 0, 0⟩)
structure Tx (K : PySem.W.Frag) (mg : Str → Option Value) : Prop where
  isinstance : mg "isinstance" = none
  str : mg "str" = none
  int : mg "int" = none
  bool : mg "bool" = none
  tuple : mg "tuple" = none
  len : mg "len" = none
  all : mg "all" = none
  sum : mg "sum" = none
  list : mg "list" = none
  range : mg "range" = none
  repr : mg "repr" = none
local macro_rules | `(tactic| walk_at "rd") => `(tactic| simp only [tSeq, tIfS, tOr, tAnd, tNot, tB, tTest, tChain, tCB, tCons, tNil, tVar, tC, tRet, tAndV, tOrV, tNotV, tOp, tNext, tDrop, tAsg, tPar, tYes, tIf, tCall, tCalK, tTup, tLst, tSl, tNoPart, tPart, tM0, tM1, tRevL, tBM0, tBM, gName, rI0, rI, rU, rInA, rEqA, rAddA, rMulA, rSlAny, iAny, rIsi, rAll, rAny, rSum, rList, rTuple, rLen, rLenS, rLenSeq, rMulS, CDiv, rIn, rEqD, rNeD, iList, iTup, iStr, rCat, rCatA, rSlL, rSlA, rSlS, gSub, rPop, rAppend, rSetL, rIx, rIxL, rIxT, rIxS, LenV,
  L2.start, List.map_cons, List.map_nil, List.length_cons, List.length_nil, List.cons_append, List.nil_append, List.append_nil, Nat.zero_add, Nat.add_sub_cancel, Nat.sub_self, List.replicate_succ, List.replicate_zero, List.getElem?_cons_zero, List.getElem?_cons_succ, List.set_cons_zero, List.set_cons_succ,
  Option.some.injEq, V.int.injEq, V.str.injEq, V.bl.injEq, V.ref.injEq, List.cons.injEq, and_true, true_and, exists_eq_left', exists_eq_left, exists_eq_right, exists_and_left, exists_and_right, false_or, or_false, reduceCtorEq, false_and, and_false, exists_false, Bool.not_true, Bool.not_false, if_true, if_false, Bool.false_eq_true, ite_true, ite_false])
def kept : List Str := ["and", "below", "choice", "copy", "froze", "if", "in", "left", "less", "not", "or", "out", "quot", "rest", "right", "rule", "same", "sum", "times", "to", "twice", "under", "unlike", "width", "xor"]
def abc : Str := "abcdefghijklmnopqrstuvwxyz"
/-- is it a name: by the program's words -/
def isName (x : V) : Bool := match x with
  | .str s => decide (1 ≤ s.length) && decide (s.length ≤ 8) && !inV x (kept.map V.str) && s.cps.toList.all fun c => decide (c ∈ abc.cps.toList)
  | _ => false
def inAbc (x : V) : V := match x with
  | .str s => .bl (decide (s.cps.toList.headD 0 ∈ abc.cps.toList))
  | _ => .non
theorem inAbc_sign (c : Nat) : inAbc (.str ⟨#[c]⟩) = .bl (decide (c ∈ abc.cps.toList)) := rfl
theorem inAbc_all (z : Str) : ((signs z).filter fun _ => true).map inAbc = (z.cps.toList.map fun c => decide (c ∈ abc.cps.toList)).map V.bl := by
  rw [List.filter_eq_self.mpr fun _ _ => rfl]
  unfold signs
  rw [List.map_map, List.map_map]
  rfl
/-- a thing that may be asked: its kind is known -/
def Kind (K : PySem.W.Frag) (H : Hp) (x : V) : Prop := ∃ n : String, TyX K H x (.type n) ∧ (match x with | .str s => n = "str" ∧ s.length ≤ 100000 ∧ PyData.strOk s = true | _ => kitB n "str" = some false)
section
variable {P : Program} {w : World} {K : PySem.W.Frag} {mg : Str → Option Value} {base : Heap}
def spIsName (K : PySem.W.Frag) : Sp := fun vs H Q _ => ∃ (x : V), vs = [x] ∧ Kind K H x ∧ ∀ H', Same H H' → Q (.bl (isName x)) H'
abbrev s_is_name : Stmt := top 12
theorem sc_is_name : FnScope ["thing", "sign"] ["thing"] (defScope s_is_name) := ⟨rfl, rfl, rfl, by decide +kernel, rfl, by decide +kernel, by decide +kernel⟩
theorem fn_is_name {f : Addr} {fd : FuncData} (D : Df K mg "is_name" s_is_name f fd) (T : Tx K mg) {aKEPT : Addr} (mKEPT : mg "KEPT" = some (.ref aKEPT)) (tKEPT : ∀ H, SqT K H aKEPT (kept.map V.str)) {tLETTERS : Tok} (mLETTERS : mg "LETTERS" = some (.str "abcdefghijklmnopqrstuvwxyz" tLETTERS)) : FnG P w K mg base CX0 1 f fd ["thing"] (spIsName K) := by
  refine D.fnG sc_is_name (fun vs H Q E h => ?_) (fun cdv A outer s H vs Q E hgu hr h => ?_)
  · obtain ⟨x, rfl, _⟩ := h
    rfl
  · obtain ⟨x, rfl, ⟨n, ty, hn⟩, hx⟩ := h
    refine ⟨_, (pss_cons (ps_if (PW.pt (pw_or (pt_not (pt_val (pe_callB (aIsi (K := K) rfl) (by rfl) T.isinstance (by decide +kernel) (pa_cons (pv 0) (pa_cons (pe_bltn (v := .ty "str") (by rfl) T.str (by decide +kernel) rfl) pa_nil))))) (pw_or1 (pt_not (pt_chain op_le op_le pe_int (pe_callB (aLen (K := K) rfl) (by rfl) T.len (by decide +kernel) (pa_cons (pv 0) pa_nil)) pe_int))))) (pss_one (ps_ret pe_bl)) pss_nil) (pss_one (ps_ret (pe_and (pe_cmpR (aNotInSeq (K := K) rfl) (pv 0) (pe_glob (v := .ref aKEPT) rfl mKEPT rfl) (by rfl)) (pe_one (pe_callB (aAll (K := K) rfl rfl) (by rfl) T.all (by decide +kernel) (pa_cons (pe_lc (own := [("sign", 1)]) (g := gName 1) (tt := tYes) (by rfl) sc_is_name.nd (aWalk (K := K) rfl (pv 0)) (blkOk_by (own := [("sign", 1)]) (N := ["thing", "sign"]) (sc := defScope s_is_name) (by decide +kernel)) (fun _ _ _ _ _ => (pg_name (i := 1) sc_is_name.nd rfl (Or.inl rfl))) (fun _ _ _ _ _ => pts_nil) (fun _ _ _ _ _ => (pe_cmpR op_in_sign (pv 1) (pe_glob (v := .str "abcdefghijklmnopqrstuvwxyz") rfl mLETTERS ⟨_, rfl⟩) (by rfl)))) pa_nil))))))), ?_⟩
    walk_at "rd"
    have notStr : isName x = false → kitB n "str" = some false → ∃ x_1 c, (x = x_1 ∧ V.ty "str" = c) ∧ ∃ x_2 x_3, ClsV c x_3 ∧ TyX K H x_1 x_2 ∧ W.kitOne K x_2 x_3 = some false ∧ Q (V.bl false) H := fun e k =>
      ⟨x, _, ⟨rfl, rfl⟩, .type n, _, .ty "str", ty, kit_ty k, by have q := hx H (Same.refl H); rw [e] at q; exact q⟩
    cases x with
    | str z =>
      obtain ⟨rfl, hz, -⟩ := hn
      have line := sizeLine_eq
      refine ⟨_, _, ⟨rfl, rfl⟩, .type "str", _, .ty "str", ty, true, kit_ty (by decide +kernel), ?_⟩
      rw [if_neg (by decide)]
      refine ⟨z.length, ⟨by omega, rfl⟩, ?_⟩
      have q0 := hx H (Same.refl H)
      by_cases h1 : 1 ≤ z.length
      · rw [if_pos (decide_eq_true (by omega))]
        by_cases h8 : z.length ≤ 8
        · rw [if_neg (by rw [decide_eq_true (by omega)]; decide)]
          refine ⟨kept.map V.str, .inr (tKEPT H), rfl, by decide +kernel, ?_⟩
          cases hk : inV (.str z) (kept.map V.str) with
          | true =>
            rw [if_neg (by decide)]
            have e : isName (.str z) = false := by simp [isName, hk]
            rw [e] at q0
            exact q0
          | false =>
            rw [if_pos (by decide)]
            refine ⟨.str z, rfl, fun D hD => lc_pure (steps_str z) (fun _ => true) inAbc (fun _ => trivial) (by rw [signs_len]; show z.length ≤ _; omega) ?_ ?_ ?_ ?_⟩
            · exact fun _ => rfl
            · exact fun x _ acc R r => r
            · intro x hm _ acc R r
              obtain ⟨c, hc, rfl⟩ := List.mem_map.mp hm
              exact ⟨_, rfl, c, rfl, _, rfl, r⟩
            · refine ⟨D, rfl, z.cps.toList.map fun c => decide (c ∈ abc.cps.toList), .of (by rw [upd_same, inAbc_all]), ?_⟩
              have e : isName (.str z) = (z.cps.toList.map fun c => decide (c ∈ abc.cps.toList)).all id := by
                simp [isName, hk, h1, h8]
              have q1 := hx (upd H D (.lst (((signs z).filter fun _ => true).map inAbc))) (same_upd hD)
              rw [e] at q1
              exact q1
        · rw [if_pos (by rw [decide_eq_false (by omega)]; decide)]
          have e : isName (.str z) = false := by simp [isName, h8]
          rw [e] at q0
          exact q0
      · rw [if_neg (by rw [decide_eq_false (by omega)]; decide)]
        have e : isName (.str z) = false := by simp [isName, h1]
        rw [e] at q0
        exact q0
    | _ =>
      obtain ⟨x1, c, e, x2, x3, h1, h2, h3, h4⟩ := notStr rfl hn
      exact ⟨x1, c, e, x2, x3, h1, h2, false, h3, iteT h4⟩
end
end Vf
namespace Vf
open PySem L2 PyProof.Rows PySem.Spec

local macro_rules | `(tactic| walk_at "rd") => `(tactic| simp only [tSeq, tIfS, tOr, tAnd, tNot, tB, tTest, tChain, tCB, tCons, tNil, tVar, tC, tRet, tAndV, tOrV, tNotV, tOp, tNext, tDrop, tAsg, tPar, tYes, tIf, tCall, tCalK, tTup, tLst, tSl, tNoPart, tPart, tM0, tM1, tRevL, tBM0, tBM, gName, rI0, rI, rU, rInA, rEqA, rAddA, rMulA, rSlAny, iAny, rIsi, rAll, rAny, rSum, rList, rTuple, rLen, rLenS, rLenSeq, rMulS, CDiv, rIn, rEqD, rNeD, iList, iTup, iStr, rCat, rCatA, rSlL, rSlA, rSlS, gSub, rPop, rAppend, rSetL, rIx, rIxL, rIxT, rIxS, LenV,
  L2.start, List.map_cons, List.map_nil, List.length_cons, List.length_nil, List.cons_append, List.nil_append, List.append_nil, Nat.zero_add, Nat.add_sub_cancel, Nat.sub_self, List.replicate_succ, List.replicate_zero, List.getElem?_cons_zero, List.getElem?_cons_succ, List.set_cons_zero, List.set_cons_succ,
  Option.some.injEq, V.int.injEq, V.str.injEq, V.bl.injEq, V.ref.injEq, List.cons.injEq, and_true, true_and, exists_eq_left', exists_eq_left, exists_eq_right, exists_and_left, exists_and_right, false_or, or_false, reduceCtorEq, false_and, and_false, exists_false, Bool.not_true, Bool.not_false, if_true, if_false, Bool.false_eq_true, ite_true, ite_false])
theorem rEq_int {i j : Int} {H : Hp} {Q : VK} : rEq (.int i) (.int j) H Q = Q (.bl (decide (i = j))) H := by
  have e : decide (V.int i = V.int j) = decide (i = j) := by simp
  unfold rEq
  rw [e]
  exact propext ⟨fun h => h.2, fun h => ⟨rfl, h⟩⟩
theorem rEq_str {i j : Str} {H : Hp} {Q : VK} : rEq (.str i) (.str j) H Q = Q (.bl (decide (i = j))) H := by
  have e : decide (V.str i = V.str j) = decide (i = j) := by simp
  unfold rEq
  rw [e]
  exact propext ⟨fun h => h.2, fun h => ⟨rfl, h⟩⟩
local macro_rules | `(tactic| walk_at "rq") => `(tactic| (walk_at "rd"; (try simp only [rEq_int, rEq_str, tUn, rU, tC, rInT, rInK, rIxK, rExtendT, rSlU, rCatU, V.int.injEq, V.str.injEq, V.bl.injEq, V.ref.injEq, exists_eq_left', exists_eq_left, Bool.false_bne, Bool.false_xor, Bool.true_xor]); (try walk_at "rd")))
theorem iteY {c : Bool} {A B : Prop} (h : c = true) (a : A) : if c = true then A else B := by rw [if_pos h]; exact a
theorem iteN {c : Bool} {A B : Prop} (h : c = false) (b : B) : if c = true then A else B := by rw [if_neg (by rw [h]; exact Bool.false_ne_true)]; exact b
theorem line_le' {n : Nat} (h : n ≤ 1000000) : n ≤ sizeLine := by
  rw [sizeLine_eq]
  omega
/-! ## terms, on data -/
def leavesL : List Str := ["look", "const", "num"]
def flaggedL : List Str := ["sum", "less", "twice"]
def flagsL : List Str := ["", "u", "s", "us"]
def compL : List Str := ["same", "below", "under"]
def cntL : List (Str × Int) := [("look", 0), ("const", 0), ("num", 0), ("sum", 2), ("less", 2), ("twice", 1), ("and", 2), ("or", 2), ("xor", 2), ("not", 1), ("times", 2), ("quot", 2), ("rest", 2), ("left", 2), ("right", 2), ("froze", 1), ("choice", 4)]
def cnt (z : Str) : Option Int := (cntL.find? fun p => p.1 == z).map (·.2)
def nameD : PyData → Bool
  | .str s => isName (.str s)
  | _ => false
def wholeD : PyData → Bool
  | .int _ => true
  | _ => false
def numD : PyData → Bool
  | .int i => decide (-99 ≤ i) && decide (i ≤ 99)
  | _ => false
def amongD (l : List Str) : PyData → Bool
  | .str s => decide (s ∈ l)
  | _ => false
def leafD (h : Str) (d : PyData) : Bool := if h = "num" then numD d else nameD d
def triD (l : List Str) : PyData → Bool
  | .tuple [h, _, _] => amongD l h
  | _ => false
def shapeT (h : Str) (r : List PyData) : Bool := match cnt h with
  | none => false
  | some c =>
    if h ∈ leavesL then decide (r.length = 1) && leafD h (r.headD .none)
    else if h = "choice" then decide (r.length = 3) && triD compL (r.headD .none)
    else if h ∈ flaggedL then decide ((r.length : Int) = 1 + c) && amongD flagsL (r.headD .none)
    else decide ((r.length : Int) = c)
def shapeD : PyData → Bool
  | .tuple (.str h :: r) => shapeT h r
  | _ => false
def behind : PyData → List PyData
  | .tuple ts => ts.drop 1
  | _ => []
def partsT (h : Str) (r : List PyData) : List PyData :=
  if h ∈ leavesL then [] else if h = "choice" then behind (r.headD .none) ++ r.drop 1 else if h ∈ flaggedL then r.drop 1 else r
def partsD : PyData → List PyData
  | .tuple (.str h :: r) => partsT h r
  | _ => []
mutual
def sz : PyData → Nat
  | .tuple l => 1 + szL l
  | _ => 1
def szL : List PyData → Nat
  | [] => 0
  | d :: l => sz d + szL l
end
mutual
/-- its texts are such as may be asked -/
def fine : PyData → Bool
  | .str s => decide (s.length ≤ 100000) && PyData.strOk s
  | .tuple l => decide (l.length ≤ 100000) && fineL l
  | _ => true
def fineL : List PyData → Bool
  | [] => true
  | d :: l => fine d && fineL l
end
theorem sz_pos : ∀ d : PyData, 1 ≤ sz d := by
  intro d
  cases d <;> simp [sz]
theorem szL_append : ∀ a b : List PyData, szL (a ++ b) = szL a + szL b
  | [], b => by simp [szL]
  | x :: a, b => by
    rw [List.cons_append, szL, szL, szL_append a b]
    omega
theorem szL_drop (a : List PyData) : szL (a.drop 1) ≤ szL a := by
  cases a with
  | nil => exact Nat.le_refl _
  | cons x a => simp [szL]
theorem szL_len : ∀ a : List PyData, a.length ≤ szL a
  | [] => Nat.le_refl _
  | x :: a => by
    have h := szL_len a
    have h1 := sz_pos x
    simp only [List.length_cons, szL]
    omega
theorem sz_behind (d : PyData) : szL (behind d) ≤ sz d := by
  cases d with
  | tuple ts =>
    have h := szL_drop ts
    simp only [behind, sz]
    omega
  | _ => simp [behind, szL]
theorem sz_parts (d : PyData) : szL (partsD d) < sz d := by
  have hp := sz_pos d
  unfold partsD
  split
  · next h r =>
    simp only [sz, szL]
    have e : szL (partsT h r) ≤ szL r := by
      unfold partsT
      split
      · exact Nat.zero_le _
      · split
        · rw [szL_append]
          cases r with
          | nil => simp [behind, szL]
          | cons x r =>
            have := sz_behind x
            simp only [List.headD_cons, szL, List.drop_succ_cons, List.drop_zero]
            omega
        · split
          · exact szL_drop r
          · exact Nat.le_refl _
    omega
  · simp only [szL]
    omega
def isTf : Nat → PyData → Bool
  | 0, _ => false
  | n + 1, d => shapeD d && (partsD d).all (isTf n)
def isTD (d : PyData) : Bool := isTf (sz d) d
theorem sz_mem : ∀ {l : List PyData} {p : PyData}, p ∈ l → sz p ≤ szL l
  | x :: l, p, h => by
    rcases List.mem_cons.mp h with rfl | h
    · simp [szL]
    · have := sz_mem h
      simp only [szL]
      omega
theorem isTf_more : ∀ (n : Nat) (d : PyData), sz d ≤ n → ∀ m, sz d ≤ m → isTf n d = isTf m d
  | 0, d, h, _, _ => absurd (sz_pos d) (by omega)
  | n + 1, d, h, 0, h' => absurd (sz_pos d) (by omega)
  | n + 1, d, h, m + 1, h' => by
    unfold isTf
    congr 1
    have hp := sz_parts d
    have e : ∀ l : List PyData, szL l ≤ n → szL l ≤ m → l.all (isTf n) = l.all (isTf m) := by
      intro l
      induction l with
      | nil => intro _ _; rfl
      | cons x l ih =>
        intro h1 h2
        simp only [szL] at h1 h2
        have hx := sz_pos x
        rw [List.all_cons, List.all_cons, ih (by omega) (by omega), isTf_more n x (by omega) m (by omega)]
    exact e _ (by omega) (by omega)
theorem isTD_eq (d : PyData) : isTD d = (shapeD d && (partsD d).all isTD) := by
  have hp := sz_parts d
  have h1 := sz_pos d
  obtain ⟨n, e⟩ : ∃ n, sz d = n + 1 := ⟨sz d - 1, by omega⟩
  show isTf (sz d) d = _
  rw [e, isTf]
  congr 1
  have e : ∀ l : List PyData, szL l ≤ n → l.all (isTf n) = l.all isTD := by
    intro l
    induction l with
    | nil => intro _; rfl
    | cons x l ih =>
      intro h2
      simp only [szL] at h2
      rw [List.all_cons, List.all_cons, ih (by omega), isTf_more n x (by omega) (sz x) (Nat.le_refl _)]
      rfl
  exact e _ (by omega)
theorem fineL_mem : ∀ {l : List PyData} {p : PyData}, fineL l = true → p ∈ l → fine p = true
  | x :: l, p, h, m => by
    simp only [fineL, Bool.and_eq_true] at h
    rcases List.mem_cons.mp m with rfl | m
    · exact h.1
    · exact fineL_mem h.2 m
theorem fineL_of : ∀ {l : List PyData}, (∀ p ∈ l, fine p = true) → fineL l = true
  | [], _ => rfl
  | x :: l, h => by
    simp only [fineL, Bool.and_eq_true]
    exact ⟨h x List.mem_cons_self, fineL_of fun p hp => h p (List.mem_cons_of_mem _ hp)⟩
theorem fine_behind {d p : PyData} (h : fine d = true) (m : p ∈ behind d) : fine p = true := by
  cases d with
  | tuple ts =>
    simp only [fine, Bool.and_eq_true] at h
    exact fineL_mem h.2 (List.mem_of_mem_drop m)
  | _ => exact absurd m List.not_mem_nil
theorem fine_parts {d p : PyData} (h : fine d = true) (m : p ∈ partsD d) : fine p = true := by
  unfold partsD at m
  split at m
  · next z r =>
    simp only [fine, fineL, Bool.and_eq_true] at h
    obtain ⟨h1, h2, h3⟩ := h
    unfold partsT at m
    split at m
    · exact absurd m List.not_mem_nil
    · split at m
      · rcases List.mem_append.mp m with m | m
        · cases r with
          | nil => exact absurd m List.not_mem_nil
          | cons x r => exact fine_behind (fineL_mem h3 List.mem_cons_self) m
        · exact fineL_mem h3 (List.mem_of_mem_drop m)
      · split at m
        · exact fineL_mem h3 (List.mem_of_mem_drop m)
        · exact fineL_mem h3 m
  · exact absurd m List.not_mem_nil
def clsD : PyData → String
  | .bool _ => "bool"
  | .int _ => "int"
  | .str _ => "str"
  | .list _ => "list"
  | .tuple _ => "tuple"
  | .dict _ => "dict"
  | _ => "NoneType"
def isIntD : PyData → Bool
  | .int _ => true
  | _ => false
def isBoolD : PyData → Bool
  | .bool _ => true
  | _ => false
def isStrD : PyData → Bool
  | .str _ => true
  | _ => false
def isTupD : PyData → Bool
  | .tuple _ => true
  | _ => false
theorem Dv.ty {K : PySem.W.Frag} {H : Hp} {x : V} {d : PyData} (h1 : Dv H x d) : TyX K H x (.type (clsD d)) := by
  cases h1 with
  | non => exact .base .non
  | bl b => exact .base (.bl b)
  | int n => exact .base (.int n)
  | str s => exact .base (.str s)
  | lst e _ => exact .base (.lst e)
  | tup e _ => exact .base (.tup e)
  | dic e _ => exact .base (.dK e)
theorem kit_int {H : Hp} {x : V} {d : PyData} (h1 : Dv H x d) : kitB (clsD d) "int" = some (isIntD d || isBoolD d) := by
  cases h1 <;> (simp only [clsD, isIntD, isBoolD, isStrD, isTupD]; decide +kernel)
theorem kit_bool {H : Hp} {x : V} {d : PyData} (h1 : Dv H x d) : kitB (clsD d) "bool" = some (isBoolD d) := by
  cases h1 <;> (simp only [clsD, isIntD, isBoolD, isStrD, isTupD]; decide +kernel)
theorem kit_str {H : Hp} {x : V} {d : PyData} (h1 : Dv H x d) : kitB (clsD d) "str" = some (isStrD d) := by
  cases h1 <;> (simp only [clsD, isIntD, isBoolD, isStrD, isTupD]; decide +kernel)
theorem kit_tup {H : Hp} {x : V} {d : PyData} (h1 : Dv H x d) : kitB (clsD d) "tuple" = some (isTupD d) := by
  cases h1 <;> (simp only [clsD, isIntD, isBoolD, isStrD, isTupD]; decide +kernel)
theorem Dv.kind {K : PySem.W.Frag} {H : Hp} {x : V} {d : PyData} (h1 : Dv H x d) (g : fine d = true) : Kind K H x := by
  cases h1 with
  | non => exact ⟨_, .base .non, show kitB "NoneType" "str" = some false by decide +kernel⟩
  | bl b => exact ⟨_, .base (.bl b), show kitB "bool" "str" = some false by decide +kernel⟩
  | int n => exact ⟨_, .base (.int n), show kitB "int" "str" = some false by decide +kernel⟩
  | str s =>
    simp only [fine, Bool.and_eq_true, decide_eq_true_eq] at g
    exact ⟨_, .base (.str s), rfl, g⟩
  | lst e _ => exact ⟨_, .base (.lst e), show kitB "list" "str" = some false by decide +kernel⟩
  | tup e _ => exact ⟨_, .base (.tup e), show kitB "tuple" "str" = some false by decide +kernel⟩
  | dic e _ => exact ⟨_, .base (.dK e), show kitB "dict" "str" = some false by decide +kernel⟩
theorem Dv.name {H : Hp} {x : V} {d : PyData} (h : Dv H x d) : isName x = nameD d := by
  cases h <;> rfl
theorem Dv.among {H : Hp} {x : V} {d : PyData} (h : Dv H x d) (l : List Str) : among l x = amongD l d := by
  cases h <;> rfl
theorem DvAll.drop {H : Hp} : ∀ {n : Nat} {vs : List V} {ds : List PyData}, DvAll H vs ds → DvAll H (vs.drop n) (ds.drop n)
  | 0, _, _, h => h
  | n + 1, _, _, .nil => .nil
  | n + 1, _, _, .cons _ t => DvAll.drop (n := n) t
theorem DvAll.append {H : Hp} : ∀ {vs ws : List V} {ds es : List PyData}, DvAll H vs ds → DvAll H ws es → DvAll H (vs ++ ws) (ds ++ es)
  | _, _, _, _, .nil, h => h
  | _, _, _, _, .cons a t, h => .cons a (t.append h)
theorem cutV_from (xs : List V) (n : Nat) : cutV xs (some (n : Int)) none = xs.drop n := by
  unfold cutV
  rw [HT.sIx_none, HT.sIx_nat]
  by_cases h : n ≤ xs.length
  · rw [Nat.min_eq_left h, List.take_of_length_le (by rw [List.length_drop]; exact Nat.le_refl _)]
  · rw [Nat.min_eq_right (by omega), List.drop_of_length_le (by omega : xs.length ≤ xs.length), List.drop_of_length_le (by omega : xs.length ≤ n)]
    simp
theorem all1 {H : Hp} {xs : List V} {ds : List PyData} (h : DvAll H xs ds) (l : ds.length = 1) : ∃ x d, xs = [x] ∧ ds = [d] ∧ Dv H x d := by
  cases h with
  | nil => cases l
  | cons h0 t =>
    cases t with
    | nil => exact ⟨_, _, rfl, rfl, h0⟩
    | cons _ _ => simp at l
theorem all3 {H : Hp} {xs : List V} {ds : List PyData} (h : DvAll H xs ds) (l : ds.length = 3) : ∃ x y z d e f, xs = [x, y, z] ∧ ds = [d, e, f] ∧ Dv H x d ∧ Dv H y e ∧ Dv H z f := by
  cases h with
  | nil => cases l
  | cons h0 t =>
    cases t with
    | nil => simp at l
    | cons h1 t =>
      cases t with
      | nil => simp at l
      | cons h2 t =>
        cases t with
        | nil => exact ⟨_, _, _, _, _, _, rfl, rfl, h0, h1, h2⟩
        | cons _ _ => simp at l
theorem cnt_nn {h : Str} {c : Int} (e : cnt h = some c) : 0 ≤ c := by
  unfold cnt at e
  obtain ⟨p, e1, rfl⟩ := Option.map_eq_some_iff.mp e
  have := List.mem_of_find?_eq_some e1
  exact (show ∀ p ∈ cntL, 0 ≤ p.2 by decide +kernel) p this
theorem Same.seqT {K : PySem.W.Frag} {H H' : Hp} {a : Addr} {xs : List V} (e : Same H H') (h : SqT K H a xs) : SqT K H' a xs := by
  rcases h with (h | ⟨o, h⟩) | h
  · exact .inl (.inl (e _ _ h))
  · exact .inl (.inr ⟨o, e _ _ h⟩)
  · exact .inr h
theorem at0 {x : V} {xs : List V} : atI (x :: xs) 0 = some x := by
  unfold atI ixN
  rw [if_pos (Int.le_refl 0), if_pos (by simp only [List.length_cons]; omega)]
  rfl
theorem at1 {x y : V} {xs : List V} : atI (x :: y :: xs) 1 = some y := by
  unfold atI ixN
  rw [if_pos (by decide), if_pos (by simp only [List.length_cons]; omega)]
  rfl
theorem cutV1 (xs : List V) : cutV xs (some 1) none = xs.drop 1 := cutV_from xs 1
theorem cutV2 (xs : List V) : cutV xs (some 2) none = xs.drop 2 := cutV_from xs 2
section
variable {P : Program} {w : World} {K : PySem.W.Frag} {mg : Str → Option Value} {base : Heap}
def spWhole : Sp := fun vs H Q _ => ∃ (x : V) (d : PyData), vs = [x] ∧ Dv H x d ∧ Q (.bl (wholeD d)) H
abbrev s_is_whole : Stmt := top 1
theorem sc_is_whole : FnScope ["thing"] ["thing"] (defScope s_is_whole) := ⟨rfl, rfl, rfl, by decide +kernel, rfl, by decide +kernel, by decide +kernel⟩
theorem ok_is_whole {f : Addr} {fd : FuncData} (D : Df K mg "is_whole" s_is_whole f fd) (T : Tx K mg) : Cal P w K mg base "is_whole" ["thing"] 1 spWhole := by
  refine D.cal sc_is_whole (fun vs H Q E h => ?_) (fun _ _ _ _ _ _ us hl => match us, hl with | [_], _ => rfl) (fun cdv A outer s H vs Q E hgu hr h => ?_)
  · obtain ⟨x, d, rfl, _⟩ := h
    rfl
  · obtain ⟨x, d, rfl, hd, q⟩ := h
    refine ⟨_, (pss_one (ps_ret (pe_and (pe_callB (aIsi (K := K) rfl) (by rfl) T.isinstance (by decide +kernel) (pa_cons (pv 0) (pa_cons (pe_bltn (v := .ty "int") (by rfl) T.int (by decide +kernel) rfl) pa_nil))) (pe_one (pe_not (pe_callB (aIsi (K := K) rfl) (by rfl) T.isinstance (by decide +kernel) (pa_cons (pv 0) (pa_cons (pe_bltn (v := .ty "bool") (by rfl) T.bool (by decide +kernel) rfl) pa_nil)))))))), ?_⟩
    walk_at "rd"
    have ty := hd.ty (K := K)
    refine ⟨x, _, ⟨rfl, rfl⟩, _, _, .ty "int", ty, _, kit_ty (kit_int hd), ?_⟩
    cases hi : (isIntD d || isBoolD d) with
    | false =>
      rw [if_neg (by decide)]
      rw [show wholeD d = false by cases d <;> first | rfl | (simp [isIntD] at hi)] at q
      exact q
    | true =>
      rw [if_pos rfl]
      refine ⟨x, _, ⟨rfl, rfl⟩, _, _, .ty "bool", ty, _, kit_ty (kit_bool hd), ?_⟩
      rw [show wholeD d = !isBoolD d by cases d <;> first | rfl | (simp [isIntD, isBoolD] at hi)] at q
      exact q
def spLeaf (K : PySem.W.Frag) : Sp := fun vs H Q _ => ∃ (h : Str) (x : V) (d : PyData), vs = [.str h, x] ∧ h.length ≤ 100000 ∧ Dv H x d ∧ fine d = true ∧ ∀ H', Same H H' → Q (.bl (leafD h d)) H'
abbrev s_is_leaf_word : Stmt := top 15
theorem sc_is_leaf_word : FnScope ["head", "thing"] ["head", "thing"] (defScope s_is_leaf_word) := ⟨rfl, rfl, rfl, by decide +kernel, rfl, by decide +kernel, by decide +kernel⟩
theorem ok_is_leaf_word {f : Addr} {fd : FuncData} (D : Df K mg "is_leaf_word" s_is_leaf_word f fd) (T : Tx K mg) (c_is_whole : Cal P w K mg base "is_whole" ["thing"] 1 spWhole) (c_is_name : Cal P w K mg base "is_name" ["thing"] 1 (spIsName K)) : Cal P w K mg base "is_leaf_word" ["head", "thing"] 2 (spLeaf K) := by
  refine D.cal sc_is_leaf_word (fun vs H Q E h => ?_) (fun _ _ _ _ _ _ us hl => match us, hl with | [_, _], _ => rfl) (fun cdv A outer s H vs Q E hgu hr h => ?_)
  · obtain ⟨h, x, d, rfl, _⟩ := h
    rfl
  · obtain ⟨h, x, d, rfl, hh, hd, fd, q⟩ := h
    refine ⟨_, (pss_cons (ps_if (pt_cmpR op_eq (pv 0) pe_str (by rfl)) (pss_one (ps_ret (pe_and (pe_cal c_is_whole hgu (hr.mono (by omega)) (by rfl) (pa_cons (pv 1) pa_nil)) (pe_one (pe_chain op_le op_le (pe_un un_neg pe_int) (pv 1) pe_int))))) pss_nil) (pss_one (ps_ret (pe_cal c_is_name hgu (hr.mono (by omega)) (by rfl) (pa_cons (pv 1) pa_nil))))), ?_⟩
    walk_at "rq"
    by_cases hn : h = "num"
    · rw [if_pos (decide_eq_true hn)]
      refine ⟨x, d, rfl, hd, _, rfl, ?_⟩
      have q0 := q H (Same.refl H)
      rw [leafD, if_pos hn] at q0
      cases hd with
      | int i =>
        refine iteY rfl ⟨i, rfl, ?_⟩
        by_cases h1 : -99 ≤ i
        · rw [if_pos (decide_eq_true h1)]
          refine ⟨i, rfl, ?_⟩
          rw [show numD (.int i) = decide (i ≤ 99) by simp [numD, h1]] at q0
          exact q0
        · rw [if_neg (by simpa using h1)]
          rw [show numD (.int i) = false by simp [numD, h1]] at q0
          exact q0
      | _ => exact iteN rfl q0
    · rw [if_neg (by simpa using hn)]
      refine ⟨x, rfl, hd.kind fd, fun H' s => ?_⟩
      have q0 := q H' s
      rw [leafD, if_neg hn, ← hd.name] at q0
      exact q0
def spTri (K : PySem.W.Frag) : Sp := fun vs H Q _ => ∃ (x : V) (d : PyData) (c : Addr) (l : List Str), vs = [x, .ref c] ∧ Dv H x d ∧ fine d = true ∧ SqT K H c (l.map V.str) ∧ Q (.bl (triD l d)) H
abbrev s_is_triple : Stmt := top 16
theorem sc_is_triple : FnScope ["thing", "comparisons"] ["thing", "comparisons"] (defScope s_is_triple) := ⟨rfl, rfl, rfl, by decide +kernel, rfl, by decide +kernel, by decide +kernel⟩
theorem ok_is_triple {f : Addr} {fd : FuncData} (D : Df K mg "is_triple" s_is_triple f fd) (T : Tx K mg) : Cal P w K mg base "is_triple" ["thing", "comparisons"] 1 (spTri K) := by
  refine D.cal sc_is_triple (fun vs H Q E h => ?_) (fun _ _ _ _ _ _ us hl => match us, hl with | [_, _], _ => rfl) (fun cdv A outer s H vs Q E hgu hr h => ?_)
  · obtain ⟨x, d, c, l, rfl, _⟩ := h
    rfl
  · obtain ⟨x, d, c, l, rfl, hd, fd, hl, q⟩ := h
    refine ⟨_, (pss_one (ps_ret (pe_and (pe_callB (aIsi (K := K) rfl) (by rfl) T.isinstance (by decide +kernel) (pa_cons (pv 0) (pa_cons (pe_bltn (v := .ty "tuple") (by rfl) T.tuple (by decide +kernel) rfl) pa_nil))) (pe_and (pe_cmpR op_eq (pe_callB (aLenSeq (K := K) rfl) (by rfl) T.len (by decide +kernel) (pa_cons (pv 0) pa_nil)) pe_int (by rfl)) (pe_one (pe_cmpR (aInT (K := K) rfl hr.units) (pe_ix (aIxT (K := K) rfl) (pv 0) pe_int (fun _ _ => rfl)) (pv 1) (by rfl))))))), ?_⟩
    walk_at "rq"
    refine ⟨x, _, ⟨rfl, rfl⟩, _, _, .ty "tuple", hd.ty, _, kit_ty (kit_tup hd), ?_⟩
    cases hd with
    | @tup a xs ds e hx =>
      refine iteY rfl ⟨a, rfl, xs, .inr (.of e), ?_⟩
      have ex := hx.len
      by_cases h3 : xs.length = 3
      · rw [if_pos (decide_eq_true (by omega))]
        match xs, ds, hx, h3, e, q with
        | [x0, x1, x2], [d0, d1, d2], .cons h0 _, _, e, q =>
          refine ⟨a, rfl, _, .of e, x0, rfl, l, hl, h0.thing, ?_⟩
          rw [h0.among]
          exact q
      · rw [if_neg (by simp; omega)]
        rw [show triD l (.tuple ds) = false by
          unfold triD
          split
          · next e1 =>
            cases e1
            exact absurd ex h3
          · rfl] at q
        exact q
    | _ => exact iteN rfl q
def spParts (K : PySem.W.Frag) : Sp := fun vs H Q _ => ∃ (H0 : Hp) (a : Addr) (h : Str) (xs : List V) (r : List PyData), vs = [.ref a] ∧ Same H0 H ∧ H0 a = some (.tup (.str h :: xs)) ∧ DvAll H0 xs r ∧ shapeT h r = true ∧ (∀ x ∈ r, fine x = true) ∧
  ∀ (p : Addr) (ys : List V) (H' : Hp), Same H H' → SqT K H' p ys → DvAll H0 ys (partsT h r) → Q (.ref p) H'
abbrev s_parts_of : Stmt := top 17
theorem sc_parts_of : FnScope ["term", "head"] ["term"] (defScope s_parts_of) := ⟨rfl, rfl, rfl, by decide +kernel, rfl, by decide +kernel, by decide +kernel⟩
theorem ok_parts_of {f : Addr} {fd : FuncData} (D : Df K mg "parts_of" s_parts_of f fd) (T : Tx K mg) {aLEAVES : Addr} (mLEAVES : mg "LEAVES" = some (.ref aLEAVES)) (tLEAVES : ∀ H, SqT K H aLEAVES (leavesL.map V.str)) {aFLAGGED : Addr} (mFLAGGED : mg "FLAGGED" = some (.ref aFLAGGED)) (tFLAGGED : ∀ H, SqT K H aFLAGGED (flaggedL.map V.str)) : Cal P w K mg base "parts_of" ["term"] 1 (spParts K) := by
  refine D.cal sc_parts_of (fun vs H Q E h => ?_) (fun _ _ _ _ _ _ us hl => match us, hl with | [_], _ => rfl) (fun cdv A outer s H vs Q E hgu hr h => ?_)
  · obtain ⟨_, a, h, xs, r, rfl, _⟩ := h
    rfl
  · obtain ⟨H0, a, h, xs, r, rfl, s0, ha0, hx, hs, hf, q⟩ := h
    have ha := s0 _ _ ha0
    refine ⟨_, (pss_cons (ps_set (i := 1) sc_parts_of.nd rfl (by first | exact Or.inl rfl | exact Or.inr rfl) (pe_ix (aIxT (K := K) rfl) (pv 0) pe_int (fun _ _ => rfl))) (pss_cons (ps_if (pt_cmpR (aInT (K := K) rfl hr.units) (pv 1) (pe_glob (v := .ref aLEAVES) rfl mLEAVES rfl) (by rfl)) (pss_one (ps_ret (pe_tup pa_nil))) pss_nil) (pss_cons (ps_if (pt_cmpR op_eq (pv 1) pe_str (by rfl)) (pss_one (ps_ret (pe_op (aCatU (K := K) rfl) (pe_slice (aSlU (K := K) rfl) (pe_ix (aIxT (K := K) rfl) (pv 0) pe_int (fun _ _ => rfl)) (po_some pe_int) po_none) (pe_slice (aSlU (K := K) rfl) (pv 0) (po_some pe_int) po_none)))) pss_nil) (pss_cons (ps_if (pt_cmpR (aInT (K := K) rfl hr.units) (pv 1) (pe_glob (v := .ref aFLAGGED) rfl mFLAGGED rfl) (by rfl)) (pss_one (ps_ret (pe_slice (aSlU (K := K) rfl) (pv 0) (po_some pe_int) po_none))) pss_nil) (pss_one (ps_ret (pe_slice (aSlU (K := K) rfl) (pv 0) (po_some pe_int) po_none))))))), ?_⟩
    walk_at "rq"
    refine ⟨_, .of ha, .str h, at0, leavesL, tLEAVES H, trivial, ?_⟩
    by_cases h1 : h ∈ leavesL
    · refine iteY (decide_eq_true h1) ⟨Nat.zero_le _, fun p hp => q p [] _ (same_upd hp) (.of upd_same) ?_⟩
      rw [partsT, if_pos h1]
      exact .nil
    · refine iteN (decide_eq_false h1) ?_
      rw [rEq_str]
      refine ⟨_, rfl, ?_⟩
      by_cases h2 : h = "choice"
      · refine iteY (decide_eq_true h2) ?_
        have hs' : r.length = 3 ∧ triD compL (r.headD .none) = true := by
          unfold shapeT at hs
          split at hs
          · exact absurd hs Bool.false_ne_true
          · rw [if_neg h1, if_pos h2, Bool.and_eq_true, decide_eq_true_eq] at hs
            exact hs
        have ep : partsT h r = behind (r.headD .none) ++ r.drop 1 := by rw [partsT, if_neg h1, if_pos h2]
        rw [ep] at q
        obtain ⟨hl3, ht⟩ := hs'
        obtain ⟨x0, x1, x2, d0, d1, d2, rfl, rfl, h0, h1', h2'⟩ := all3 hx hl3
        have hr3 : DvAll H0 [x1, x2] [d1, d2] := .cons h1' (.cons h2' .nil)
        · have ht : triD compL d0 = true := ht
          obtain ⟨e0, e1, e2, rfl⟩ : ∃ e0 e1 e2, d0 = .tuple [e0, e1, e2] := by
            unfold triD at ht
            split at ht
            · exact ⟨_, _, _, rfl⟩
            · exact absurd ht Bool.false_ne_true
          cases h0 with
          | @tup b bs _ eb hb =>
            have lb := hb.len
            refine ⟨_, .of ha, .ref b, at1, b, rfl, bs, .of (s0 _ _ eb), fun p H1 s1 hp => ⟨_, .of (s1 _ _ ha), fun p1 H2 s2 hp1 => ⟨_, Same.seqT s2 hp, _, hp1, ?_, fun p2 H3 s3 h3 => q p2 _ H3 ((s1.trans s2).trans s3) h3 ?_⟩⟩⟩
            · rw [cutV1, cutV2]
              simp only [List.length_drop, List.length_cons, List.length_nil] at lb ⊢
              exact line_le' (by omega)
            · rw [cutV1, cutV2]
              exact (hb.drop (n := 1)).append hr3
      · refine iteN (decide_eq_false h2) ⟨flaggedL, tFLAGGED H, trivial, ?_⟩
        by_cases h3 : h ∈ flaggedL
        · refine iteY (decide_eq_true h3) ⟨_, .of ha, fun p H1 s1 hp => q p _ H1 s1 hp ?_⟩
          rw [partsT, if_neg h1, if_neg h2, if_pos h3, cutV2]
          exact hx.drop (n := 1)
        · refine iteN (decide_eq_false h3) ⟨_, .of ha, fun p H1 s1 hp => q p _ H1 s1 hp ?_⟩
          rw [partsT, if_neg h1, if_neg h2, if_neg h3, cutV1]
          exact hx
def spShape (K : PySem.W.Frag) : Sp := fun vs H Q _ => ∃ (x : V) (d : PyData), vs = [x] ∧ Dv H x d ∧ fine d = true ∧ ∀ H', Same H H' → Q (.bl (shapeD d)) H'
abbrev s_has_shape : Stmt := top 14
theorem sc_has_shape : FnScope ["thing", "head"] ["thing"] (defScope s_has_shape) := ⟨rfl, rfl, rfl, by decide +kernel, rfl, by decide +kernel, by decide +kernel⟩
set_option pp.deepTerms true in
set_option pp.maxSteps 200000 in
theorem ok_has_shape {f : Addr} {fd : FuncData} (D : Df K mg "has_shape" s_has_shape f fd) (T : Tx K mg) {aLEAVES : Addr} (mLEAVES : mg "LEAVES" = some (.ref aLEAVES)) (tLEAVES : ∀ H, SqT K H aLEAVES (leavesL.map V.str)) {aFLAGGED : Addr} (mFLAGGED : mg "FLAGGED" = some (.ref aFLAGGED)) (tFLAGGED : ∀ H, SqT K H aFLAGGED (flaggedL.map V.str))
    {aFLAGS : Addr} (mFLAGS : mg "FLAGS" = some (.ref aFLAGS)) (tFLAGS : ∀ H, SqT K H aFLAGS (flagsL.map V.str)) {aCOMPARISONS : Addr} (mCOMPARISONS : mg "COMPARISONS" = some (.ref aCOMPARISONS)) (tCOMPARISONS : ∀ H, SqT K H aCOMPARISONS (compL.map V.str))
    {aPART_COUNTS : Addr} (mPART_COUNTS : mg "PART_COUNTS" = some (.ref aPART_COUNTS)) (cPART_COUNTS : Cnt K w aPART_COUNTS cnt) (c_is_leaf_word : Cal P w K mg base "is_leaf_word" ["head", "thing"] 2 (spLeaf K)) (c_is_triple : Cal P w K mg base "is_triple" ["thing", "comparisons"] 1 (spTri K)) : Cal P w K mg base "has_shape" ["thing"] 3 (spShape K) := by
  refine D.cal sc_has_shape (fun vs H Q E h => ?_) (fun _ _ _ _ _ _ us hl => match us, hl with | [_], _ => rfl) (fun cdv A outer s H vs Q E hgu hr h => ?_)
  · obtain ⟨x, d, rfl, _⟩ := h
    rfl
  · obtain ⟨x, d, rfl, hd, fd, q⟩ := h
    refine ⟨_, (pss_cons (ps_if (PW.pt (pw_or (pt_not (pt_val (pe_callB (aIsi (K := K) rfl) (by rfl) T.isinstance (by decide +kernel) (pa_cons (pv 0) (pa_cons (pe_bltn (v := .ty "tuple") (by rfl) T.tuple (by decide +kernel) rfl) pa_nil))))) (pw_or1 (pt_cmpR op_eq (pe_callB (aLenSeq (K := K) rfl) (by rfl) T.len (by decide +kernel) (pa_cons (pv 0) pa_nil)) pe_int (by rfl))))) (pss_one (ps_ret pe_bl)) pss_nil) (pss_cons (ps_set (i := 1) sc_has_shape.nd rfl (by first | exact Or.inl rfl | exact Or.inr rfl) (pe_ix (aIxT (K := K) rfl) (pv 0) pe_int (fun _ _ => rfl))) (pss_cons (ps_if (PW.pt (pw_or (pt_not (pt_val (pe_callB (aIsi (K := K) rfl) (by rfl) T.isinstance (by decide +kernel) (pa_cons (pv 1) (pa_cons (pe_bltn (v := .ty "str") (by rfl) T.str (by decide +kernel) rfl) pa_nil))))) (pw_or1 (pt_cmpR (aNotInK cPART_COUNTS) (pv 1) (pe_glob (v := .ref aPART_COUNTS) rfl mPART_COUNTS rfl) (by rfl))))) (pss_one (ps_ret pe_bl)) pss_nil) (pss_cons (ps_if (pt_cmpR (aInT (K := K) rfl hr.units) (pv 1) (pe_glob (v := .ref aLEAVES) rfl mLEAVES rfl) (by rfl)) (pss_one (ps_ret (pe_and (pe_cmpR op_eq (pe_callB (aLenSeq (K := K) rfl) (by rfl) T.len (by decide +kernel) (pa_cons (pv 0) pa_nil)) pe_int (by rfl)) (pe_one (pe_cal c_is_leaf_word hgu (hr.mono (by omega)) (by rfl) (pa_cons (pv 1) (pa_cons (pe_ix (aIxT (K := K) rfl) (pv 0) pe_int (fun _ _ => rfl)) pa_nil))))))) pss_nil) (pss_cons (ps_if (pt_cmpR op_eq (pv 1) pe_str (by rfl)) (pss_one (ps_ret (pe_and (pe_cmpR op_eq (pe_callB (aLenSeq (K := K) rfl) (by rfl) T.len (by decide +kernel) (pa_cons (pv 0) pa_nil)) pe_int (by rfl)) (pe_one (pe_cal c_is_triple hgu (hr.mono (by omega)) (by rfl) (pa_cons (pe_ix (aIxT (K := K) rfl) (pv 0) pe_int (fun _ _ => rfl)) (pa_cons (pe_glob (v := .ref aCOMPARISONS) rfl mCOMPARISONS rfl) pa_nil))))))) pss_nil) (pss_cons (ps_if (pt_cmpR (aInT (K := K) rfl hr.units) (pv 1) (pe_glob (v := .ref aFLAGGED) rfl mFLAGGED rfl) (by rfl)) (pss_one (ps_ret (pe_and (pe_cmpR op_eq (pe_callB (aLenSeq (K := K) rfl) (by rfl) T.len (by decide +kernel) (pa_cons (pv 0) pa_nil)) (pe_op op_add pe_int (pe_ix (aIxK cPART_COUNTS) (pe_glob (v := .ref aPART_COUNTS) rfl mPART_COUNTS rfl) (pv 1) (fun _ _ => rfl))) (by rfl)) (pe_one (pe_cmpR (aInT (K := K) rfl hr.units) (pe_ix (aIxT (K := K) rfl) (pv 0) pe_int (fun _ _ => rfl)) (pe_glob (v := .ref aFLAGS) rfl mFLAGS rfl) (by rfl)))))) pss_nil) (pss_one (ps_ret (pe_cmpR op_eq (pe_callB (aLenSeq (K := K) rfl) (by rfl) T.len (by decide +kernel) (pa_cons (pv 0) pa_nil)) (pe_op op_add pe_int (pe_ix (aIxK cPART_COUNTS) (pe_glob (v := .ref aPART_COUNTS) rfl mPART_COUNTS rfl) (pv 1) (fun _ _ => rfl))) (by rfl)))))))))), ?_⟩
    walk_at "rq"
    refine ⟨x, _, ⟨rfl, rfl⟩, _, _, .ty "tuple", hd.ty, _, kit_ty (kit_tup hd), ?_⟩
    have q0 := q H (Same.refl H)
    cases hd with
    | @tup a xs ds e hx =>
      refine iteN rfl ⟨a, rfl, xs, .inr (.of e), ?_⟩
      have ex := hx.len
      cases hx with
      | nil => exact iteY rfl q0
      | @cons v xs d ds h0 hx =>
        have ex : xs.length = ds.length := hx.len
        simp only [fine, fineL, Bool.and_eq_true] at fd
        obtain ⟨-, f0, fr⟩ := fd
        refine iteN (decide_eq_false (by simp only [List.length_cons]; omega)) ⟨a, rfl, _, .of e, v, at0, v, _, ⟨rfl, rfl⟩, _, _, .ty "str", h0.ty, _, kit_ty (kit_str h0), ?_⟩
        cases h0 with
        | str h =>
          have hh : h.length ≤ 100000 := by
            simp only [fine, Bool.and_eq_true, decide_eq_true_eq] at f0
            exact f0.1
          have q : ∀ H', Same H H' → Q (.bl (shapeT h ds)) H' := q
          have q0 : Q (.bl (shapeT h ds)) H := q0
          refine iteN rfl ⟨h, rfl, ?_⟩
          cases hc : cnt h with
          | none =>
            refine iteY rfl ?_
            rw [show shapeT h ds = false by unfold shapeT; rw [hc]] at q0
            exact q0
          | some c =>
            refine iteN rfl ⟨leavesL, tLEAVES H, trivial, ?_⟩
            have es : shapeT h ds = (if h ∈ leavesL then decide (ds.length = 1) && leafD h (ds.headD .none) else if h = "choice" then decide (ds.length = 3) && triD compL (ds.headD .none) else if h ∈ flaggedL then decide ((ds.length : Int) = 1 + c) && amongD flagsL (ds.headD .none) else decide ((ds.length : Int) = c)) := by
              unfold shapeT
              rw [hc]
            by_cases h1 : h ∈ leavesL
            · rw [if_pos h1] at es
              refine iteY (decide_eq_true h1) ⟨a, rfl, _, .inr (.of e), ?_⟩
              by_cases hl : ds.length = 1
              · refine iteY (decide_eq_true (by simp only [List.length_cons]; omega)) ⟨a, rfl, _, .of e, ?_⟩
                obtain ⟨x1, d1, rfl, rfl, h1'⟩ := all1 hx hl
                · simp only [fineL, Bool.and_eq_true] at fr
                  refine ⟨x1, at1, h, x1, d1, rfl, hh, h1', fr.1, fun H' s => ?_⟩
                  have q1 := q H' s
                  rw [es] at q1
                  exact q1
              · refine iteN (decide_eq_false (by simp only [List.length_cons]; omega)) ?_
                rw [es, decide_eq_false hl] at q0
                exact q0
            · rw [if_neg h1] at es
              refine iteN (decide_eq_false h1) ?_
              rw [rEq_str]
              refine ⟨_, rfl, ?_⟩
              by_cases h2 : h = "choice"
              · rw [if_pos h2] at es
                refine iteY (decide_eq_true h2) ⟨a, rfl, _, .inr (.of e), ?_⟩
                by_cases hl : ds.length = 3
                · refine iteY (decide_eq_true (by simp only [List.length_cons]; omega)) ⟨a, rfl, _, .of e, ?_⟩
                  obtain ⟨x1, _, _, d1, _, _, rfl, rfl, h1', -, -⟩ := all3 hx hl
                  · simp only [fineL, Bool.and_eq_true] at fr
                    refine ⟨x1, at1, x1, d1, aCOMPARISONS, compL, rfl, h1', fr.1, tCOMPARISONS H, ?_⟩
                    rw [es] at q0
                    exact q0
                · refine iteN (decide_eq_false (by simp only [List.length_cons]; omega)) ?_
                  rw [es, decide_eq_false hl] at q0
                  exact q0
              · rw [if_neg h2] at es
                refine iteN (decide_eq_false h2) ⟨flaggedL, tFLAGGED H, trivial, ?_⟩
                by_cases h3 : h ∈ flaggedL
                · rw [if_pos h3] at es
                  refine iteY (decide_eq_true h3) ⟨a, rfl, _, .inr (.of e), h, rfl, c, hc, ?_⟩
                  by_cases hl : (ds.length : Int) = 1 + c
                  · refine iteY (decide_eq_true (by simp only [List.length_cons]; omega)) ⟨a, rfl, _, .of e, ?_⟩
                    have c0 := cnt_nn hc
                    cases hx with
                    | nil => simp at hl; omega
                    | cons h1' _ =>
                      refine ⟨_, at1, flagsL, tFLAGS H, h1'.thing, ?_⟩
                      rw [h1'.among]
                      rw [es, decide_eq_true hl] at q0
                      exact q0
                  · refine iteN (decide_eq_false (by simp only [List.length_cons]; omega)) ?_
                    rw [es, decide_eq_false hl] at q0
                    exact q0
                · rw [if_neg h3] at es
                  refine iteN (decide_eq_false h3) ⟨a, rfl, _, .inr (.of e), h, rfl, c, hc, ?_⟩
                  rw [es] at q0
                  rw [show decide (((V.str h :: xs).length : Int) = 1 + c) = decide ((ds.length : Int) = c) by
                    rw [Bool.eq_iff_iff]
                    simp only [List.length_cons, decide_eq_true_eq]
                    omega]
                  exact q0
        | _ => exact iteY rfl q0
    | _ => exact iteY rfl q0
theorem DvAll.last {H : Hp} : ∀ {r : List V} {z : V} {ds : List PyData}, DvAll H (r ++ [z]) ds → ∃ ds' d, ds = ds' ++ [d] ∧ DvAll H r ds' ∧ Dv H z d
  | [], z, _, .cons h .nil => ⟨[], _, rfl, .nil, h⟩
  | x :: r, z, _, .cons h t => by
    obtain ⟨ds', d, rfl, h1, h2⟩ := DvAll.last (r := r) t
    exact ⟨_ :: ds', d, rfl, .cons h h1, h2⟩
/-- what waits -/
def WT (Q : VK) (H : Hp) (x : V) (p : Addr) (m : Nat) (σ : L2.St) (H1 : Hp) : Prop :=
  ∃ (o : Option V) (vs : List V) (ds : List PyData), σ = [some x, some (.ref p), o] ∧ H1 p = some (.lst vs) ∧ Same H H1 ∧ DvAll H vs ds ∧ fineL ds = true ∧ szL ds = m ∧ m ≤ 500000 ∧ ∀ H', Same H H' → Q (.bl (ds.all isTD)) H'
theorem list_end' {α : Type} (l : List α) : l = [] ∨ ∃ r z, l = r ++ [z] := by
  rcases List.eq_nil_or_concat l with e | ⟨r, z, e⟩
  · exact .inl e
  · exact .inr ⟨r, z, by rw [e, List.concat_eq_append]⟩
def spIsTerm (K : PySem.W.Frag) : Sp := fun vs H Q _ => ∃ (x : V) (d : PyData), vs = [x] ∧ Dv H x d ∧ fine d = true ∧ sz d ≤ 500000 ∧ ∀ H', Same H H' → Q (.bl (isTD d)) H'
abbrev s_is_term : Stmt := top 13
theorem sc_is_term : FnScope ["thing", "waiting", "one"] ["thing"] (defScope s_is_term) := ⟨rfl, rfl, rfl, by decide +kernel, rfl, by decide +kernel, by decide +kernel⟩
set_option pp.deepTerms true in
set_option pp.maxSteps 200000 in
theorem fn_is_term {f : Addr} {fd : FuncData} (D : Df K mg "is_term" s_is_term f fd) (T : Tx K mg) (c_has_shape : Cal P w K mg base "has_shape" ["thing"] 3 (spShape K)) (c_parts_of : Cal P w K mg base "parts_of" ["term"] 1 (spParts K)) : FnG P w K mg base CX0 4 f fd ["thing"] (spIsTerm K) := by
  refine D.fnG sc_is_term (fun vs H Q E h => ?_) (fun cdv A outer s H vs Q E hgu hr h => ?_)
  · obtain ⟨x, d, rfl, _⟩ := h
    rfl
  · obtain ⟨x, d, rfl, hd, fd, hz, q⟩ := h
    refine ⟨_, (pss_cons (ps_set (i := 1) sc_is_term.nd rfl (by first | exact Or.inl rfl | exact Or.inr rfl) (pe_lst (pa_cons (pv 0) pa_nil))) (pss_cons (ps_while PassesOwn.never (pt_truth (pv 1) (by intro _; rfl)) (pss_cons (ps_set (i := 2) sc_is_term.nd rfl (by first | exact Or.inl rfl | exact Or.inr rfl) (pe_bm0 PySem.F.plainAttrs_list PySem.F.slot_list_pop PySem.F.type_list_pop mt_pop (pv 1))) (pss_cons (ps_if (pt_not (pt_val (pe_cal c_has_shape hgu (hr.mono (by omega)) (by rfl) (pa_cons (pv 2) pa_nil)))) (pss_one (ps_ret pe_bl)) pss_nil) (pss_one (ps_expr (pe_bm PySem.F.plainAttrs_list PySem.F.slot_list_extend PySem.F.type_list_extend (aExtendT (K := K) rfl) (pv 1) (pa_cons (pe_cal c_parts_of hgu (hr.mono (by omega)) (by rfl) (pa_cons (pv 2) pa_nil)) pa_nil))))))) (pss_one (ps_ret pe_bl)))), ?_⟩
    walk_at "rq"
    refine ⟨line_le' (by decide), fun p hp => ⟨WT Q H x p, ⟨sz d, none, [x], [d], rfl, upd_same, same_upd hp, .cons hd .nil, by simp only [fineL, fd, Bool.and_true], by simp only [szL, Nat.add_zero], hz, fun H' s => ?_⟩, fun m σ H1 hw => ?_⟩⟩
    · have q1 := q H' s
      rw [show [d].all isTD = isTD d by simp]
      exact q1
    · obtain ⟨o, vs, ds, rfl, hp1, s1, hv, hf, rfl, hm, q⟩ := hw
      refine ⟨_, rfl, _, .inl ⟨vs, .of hp1, rfl⟩, ?_⟩
      rcases list_end' vs with rfl | ⟨vs, z, rfl⟩
      · cases hv
        exact iteN rfl (q H1 s1)
      · obtain ⟨ds, d1, rfl, hv1, hd1⟩ := hv.last
        have f1 : fine d1 = true := fineL_mem hf (by simp)
        have f2 : fineL ds = true := fineL_of fun y hy => fineL_mem hf (by simp [hy])
        have sp : ∀ {H3 : Hp} {u : HO}, Same H H3 → Same H (upd H3 p u) := fun s b o e => by
          rw [upd_ne (fun z => by rw [z, hp] at e; cases e)]
          exact s b o e
        refine iteY (by cases vs <;> rfl) ⟨fun σ' H' => ∃ m', m' < szL (ds ++ [d1]) ∧ WT Q H x p m' σ' H', fun _ _ h => h, ?_⟩
        walk_at "rq"
        have dl : (vs ++ [z]).dropLast = vs := by simp
        refine ⟨.inl ⟨rfl, _, .of hp1⟩, _, hp1, z, by simp, ?_⟩
        rw [dl]
        have s2 : Same H (upd H1 p (.lst vs)) := sp s1
        refine ⟨z, d1, rfl, hd1.same s2, f1, fun H3 s3 => ⟨_, rfl, ?_⟩⟩
        have s3' := s2.trans s3
        have hp3 : H3 p = some (.lst vs) := s3 _ _ upd_same
        have ed : (ds ++ [d1]).all isTD = (ds.all isTD && (shapeD d1 && (partsD d1).all isTD)) := by
          rw [List.all_append, List.all_cons, List.all_nil, Bool.and_true, isTD_eq d1]
        cases hs : shapeD d1 with
        | false =>
          have q1 := q H3 s3'
          rw [ed, hs, Bool.false_and, Bool.and_false] at q1
          exact iteY rfl q1
        | true =>
          refine iteN rfl ⟨.inl ⟨rfl, _, .of hp3⟩, ?_⟩
          obtain ⟨h, r, rfl⟩ : ∃ h r, d1 = .tuple (.str h :: r) := by
            unfold shapeD at hs
            split at hs
            · exact ⟨_, _, rfl⟩
            · exact absurd hs Bool.false_ne_true
          cases hd1 with
          | @tup a xs _ ea hx =>
            cases hx with
            | @cons v xs _ _ h0 hx =>
              cases h0 with
              | str h =>
                have fr : ∀ y ∈ r, fine y = true := fun y hy => by
                  simp only [fine, fineL, Bool.and_eq_true] at f1
                  exact fineL_mem f1.2.2 hy
                have ez : szL (ds ++ [.tuple (.str h :: r)]) = szL ds + sz (.tuple (.str h :: r)) := by
                  rw [szL_append]
                  simp only [szL, Nat.add_zero]
                have lt := sz_parts (.tuple (.str h :: r))
                have en : szL (ds ++ partsT h r) = szL ds + szL (partsD (.tuple (.str h :: r))) := szL_append _ _
                refine ⟨H, a, h, xs, r, rfl, s3', ea, hx, hs, fr, fun p1 ys H4 s4 h4 hy => ⟨p1, rfl, vs, s4 _ _ hp3, ys, h4, ?_, _, ?_, some (.ref a), vs ++ ys, ds ++ partsT h r, rfl, upd_same, sp (s3'.trans s4), hv1.append hy, ?_, rfl, ?_, fun H' s => ?_⟩⟩
                · rw [hv1.len, hy.len]
                  have l1 := szL_len ds
                  have l2 := szL_len (partsT h r)
                  have l3 : szL (partsT h r) < sz (.tuple (.str h :: r)) := lt
                  exact line_le' (by omega)
                · rw [en, ez]
                  omega
                · refine fineL_of fun y hy => ?_
                  rcases List.mem_append.mp hy with m | m
                  · exact fineL_mem f2 m
                  · exact fine_parts f1 m
                · rw [en]
                  omega
                · have q1 := q H' s
                  rw [ed, hs, Bool.true_and] at q1
                  rw [List.all_append]
                  exact q1
end
end Vf
namespace Vf
open PySem L2 PyProof.Rows PySem.Spec

local macro_rules | `(tactic| walk_at "rd") => `(tactic| simp only [tSeq, tIfS, tOr, tAnd, tNot, tB, tTest, tChain, tCB, tCons, tNil, tVar, tC, tRet, tAndV, tOrV, tNotV, tOp, tNext, tDrop, tAsg, tPar, tYes, tIf, tCall, tCalK, tTup, tLst, tSl, tNoPart, tPart, tM0, tM1, tRevL, tBM0, tBM, gName, rI0, rI, rU, rInA, rEqA, rAddA, rMulA, rSlAny, iAny, rIsi, rAll, rAny, rSum, rList, rTuple, rLen, rLenS, rLenSeq, rMulS, CDiv, rIn, rEqD, rNeD, iList, iTup, iStr, rCat, rCatA, rSlL, rSlA, rSlS, gSub, rPop, rAppend, rSetL, rIx, rIxL, rIxT, rIxS, LenV,
  L2.start, List.map_cons, List.map_nil, List.length_cons, List.length_nil, List.cons_append, List.nil_append, List.append_nil, Nat.zero_add, Nat.add_sub_cancel, Nat.sub_self, List.replicate_succ, List.replicate_zero, List.getElem?_cons_zero, List.getElem?_cons_succ, List.set_cons_zero, List.set_cons_succ,
  Option.some.injEq, V.int.injEq, V.str.injEq, V.bl.injEq, V.ref.injEq, List.cons.injEq, and_true, true_and, exists_eq_left', exists_eq_left, exists_eq_right, exists_and_left, exists_and_right, false_or, or_false, reduceCtorEq, false_and, and_false, exists_false, Bool.not_true, Bool.not_false, if_true, if_false, Bool.false_eq_true, ite_true, ite_false])
/-- a deck: its own list of what is left, its sum, its turn -/
structure Deck (H : Hp) (d c : Addr) : Prop where
  ne : c ≠ d
  own : ∃ t n : Int, H d = some (.lst [.ref c, .int t, .int n])
  cells : ∃ ns : List Int, H c = some (.lst (ns.map V.int)) ∧ ns.length ≤ 63
/-- all but the deck stays -/
def Sv (d c : Addr) (H H' : Hp) : Prop := ∀ b o, H b = some o → b ≠ d → b ≠ c → H' b = some o
theorem ne_upd {H : Hp} {p a : Addr} {o u : HO} (h : H p = none) (e : H a = some o) : (upd H p u) a = some o := same_upd h _ _ e
theorem dp_ints {K : PySem.W.Frag} {H : Hp} : ∀ ns : List Int, DpAll K H (ns.map V.int) (ns.map PyData.int)
  | [] => .nil
  | n :: ns => .cons (.int n) (dp_ints ns)
theorem list_end {α : Type} (l : List α) : l = [] ∨ ∃ r z, l = r ++ [z] := by
  rcases List.eq_nil_or_concat l with e | ⟨r, z, e⟩
  · exact .inl e
  · exact .inr ⟨r, z, by rw [e, List.concat_eq_append]⟩
theorem lay_ints : ∀ ns : List Int, PyData.canLayAll0 (ns.map PyData.int) = true ∧ PyData.depthAll (ns.map PyData.int) = 0
  | [] => ⟨rfl, rfl⟩
  | n :: ns => by
    obtain ⟨h1, h2⟩ := lay_ints ns
    simp [PyData.canLayAll0, PyData.canLay0, PyData.depthAll, PyData.depth, h1, h2]
theorem shaped_ints (ns : List Int) : SeqAt.shaped (.list (ns.map PyData.int)) = true := by
  obtain ⟨h1, h2⟩ := lay_ints ns
  simp [SeqAt.shaped, PyData.canLay0, PyData.depth, h1, h2]
theorem Sv.refl (d c : Addr) (H : Hp) : Sv d c H H := fun _ _ e _ _ => e
theorem Sv.trans {d c : Addr} {H H1 H2 : Hp} (a : Sv d c H H1) (b : Sv d c H1 H2) : Sv d c H H2 := fun x o e n1 n2 => b x o (a x o e n1 n2) n1 n2
theorem Sv.new {d c p : Addr} {H H1 : Hp} {o : HO} (a : Sv d c H H1) (n : H1 p = none) : Sv d c H (upd H1 p o) := fun x u e n1 n2 => same_upd n _ _ (a x u e n1 n2)
theorem Sv.deck {d c : Addr} {H H1 : Hp} {o : HO} (a : Sv d c H H1) : Sv d c H (upd H1 d o) := fun x u e n1 n2 => by
  rw [upd_ne n1]
  exact a x u e n1 n2
theorem Sv.cell {d c : Addr} {H H1 : Hp} {o : HO} (a : Sv d c H H1) : Sv d c H (upd H1 c o) := fun x u e n1 n2 => by
  rw [upd_ne n2]
  exact a x u e n1 n2
theorem Same.sv {d c : Addr} {H H1 : Hp} (a : Same H H1) : Sv d c H H1 := fun x u e _ _ => a x u e
section
variable {P : Program} {w : World} {K : PySem.W.Frag} {mg : Str → Option Value} {base : Heap}
def spDraw : Sp := fun vs H Q _ => ∃ (d c : Addr) (m : Int), vs = [.ref d, .int m] ∧ Deck H d c ∧ 0 < m ∧ m < 1073741824 ∧ ∀ (r : Int) (H' : Hp), 0 ≤ r → r < m → Deck H' d c → Sv d c H H' → Q (.int r) H'
abbrev s__law_draw : Stmt := top 24
theorem sc__law_draw : FnScope ["_law_deck_here", "_law_many", "_law_cell", "_law_mixed"] ["_law_deck_here", "_law_many"] (defScope s__law_draw) := ⟨rfl, rfl, rfl, by decide +kernel, rfl, by decide +kernel, by decide +kernel⟩
theorem ok__law_draw {f : Addr} {fd : FuncData} (D : Df K mg "_law_draw" s__law_draw f fd) (T : Tx K mg) : Cal P w K mg base "_law_draw" ["_law_deck_here", "_law_many"] 1 spDraw := by
  refine D.cal sc__law_draw (fun vs H Q E h => ?_) (fun _ _ _ _ _ _ us hl => match us, hl with | [_, _], _ => rfl) (fun cdv A outer s H vs Q E hgu hr h => ?_)
  · obtain ⟨d, c, m, rfl, _⟩ := h
    rfl
  · obtain ⟨d, c, m, rfl, ⟨ne, ⟨t, n, hd⟩, ⟨ns, hc, hn⟩⟩, m0, m1, q⟩ := h
    refine ⟨_, (pss_cons (ps_asg (pe_op op_add (pe_ix (aIxL (K := K) rfl) (pv 0) pe_int (fun _ _ => rfl)) pe_int) (pg_sub (pv 0) pe_int set_list)) (pss_cons (ps_set (i := 2) sc__law_draw.nd rfl (by first | exact Or.inl rfl | exact Or.inr rfl) (pe_ix (aIxL (K := K) rfl) (pv 0) pe_int (fun _ _ => rfl))) (pss_cons (ps_if (pt_cmpR (aNeD (K := K) rfl hr.units) (pe_ix (aIxL (K := K) rfl) (pv 0) pe_int (fun _ _ => rfl)) (pe_lst pa_nil) (by rfl)) (pss_cons (ps_set (i := 2) sc__law_draw.nd rfl (by first | exact Or.inl rfl | exact Or.inr rfl) (pe_bm0 PySem.F.plainAttrs_list PySem.F.slot_list_pop PySem.F.type_list_pop mt_pop (pe_ix (aIxL (K := K) rfl) (pv 0) pe_int (fun _ _ => rfl)))) (pss_one (ps_if (pt_cmpR op_ge (pv 2) (pe_op op_pow pe_int pe_int) (by rfl)) (pss_cons (ps_expr (pe_bm PySem.F.plainAttrs_list PySem.F.slot_list_append PySem.F.type_list_append mt_append (pe_ix (aIxL (K := K) rfl) (pv 0) pe_int (fun _ _ => rfl)) (pa_cons (pe_op op_fdiv (pv 2) (pv 1)) pa_nil))) (pss_one (ps_ret (pe_op op_mod (pv 2) (pv 1))))) pss_nil))) pss_nil) (pss_cons (ps_set (i := 3) sc__law_draw.nd rfl (by first | exact Or.inl rfl | exact Or.inr rfl) (pe_op op_mod (pe_op op_mul (pe_op op_add (pe_op op_add (pe_op op_mod (pv 2) pe_int) (pe_op op_mul pe_int (pe_ix (aIxL (K := K) rfl) (pv 0) pe_int (fun _ _ => rfl)))) pe_int) pe_int) pe_int)) (pss_cons (ps_set (i := 3) sc__law_draw.nd rfl (by first | exact Or.inl rfl | exact Or.inr rfl) (pe_op op_mod (pe_op op_add (pe_op op_add (pe_op op_mul (pv 3) (pv 3)) (pe_op op_mul pe_int (pe_ix (aIxL (K := K) rfl) (pv 0) pe_int (fun _ _ => rfl)))) pe_int) pe_int)) (pss_one (ps_ret (pe_op op_mod (pe_op op_fdiv (pe_op op_mod (pe_op op_add (pe_op op_mul (pv 3) (pv 3)) (pe_op op_mul pe_int (pv 3))) pe_int) pe_int) (pv 1))))))))), ?_⟩
    walk_at "rd"
    refine ⟨_, .of hd, .int n, rfl, n, rfl, _, hd, 2, rfl, _, .of upd_same, .int t, rfl, _, .of upd_same, .ref c, rfl, Nat.zero_le _, fun p hp => ?_⟩
    change upd H d (.lst [V.ref c, .int t, .int (n + 1)]) p = none at hp
    have hc1 : (upd H d (.lst [V.ref c, .int t, .int (n + 1)])) c = some (.lst (ns.map V.int)) := by rw [upd_ne ne]; exact hc
    have hc2 := ne_upd (u := .lst []) hp hc1
    have hd2 := ne_upd (u := .lst []) hp (upd_same (H := H) (a := d) (o := .lst [V.ref c, .int t, .int (n + 1)]))
    have npc : p ≠ c := fun e => by rw [e, hc1] at hp; cases hp
    have npd : p ≠ d := fun e => by rw [e, upd_same] at hp; cases hp
    have sv : Sv d c H (upd (upd H d (.lst [V.ref c, .int t, .int (n + 1)])) p (.lst [])) := (Sv.refl d c H).deck.new hp
    refine ⟨_, .lst (.of hc2) (dp_ints ns), _, .lst (.of upd_same) .nil, shaped_ints ns, rfl, ?_⟩
    have hm : ∀ a b : Int, 0 < b → b < 2 ^ 64 → CMul (a % b) (a % b) := fun a b b0 b1 => .inl ⟨by have := Int.emod_nonneg a (show b ≠ 0 by omega); omega, by have := Int.emod_lt_of_pos a b0; omega⟩
    have hq : ∀ (r : Int) (H3 : Hp) (ms : List Int), H3 d = some (.lst [V.ref c, .int t, .int (n + 1)]) → H3 c = some (.lst (ms.map V.int)) → ms.length ≤ 63 → Sv d c H H3 → Q (.int (r % m)) H3 := fun r H3 ms e1 e2 l s =>
      q _ H3 (Int.emod_nonneg r (by omega)) (Int.emod_lt_of_pos r m0) ⟨ne, ⟨_, _, e1⟩, ⟨ms, e2, l⟩⟩ s
    rcases list_end ns with rfl | ⟨ns', z, rfl⟩
    · rw [if_neg (by decide)]
      refine ⟨_, rfl, by decide, _, .of hd2, _, rfl, n + 1, rfl, .inl (by decide), .inr (by decide), by decide, hm _ _ (by decide) (by decide), _, .of hd2, _, rfl, n + 1, rfl, .inl (by decide), by decide, hm _ _ (by decide) (by decide), .inl (by decide), by decide, by decide, m0, ?_⟩
      exact hq _ _ [] hd2 hc2 (by decide) sv
    · rw [if_pos (by cases ns' <;> rfl)]
      have e1 : (ns' ++ [z]).map V.int = ns'.map V.int ++ [V.int z] := by simp
      rw [List.length_append] at hn
      have hn' : ns'.length + 1 ≤ 63 := hn
      refine ⟨_, .of hd2, _, rfl, .inl ⟨rfl, _, .of hc2⟩, c, rfl, _, hc2, .int z, by rw [e1]; simp, ⟨by decide, by decide, by decide⟩, z, rfl, ?_⟩
      have e2 : ((ns' ++ [z]).map V.int).dropLast = ns'.map V.int := by rw [e1]; simp
      rw [e2]
      have sv2 := sv.cell (o := .lst (ns'.map V.int))
      have hd3 : (upd (upd (upd H d (.lst [V.ref c, .int t, .int (n + 1)])) p (.lst [])) c (.lst (ns'.map V.int))) d = some (.lst [V.ref c, .int t, .int (n + 1)]) := by
        rw [upd_ne ne.symm]
        exact hd2
      by_cases hz : (10 : Int) ^ (18 : Int).toNat ≤ z
      · rw [if_pos (decide_eq_true hz)]
        refine ⟨_, .of hd3, _, rfl, .inl ⟨rfl, _, .of upd_same⟩, z, rfl, ⟨m0, m1⟩, c, rfl, _, upd_same, by rw [List.length_map]; exact small1000 (by omega), z, rfl, m0, ?_⟩
        refine hq _ _ (ns' ++ [z / m]) ?_ ?_ (by rw [List.length_append]; exact hn') sv2.cell
        · rw [upd_ne ne.symm]
          exact hd3
        · rw [upd_same]
          simp
      · rw [if_neg (by rw [decide_eq_false hz]; decide)]
        refine ⟨_, rfl, by decide, _, .of hd3, _, rfl, n + 1, rfl, .inl (by decide), .inr (by decide), by decide, hm _ _ (by decide) (by decide), _, .of hd3, _, rfl, n + 1, rfl, .inl (by decide), by decide, hm _ _ (by decide) (by decide), .inl (by decide), by decide, by decide, m0, ?_⟩
        exact hq _ _ ns' hd3 upd_same (by omega) sv2
end
end Vf
namespace Vf
open PySem L2 PyProof.Rows PySem.Spec

local macro_rules | `(tactic| walk_at "rd") => `(tactic| simp only [tSeq, tIfS, tOr, tAnd, tNot, tB, tTest, tChain, tCB, tCons, tNil, tVar, tC, tRet, tAndV, tOrV, tNotV, tOp, tNext, tDrop, tAsg, tPar, tYes, tIf, tCall, tCalK, tTup, tLst, tSl, tNoPart, tPart, tM0, tM1, tRevL, tBM0, tBM, gName, rI0, rI, rU, rInA, rEqA, rAddA, rMulA, rSlAny, iAny, rIsi, rAll, rAny, rSum, rList, rTuple, rLen, rLenS, rLenSeq, rMulS, CDiv, rIn, rEqD, rNeD, iList, iTup, iStr, rCat, rCatA, rSlL, rSlA, rSlS, gSub, rPop, rAppend, rSetL, rIx, rIxL, rIxT, rIxS, LenV,
  L2.start, List.map_cons, List.map_nil, List.length_cons, List.length_nil, List.cons_append, List.nil_append, List.append_nil, Nat.zero_add, Nat.add_sub_cancel, Nat.sub_self, List.replicate_succ, List.replicate_zero, List.getElem?_cons_zero, List.getElem?_cons_succ, List.set_cons_zero, List.set_cons_succ,
  Option.some.injEq, V.int.injEq, V.str.injEq, V.bl.injEq, V.ref.injEq, List.cons.injEq, and_true, true_and, exists_eq_left', exists_eq_left, exists_eq_right, exists_and_left, exists_and_right, false_or, or_false, reduceCtorEq, false_and, and_false, exists_false, Bool.not_true, Bool.not_false, if_true, if_false, Bool.false_eq_true, ite_true, ite_false])
theorem line_le {n : Nat} (h : n ≤ 1000000) : n ≤ sizeLine := by
  rw [sizeLine_eq]
  omega
theorem atI_in {α : Type} {xs : List α} {i : Int} (h0 : 0 ≤ i) (h1 : i < xs.length) : ∃ x, atI xs i = some x ∧ x ∈ xs := by
  have h2 : i.toNat < xs.length := by omega
  refine ⟨xs[i.toNat], ?_, List.getElem_mem h2⟩
  unfold atI ixN
  rw [if_pos h0, if_pos h1]
  exact List.getElem?_eq_getElem h2
theorem cutV_to (xs : List V) (n : Nat) : cutV xs none (some (n : Int)) = xs.take n := by
  unfold cutV
  rw [HT.sIx_none, HT.sIx_nat, List.drop_zero, Nat.sub_zero]
  by_cases h : n ≤ xs.length
  · rw [Nat.min_eq_left h]
  · rw [Nat.min_eq_right (by omega), List.take_of_length_le (by omega), List.take_of_length_le (by omega)]
def modV (x : V) : V := match x with
  | .int i => .int (i % 1000003)
  | _ => .non
theorem dp_strs {K : PySem.W.Frag} {H : Hp} : ∀ l : List Str, DpAll K H (l.map V.str) (l.map PyData.str)
  | [] => .nil
  | x :: l => .cons (.str x) (dp_strs l)
theorem lay_strs : ∀ l : List Str, (∀ x ∈ l, PyData.strOk x = true) → PyData.canLayAll0 (l.map PyData.str) = true ∧ PyData.depthAll (l.map PyData.str) = 0
  | [], _ => ⟨rfl, rfl⟩
  | x :: l, h => by
    obtain ⟨h1, h2⟩ := lay_strs l fun y hy => h y (List.mem_cons_of_mem _ hy)
    have h0 := h x List.mem_cons_self
    simp [PyData.canLayAll0, PyData.canLay0, PyData.depthAll, PyData.depth, h1, h2, h0]
theorem shaped_strs (l : List Str) (h : ∀ x ∈ l, PyData.strOk x = true) : SeqAt.shaped (.list (l.map PyData.str)) = true := by
  obtain ⟨h1, h2⟩ := lay_strs l h
  simp [SeqAt.shaped, PyData.canLay0, PyData.depth, h1, h2]
def notAbc (x : V) : Bool := match x with
  | .str s => !decide (s.cps.toList.headD 0 ∈ abc.cps.toList)
  | _ => false
theorem notAbc_all (z : Str) : (((signs z).filter notAbc).map id) = ((z.cps.toList.filter fun c => !decide (c ∈ abc.cps.toList)).map fun c => (⟨#[c]⟩ : Str)).map V.str := by
  unfold signs
  rw [List.map_id, List.filter_map, List.map_map]
  rfl
theorem all_filter (p : Nat → Bool) : ∀ l : List Nat, l.all p = (l.filter fun c => !p c).isEmpty
  | [] => rfl
  | c :: l => by
    have h := all_filter p l
    rw [List.all_cons, List.filter_cons]
    cases e : p c with
    | true => simpa using h
    | false => rfl
theorem eqv_nil (l : List Str) : PyData.eqv (.list (l.map PyData.str)) (.list []) = l.isEmpty := by
  cases l <;> rfl
section
variable {P : Program} {w : World} {K : PySem.W.Frag} {mg : Str → Option Value} {base : Heap}
def spDeck (K : PySem.W.Frag) : Sp := fun vs H Q _ => ∃ (a : Addr) (ns : List Int), vs = [.ref a] ∧ SqL K H a (ns.map V.int) ∧ ns.length ≤ 63 ∧ ∀ (d c : Addr) (H' : Hp), Same H H' → H d = none → H c = none → Deck H' d c → Q (.ref d) H'
abbrev s__law_deck : Stmt := top 23
theorem sc__law_deck : FnScope ["_law_script", "_law_cells", "_law_cell"] ["_law_script"] (defScope s__law_deck) := ⟨rfl, rfl, rfl, by decide +kernel, rfl, by decide +kernel, by decide +kernel⟩
theorem ok__law_deck {f : Addr} {fd : FuncData} (D : Df K mg "_law_deck" s__law_deck f fd) (T : Tx K mg) : Cal P w K mg base "_law_deck" ["_law_script"] 1 (spDeck K) := by
  refine D.cal sc__law_deck (fun vs H Q E h => ?_) (fun _ _ _ _ _ _ us hl => match us, hl with | [_], _ => rfl) (fun cdv A outer s H vs Q E hgu hr h => ?_)
  · obtain ⟨a, ns, rfl, _⟩ := h
    rfl
  · obtain ⟨a, ns, rfl, ha, hn, q⟩ := h
    refine ⟨_, (pss_cons (ps_set (i := 1) sc__law_deck.nd rfl (by first | exact Or.inl rfl | exact Or.inr rfl) (pe_callTy (aList (K := K) rfl) (by rfl) T.list (by decide +kernel) (pa_cons (pe_slice (aSlL (K := K) rfl) (pv 0) po_none (po_some pe_int)) pa_nil))) (pss_one (ps_ret (pe_lst (pa_cons (aRev (K := K) rfl (pv 1)) (pa_cons (pe_op op_add (pe_callB (aSum (K := K) rfl rfl) (by rfl) T.sum (by decide +kernel) (pa_cons (pe_lc (own := [("_law_cell", 2)]) (g := gName 2) (tt := tYes) (by rfl) sc__law_deck.nd (aWalkL (K := K) rfl (pv 1)) (blkOk_by (own := [("_law_cell", 2)]) (N := ["_law_script", "_law_cells", "_law_cell"]) (sc := defScope s__law_deck) (by decide +kernel)) (fun _ _ _ _ _ => (pg_name (i := 2) sc__law_deck.nd rfl (Or.inl rfl))) (fun _ _ _ _ _ => pts_nil) (fun _ _ _ _ _ => (pe_op op_mod (pv 2) pe_int))) pa_nil)) (pe_op op_mul pe_int (pe_callB (aLenSeq (K := K) rfl) (by rfl) T.len (by decide +kernel) (pa_cons (pv 1) pa_nil)))) (pa_cons pe_int pa_nil))))))), ?_⟩
    walk_at "rd"
    have ec : cutV (ns.map V.int) none (some 63) = ns.map V.int := by
      rw [show (63 : Int) = ((63 : Nat) : Int) from rfl, cutV_to, List.take_of_length_le (by rw [List.length_map]; exact hn)]
    refine ⟨_, ha, fun p hp => ⟨_, .inl (.of upd_same), fun l hl => ⟨_, .of upd_same, fun r hr => ?_⟩⟩⟩
    rw [ec] at hl hr ⊢
    have s1 := same_upd (o := .lst (ns.map V.int)) hp
    have s2 := s1.trans (same_upd (o := .lst (ns.map V.int)) hl)
    have s3 := s2.trans (same_upd (o := .lst (ns.map V.int).reverse) hr)
    have hl3 := ne_upd (u := .lst (ns.map V.int).reverse) hr (upd_same (H := upd H p (.lst (ns.map V.int))) (a := l) (o := .lst (ns.map V.int)))
    refine ⟨.ref l, rfl, l, rfl, ⟨_, .of hl3⟩, fun L hL => lc_pure (steps_list K l (ns.map V.int)) (fun _ => true) modV (fun acc => seqL_upd hL (.of hl3)) (line_le (by rw [List.length_map]; omega)) ?_ ?_ ?_ ?_⟩
    · exact fun _ => rfl
    · exact fun x _ acc R r => r
    · intro x hm _ acc R r
      obtain ⟨i, _, rfl⟩ := List.mem_map.mp hm
      exact ⟨_, rfl, _, _, rfl, rfl, show (0 : Int) < 1000003 by decide, r⟩
    · have em : (((ns.map V.int).filter fun _ => true).map modV) = (ns.map (· % 1000003)).map V.int := by
        rw [List.filter_eq_self.mpr fun _ _ => rfl, List.map_map, List.map_map]
        rfl
      have hl4 := ne_upd (u := .lst (((ns.map V.int).filter fun _ => true).map modV)) hL hl3
      refine ⟨L, rfl, ns.map (· % 1000003), .of (by rw [upd_same, em]), _, .inl (.of hl4), .inl (by decide), line_le (by decide), fun z hz => ?_⟩
      have s4 := s3.trans (same_upd (o := .lst (((ns.map V.int).filter fun _ => true).map modV)) hL)
      have hr4 := ne_upd (u := .lst (((ns.map V.int).filter fun _ => true).map modV)) hL (upd_same (H := upd (upd H p (.lst (ns.map V.int))) l (.lst (ns.map V.int))) (a := r) (o := .lst (ns.map V.int).reverse))
      refine q z r _ (s4.trans (same_upd hz)) (s4.free hz) (s2.free hr) ⟨fun e => ?_, ⟨_, _, upd_same⟩, ⟨ns.reverse, ?_, by rw [List.length_reverse]; exact hn⟩⟩
      · rw [← e, hr4] at hz
        cases hz
      · rw [List.map_reverse]
        exact ne_upd hz hr4
def spPickS : Sp := fun vs H Q _ => ∃ (d c : Addr) (z : Str), vs = [.ref d, .str z] ∧ Deck H d c ∧ 0 < z.length ∧ z.length ≤ 1000 ∧ ∀ (x : Nat) (H' : Hp), x ∈ z.cps.toList → Deck H' d c → Sv d c H H' → Q (.str ⟨#[x]⟩) H'
abbrev s__law_pick : Stmt := top 25
theorem sc__law_pick : FnScope ["_law_deck_here", "_law_some"] ["_law_deck_here", "_law_some"] (defScope s__law_pick) := ⟨rfl, rfl, rfl, by decide +kernel, rfl, by decide +kernel, by decide +kernel⟩
theorem ok__law_pick {f : Addr} {fd : FuncData} (D : Df K mg "_law_pick" s__law_pick f fd) (T : Tx K mg) (c__law_draw : Cal P w K mg base "_law_draw" ["_law_deck_here", "_law_many"] 1 spDraw) : Cal P w K mg base "_law_pick" ["_law_deck_here", "_law_some"] 2 spPickS := by
  refine D.cal sc__law_pick (fun vs H Q E h => ?_) (fun _ _ _ _ _ _ us hl => match us, hl with | [_, _], _ => rfl) (fun cdv A outer s H vs Q E hgu hr h => ?_)
  · obtain ⟨d, c, z, rfl, _⟩ := h
    rfl
  · obtain ⟨d, c, z, rfl, hd, z0, z1, q⟩ := h
    refine ⟨_, (pss_one (ps_ret (pe_ix ix_str (pv 1) (pe_cal c__law_draw hgu (hr.mono (by omega)) (by rfl) (pa_cons (pv 0) (pa_cons (pe_callB aLenS (by rfl) T.len (by decide +kernel) (pa_cons (pv 1) pa_nil)) pa_nil))) (fun _ _ => rfl)))), ?_⟩
    walk_at "rd"
    refine ⟨line_le (by omega), d, c, _, rfl, hd, by omega, by omega, fun r H' r0 r1 hd' sv => ?_⟩
    obtain ⟨x, e, hx⟩ := atI_in (xs := z.cps.toList) r0 (by rw [Array.length_toList]; exact r1)
    exact ⟨r, rfl, line_le (by omega), x, e, q x H' hx hd' sv⟩
def spKept : Sp := fun vs H Q _ => vs = [] ∧ ∀ (p : Addr) (H' : Hp), Same H H' → H p = none → H' p = some (.lst (kept.map V.str)) → Q (.ref p) H'
abbrev s__law_kept : Stmt := top 29
theorem sc__law_kept : FnScope ["_law_some"] [] (defScope s__law_kept) := ⟨rfl, rfl, rfl, by decide +kernel, rfl, by decide +kernel, by decide +kernel⟩
theorem ok__law_kept {f : Addr} {fd : FuncData} (D : Df K mg "_law_kept" s__law_kept f fd) (T : Tx K mg) : Cal P w K mg base "_law_kept" [] 1 spKept := by
  refine D.cal sc__law_kept (fun vs H Q E h => ?_) (fun _ _ _ _ _ _ us hl => match us, hl with | [], _ => rfl) (fun cdv A outer s H vs Q E hgu hr h => ?_)
  · obtain ⟨rfl, _⟩ := h
    rfl
  · obtain ⟨rfl, q⟩ := h
    refine ⟨_, (pss_cons (ps_set (i := 0) sc__law_kept.nd rfl (by first | exact Or.inl rfl | exact Or.inr rfl) (pe_lst (pa_cons pe_str (pa_cons pe_str (pa_cons pe_str (pa_cons pe_str (pa_cons pe_str (pa_cons pe_str (pa_cons pe_str (pa_cons pe_str (pa_cons pe_str (pa_cons pe_str (pa_cons pe_str (pa_cons pe_str (pa_cons pe_str (pa_cons pe_str pa_nil)))))))))))))))) (pss_one (ps_ret (pe_op op_cat (pv 0) (pe_lst (pa_cons pe_str (pa_cons pe_str (pa_cons pe_str (pa_cons pe_str (pa_cons pe_str (pa_cons pe_str (pa_cons pe_str (pa_cons pe_str (pa_cons pe_str (pa_cons pe_str (pa_cons pe_str pa_nil)))))))))))))))), ?_⟩
    walk_at "rd"
    refine ⟨line_le (by decide), fun p hp => ⟨line_le (by decide), fun p1 hp1 => ⟨_, ne_upd hp1 upd_same, _, upd_same, line_le (by decide), fun r hr => ?_⟩⟩⟩
    exact q r _ (((same_upd hp).trans (same_upd hp1)).trans (same_upd hr)) (((same_upd hp).trans (same_upd hp1)).free hr) upd_same
def spLawIsName (K : PySem.W.Frag) : Sp := spIsName K
abbrev s__law_is_name : Stmt := top 30
theorem sc__law_is_name : FnScope ["_law_it", "_law_sign"] ["_law_it"] (defScope s__law_is_name) := ⟨rfl, rfl, rfl, by decide +kernel, rfl, by decide +kernel, by decide +kernel⟩
theorem ok__law_is_name {f : Addr} {fd : FuncData} (D : Df K mg "_law_is_name" s__law_is_name f fd) (T : Tx K mg) (c__law_kept : Cal P w K mg base "_law_kept" [] 1 spKept) : Cal P w K mg base "_law_is_name" ["_law_it"] 2 (spLawIsName K) := by
  refine D.cal sc__law_is_name (fun vs H Q E h => ?_) (fun _ _ _ _ _ _ us hl => match us, hl with | [_], _ => rfl) (fun cdv A outer s H vs Q E hgu hr h => ?_)
  · obtain ⟨x, rfl, _⟩ := h
    rfl
  · obtain ⟨x, rfl, ⟨n, ty, hn⟩, hx⟩ := h
    refine ⟨_, (pss_cons (ps_if (PW.pt (pw_or (pt_not (pt_val (pe_callB (aIsi (K := K) rfl) (by rfl) T.isinstance (by decide +kernel) (pa_cons (pv 0) (pa_cons (pe_bltn (v := .ty "str") (by rfl) T.str (by decide +kernel) rfl) pa_nil))))) (pw_or (pt_not (pt_chain op_le op_le pe_int (pe_callB (aLen (K := K) rfl) (by rfl) T.len (by decide +kernel) (pa_cons (pv 0) pa_nil)) pe_int)) (pw_or1 (pt_cmpR (aInSeq (K := K) rfl) (pv 0) (pe_cal0 c__law_kept hgu (hr.mono (by omega)) (by rfl)) (by rfl)))))) (pss_one (ps_ret pe_bl)) pss_nil) (pss_one (ps_ret (pe_cmpR (aEqD (K := K) rfl hr.units) (pe_lc (own := [("_law_sign", 1)]) (g := gName 1) (tt := _) (by rfl) sc__law_is_name.nd (aWalk (K := K) rfl (pv 0)) (blkOk_by (own := [("_law_sign", 1)]) (N := ["_law_it", "_law_sign"]) (sc := defScope s__law_is_name) (by decide +kernel)) (fun _ _ _ _ _ => (pg_name (i := 1) sc__law_is_name.nd rfl (Or.inl rfl))) (fun _ _ _ _ _ => (pts_one (pt_cmpR op_notIn_sign (pv 1) pe_str (by rfl)))) (fun _ _ _ _ _ => (pv 1))) (pe_lst pa_nil) (by rfl))))), ?_⟩
    walk_at "rd"
    have notStr : isName x = false → kitB n "str" = some false → ∃ x_1 c, (x = x_1 ∧ V.ty "str" = c) ∧ ∃ x_2 x_3, ClsV c x_3 ∧ TyX K H x_1 x_2 ∧ W.kitOne K x_2 x_3 = some false ∧ Q (V.bl false) H := fun e k =>
      ⟨x, _, ⟨rfl, rfl⟩, .type n, _, .ty "str", ty, kit_ty k, by have q := hx H (Same.refl H); rw [e] at q; exact q⟩
    cases x with
    | str z =>
      obtain ⟨rfl, hz, ok⟩ := hn
      have line := sizeLine_eq
      refine ⟨_, _, ⟨rfl, rfl⟩, .type "str", _, .ty "str", ty, true, kit_ty (by decide +kernel), ?_⟩
      rw [if_neg (by decide)]
      refine ⟨z.length, ⟨by omega, rfl⟩, ?_⟩
      have q0 := hx H (Same.refl H)
      by_cases h1 : 1 ≤ z.length
      · rw [if_pos (decide_eq_true (by omega))]
        by_cases h8 : z.length ≤ 8
        · rw [if_neg (by rw [decide_eq_true (by omega)]; decide)]
          refine ⟨rfl, fun p H1 s1 np hp => ⟨p, rfl, _, .inl (.of hp), rfl, by decide +kernel, ?_⟩⟩
          cases hk : inV (.str z) (kept.map V.str) with
          | true =>
            rw [if_pos rfl]
            have e : isName (.str z) = false := by simp [isName, hk]
            have q1 := hx H1 s1
            rw [e] at q1
            exact q1
          | false =>
            rw [if_neg (by decide)]
            refine ⟨.str z, rfl, fun L hL => lc_pure (steps_str z) notAbc id (fun _ => trivial) (by rw [signs_len]; show z.length ≤ _; omega) ?_ ?_ ?_ ?_⟩
            · exact fun _ => rfl
            · intro x hm acc R r
              obtain ⟨c, hc, rfl⟩ := List.mem_map.mp hm
              exact ⟨_, rfl, c, rfl, _, rfl, _, rfl, r⟩
            · intro x hm _ acc R r
              exact ⟨x, rfl, r⟩
            · rw [notAbc_all]
              refine ⟨by omega, fun p2 hp2 => ⟨_, .lst (.of (ne_upd hp2 upd_same)) (dp_strs _), _, .lst (.of upd_same) .nil, shaped_strs _ ?_, rfl, ?_⟩⟩
              · intro y hy
                obtain ⟨c, hc, rfl⟩ := List.mem_map.mp hy
                have hc' := (List.mem_filter.mp hc).1
                have := Array.all_eq_true_iff_forall_mem.mp ok c (by simpa using hc')
                simpa [PyData.strOk] using this
              · have e : isName (.str z) = PyData.eqv (.list (((z.cps.toList.filter fun c => !decide (c ∈ abc.cps.toList)).map fun c => (⟨#[c]⟩ : Str)).map PyData.str)) (.list []) := by
                  rw [eqv_nil, show isName (.str z) = (decide (1 ≤ z.length) && decide (z.length ≤ 8) && !inV (.str z) (kept.map V.str) && z.cps.toList.all fun c => decide (c ∈ abc.cps.toList)) from rfl, hk, decide_eq_true h1, decide_eq_true h8, all_filter]
                  cases z.cps.toList.filter (fun c => !decide (c ∈ abc.cps.toList)) <;> rfl
                have q1 := hx _ ((s1.trans (same_upd hL)).trans (same_upd (o := .lst []) hp2))
                rw [e] at q1
                exact q1
        · rw [if_pos (by rw [decide_eq_false (by omega)]; decide)]
          have e : isName (.str z) = false := by simp [isName, h8]
          rw [e] at q0
          exact q0
      · rw [if_neg (by rw [decide_eq_false (by omega)]; decide)]
        have e : isName (.str z) = false := by simp [isName, h1]
        rw [e] at q0
        exact q0
    | _ =>
      obtain ⟨x1, c, e, x2, x3, h1, h2, h3, h4⟩ := notStr rfl hn
      exact ⟨x1, c, e, x2, x3, h1, h2, false, h3, iteT h4⟩
end
end Vf
namespace Vf
open PySem L2 PyProof.Rows PySem.Spec

local macro_rules | `(tactic| walk_at "rd") => `(tactic| simp only [tSeq, tIfS, tOr, tAnd, tNot, tB, tTest, tChain, tCB, tCons, tNil, tVar, tC, tRet, tAndV, tOrV, tNotV, tOp, tNext, tDrop, tAsg, tPar, tYes, tIf, tCall, tCalK, tTup, tLst, tSl, tNoPart, tPart, tM0, tM1, tRevL, tBM0, tBM, gName, rI0, rI, rU, rInA, rEqA, rAddA, rMulA, rSlAny, iAny, rIsi, rAll, rAny, rSum, rList, rTuple, rLen, rLenS, rLenSeq, rMulS, CDiv, rIn, rEqD, rNeD, iList, iTup, iStr, rCat, rCatA, rSlL, rSlA, rSlS, gSub, rPop, rAppend, rSetL, rIx, rIxL, rIxT, rIxS, LenV,
  L2.start, List.map_cons, List.map_nil, List.length_cons, List.length_nil, List.cons_append, List.nil_append, List.append_nil, Nat.zero_add, Nat.add_sub_cancel, Nat.sub_self, List.replicate_succ, List.replicate_zero, List.getElem?_cons_zero, List.getElem?_cons_succ, List.set_cons_zero, List.set_cons_succ,
  Option.some.injEq, V.int.injEq, V.str.injEq, V.bl.injEq, V.ref.injEq, List.cons.injEq, and_true, true_and, exists_eq_left', exists_eq_left, exists_eq_right, exists_and_left, exists_and_right, false_or, or_false, reduceCtorEq, false_and, and_false, exists_false, Bool.not_true, Bool.not_false, if_true, if_false, Bool.false_eq_true, ite_true, ite_false])
/-! ### texts by their signs -/
def cs (s : Str) : List Nat := s.cps.toList
theorem cs_len (s : Str) : (cs s).length = s.length := Array.length_toList
theorem cs_ext {a b : Str} (h : cs a = cs b) : a = b := by
  obtain ⟨a⟩ := a
  obtain ⟨b⟩ := b
  have : a = b := Array.toList_inj.mp h
  rw [this]
theorem cs_app (a b : Str) : cs (a ++ b) = cs a ++ cs b := Array.toList_append
theorem cs_to (z : Str) (n : Nat) : cs (cutS z none (some (n : Int))) = (cs z).take n := by
  unfold cutS
  rw [HT.sIx_none, HT.sIx_nat, Nat.sub_zero, List.drop_zero]
  show (cs z).take (min n z.length) = _
  rw [← cs_len, List.take_eq_take_iff, Nat.min_assoc, Nat.min_self]
theorem cs_from (z : Str) (n : Nat) : cs (cutS z (some (n : Int)) none) = (cs z).drop n := by
  unfold cutS
  rw [HT.sIx_none, HT.sIx_nat]
  show ((cs z).drop (min n z.length)).take (z.length - min n z.length) = _
  rw [← cs_len, List.take_of_length_le (by rw [List.length_drop]; exact Nat.le_refl _)]
  by_cases h : n ≤ (cs z).length
  · rw [Nat.min_eq_left h]
  · rw [Nat.min_eq_right (by omega), List.drop_of_length_le (by omega), List.drop_of_length_le (by omega)]
def sgn (c : Nat) : Str := ⟨#[c]⟩
theorem join_sgn : ∀ l : List Nat, cs (Str.join "" (l.map sgn)) = l
  | [] => rfl
  | [c] => rfl
  | c :: e :: l => by
    have h := join_sgn (e :: l)
    show cs (sgn c ++ "" ++ Str.join "" ((e :: l).map sgn)) = _
    rw [cs_app, cs_app, h]
    rfl
/-- letters alone -/
def Lets (s : Str) : Prop := ∀ c ∈ cs s, c ∈ cs abc
def Cand (s : Str) : Prop := 1 ≤ s.length ∧ s.length ≤ 8 ∧ Lets s
theorem inV_strs (s : Str) : ∀ l : List Str, inV (.str s) (l.map V.str) = decide (s ∈ l)
  | [] => by simp [inV]
  | x :: l => by
    have h := inV_strs s l
    unfold inV at h ⊢
    rw [List.map_cons, List.any_cons, h]
    show ((x == s) || _) = _
    by_cases e : x = s
    · subst e; simp
    · have e' : ¬ s = x := fun q => e q.symm
      simp [e, e']
theorem name_of {s : Str} (h : Cand s) (k : s ∉ kept) : isName (.str s) = true := by
  obtain ⟨h1, h2, h3⟩ := h
  have h4 : (s.cps.toList.all fun c => decide (c ∈ abc.cps.toList)) = true := List.all_eq_true.mpr fun c hc => decide_eq_true (h3 c hc)
  show (decide (1 ≤ s.length) && decide (s.length ≤ 8) && !inV (.str s) (kept.map V.str) && s.cps.toList.all fun c => decide (c ∈ abc.cps.toList)) = true
  rw [h4, inV_strs, decide_eq_true h1, decide_eq_true h2, decide_eq_false k]
  rfl
/-! ### each once -/
def once (l : List Str) (x : Str) : List Str := if x ∈ l then l else l ++ [x]
def onces (l : List Str) : List Str := l.foldl once []
theorem onces_end (l : List Str) (x : Str) : onces (l ++ [x]) = once (onces l) x := by simp [onces, List.foldl_append]
theorem onces_ind {p : List Str → List Str → Prop} (h0 : p [] []) (hs : ∀ l x, p l (onces l) → p (l ++ [x]) (once (onces l) x)) (l : List Str) : p l (onces l) := by
  rw [← List.reverse_reverse l]
  induction l.reverse with
  | nil => exact h0
  | cons x r ih =>
    rw [List.reverse_cons, onces_end]
    exact hs _ _ ih
theorem onces_mem (l : List Str) : ∀ x, x ∈ onces l ↔ x ∈ l := by
  refine onces_ind (p := fun l r => ∀ x, x ∈ r ↔ x ∈ l) (fun _ => Iff.rfl) (fun l x ih y => ?_) l
  unfold once
  split
  · rename_i h
    rw [ih y, List.mem_append, List.mem_singleton]
    refine ⟨.inl, fun z => z.elim id fun e => ?_⟩
    rw [e]
    exact (ih x).mp h
  · rw [List.mem_append, List.mem_append, ih y]
theorem onces_nodup (l : List Str) : (onces l).Nodup := by
  refine onces_ind (p := fun _ r => r.Nodup) List.nodup_nil (fun l x ih => ?_) l
  unfold once
  split
  · exact ih
  · rename_i h
    rw [List.nodup_append]
    exact ⟨ih, List.pairwise_singleton _ _, fun a ha b hb => by
      rw [List.mem_singleton.mp hb]
      exact fun e => h (e ▸ ha)⟩
theorem sub_len : ∀ {q l : List Str}, q.Nodup → (∀ x ∈ q, x ∈ l) → q.length ≤ l.length
  | [], _, _, _ => Nat.zero_le _
  | x :: q, l, n, h => by
    have hx := h x List.mem_cons_self
    obtain ⟨nx, nq⟩ := List.nodup_cons.mp n
    have ih := sub_len (l := l.erase x) nq fun y hy => (List.mem_erase_of_ne fun e => nx (by rw [← e]; exact hy)).mpr (h y (List.mem_cons_of_mem _ hy))
    have e := List.length_erase_of_mem hx
    have : 0 < l.length := List.length_pos_of_mem hx
    rw [List.length_cons]
    omega
def qqs : List Str := ["qqa", "qqb", "qqc", "qqd", "qqe", "qqf", "qqg", "qqh"]
theorem qqs_good : ∀ s ∈ qqs, Cand s ∧ s ∉ kept := by
  unfold Cand Lets
  decide +kernel
/-- what is told: the first m of each once -/
theorem names_good {l : List Str} (h : ∀ s ∈ l, Cand s ∧ s ∉ kept) {m : Nat} (hm : m ≤ 8) :
    ((onces (l ++ qqs)).take m).length = m ∧ ((onces (l ++ qqs)).take m).Nodup ∧ ∀ s ∈ (onces (l ++ qqs)).take m, isName (.str s) = true := by
  have h8 : qqs.length ≤ (onces (l ++ qqs)).length := sub_len (by decide +kernel) fun x hx => (onces_mem _ x).mpr (List.mem_append_right _ hx)
  have e8 : qqs.length = 8 := rfl
  refine ⟨by rw [List.length_take]; omega, (onces_nodup _).sublist (List.take_sublist _ _), fun s hs => ?_⟩
  have hs' := (onces_mem _ s).mp (List.mem_of_mem_take hs)
  rcases List.mem_append.mp hs' with z | z
  · exact name_of (h s z).1 (h s z).2
  · exact name_of (qqs_good s z).1 (qqs_good s z).2
theorem Sv.free {d c p : Addr} {H H' : Hp} (v : Sv d c H H') (k : Deck H' d c) (h : H' p = none) : H p = none := by
  cases e : H p with
  | none => rfl
  | some o =>
    obtain ⟨_, ⟨t, n, hd⟩, ⟨ns, hc, _⟩⟩ := k
    have n1 : p ≠ d := fun z => by rw [z, hd] at h; cases h
    have n2 : p ≠ c := fun z => by rw [z, hc] at h; cases h
    rw [v p o e n1 n2] at h
    cases h
theorem Sv.put {d c p : Addr} {H H1 : Hp} {o : HO} (a : Sv d c H H1) (n : H p = none) : Sv d c H (upd H1 p o) := fun x u e n1 n2 => by
  rw [upd_ne (ne_of_none e n)]
  exact a x u e n1 n2
theorem Lets.app {a b : Str} (h : Lets a) (k : Lets b) : Lets (a ++ b) := fun c hc => by
  rw [cs_app] at hc
  exact (List.mem_append.mp hc).elim (h c) (k c)
theorem Lets.to {z : Str} (h : Lets z) (n : Nat) : Lets (cutS z none (some (n : Int))) := fun c hc => by
  rw [cs_to] at hc
  exact h c (List.mem_of_mem_take hc)
theorem Lets.from_ {z : Str} (h : Lets z) (n : Nat) : Lets (cutS z (some (n : Int)) none) := fun c hc => by
  rw [cs_from] at hc
  exact h c (List.mem_of_mem_drop hc)
theorem Lets.rep {z : Str} (h : Lets z) (n : Nat) : Lets (repS z n) := fun c hc => by
  have hc' : c ∈ (List.replicate n (cs z)).flatten := by
    rw [show cs (repS z n) = (List.replicate n (cs z)).flatten from repS_list z n] at hc
    exact hc
  obtain ⟨l, hl, hm⟩ := List.mem_flatten.mp hc'
  rw [(List.mem_replicate.mp hl).2] at hm
  exact h c hm
theorem Lets.sgn {c : Nat} (h : c ∈ cs abc) : Lets (sgn c) := fun x hx => by
  have : x = c := by simpa [cs, Vf.sgn] using hx
  rw [this]
  exact h
theorem wholes_at {lo : Int} {n i : Nat} {x : V} (h : (wholes lo n)[i]? = some x) : i < n ∧ x = .int (lo + (i : Nat)) := by
  have hi := (List.getElem?_eq_some_iff.mp h).1
  rw [wholes_len] at hi
  refine ⟨hi, ?_⟩
  unfold wholes at h
  rw [List.getElem?_map, List.getElem?_range hi] at h
  exact (Option.some.inj h).symm
theorem filt_names (f : List Str) : ((f.map V.str).filter fun x => !inV x (kept.map V.str)).map id = (f.filter fun s => !decide (s ∈ kept)).map V.str := by
  rw [List.map_id, List.filter_map]
  congr 1
  refine List.filter_congr fun s _ => ?_
  show (!inV (.str s) (kept.map V.str)) = _
  rw [inV_strs]
theorem flat_strs (l : List Str) : (l.map V.str).all flatV = true := by
  rw [List.all_map]
  exact List.all_eq_true.mpr fun _ _ => rfl
theorem sum_sgn : ∀ l : List Nat, ((l.map sgn).map (·.length)).sum = l.length
  | [] => rfl
  | c :: l => by
    rw [List.map_cons, List.map_cons, List.sum_cons, sum_sgn l, List.length_cons]
    show 1 + l.length = _
    omega
theorem Deck.same {d c : Addr} {H H' : Hp} (k : Deck H d c) (s : Same H H') : Deck H' d c := by
  obtain ⟨ne, ⟨t, n, hd⟩, ⟨ns, hc, hn⟩⟩ := k
  exact ⟨ne, ⟨t, n, s _ _ hd⟩, ⟨ns, s _ _ hc, hn⟩⟩
theorem Deck.off {d c p : Addr} {H : Hp} {o : HO} (k : Deck H d c) (n1 : p ≠ d) (n2 : p ≠ c) : Deck (upd H p o) d c := by
  obtain ⟨ne, ⟨t, n, hd⟩, ⟨ns, hc, hn⟩⟩ := k
  exact ⟨ne, ⟨t, n, by rw [upd_ne n1.symm]; exact hd⟩, ⟨ns, by rw [upd_ne n2.symm]; exact hc, hn⟩⟩
theorem Deck.fresh {d c p : Addr} {H : Hp} (k : Deck H d c) (h : H p = none) : p ≠ d ∧ p ≠ c := by
  obtain ⟨ne, ⟨t, n, hd⟩, ⟨ns, hc, hn⟩⟩ := k
  exact ⟨fun z => (by rw [z, hd] at h; cases h), fun z => (by rw [z, hc] at h; cases h)⟩
section
variable {P : Program} {w : World} {K : PySem.W.Frag} {mg : Str → Option Value} {base : Heap}
def spNames : Sp := fun vs H Q _ => ∃ (d c : Addr) (m : Nat), vs = [.ref d, .int m] ∧ Deck H d c ∧ m ≤ 8 ∧
  ∀ (l : List Str) (p : Addr) (H' : Hp), l.length = m → l.Nodup → (∀ s ∈ l, isName (.str s) = true) → Deck H' d c → Sv d c H H' → H p = none → H' p = some (.lst (l.map V.str)) → Q (.ref p) H'
abbrev s__law_names : Stmt := top 27
theorem sc__law_names : FnScope ["_law_deck_here", "_law_many", "_law_kept_here", "_law_letters", "_law_way", "_law_first", "_law_word", "_law_k", "_law_at", "_law_found", "_law_sign", "_law_some", "_law_name", "_law_good"] ["_law_deck_here", "_law_many"] (defScope s__law_names) := ⟨rfl, rfl, rfl, by decide +kernel, rfl, by decide +kernel, by decide +kernel⟩
theorem ok__law_names {f : Addr} {fd : FuncData} (D : Df K mg "_law_names" s__law_names f fd) (T : Tx K mg) (c__law_draw : Cal P w K mg base "_law_draw" ["_law_deck_here", "_law_many"] 1 spDraw) : Cal P w K mg base "_law_names" ["_law_deck_here", "_law_many"] 2 spNames := by
  refine D.cal sc__law_names (fun vs H Q E h => ?_) (fun _ _ _ _ _ _ us hl => match us, hl with | [_, _], _ => rfl) (fun cdv A outer s H vs Q E hgu hr h => ?_)
  · obtain ⟨d, c, m, rfl, _⟩ := h
    rfl
  · obtain ⟨d, c, m, rfl, hd, hm, q⟩ := h
    refine ⟨_, (pss_cons (ps_set (i := 2) sc__law_names.nd rfl (by first | exact Or.inl rfl | exact Or.inr rfl) (pe_lst (pa_cons pe_str (pa_cons pe_str (pa_cons pe_str (pa_cons pe_str (pa_cons pe_str (pa_cons pe_str (pa_cons pe_str (pa_cons pe_str (pa_cons pe_str (pa_cons pe_str (pa_cons pe_str (pa_cons pe_str (pa_cons pe_str (pa_cons pe_str pa_nil)))))))))))))))) (pss_cons (ps_set (i := 2) sc__law_names.nd rfl (by first | exact Or.inl rfl | exact Or.inr rfl) (pe_op op_cat (pv 2) (pe_lst (pa_cons pe_str (pa_cons pe_str (pa_cons pe_str (pa_cons pe_str (pa_cons pe_str (pa_cons pe_str (pa_cons pe_str (pa_cons pe_str (pa_cons pe_str (pa_cons pe_str (pa_cons pe_str pa_nil)))))))))))))) (pss_cons (ps_set (i := 3) sc__law_names.nd rfl (by first | exact Or.inl rfl | exact Or.inr rfl) pe_str) (pss_cons (ps_par (i := 4) (j := 5) (by rfl) sc__law_names.nd rfl rfl (by decide) rfl rfl (pa_cons (pe_cal c__law_draw hgu (hr.mono (by omega)) (by rfl) (pa_cons (pv 0) (pa_cons pe_int pa_nil))) (pa_cons (pe_cal c__law_draw hgu (hr.mono (by omega)) (by rfl) (pa_cons (pv 0) (pa_cons pe_int pa_nil))) pa_nil)) (by rfl)) (pss_cons (ps_set (i := 6) sc__law_names.nd rfl (by first | exact Or.inl rfl | exact Or.inr rfl) (pe_join pe_str (pe_lc (own := [("_law_k", 7)]) (g := gName 7) (tt := tYes) (by rfl) sc__law_names.nd (pi_range1 rfl T.range (pa_cons pe_int pa_nil)) (blkOk_by (own := [("_law_k", 7)]) (N := ["_law_deck_here", "_law_many", "_law_kept_here", "_law_letters", "_law_way", "_law_first", "_law_word", "_law_k", "_law_at", "_law_found", "_law_sign", "_law_some", "_law_name", "_law_good"]) (sc := defScope s__law_names) (by decide +kernel)) (fun _ _ _ _ _ => (pg_name (i := 7) sc__law_names.nd rfl (Or.inl rfl))) (fun _ _ _ _ _ => pts_nil) (fun _ _ _ _ _ => (pe_ix ix_str (pv 3) (pe_cal c__law_draw hgu (hr.mono (by omega)) (by rfl) (pa_cons (pv 0) (pa_cons pe_int pa_nil))) (fun _ _ => rfl)))))) (pss_cons (ps_set (i := 8) sc__law_names.nd rfl (by first | exact Or.inl rfl | exact Or.inr rfl) (pe_cal c__law_draw hgu (hr.mono (by omega)) (by rfl) (pa_cons (pv 0) (pa_cons pe_int pa_nil)))) (pss_cons (ps_set (i := 9) sc__law_names.nd rfl (by first | exact Or.inl rfl | exact Or.inr rfl) (pe_lst pa_nil)) (pss_cons (ps_for PassesOwn.never rfl (pi_range1 rfl T.range (pa_cons pe_int pa_nil)) (pg_name (i := 7) sc__law_names.nd rfl (by first | exact Or.inl rfl | exact Or.inr rfl)) (pss_cons (ps_set (i := 10) sc__law_names.nd rfl (by first | exact Or.inl rfl | exact Or.inr rfl) (pe_ix ix_str (pv 3) (pe_op op_mod (pe_op op_add (pv 5) (pv 7)) pe_int) (fun _ _ => rfl))) (pss_one (ps_expr (pe_bm PySem.F.plainAttrs_list PySem.F.slot_list_append PySem.F.type_list_append mt_append (pv 9) (pa_cons (pe_ix (aIxL (K := K) rfl) (pe_lst (pa_cons (pv 10) (pa_cons (pe_op op_add_str (pe_op op_add_str (pe_slice sl_str (pv 6) po_none (po_some (pv 8))) (pv 10)) (pe_slice sl_str (pv 6) (po_some (pv 8)) po_none)) (pa_cons (pe_slice sl_str (pe_op aMulS (pv 6) pe_int) po_none (po_some (pe_op op_add (pe_op op_mod (pv 7) pe_int) pe_int))) pa_nil)))) (pv 4) (fun _ _ => rfl)) pa_nil)))))) (pss_cons (ps_setLc (i := 11) (own := [("_law_name", 12)]) (g := gName 12) (tt := _) (by rfl) sc__law_names.nd rfl rfl (sw_true rfl rfl rfl (by decide +kernel)) (aWalkL (K := K) rfl (pe_op op_cat (pe_slice (aSlL (K := K) rfl) (pv 9) po_none (po_some pe_int)) (pe_slice (aSlL (K := K) rfl) (pv 9) (po_some pe_int) po_none))) (blkOk_by (own := [("_law_name", 12)]) (N := ["_law_deck_here", "_law_many", "_law_kept_here", "_law_letters", "_law_way", "_law_first", "_law_word", "_law_k", "_law_at", "_law_found", "_law_sign", "_law_some", "_law_name", "_law_good"]) (sc := defScope s__law_names) (by decide +kernel)) (fun _ _ _ _ _ => (pg_name (i := 12) sc__law_names.nd rfl (Or.inl rfl))) (fun _ _ _ _ _ => (pts_one (pt_cmpR (aNotInSeq (K := K) rfl) (pv 12) (pv 2) (by rfl)))) (fun _ _ _ _ _ => (pv 12))) (pss_cons (ps_set (i := 13) sc__law_names.nd rfl (by first | exact Or.inl rfl | exact Or.inr rfl) (pe_lst pa_nil)) (pss_cons (ps_for PassesOwn.never rfl (aWalkL (K := K) rfl (pe_op op_cat (pv 11) (pe_lst (pa_cons pe_str (pa_cons pe_str (pa_cons pe_str (pa_cons pe_str (pa_cons pe_str (pa_cons pe_str (pa_cons pe_str (pa_cons pe_str pa_nil))))))))))) (pg_name (i := 12) sc__law_names.nd rfl (by first | exact Or.inl rfl | exact Or.inr rfl)) (pss_one (ps_if (pt_cmpR (aNotInSeq (K := K) rfl) (pv 12) (pv 13) (by rfl)) (pss_one (ps_expr (pe_bm PySem.F.plainAttrs_list PySem.F.slot_list_append PySem.F.type_list_append mt_append (pv 13) (pa_cons (pv 12) pa_nil)))) pss_nil))) (pss_one (ps_ret (pe_slice (aSlL (K := K) rfl) (pv 13) po_none (po_some (pv 1)))))))))))))))), ?_⟩
    walk_at "rd"
    refine ⟨line_le (by decide), fun p hp => ⟨line_le (by decide), fun p1 hp1 => ⟨_, ne_upd hp1 upd_same, _, upd_same, line_le (by decide), fun pk hpk => ?_⟩⟩⟩
    obtain ⟨nkd, nkc⟩ := hd.fresh (((same_upd hp).trans (same_upd hp1)).free hpk)
    refine (show ∀ H0 : Hp, Same H H0 → H0 pk = some (.lst (kept.map V.str)) → spDraw [V.ref d, V.int 3] H0 ?k E0 from ?h) _ (((same_upd hp).trans (same_upd hp1)).trans (same_upd hpk)) upd_same
    clear hpk hp1 hp
    intro H0 s0 hk0
    have d0 := hd.same s0
    refine ⟨d, c, 3, rfl, d0, by decide, by decide, fun way H1 w0 w1 d1 v1 => ⟨d, c, 26, rfl, d1, by decide, by decide, fun first H2 f0 f1 d2 v2 => ⟨_, _, ⟨rfl, rfl⟩, ⟨_, rfl⟩, ?_⟩⟩⟩
    have v02 := v1.trans v2
    -- the word
    refine ⟨7, rfl, by decide, by decide, fun L hL => ?_⟩
    obtain ⟨nLd, nLc⟩ := d2.fresh hL
    refine lc_steps (steps_range 0 7) (fun i Hc => ∃ l : List Nat, l.length = i ∧ (∀ x ∈ l, x ∈ cs abc) ∧ Hc L = some (.lst ((l.map sgn).map V.str)) ∧ Deck Hc d c ∧ Sv d c H2 Hc) ⟨[], rfl, nofun, upd_same, d2.off nLd nLc, (Sv.refl d c H2).new hL⟩ (fun _ _ _ _ => trivial) ?_ ?_
    · rintro i x Hc hx ⟨l, hl, ha, e, dk, sv⟩
      refine ⟨rfl, ?_⟩
      walk_at "rd"
      refine ⟨_, rfl, _, rfl, d, c, 26, rfl, dk, by decide, by decide, fun r H3 r0 r1 d3 v3 => ?_⟩
      obtain ⟨x', ex, hx'⟩ := atI_in (xs := cs abc) r0 (by rw [show (cs abc).length = 26 from rfl]; exact r1)
      have hi : i < 7 := by
        have := (List.getElem?_eq_some_iff.mp hx).1
        rw [wholes_len] at this
        exact this
      refine ⟨_, rfl, _, rfl, line_le (by decide +kernel), x', ex, (l.map sgn).map V.str, v3 _ _ e nLd nLc, small1000 (by simp; omega), l ++ [x'], by simp [hl], fun y hy => ?_, by rw [upd_same]; simp [sgn], d3.off nLd nLc, (sv.trans v3).put hL⟩
      rcases List.mem_append.mp hy with z | z
      · exact ha y z
      · rw [List.mem_singleton.mp z]
        exact hx'
    · rintro Hc ⟨l, hl, ha, e, dk, sv⟩
      have v0c := v02.trans sv
      rw [wholes_len] at hl
      refine ⟨L, rfl, l.map sgn, .inl (.of e), by rw [sum_sgn, List.length_map, hl]; decide +kernel, ?_⟩
      generalize hw : Txt.join "" (l.map sgn) = word
      have cw : cs word = l := by rw [← hw, TL.join_eq, join_sgn]
      clear hw
      -- the place, the found ones
      refine ⟨d, c, 7, rfl, dk, by decide, by decide, fun plc H4 a0 a1 d4 v4 => ⟨Nat.zero_le _, fun pf hpf => ⟨24, rfl, by decide, by decide, ?_⟩⟩⟩
      have v04 := v0c.trans v4
      obtain ⟨nfd, nfc⟩ := d4.fresh hpf
      refine for_steps (steps_range 0 24) (fun i σ Hc => ∃ (f : List Str) (v7 v10 : Option V), f.length = i ∧ (∀ s ∈ f, Cand s) ∧ σ = [some (.ref d), some (.int m), some (.ref pk), some (.str abc), some (.int way), some (.int first), some (.str word), v7, some (.int plc), some (.ref pf), v10, none, none, none] ∧
        Hc pf = some (.lst (f.map V.str)) ∧ Deck Hc d c ∧ Sv d c H4 Hc) ⟨[], _, _, rfl, nofun, rfl, upd_same, d4.off nfd nfc, (Sv.refl d c H4).new hpf⟩ (fun _ _ _ _ _ => trivial) ?_ ?_
      · rintro i x σ H5 hx ⟨f, v7, v10, hf, hc, rfl, ef, d5, v5⟩
        walk_at "rd"
        obtain ⟨hi, rfl⟩ := wholes_at hx
        obtain ⟨pn, rfl⟩ : ∃ n : Nat, plc = n := ⟨plc.toNat, by omega⟩
        obtain ⟨x2, e2, m2⟩ := atI_in (xs := cs abc) (i := (first + (0 + (i : Int))) % 26) (Int.emod_nonneg _ (by decide)) (by rw [show (cs abc).length = 26 from rfl]; exact Int.emod_lt_of_pos _ (by decide))
        have wl : word.length = 7 := by rw [← cs_len, cw, hl]
        have lw : Lets word := fun y hy => ha y (by rw [← cw]; exact hy)
        have l1 : (cutS word none (some (pn : Int))).length + (cutS word (some (pn : Int)) none).length = 7 := by
          rw [← cs_len, ← cs_len, cs_to, cs_from, List.length_take, List.length_drop, cs_len]
          omega
        obtain ⟨kn, ek, k1, k8⟩ : ∃ n : Nat, (0 + (i : Int)) % 8 + 1 = n ∧ 1 ≤ n ∧ n ≤ 8 := ⟨((0 + (i : Int)) % 8 + 1).toNat, by omega, by omega, by omega⟩
        have rl : (repS word 4).length = 28 := by rw [repS_len, wl]
        have c1 : Cand (sgn x2) := ⟨Nat.le_refl 1, by show 1 ≤ 8; decide, .sgn m2⟩
        have c2 : Cand (cutS word none (some (pn : Int)) ++ sgn x2 ++ cutS word (some (pn : Int)) none) := by
          have e : (sgn x2).length = 1 := rfl
          refine ⟨?_, ?_, ((lw.to pn).app (.sgn m2)).app (lw.from_ pn)⟩
          · rw [strLen_append, strLen_append]; omega
          · rw [strLen_append, strLen_append]; omega
        have c3 : Cand (cutS (repS word 4) none (some (kn : Int))) := by
          have e : (cutS (repS word 4) none (some (kn : Int))).length = kn := by
            rw [← cs_len, cs_to, List.length_take, cs_len, rl]
            omega
          exact ⟨by omega, by omega, (lw.rep 4).to kn⟩
        obtain ⟨sv, e3, hs⟩ : ∃ s, atI [V.str (sgn x2), V.str (cutS word none (some (pn : Int)) ++ sgn x2 ++ cutS word (some (pn : Int)) none), V.str (cutS (repS word 4) none (some (kn : Int)))] way = some (.str s) ∧ Cand s := by
          rcases (by omega : way = 0 ∨ way = 1 ∨ way = 2) with rfl | rfl | rfl
          · exact ⟨_, rfl, c1⟩
          · exact ⟨_, rfl, c2⟩
          · exact ⟨_, rfl, c3⟩
        refine ⟨_, rfl, by decide, line_le (by decide +kernel), x2, e2, .inl ⟨rfl, _, .of ef⟩, line_le (by omega), line_le (by show _ + 1 ≤ _; omega), line_le (by omega), line_le (by rw [strLen_append]; show _ + 1 + _ ≤ _; omega), by decide, by decide, by omega, by omega, _, rfl, by decide, line_le (by show (repS word 4).length ≤ _; omega), line_le (by decide), fun p hp => ?_⟩
        rw [ek]
        obtain ⟨npd, npc⟩ := d5.fresh hp
        refine ⟨_, .of upd_same, .str sv, e3, _, ne_upd hp ef, small1000 (by rw [List.length_map]; omega), f ++ [sv], by simp [hf], fun y hy => ?_, ⟨_, rfl⟩, by rw [upd_same]; simp, (d5.off npd npc).off nfd nfc, (v5.new hp).put hpf⟩
        rcases List.mem_append.mp hy with z | z
        · exact hc y z
        · rw [List.mem_singleton.mp z]
          exact hs
      · rintro σ H5 ⟨f, v7, v10, hf, hc, rfl, ef, d5, v5⟩
        walk_at "rd"
        have v05 := v04.trans v5
        have hk5 := v05 _ _ hk0 nkd nkc
        rw [wholes_len] at hf
        -- those that are no kept words
        refine ⟨_, rfl, 8, rfl, pf, _, rfl, .of ef, fun pa hpa => ⟨_, rfl, 8, rfl, pf, _, rfl, .of (ne_upd hpa ef), fun pb hpb => ⟨pa, pb, _, _, rfl, rfl, ne_upd hpb upd_same, upd_same, line_le ?_, fun pc hpc => ?_⟩⟩⟩
        · have e1 := cutV_length (f.map V.str) none (some 8)
          have e2 := cutV_length (f.map V.str) (some 8) none
          rw [List.length_map] at e1 e2
          omega
        have ex : cutV (f.map V.str) none (some 8) ++ cutV (f.map V.str) (some 8) none = f.map V.str := by
          rw [show (8 : Int) = ((8 : Nat) : Int) from rfl, cutV_to, cutV_from, List.take_append_drop]
        rw [ex]
        obtain ⟨nad, nac⟩ := d5.fresh hpa
        have d6 := d5.off (o := .lst (cutV (f.map V.str) none (some 8))) nad nac
        obtain ⟨nbd, nbc⟩ := d6.fresh hpb
        have d7 := d6.off (o := .lst (cutV (f.map V.str) (some 8) none)) nbd nbc
        obtain ⟨ncd, ncc⟩ := d7.fresh hpc
        have d8 := d7.off (o := .lst (f.map V.str)) ncd ncc
        have v8 := ((v05.new (o := .lst (cutV (f.map V.str) none (some 8))) hpa).new (o := .lst (cutV (f.map V.str) (some 8) none)) hpb).new (o := .lst (f.map V.str)) hpc
        have hk8 := ne_upd (u := .lst (f.map V.str)) hpc (ne_upd (u := .lst (cutV (f.map V.str) (some 8) none)) hpb (ne_upd (u := .lst (cutV (f.map V.str) none (some 8))) hpa hk5))
        have hc8 := upd_same (H := upd (upd H5 pa (.lst (cutV (f.map V.str) none (some 8)))) pb (.lst (cutV (f.map V.str) (some 8) none))) (a := pc) (o := .lst (f.map V.str))
        clear hpa hpb hpc d6 d7
        revert d8 v8 hk8 hc8
        generalize upd (upd (upd H5 pa (.lst (cutV (f.map V.str) none (some 8)))) pb (.lst (cutV (f.map V.str) (some 8) none))) pc (.lst (f.map V.str)) = H8
        intro d8 v8 hk8 hc8
        refine ⟨pc, rfl, ⟨_, .of hc8⟩, fun L2 hL2 => lc_pure (steps_list K pc (f.map V.str)) (fun x => !inV x (kept.map V.str)) id (fun acc => seqL_upd hL2 (.of hc8)) (line_le (by rw [List.length_map]; omega)) ?_ ?_ ?_ ?_⟩
        · exact fun _ => rfl
        · intro x hm acc R r
          obtain ⟨s, _, rfl⟩ := List.mem_map.mp hm
          exact ⟨_, rfl, _, rfl, pk, _, rfl, .inl (.of (ne_upd hL2 hk8)), rfl, by decide +kernel, _, rfl, r⟩
        · intro x hm _ acc R r
          exact ⟨_, rfl, r⟩
        · rw [filt_names]
          generalize hg : f.filter (fun s => !decide (s ∈ kept)) = g
          have gg : ∀ s ∈ g, Cand s ∧ s ∉ kept := fun s hs => by
            rw [← hg] at hs
            obtain ⟨h1, h2⟩ := List.mem_filter.mp hs
            exact ⟨hc s h1, by simpa using h2⟩
          have gl : g.length ≤ 24 := by
            rw [← hg, ← hf]
            exact List.length_filter_le _ _
          obtain ⟨n2d, n2c⟩ := d8.fresh hL2
          have d9 := d8.off (o := .lst (g.map V.str)) n2d n2c
          have v9 := v8.new (o := .lst (g.map V.str)) hL2
          have hg9 := upd_same (H := H8) (a := L2) (o := .lst (g.map V.str))
          revert d9 v9 hg9
          generalize upd H8 L2 (.lst (g.map V.str)) = H9
          intro d9 v9 hg9
          -- each once
          refine ⟨Nat.zero_le _, fun pg hpg => ?_⟩
          obtain ⟨ngd, ngc⟩ := d9.fresh hpg
          refine ⟨_, rfl, line_le (by decide), fun pq hpq => ⟨L2, pq, _, _, rfl, rfl, ne_upd hpq (ne_upd hpg hg9), upd_same, line_le (by rw [List.length_map]; show g.length + 8 ≤ _; omega), fun pr hpr => ⟨pr, rfl, ⟨_, .of upd_same⟩, ?_⟩⟩⟩
          obtain ⟨nqd, nqc⟩ := (d9.off (o := .lst []) ngd ngc).fresh hpq
          obtain ⟨nrd, nrc⟩ := ((d9.off (o := .lst []) ngd ngc).off (o := .lst (qqs.map V.str)) nqd nqc).fresh hpr
          have dA := ((d9.off (o := .lst []) ngd ngc).off (o := .lst (qqs.map V.str)) nqd nqc).off (o := .lst ((g ++ qqs).map V.str)) nrd nrc
          have vA := ((v9.new (o := .lst []) hpg).new (o := .lst (qqs.map V.str)) hpq).new (o := .lst ((g ++ qqs).map V.str)) hpr
          have hgA := ne_upd (u := .lst ((g ++ qqs).map V.str)) hpr (ne_upd (u := .lst (qqs.map V.str)) hpq (upd_same (H := H9) (a := pg) (o := .lst [])))
          have hrA := upd_same (H := upd (upd H9 pg (.lst [])) pq (.lst (qqs.map V.str))) (a := pr) (o := .lst ((g ++ qqs).map V.str))
          have ngr : pg ≠ pr := fun e => by
            rw [← e] at hpr
            have z := ne_upd (u := .lst (qqs.map V.str)) hpq (upd_same (H := H9) (a := pg) (o := .lst []))
            exact absurd (hpr.symm.trans z) (by intro y; cases y)
          have exs : g.map V.str ++ [V.str "qqa", V.str "qqb", V.str "qqc", V.str "qqd", V.str "qqe", V.str "qqf", V.str "qqg", V.str "qqh"] = (g ++ qqs).map V.str := by
            rw [List.map_append]
            rfl
          rw [exs]
          refine for_steps (steps_list K pr ((g ++ qqs).map V.str)) (fun i σ Hc => ∃ v12 : Option V, σ = [some (.ref d), some (.int m), some (.ref pk), some (.str abc), some (.int way), some (.int first), some (.str word), v7, some (.int plc), some (.ref pf), v10, some (.ref L2), v12, some (.ref pg)] ∧
            Hc pr = some (.lst ((g ++ qqs).map V.str)) ∧ Hc pg = some (.lst ((onces ((g ++ qqs).take i)).map V.str)) ∧ Deck Hc d c ∧ Sv d c H0 Hc) ⟨none, rfl, hrA, hgA, dA, vA⟩ ?_ ?_ ?_
          · rintro i σ Hc _ ⟨_, _, hr, _⟩
            exact .of hr
          · rintro i x σ Hc hx ⟨v12, rfl, hr, hgd, dk, sv⟩
            obtain ⟨s, rfl, hs⟩ : ∃ s, x = V.str s ∧ (g ++ qqs)[i]? = some s := by
              rw [List.getElem?_map] at hx
              cases e : (g ++ qqs)[i]? with
              | none => rw [e] at hx; cases hx
              | some s => rw [e] at hx; exact ⟨s, (Option.some.inj hx).symm, rfl⟩
            have et : onces ((g ++ qqs).take (i + 1)) = once (onces ((g ++ qqs).take i)) s := by
              rw [List.take_add_one, hs]
              exact onces_end _ s
            have hlen : (onces ((g ++ qqs).take i)).length ≤ 32 := by
              have h1 := sub_len (onces_nodup ((g ++ qqs).take i)) fun x hx => (onces_mem _ x).mp hx
              rw [List.length_take, List.length_append, show qqs.length = 8 from rfl] at h1
              omega
            walk_at "rd"
            refine ⟨_, .inl (.of hgd), rfl, flat_strs _, ?_⟩
            rw [inV_strs]
            by_cases hm : s ∈ onces ((g ++ qqs).take i)
            · rw [if_neg (by simp [hm])]
              refine ⟨hr, ?_, dk, sv⟩
              rw [et, hgd]
              unfold once
              rw [if_pos hm]
            · rw [if_pos (by simp [hm])]
              refine ⟨.inl ⟨rfl, _, .of hgd⟩, _, hgd, small1000 (by rw [List.length_map]; omega), ?_, ?_, dk.off ngd ngc, fun b o e n1 n2 => ?_⟩
              · rw [upd_ne ngr.symm]
                exact hr
              · rw [et, upd_same]
                unfold once
                rw [if_neg hm, List.map_append]
                rfl
              · rw [upd_ne (fun z => by rw [z] at e; exact absurd (v9 _ _ e ngd ngc) (by rw [hpg]; intro y; cases y))]
                exact sv b o e n1 n2
          · rintro σ Hc ⟨v12, rfl, hr, hgd, dk, sv⟩
            rw [List.length_map, List.take_length] at hgd
            walk_at "rd"
            refine ⟨_, .of hgd, fun p hp => ?_⟩
            obtain ⟨n1, n2, n3⟩ := names_good gg hm
            obtain ⟨npd, npc⟩ := dk.fresh hp
            rw [cutV_to, ← List.map_take]
            exact q _ p _ n1 n2 n3 (dk.off npd npc) (((Same.sv s0).trans sv).new hp) (Same.free s0 (sv.free dk hp)) upd_same
end
end Vf
namespace Vf
open PySem L2 PyProof.Rows PySem.Spec

local macro_rules | `(tactic| walk_at "rd") => `(tactic| simp only [tSeq, tIfS, tOr, tAnd, tNot, tB, tTest, tChain, tCB, tCons, tNil, tVar, tC, tRet, tAndV, tOrV, tNotV, tOp, tNext, tDrop, tAsg, tPar, tYes, tIf, tCall, tCalK, tTup, tLst, tSl, tNoPart, tPart, tM0, tM1, tRevL, tBM0, tBM, gName, rI0, rI, rU, rInA, rEqA, rAddA, rMulA, rSlAny, iAny, rIsi, rAll, rAny, rSum, rList, rTuple, rLen, rLenS, rLenSeq, rMulS, CDiv, rIn, rEqD, rNeD, iList, iTup, iStr, rCat, rCatA, rSlL, rSlA, rSlS, gSub, rPop, rAppend, rSetL, rIx, rIxL, rIxT, rIxS, LenV,
  L2.start, List.map_cons, List.map_nil, List.length_cons, List.length_nil, List.cons_append, List.nil_append, List.append_nil, Nat.zero_add, Nat.add_sub_cancel, Nat.sub_self, List.replicate_succ, List.replicate_zero, List.getElem?_cons_zero, List.getElem?_cons_succ, List.set_cons_zero, List.set_cons_succ,
  Option.some.injEq, V.int.injEq, V.str.injEq, V.bl.injEq, V.ref.injEq, List.cons.injEq, and_true, true_and, exists_eq_left', exists_eq_left, exists_eq_right, exists_and_left, exists_and_right, false_or, or_false, reduceCtorEq, false_and, and_false, exists_false, Bool.not_true, Bool.not_false, if_true, if_false, Bool.false_eq_true, ite_true, ite_false])
/-! ## things that may be asked and shown -/
/-- the heap without the deck -/
def off (d c : Addr) (H : Hp) : Hp := fun b => if b = d ∨ b = c then none else H b
theorem off_same {d c : Addr} {H H' : Hp} (v : Sv d c H H') : Same (off d c H) (off d c H') := fun b o e => by
  unfold off at e ⊢
  split at e
  · cases e
  · rename_i h
    rw [if_neg h]
    exact v b o e (fun z => h (.inl z)) fun z => h (.inr z)
theorem off_get {d c b : Addr} {H : Hp} {o : HO} (e : H b = some o) (n1 : b ≠ d) (n2 : b ≠ c) : off d c H b = some o := by
  unfold off
  rw [if_neg fun z => z.elim n1 n2]
  exact e
theorem off_sub (d c : Addr) (H : Hp) : Same (off d c H) H := fun b o e => by
  unfold off at e
  split at e
  · cases e
  · exact e
theorem strOk_of {s : Str} (h : ∀ x ∈ cs s, x < 0x110000) : PyData.strOk s = true := by
  refine Array.all_eq_true_iff_forall_mem.mpr fun c hc => decide_eq_true (h c ?_)
  simpa [cs] using hc
theorem abc_small : ∀ x ∈ cs abc, x < 0x110000 := by decide +kernel
theorem Lets.ok {s : Str} (h : Lets s) : ∀ x ∈ cs s, x < 0x110000 := fun x hx => abc_small x (h x hx)
theorem name_lets {s : Str} (h : isName (.str s) = true) : 1 ≤ s.length ∧ s.length ≤ 8 ∧ Lets s := by
  have h' : (decide (1 ≤ s.length) && decide (s.length ≤ 8) && !inV (.str s) (kept.map V.str) && s.cps.toList.all fun c => decide (c ∈ abc.cps.toList)) = true := h
  simp only [Bool.and_eq_true, decide_eq_true_eq] at h'
  exact ⟨h'.1.1.1, h'.1.1.2, fun c hc => of_decide_eq_true (List.all_eq_true.mp h'.2 c hc)⟩
theorem up_small : ∀ c ∈ cs abc, ∀ u ∈ Unicode.upperOf c, u < 0x110000 := by decide +kernel
theorem up_ok {s : Str} (h : Lets s) : ∀ x ∈ cs (Txt.upper s), x < 0x110000 := by
  intro x hx
  have hx' : x ∈ (Txt.upper s).cps := by simpa [cs] using hx
  unfold Txt.upper placed at hx'
  obtain ⟨l, hl, hm⟩ := Array.mem_flatten.mp hx'
  obtain ⟨i, hi, rfl⟩ := Array.mem_mapIdx.mp hl
  refine up_small _ (h _ ?_) x (by simpa using hm)
  unfold cs
  simp
/-- a text of at most n signs, all of them signs -/
structure Fine (n : Nat) (s : Str) : Prop where
  len : s.length ≤ n
  ok : ∀ x ∈ cs s, x < 0x110000
theorem Fine.app {m n : Nat} {a b : Str} (h : Fine m a) (k : Fine n b) : Fine (m + n) (a ++ b) :=
  ⟨by rw [strLen_append]; exact Nat.add_le_add h.len k.len, fun x hx => by
    rw [cs_app] at hx
    exact (List.mem_append.mp hx).elim (h.ok x) (k.ok x)⟩
theorem Fine.cut {n : Nat} {a : Str} (h : Fine n a) (lo hi : Option Int) : Fine n (cutS a lo hi) :=
  ⟨Nat.le_trans (cutS_length a lo hi) h.len, fun x hx => h.ok x (by
    unfold cutS at hx
    exact List.mem_of_mem_drop (List.mem_of_mem_take hx))⟩
theorem Fine.mono {m n : Nat} {a : Str} (h : Fine m a) (k : m ≤ n) : Fine n a := ⟨Nat.le_trans h.len k, h.ok⟩
theorem Fine.line {n : Nat} {a : Str} (h : Fine n a) (k : n ≤ 1000 := by decide) : a.length ≤ sizeLine := line_le (Nat.le_trans h.len (by omega))
theorem fine_two {m n : Nat} {a b : Str} (h : Fine m a) (k : Fine n b) (z : m + n ≤ 1000 := by decide) : a.length + b.length ≤ sizeLine := line_le (by have := h.len; have := k.len; omega)
end Vf
namespace Vf
open PySem L2 PyProof.Rows PySem.Spec
/-! ## data that may be asked and shown -/
mutual
theorem ok_shows {B : Nat} (hB : B ≤ 10 ^ 50) : ∀ d : PyData, okD B d = true → d.showable = true
  | .none, _ => rfl
  | .bool _, _ => rfl
  | .int i, h => by
    simp only [okD, decide_eq_true_eq] at h
    exact (int_len (i := i) (by omega)).2
  | .str x, _ => rfl
  | .list l, h => by
    simp only [okD] at h
    simp only [PyData.showable]
    exact okL_shows hB l h
  | .tuple l, h => by
    simp only [okD] at h
    simp only [PyData.showable]
    exact okL_shows hB l h
  | .dict l, h => by
    simp only [okD] at h
    simp only [PyData.showable]
    exact okK_shows hB l h
theorem okL_shows {B : Nat} (hB : B ≤ 10 ^ 50) : ∀ l : List PyData, okL B l = true → PyData.showableAll l = true
  | [], _ => rfl
  | d :: l, h => by
    simp only [okL, Bool.and_eq_true] at h
    simp only [PyData.showableAll, Bool.and_eq_true]
    exact ⟨ok_shows hB d h.1, okL_shows hB l h.2⟩
theorem okK_shows {B : Nat} (hB : B ≤ 10 ^ 50) : ∀ l : List (PyData × PyData), okK B l = true → PyData.showableKv l = true
  | [], _ => rfl
  | (k, v) :: l, h => by
    simp only [okK, Bool.and_eq_true] at h
    simp only [PyData.showableKv, Bool.and_eq_true]
    exact ⟨⟨ok_shows hB k h.1.1, ok_shows hB v h.1.2⟩, okK_shows hB l h.2⟩
end
mutual
theorem ok_fine {B : Nat} : ∀ d : PyData, okD B d = true → wt d ≤ 500000 → fine d = true
  | .none, _, _ => by simp [fine]
  | .bool _, _, _ => by simp [fine]
  | .int _, _, _ => by simp [fine]
  | .str x, h, w => by
    simp only [okD] at h
    simp only [wt] at w
    simp only [fine, Bool.and_eq_true, decide_eq_true_eq]
    exact ⟨by omega, h⟩
  | .list _, _, _ => by simp [fine]
  | .tuple l, h, w => by
    simp only [okD] at h
    simp only [wt] at w
    have := wtL_len l
    simp only [fine, Bool.and_eq_true, decide_eq_true_eq]
    exact ⟨by omega, okL_fine l h (by omega)⟩
  | .dict _, _, _ => by simp [fine]
theorem okL_fine {B : Nat} : ∀ l : List PyData, okL B l = true → wtL l ≤ 500000 → fineL l = true
  | [], _, _ => rfl
  | d :: l, h, w => by
    simp only [okL, Bool.and_eq_true] at h
    simp only [wtL] at w
    simp only [fineL, Bool.and_eq_true]
    exact ⟨ok_fine d h.1 (by omega), okL_fine l h.2 (by omega)⟩
end
mutual
theorem sz_wt : ∀ d : PyData, sz d ≤ wt d
  | .none => by simp [sz, wt]
  | .bool _ => by simp [sz, wt]
  | .int _ => by simp [sz, wt]
  | .str _ => by simp [sz, wt]
  | .list _ => by simp only [sz, wt]; omega
  | .tuple l => by
    have := szL_wt l
    simp only [sz, wt]
    omega
  | .dict _ => by simp only [sz, wt]; omega
theorem szL_wt : ∀ l : List PyData, szL l ≤ wtL l
  | [] => Nat.le_refl _
  | d :: l => by
    have := sz_wt d
    have := szL_wt l
    simp only [szL, wtL]
    omega
end
theorem okL_append {B : Nat} : ∀ a b : List PyData, okL B (a ++ b) = (okL B a && okL B b)
  | [], b => rfl
  | x :: a, b => by
    simp only [List.cons_append, okL, okL_append a b, Bool.and_assoc]
theorem okL_iff {B : Nat} : ∀ {l : List PyData}, okL B l = true ↔ ∀ d ∈ l, okD B d = true
  | [] => by simp [okL]
  | d :: l => by
    simp only [okL, Bool.and_eq_true, List.forall_mem_cons, okL_iff (l := l)]
mutual
theorem okD_mono {B C : Nat} (hB : B ≤ C) : ∀ d : PyData, okD B d = true → okD C d = true
  | .none, _ => rfl
  | .bool _, _ => rfl
  | .int i, h => by
    simp only [okD, decide_eq_true_eq] at h ⊢
    omega
  | .str x, h => by
    simp only [okD] at h ⊢
    exact h
  | .list l, h => by
    simp only [okD] at h ⊢
    exact okL_mono hB l h
  | .tuple l, h => by
    simp only [okD] at h ⊢
    exact okL_mono hB l h
  | .dict l, h => by
    simp only [okD] at h ⊢
    exact okK_mono hB l h
theorem okL_mono {B C : Nat} (hB : B ≤ C) : ∀ l : List PyData, okL B l = true → okL C l = true
  | [], _ => rfl
  | d :: l, h => by
    simp only [okL, Bool.and_eq_true] at h ⊢
    exact ⟨okD_mono hB d h.1, okL_mono hB l h.2⟩
theorem okK_mono {B C : Nat} (hB : B ≤ C) : ∀ l : List (PyData × PyData), okK B l = true → okK C l = true
  | [], _ => rfl
  | (k, v) :: l, h => by
    simp only [okK, Bool.and_eq_true] at h ⊢
    exact ⟨⟨okD_mono hB k h.1.1, okD_mono hB v h.1.2⟩, okK_mono hB l h.2⟩
end
/-- data of a weight and a depth -/
structure Gd (B W D : Nat) (d : PyData) : Prop where
  ok : okD B d = true
  wt : wt d ≤ W
  depth : d.depth ≤ D
theorem Gd.mono {B W D B' W' D' : Nat} {d : PyData} (g : Gd B W D d) (h1 : B ≤ B') (h2 : W ≤ W') (h3 : D ≤ D') : Gd B' W' D' d :=
  ⟨okD_mono h1 d g.ok, Nat.le_trans g.wt h2, Nat.le_trans g.depth h3⟩
theorem Gd.shows {B W D : Nat} {d : PyData} (g : Gd B W D d) (hB : B ≤ 10 ^ 50) (hW : W ≤ 500000) (hD : D ≤ 60) : fine d = true ∧ sz d ≤ 500000 ∧ d.showable = true ∧ d.depth ≤ 60 ∧ d.shown.length ≤ sizeLine := by
  have h1 := g.wt
  have h2 := sz_wt d
  have h3 := shown_wt hB d g.ok
  exact ⟨ok_fine d g.ok (by omega), by omega, ok_shows hB d g.ok, Nat.le_trans g.depth hD, line_le' (by omega)⟩
end Vf
namespace Vf
open PySem L2 PyProof.Rows PySem.Spec

local macro_rules | `(tactic| walk_at "rd") => `(tactic| simp only [tSeq, tIfS, tOr, tAnd, tNot, tB, tTest, tChain, tCB, tCons, tNil, tVar, tC, tRet, tAndV, tOrV, tNotV, tOp, tNext, tDrop, tAsg, tPar, tYes, tIf, tCall, tCalK, tTup, tLst, tSl, tNoPart, tPart, tM0, tM1, tRevL, tBM0, tBM, gName, rI0, rI, rU, rInA, rEqA, rAddA, rMulA, rSlAny, iAny, rIsi, rAll, rAny, rSum, rList, rTuple, rLen, rLenS, rLenSeq, rMulS, CDiv, rIn, rEqD, rNeD, iList, iTup, iStr, rCat, rCatA, rSlL, rSlA, rSlS, gSub, rPop, rAppend, rSetL, rIx, rIxL, rIxT, rIxS, LenV,
  L2.start, List.map_cons, List.map_nil, List.length_cons, List.length_nil, List.cons_append, List.nil_append, List.append_nil, Nat.zero_add, Nat.add_sub_cancel, Nat.sub_self, List.replicate_succ, List.replicate_zero, List.getElem?_cons_zero, List.getElem?_cons_succ, List.set_cons_zero, List.set_cons_succ,
  Option.some.injEq, V.int.injEq, V.str.injEq, V.bl.injEq, V.ref.injEq, List.cons.injEq, and_true, true_and, exists_eq_left', exists_eq_left, exists_eq_right, exists_and_left, exists_and_right, false_or, or_false, reduceCtorEq, false_and, and_false, exists_false, Bool.not_true, Bool.not_false, if_true, if_false, Bool.false_eq_true, ite_true, ite_false])
def rIntB : List V → Hp → VK → Prop := fun xs H Q => ∃ k : Bool, xs = [.bl k] ∧ Q (.int (if k then 1 else 0)) H
theorem aIntB {X : Cx} : CallR X (.type "int") rIntB := fun pins s σ H xs us Q I r h => call_int1 pins s σ H xs us Q I r (.inr h)
theorem rNe_int {i j : Int} {H : Hp} {Q : VK} : rNe (.int i) (.int j) H Q = Q (.bl (!decide (i = j))) H := by
  have e : decide (V.int i = V.int j) = decide (i = j) := by simp
  unfold rNe
  rw [e]
  exact propext ⟨fun h => h.2, fun h => ⟨rfl, h⟩⟩
local macro_rules | `(tactic| walk_at "rq") => `(tactic| (walk_at "rd"; (try simp only [rEq_int, rEq_str, rNe_int, tUn, rU, tC, rInT, rInK, rIxK, rExtendT, rSlU, rCatU, rEqE, rIntB, tTupU, tLstU, V.int.injEq, V.str.injEq, V.bl.injEq, V.ref.injEq, exists_eq_left', exists_eq_left, Bool.false_bne, Bool.false_xor, Bool.true_xor]); (try walk_at "rd")))
section
variable {P : Program} {w : World} {K : PySem.W.Frag} {mg : Str → Option Value} {base : Heap}
def spNumD : Sp := fun vs H Q _ => ∃ (x : V) (d : PyData), vs = [x] ∧ Dv H x d ∧ Q (.bl (numD d)) H
abbrev s__law_is_num : Stmt := top 32
theorem sc__law_is_num : FnScope ["_law_it"] ["_law_it"] (defScope s__law_is_num) := ⟨rfl, rfl, rfl, by decide +kernel, rfl, by decide +kernel, by decide +kernel⟩
theorem ok__law_is_num {f : Addr} {fd : FuncData} (D : Df K mg "_law_is_num" s__law_is_num f fd) (T : Tx K mg) : Cal P w K mg base "_law_is_num" ["_law_it"] 1 spNumD := by
  refine D.cal sc__law_is_num (fun vs H Q E h => ?_) (fun _ _ _ _ _ _ us hl => match us, hl with | [_], _ => rfl) (fun cdv A outer s H vs Q E hgu hr h => ?_)
  · obtain ⟨x, d, rfl, _⟩ := h
    rfl
  · obtain ⟨x, d, rfl, hd, q⟩ := h
    refine ⟨_, (pss_one (ps_ret (pe_and (pe_callB (aIsi (K := K) rfl) (by rfl) T.isinstance (by decide +kernel) (pa_cons (pv 0) (pa_cons (pe_bltn (v := .ty "int") (by rfl) T.int (by decide +kernel) rfl) pa_nil))) (pe_and (pe_not (pe_callB (aIsi (K := K) rfl) (by rfl) T.isinstance (by decide +kernel) (pa_cons (pv 0) (pa_cons (pe_bltn (v := .ty "bool") (by rfl) T.bool (by decide +kernel) rfl) pa_nil)))) (pe_one (pe_chain op_le op_le (pe_un un_neg pe_int) (pv 0) pe_int)))))), ?_⟩
    walk_at "rq"
    have ty := hd.ty (K := K)
    refine ⟨x, _, ⟨rfl, rfl⟩, _, _, .ty "int", ty, _, kit_ty (kit_int hd), ?_⟩
    cases hd with
    | int i =>
      refine iteY rfl ⟨.int i, _, ⟨rfl, rfl⟩, _, _, .ty "bool", ty, _, kit_ty (kit_bool (H := H) (.int i)), iteY rfl ⟨i, rfl, ?_⟩⟩
      by_cases h1 : -99 ≤ i
      · rw [if_pos (decide_eq_true h1)]
        refine ⟨i, rfl, ?_⟩
        rw [show numD (.int i) = decide (i ≤ 99) by simp [numD, h1]] at q
        exact q
      · rw [if_neg (by simpa using h1)]
        rw [show numD (.int i) = false by simp [numD, h1]] at q
        exact q
    | bl b => exact iteY rfl ⟨.bl b, _, ⟨rfl, rfl⟩, _, _, .ty "bool", ty, _, kit_ty (kit_bool (H := H) (.bl b)), iteN rfl q⟩
    | _ => exact iteN rfl q
theorem at2 {x y z : V} {xs : List V} : atI (x :: y :: z :: xs) 2 = some z := by
  unfold atI ixN
  rw [if_pos (by decide), if_pos (by simp only [List.length_cons]; omega)]
  rfl
theorem at3 {x y z u : V} {xs : List V} : atI (x :: y :: z :: u :: xs) 3 = some u := by
  unfold atI ixN
  rw [if_pos (by decide), if_pos (by simp only [List.length_cons]; omega)]
  rfl
theorem not_among {l : List Str} {d : PyData} (h : isStrD d = false) : amongD l d = false := by
  cases d <;> first | rfl | cases h
/-- by the law's own words, to a level -/
def spLT (n : Nat) : Sp := fun vs H Q _ => ∃ (x : V) (d : PyData), vs = [x] ∧ Dv H x d ∧ fine d = true ∧ d.depth < n ∧ ∀ H', Same H H' → Q (.bl (isTD d)) H'
def relD (l : List Str) : PyData → Bool
  | .tuple [h, a, b] => amongD l h && (isTD a && isTD b)
  | _ => false
def spRel (K : PySem.W.Frag) (n : Nat) : Sp := fun vs H Q _ => ∃ (x : V) (d : PyData) (c : Addr) (l : List Str), vs = [x, .ref c] ∧ Dv H x d ∧ fine d = true ∧ d.depth ≤ n ∧ SqT K H c (l.map V.str) ∧ ∀ H', Same H H' → Q (.bl (relD l d)) H'
abbrev s__law_is_related : Stmt := top 31
theorem sc__law_is_related : FnScope ["_law_it", "_law_relations"] ["_law_it", "_law_relations"] (defScope s__law_is_related) := ⟨rfl, rfl, rfl, by decide +kernel, rfl, by decide +kernel, by decide +kernel⟩
set_option pp.deepTerms true in
set_option pp.maxSteps 200000 in
theorem ok__law_is_related {f : Addr} {fd : FuncData} {n k : Nat} (D : Df K mg "_law_is_related" s__law_is_related f fd) (T : Tx K mg) (c__law_is_term : Cal P w K mg base "_law_is_term" ["_law_it"] k (spLT n)) : Cal P w K mg base "_law_is_related" ["_law_it", "_law_relations"] (k + 1) (spRel K n) := by
  refine D.cal sc__law_is_related (fun vs H Q E h => ?_) (fun _ _ _ _ _ _ us hl => match us, hl with | [_, _], _ => rfl) (fun cdv A outer s H vs Q E hgu hr h => ?_)
  · obtain ⟨x, d, c, l, rfl, _⟩ := h
    rfl
  · obtain ⟨x, d, c, l, rfl, hd, fd, hn, hc, q⟩ := h
    refine ⟨_, (pss_cons (ps_if (PW.pt (pw_or (pt_not (pt_val (pe_callB (aIsi (K := K) rfl) (by rfl) T.isinstance (by decide +kernel) (pa_cons (pv 0) (pa_cons (pe_bltn (v := .ty "tuple") (by rfl) T.tuple (by decide +kernel) rfl) pa_nil))))) (pw_or (pt_cmpR op_ne (pe_callB (aLenSeq (K := K) rfl) (by rfl) T.len (by decide +kernel) (pa_cons (pv 0) pa_nil)) pe_int (by rfl)) (pw_or (pt_not (pt_val (pe_callB (aIsi (K := K) rfl) (by rfl) T.isinstance (by decide +kernel) (pa_cons (pe_ix (aIxT (K := K) rfl) (pv 0) pe_int (fun _ _ => rfl)) (pa_cons (pe_bltn (v := .ty "str") (by rfl) T.str (by decide +kernel) rfl) pa_nil))))) (pw_or1 (pt_cmpR (aNotInT (K := K) rfl hr.units) (pe_ix (aIxT (K := K) rfl) (pv 0) pe_int (fun _ _ => rfl)) (pv 1) (by rfl))))))) (pss_one (ps_ret pe_bl)) pss_nil) (pss_one (ps_ret (pe_and (pe_cal c__law_is_term hgu (hr.mono (by omega)) (by rfl) (pa_cons (pe_ix (aIxT (K := K) rfl) (pv 0) pe_int (fun _ _ => rfl)) pa_nil)) (pe_one (pe_cal c__law_is_term hgu (hr.mono (by omega)) (by rfl) (pa_cons (pe_ix (aIxT (K := K) rfl) (pv 0) pe_int (fun _ _ => rfl)) pa_nil))))))), ?_⟩
    walk_at "rq"
    refine ⟨x, _, ⟨rfl, rfl⟩, _, _, .ty "tuple", hd.ty, _, kit_ty (kit_tup hd), ?_⟩
    have q0 := q H (Same.refl H)
    cases hd with
    | @tup a xs ds e hx =>
      refine iteN rfl ⟨a, rfl, xs, .inr (.of e), ?_⟩
      have ex := hx.len
      by_cases hl : ds.length = 3
      · refine iteN (by rw [decide_eq_true (by omega)]; rfl) ⟨a, rfl, xs, .of e, ?_⟩
        obtain ⟨x0, x1, x2, d0, d1, d2, rfl, rfl, h0, h1, h2⟩ := all3 hx hl
        simp only [fine, fineL, Bool.and_eq_true] at fd
        obtain ⟨-, f0, f1, f2, -⟩ := fd
        have hdep : d1.depth < n ∧ d2.depth < n := by
          simp only [PyData.depth, PyData.depthAll] at hn
          omega
        refine ⟨x0, at0, x0, _, ⟨rfl, rfl⟩, _, _, .ty "str", h0.ty, _, kit_ty (kit_str h0), ?_⟩
        have er : relD l (.tuple [d0, d1, d2]) = (amongD l d0 && (isTD d1 && isTD d2)) := rfl
        rw [er] at q
        rw [er] at q0
        cases hs : isStrD d0 with
        | false =>
          rw [not_among hs] at q0
          exact iteY rfl q0
        | true =>
          refine iteN rfl ⟨a, rfl, _, .of e, x0, at0, l, hc, h0.thing, ?_⟩
          rw [h0.among]
          cases ha : amongD l d0 with
          | false =>
            rw [ha] at q0
            exact iteY rfl q0
          | true =>
            rw [ha] at q
            refine iteN rfl ⟨a, rfl, _, .of e, x1, at1, x1, d1, rfl, h1, f1, hdep.1, fun H1 s1 => ⟨_, rfl, ?_⟩⟩
            cases hi : isTD d1 with
            | false =>
              have q1 := q H1 s1
              rw [hi] at q1
              exact iteN rfl q1
            | true =>
              refine iteY rfl ⟨a, rfl, _, .of (s1 _ _ e), x2, at2, x2, d2, rfl, h2.same s1, f2, hdep.2, fun H2 s2 => ?_⟩
              have q1 := q H2 (s1.trans s2)
              rw [hi] at q1
              exact q1
      · refine iteY (by rw [decide_eq_false (by omega)]; rfl) ?_
        rw [show relD l (.tuple ds) = false by
          unfold relD
          split
          · next e1 =>
            cases e1
            exact absurd rfl hl
          · rfl] at q0
        exact q0
    | _ => exact iteY rfl q0
/-- [1 for one in ys if not is_term(one)]: how far it is -/
def LcI (H1 : Hp) (D : Addr) (ds : List PyData) (i : Nat) (H' : Hp) : Prop := Same H1 H' ∧ ∃ acc : List Int, H' D = some (.lst (acc.map V.int)) ∧ acc.length ≤ i ∧ acc.isEmpty = (ds.take i).all isTD
theorem dv_at {H : Hp} : ∀ {ys : List V} {ds : List PyData} {i : Nat} {x : V}, DvAll H ys ds → ys[i]? = some x → ∃ d, ds[i]? = some d ∧ Dv H x d
  | _, _, i, x, .nil, e => by simp at e
  | _, _, 0, x, .cons h _, e => ⟨_, rfl, by simp at e; exact e ▸ h⟩
  | _, _, i + 1, x, .cons _ t, e => by
    obtain ⟨d, e1, h⟩ := dv_at (i := i) t (by simpa using e)
    exact ⟨d, by simpa using e1, h⟩
theorem lc_turn {n i : Nat} {H1 H : Hp} {D : Addr} {ys : List V} {ds : List PyData} {x : V} (hy : DvAll H1 ys ds) (hd : ∀ d ∈ ds, fine d = true ∧ d.depth < n) (hl : ds.length ≤ 100000) (nD : H1 D = none) (hx : ys[i]? = some x) (h : LcI H1 D ds i H) :
    spLT n [x] H (fun y H2 => ∃ c, y = .bl c ∧ if (!c) = true then ∃ acc, H2 D = some (.lst acc) ∧ acc.length < sizeLine ∧ LcI H1 D ds (i + 1) (upd H2 D (.lst (acc ++ [.int 1]))) else LcI H1 D ds (i + 1) H2) E0 := by
  obtain ⟨s1, acc, ha, hi, hb⟩ := h
  obtain ⟨d, ed, hv⟩ := dv_at hy hx
  have md := List.mem_of_getElem? ed
  have li : i < ds.length := (List.getElem?_eq_some_iff.mp ed).1
  have et : ds.take (i + 1) = ds.take i ++ [d] := by rw [List.take_add_one, ed]; rfl
  refine ⟨x, d, rfl, hv.same s1, (hd d md).1, (hd d md).2, fun H2 s2 => ⟨_, rfl, ?_⟩⟩
  have ha2 := s2 _ _ ha
  cases ht : isTD d with
  | false =>
    refine iteY rfl ⟨_, ha2, line_le' (by rw [List.length_map]; omega), fun b o e => ?_, acc ++ [1], ?_, ?_, ?_⟩
    · rw [upd_ne (fun z => by rw [z, nD] at e; cases e)]
      exact s2 _ _ (s1 _ _ e)
    · rw [upd_same, List.map_append]
      rfl
    · rw [List.length_append]
      exact Nat.succ_le_succ hi
    · rw [et, List.all_append, List.all_cons, ht, Bool.false_and, Bool.and_false]
      cases acc <;> rfl
  | true =>
    refine iteN rfl ⟨s1.trans s2, acc, ha2, Nat.le_succ_of_le hi, ?_⟩
    rw [et, List.all_append, List.all_cons, ht, hb]
    simp
theorem lc_end {H1 H2 : Hp} {D : Addr} {ds : List PyData} {Q : VK} (h : LcI H1 D ds ds.length H2) (q : ∀ H', Same H1 H' → Q (.bl (ds.all isTD)) H') :
    0 ≤ sizeLine ∧ ∀ (p : Addr) (H' : Hp), Same H2 H' → H2 p = none → H' p = some (.lst []) → ∃ d, Dp K H' (.ref D) d ∧ ∃ x, Dp K H' (.ref p) x ∧ SeqAt.shaped d = true ∧ SeqAt.shaped x = true ∧ Q (.bl (d.eqv x)) H' := by
  obtain ⟨s1, acc, ha, -, hb⟩ := h
  refine ⟨Nat.zero_le _, fun p H' s2 _ hp => ⟨_, .lst (.of (s2 _ _ ha)) (dp_ints acc), _, .lst (.of hp) .nil, shaped_ints acc, rfl, ?_⟩⟩
  have e : PyData.eqv (.list (acc.map PyData.int)) (.list []) = ds.all isTD := by
    rw [List.take_length] at hb
    rw [← hb]
    cases acc <;> rfl
  rw [e]
  exact q H' (s1.trans s2)
def pairsL : List Str := ["and", "or", "xor", "times", "quot", "rest", "left", "right"]
def singlesL : List Str := ["not", "froze"]
theorem cnt_leaf {h : Str} (m : h ∈ leavesL) : cnt h = some 0 :=
  (show ∀ h ∈ leavesL, cnt h = some 0 by decide +kernel) h m
theorem cnt_flag {h : Str} (m : h ∈ flaggedL) : cnt h = some (if h = "twice" then 1 else 2) :=
  (show ∀ h ∈ flaggedL, cnt h = some (if h = "twice" then 1 else 2) by decide +kernel) h m
theorem cnt_pair {h : Str} (m : h ∈ pairsL) : cnt h = some 2 ∧ h ∉ singlesL :=
  (show ∀ h ∈ pairsL, cnt h = some 2 ∧ h ∉ singlesL by decide +kernel) h m
theorem cnt_single {h : Str} (m : h ∈ singlesL) : cnt h = some 1 :=
  (show ∀ h ∈ singlesL, cnt h = some 1 by decide +kernel) h m
theorem cnt_none {h : Str} (h1 : h ∉ leavesL) (h2 : ¬ h = "choice") (h3 : h ∉ flaggedL) (h4 : h ∉ pairsL) (h5 : h ∉ singlesL) : cnt h = none := by
  unfold cnt
  rw [Option.map_eq_none_iff, List.find?_eq_none]
  intro p hp e
  have e' : p.1 = h := by simpa using e
  have all := (show ∀ p ∈ cntL, p.1 ∈ leavesL ∨ p.1 = "choice" ∨ p.1 ∈ flaggedL ∨ p.1 ∈ pairsL ∨ p.1 ∈ singlesL by decide +kernel) p hp
  rw [e'] at all
  rcases all with z | z | z | z | z
  · exact h1 z
  · exact h2 z
  · exact h3 z
  · exact h4 z
  · exact h5 z
theorem eq_leaf {h : Str} {ds : List PyData} (h1 : h ∈ leavesL) : isTD (.tuple (.str h :: ds)) = (decide (ds.length = 1) && leafD h (ds.headD .none)) := by
  rw [isTD_eq, show shapeD (.tuple (.str h :: ds)) = shapeT h ds from rfl, show partsD (.tuple (.str h :: ds)) = partsT h ds from rfl]
  unfold shapeT partsT
  rw [cnt_leaf h1]
  simp only [h1, if_true, List.all_nil, Bool.and_true]
theorem eq_choice {ds : List PyData} : isTD (.tuple (.str "choice" :: ds)) = (decide (ds.length = 3) && (triD compL (ds.headD .none) && (behind (ds.headD .none) ++ ds.drop 1).all isTD)) := by
  rw [isTD_eq, show shapeD (.tuple (.str "choice" :: ds)) = shapeT "choice" ds from rfl, show partsD (.tuple (.str "choice" :: ds)) = partsT "choice" ds from rfl]
  unfold shapeT partsT
  rw [show cnt "choice" = some 4 by decide +kernel]
  simp only [show ¬ (Str.ofString "choice") ∈ leavesL by decide +kernel, if_false, if_true, Bool.and_assoc]
theorem eq_flag {h : Str} {ds : List PyData} (h1 : h ∉ leavesL) (h2 : ¬ h = "choice") (h3 : h ∈ flaggedL) : isTD (.tuple (.str h :: ds)) = (decide ((ds.length : Int) = 1 + (if h = "twice" then 1 else 2)) && (amongD flagsL (ds.headD .none) && (ds.drop 1).all isTD)) := by
  rw [isTD_eq, show shapeD (.tuple (.str h :: ds)) = shapeT h ds from rfl, show partsD (.tuple (.str h :: ds)) = partsT h ds from rfl]
  unfold shapeT partsT
  rw [cnt_flag h3]
  simp only [h1, h2, h3, if_false, if_true, Bool.and_assoc]
theorem eq_other {h : Str} {ds : List PyData} (h1 : h ∉ leavesL) (h2 : ¬ h = "choice") (h3 : h ∉ flaggedL) :
    isTD (.tuple (.str h :: ds)) = (decide (0 < (2 * (if decide (h ∈ pairsL) = true then (1 : Int) else 0) + if decide (h ∈ singlesL) = true then 1 else 0)) && (decide (((ds.length : Int) + 1) = (2 * (if decide (h ∈ pairsL) = true then (1 : Int) else 0) + if decide (h ∈ singlesL) = true then 1 else 0) + 1) && ds.all isTD)) := by
  rw [isTD_eq, show shapeD (.tuple (.str h :: ds)) = shapeT h ds from rfl, show partsD (.tuple (.str h :: ds)) = partsT h ds from rfl]
  unfold shapeT partsT
  simp only [h1, h2, h3, if_false]
  by_cases h4 : h ∈ pairsL
  · obtain ⟨e, h5⟩ := cnt_pair h4
    simp [e, h4, h5]
    rw [show decide ((ds.length : Int) = 2) = decide ((ds.length : Int) + 1 = 3) by rw [Bool.eq_iff_iff, decide_eq_true_eq, decide_eq_true_eq]; omega]
  · by_cases h5 : h ∈ singlesL
    · simp [cnt_single h5, h4, h5]
      rw [show decide ((ds.length : Int) = 1) = decide ((ds.length : Int) + 1 = 2) by rw [Bool.eq_iff_iff, decide_eq_true_eq, decide_eq_true_eq]; omega]
    · simp [cnt_none h1 h2 h3 h4 h5, h4, h5]
theorem rel_eq (d1 d2 d3 : PyData) : (triD compL d1 && (behind d1 ++ [d2, d3]).all isTD) = (relD compL d1 && (isTD d2 && isTD d3)) := by
  unfold triD relD
  split
  · next h a b => simp [behind, Bool.and_assoc]
  · next ne =>
    rw [Bool.false_and]
    first
      | rfl
      | (split <;> first | rfl | exact absurd rfl (ne _ _ _))
theorem depth_mem : ∀ {l : List PyData} {p : PyData}, p ∈ l → p.depth ≤ PyData.depthAll l
  | x :: l, p, h => by
    simp only [PyData.depthAll]
    rcases List.mem_cons.mp h with rfl | h
    · omega
    · have := depth_mem h
      omega
abbrev s__law_is_term : Stmt := top 33
theorem sc__law_is_term : FnScope ["_law_it", "_law_word", "_law_long", "_law_good", "_law_part", "_law_pairs", "_law_many"] ["_law_it"] (defScope s__law_is_term) := ⟨rfl, rfl, rfl, by decide +kernel, rfl, by decide +kernel, by decide +kernel⟩
set_option format.width 500 in
set_option format.indent 0 in
set_option pp.deepTerms true in
set_option pp.maxSteps 200000 in
theorem st__law_is_term {f : Addr} {fd : FuncData} {n k : Nat} (hk : 3 ≤ k) (D : Df K mg "_law_is_term" s__law_is_term f fd) (T : Tx K mg) (c__law_is_name : Cal P w K mg base "_law_is_name" ["_law_it"] 2 (spLawIsName K)) (c__law_is_num : Cal P w K mg base "_law_is_num" ["_law_it"] 1 spNumD)
    (c__law_is_term : Cal P w K mg base "_law_is_term" ["_law_it"] k (spLT n)) (c__law_is_related : Cal P w K mg base "_law_is_related" ["_law_it", "_law_relations"] (k + 1) (spRel K n)) : Cal P w K mg base "_law_is_term" ["_law_it"] (k + 2) (spLT (n + 1)) := by
  refine D.cal sc__law_is_term (fun vs H Q E h => ?_) (fun _ _ _ _ _ _ us hl => match us, hl with | [_], _ => rfl) (fun cdv A outer s H vs Q E hgu hr h => ?_)
  · obtain ⟨x, d, rfl, _⟩ := h
    rfl
  · obtain ⟨x, d, rfl, hd, fd, hn, q⟩ := h
    refine ⟨_, (pss_cons (ps_if (PW.pt (pw_or (pt_not (pt_val (pe_callB (aIsi (K := K) rfl) (by rfl) T.isinstance (by decide +kernel) (pa_cons (pv 0) (pa_cons (pe_bltn (v := .ty "tuple") (by rfl) T.tuple (by decide +kernel) rfl) pa_nil))))) (pw_or (pt_cmpR (aEqE (K := K) rfl hr.units) (pv 0) (pe_tupU pa_nil) (by rfl)) (pw_or1 (pt_not (pt_val (pe_callB (aIsi (K := K) rfl) (by rfl) T.isinstance (by decide +kernel) (pa_cons (pe_ix (aIxT (K := K) rfl) (pv 0) pe_int (fun _ _ => rfl)) (pa_cons (pe_bltn (v := .ty "str") (by rfl) T.str (by decide +kernel) rfl) pa_nil))))))))) (pss_one (ps_ret pe_bl)) pss_nil) (pss_cons (ps_par (i := 1) (j := 2) (by rfl) sc__law_is_term.nd rfl rfl (by decide) rfl rfl (pa_cons (pe_ix (aIxT (K := K) rfl) (pv 0) pe_int (fun _ _ => rfl)) (pa_cons (pe_callB (aLenSeq (K := K) rfl) (by rfl) T.len (by decide +kernel) (pa_cons (pv 0) pa_nil)) pa_nil)) (by rfl)) (pss_cons (ps_if (pt_cmpR (aInT (K := K) rfl hr.units) (pv 1) (pe_tupU (pa_cons pe_str (pa_cons pe_str (pa_cons pe_str pa_nil)))) (by rfl)) (pss_one (ps_ret (pe_and (pe_cmpR op_eq (pv 2) pe_int (by rfl)) (pe_one (pe_ifExp (pt_cmpR op_eq (pv 1) pe_str (by rfl)) (pe_cal c__law_is_num hgu (hr.mono (by omega)) (by rfl) (pa_cons (pe_ix (aIxT (K := K) rfl) (pv 0) pe_int (fun _ _ => rfl)) pa_nil)) (pe_cal c__law_is_name hgu (hr.mono (by omega)) (by rfl) (pa_cons (pe_ix (aIxT (K := K) rfl) (pv 0) pe_int (fun _ _ => rfl)) pa_nil))))))) pss_nil) (pss_cons (ps_if (pt_cmpR op_eq (pv 1) pe_str (by rfl)) (pss_cons (ps_set (i := 3) sc__law_is_term.nd rfl (by first | exact Or.inl rfl | exact Or.inr rfl) (pe_and (pe_cmpR op_eq (pv 2) pe_int (by rfl)) (pe_one (pe_cal c__law_is_related hgu (hr.mono (by omega)) (by rfl) (pa_cons (pe_ix (aIxT (K := K) rfl) (pv 0) pe_int (fun _ _ => rfl)) (pa_cons (pe_tupU (pa_cons pe_str (pa_cons pe_str (pa_cons pe_str pa_nil)))) pa_nil)))))) (pss_one (ps_ret (pe_and (pv 3) (pe_and (pe_cal c__law_is_term hgu (hr.mono (by omega)) (by rfl) (pa_cons (pe_ix (aIxT (K := K) rfl) (pv 0) pe_int (fun _ _ => rfl)) pa_nil)) (pe_one (pe_cal c__law_is_term hgu (hr.mono (by omega)) (by rfl) (pa_cons (pe_ix (aIxT (K := K) rfl) (pv 0) pe_int (fun _ _ => rfl)) pa_nil)))))))) pss_nil) (pss_cons (ps_if (pt_cmpR (aInT (K := K) rfl hr.units) (pv 1) (pe_tupU (pa_cons pe_str (pa_cons pe_str (pa_cons pe_str pa_nil)))) (by rfl)) (pss_cons (ps_if (PW.pt (pw_or (pt_cmpR op_ne (pv 2) (pe_op op_sub pe_int (pe_callTy aIntB (by rfl) T.int (by decide +kernel) (pa_cons (pe_cmpR op_eq (pv 1) pe_str (by rfl)) pa_nil))) (by rfl)) (pw_or (pt_not (pt_val (pe_callB (aIsi (K := K) rfl) (by rfl) T.isinstance (by decide +kernel) (pa_cons (pe_ix (aIxT (K := K) rfl) (pv 0) pe_int (fun _ _ => rfl)) (pa_cons (pe_bltn (v := .ty "str") (by rfl) T.str (by decide +kernel) rfl) pa_nil))))) (pw_or1 (pt_cmpR (aNotInT (K := K) rfl hr.units) (pe_ix (aIxT (K := K) rfl) (pv 0) pe_int (fun _ _ => rfl)) (pe_tupU (pa_cons pe_str (pa_cons pe_str (pa_cons pe_str (pa_cons pe_str pa_nil))))) (by rfl)))))) (pss_one (ps_ret pe_bl)) pss_nil) (pss_one (ps_ret (pe_cmpR (aEqD (K := K) rfl hr.units) (pe_lc (own := [("_law_part", 4)]) (g := gName 4) (tt := _) (by rfl) sc__law_is_term.nd (aWalkT (K := K) rfl (pe_slice (aSlU (K := K) rfl) (pv 0) (po_some pe_int) po_none)) (blkOk_by (own := [("_law_part", 4)]) (N := ["_law_it", "_law_word", "_law_long", "_law_good", "_law_part", "_law_pairs", "_law_many"]) (sc := defScope s__law_is_term) (by decide +kernel)) (fun _ _ _ _ _ => (pg_name (i := 4) sc__law_is_term.nd rfl (Or.inl rfl))) (fun _ _ _ _ _ => (pts_one (pt_not (pt_val (pe_cal c__law_is_term hgu (hr.mono (by omega)) (by rfl) (pa_cons (pv 4) pa_nil)))))) (fun _ _ _ _ _ => pe_int)) (pe_lstU pa_nil) (by rfl))))) pss_nil) (pss_cons (ps_set (i := 5) sc__law_is_term.nd rfl (by first | exact Or.inl rfl | exact Or.inr rfl) (pe_tupU (pa_cons pe_str (pa_cons pe_str (pa_cons pe_str (pa_cons pe_str (pa_cons pe_str (pa_cons pe_str (pa_cons pe_str (pa_cons pe_str pa_nil)))))))))) (pss_cons (ps_set (i := 6) sc__law_is_term.nd rfl (by first | exact Or.inl rfl | exact Or.inr rfl) (pe_op op_add (pe_op op_mul pe_int (pe_callTy aIntB (by rfl) T.int (by decide +kernel) (pa_cons (pe_cmpR (aInT (K := K) rfl hr.units) (pv 1) (pv 5) (by rfl)) pa_nil))) (pe_callTy aIntB (by rfl) T.int (by decide +kernel) (pa_cons (pe_cmpR (aInT (K := K) rfl hr.units) (pv 1) (pe_tupU (pa_cons pe_str (pa_cons pe_str pa_nil))) (by rfl)) pa_nil)))) (pss_one (ps_ret (pe_and (pe_cmpR op_gt (pv 6) pe_int (by rfl)) (pe_and (pe_cmpR op_eq (pv 2) (pe_op op_add (pv 6) pe_int) (by rfl)) (pe_one (pe_cmpR (aEqD (K := K) rfl hr.units) (pe_lc (own := [("_law_part", 4)]) (g := gName 4) (tt := _) (by rfl) sc__law_is_term.nd (aWalkT (K := K) rfl (pe_slice (aSlU (K := K) rfl) (pv 0) (po_some pe_int) po_none)) (blkOk_by (own := [("_law_part", 4)]) (N := ["_law_it", "_law_word", "_law_long", "_law_good", "_law_part", "_law_pairs", "_law_many"]) (sc := defScope s__law_is_term) (by decide +kernel)) (fun _ _ _ _ _ => (pg_name (i := 4) sc__law_is_term.nd rfl (Or.inl rfl))) (fun _ _ _ _ _ => (pts_one (pt_not (pt_val (pe_cal c__law_is_term hgu (hr.mono (by omega)) (by rfl) (pa_cons (pv 4) pa_nil)))))) (fun _ _ _ _ _ => pe_int)) (pe_lstU pa_nil) (by rfl)))))))))))))), ?_⟩
    walk_at "rq"
    refine ⟨x, _, ⟨rfl, rfl⟩, _, _, .ty "tuple", hd.ty, _, kit_ty (kit_tup hd), ?_⟩
    have q0 := q H (Same.refl H)
    cases hd with
    | @tup a xs ds e hx =>
      refine iteN rfl ⟨Nat.zero_le _, fun p H1 s1 _ hp1 => ⟨a, rfl, xs, .of (s1 _ _ e), .of hp1, ?_⟩⟩
      have ex := hx.len
      have e1 := s1 _ _ e
      cases hx with
      | nil =>
        have q1 := q H1 s1
        rw [isTD_eq, show shapeD _ = false from rfl, Bool.false_and] at q1
        exact iteY rfl q1
      | @cons v xs d ds h0 hx =>
        have ex : xs.length = ds.length := hx.len
        simp only [fine, fineL, Bool.and_eq_true] at fd
        obtain ⟨hl1000, f0, fr⟩ := fd
        rw [decide_eq_true_eq] at hl1000
        have hdep : ∀ y ∈ ds, y.depth < n := fun y hy => by
          have h1 := depth_mem hy
          simp only [PyData.depth, PyData.depthAll] at hn
          omega
        have h0' := h0.same s1
        refine iteN rfl ⟨a, rfl, _, .of e1, v, at0, v, _, ⟨rfl, rfl⟩, _, _, .ty "str", h0'.ty, _, kit_ty (kit_str h0'), ?_⟩
        cases h0 with
        | str h =>
          refine iteN rfl ⟨a, rfl, _, .of e1, .str h, at0, a, rfl, _, .inr (.of e1), _, _, ⟨rfl, rfl⟩, line_le' (by decide), fun p2 H2 s2 _ hp2 => ⟨leavesL, .of hp2, trivial, ?_⟩⟩
          have s12 := s1.trans s2
          have e2 := s2 _ _ e1
          have q2 := q H2 s12
          by_cases h1 : h ∈ leavesL
          · refine iteY (decide_eq_true h1) ?_
            rw [rEq_int]
            refine ⟨_, rfl, ?_⟩
            by_cases hl : ds.length = 1
            · refine iteY (decide_eq_true (by simp only [List.length_cons]; omega)) ?_
              rw [rEq_str]
              refine ⟨_, rfl, ?_⟩
              obtain ⟨x1, d1, rfl, rfl, hv⟩ := all1 hx hl
              have f1 : fine d1 = true := by
                simp only [fineL, Bool.and_eq_true] at fr
                exact fr.1
              have es : isTD (.tuple [.str h, d1]) = leafD h d1 := eq_leaf h1
              by_cases hn' : h = "num"
              · refine iteY (decide_eq_true hn') ⟨a, rfl, _, .of e2, x1, at1, x1, d1, rfl, hv.same s12, ?_⟩
                rw [es, leafD, if_pos hn'] at q2
                exact q2
              · refine iteN (decide_eq_false hn') ⟨a, rfl, _, .of e2, x1, at1, x1, rfl, (hv.same s12).kind f1, fun H3 s3 => ?_⟩
                have q3 := q H3 (s12.trans s3)
                rw [es, leafD, if_neg hn', ← hv.name] at q3
                exact q3
            · refine iteN (decide_eq_false (by simp only [List.length_cons]; omega)) ?_
              rw [eq_leaf h1, decide_eq_false hl] at q2
              exact q2
          · refine iteN (decide_eq_false h1) ?_
            rw [rEq_str]
            refine ⟨_, rfl, ?_⟩
            by_cases h2 : h = "choice"
            · refine iteY (decide_eq_true h2) ?_
              subst h2
              rw [rEq_int]
              refine ⟨_, rfl, ?_⟩
              by_cases hl : ds.length = 3
              · refine iteY (decide_eq_true (by simp only [List.length_cons]; omega)) ?_
                obtain ⟨x1, x2, x3, d1, d2, d3, rfl, rfl, v1, v2, v3⟩ := all3 hx hl
                have es : isTD (.tuple [.str "choice", d1, d2, d3]) = (relD compL d1 && (isTD d2 && isTD d3)) := by
                  rw [← rel_eq]
                  exact eq_choice
                have fr' : fine d1 = true ∧ fine d2 = true ∧ fine d3 = true := by
                  simp only [fineL, Bool.and_eq_true] at fr
                  exact ⟨fr.1, fr.2.1, fr.2.2.1⟩
                have dp : d1.depth ≤ n ∧ d2.depth < n ∧ d3.depth < n := by
                  simp only [PyData.depth, PyData.depthAll] at hn
                  omega
                refine ⟨a, rfl, _, .of e2, x1, at1, line_le' (by decide), fun p3 H3 s3 _ hp3 => ?_⟩
                refine ⟨x1, d1, p3, compL, rfl, v1.same (s12.trans s3), fr'.1, dp.1, .of hp3, fun H4 s4 => ⟨_, rfl, ?_⟩⟩
                have s14 := (s12.trans s3).trans s4
                cases c1 : relD compL d1 with
                | false =>
                  have q4 := q H4 s14
                  rw [es, c1] at q4
                  exact iteN rfl q4
                | true =>
                  refine iteY rfl ⟨a, rfl, _, .of (s14 _ _ e), x2, at2, x2, d2, rfl, v2.same s14, fr'.2.1, dp.2.1, fun H5 s5 => ⟨_, rfl, ?_⟩⟩
                  have s15 := s14.trans s5
                  cases c2 : isTD d2 with
                  | false =>
                    have q5 := q H5 s15
                    rw [es, c1, c2] at q5
                    exact iteN rfl q5
                  | true =>
                    refine iteY rfl ⟨a, rfl, _, .of (s15 _ _ e), x3, at3, x3, d3, rfl, v3.same s15, fr'.2.2, dp.2.2, fun H6 s6 => ?_⟩
                    have q6 := q H6 (s15.trans s6)
                    rw [es, c1, c2] at q6
                    exact q6
              · refine iteN (decide_eq_false (by simp only [List.length_cons]; omega)) ?_
                rw [eq_choice, decide_eq_false hl] at q2
                exact q2
            · refine iteN (decide_eq_false h2) ⟨line_le' (by decide), fun p3 H3 s3 _ hp3 => ⟨flaggedL, .of hp3, trivial, ?_⟩⟩
              by_cases h3 : h ∈ flaggedL
              · refine iteY (decide_eq_true h3) ?_
                rw [rEq_str]
                refine ⟨_, rfl, ?_⟩
                rw [rNe_int]
                refine ⟨_, rfl, ?_⟩
                have s13 := s12.trans s3
                have e3 := s13 _ _ e
                have q3 := q H3 s13
                rw [eq_flag h1 h2 h3] at q3
                have el : decide (((V.str h :: xs).length : Int) = 4 - if decide (h = "twice") = true then 1 else 0) = decide ((ds.length : Int) = 1 + (if h = "twice" then 1 else 2)) := by
                  rw [Bool.eq_iff_iff]
                  by_cases ht : h = "twice"
                  · simp only [ht, decide_true, if_true, decide_eq_true_eq, List.length_cons, ex]
                    omega
                  · simp only [ht, decide_false, Bool.false_eq_true, if_false, decide_eq_true_eq, List.length_cons, ex]
                    omega
                cases hl : decide ((ds.length : Int) = 1 + (if h = "twice" then 1 else 2)) with
                | false =>
                  refine iteY (by rw [el, hl]; rfl) ?_
                  rw [hl] at q3
                  exact q3
                | true =>
                  refine iteN (by rw [el, hl]; rfl) ?_
                  rw [hl] at q3
                  cases hx with
                  | nil =>
                    rw [decide_eq_true_eq] at hl
                    split at hl <;> simp at hl
                  | @cons x1 xs d1 ds hv hx =>
                    simp only [fineL, Bool.and_eq_true] at fr
                    have hv3 := hv.same s13
                    refine ⟨a, rfl, _, .of e3, x1, at1, x1, _, ⟨rfl, rfl⟩, _, _, .ty "str", hv3.ty, _, kit_ty (kit_str hv3), ?_⟩
                    cases hs : isStrD d1 with
                    | false =>
                      rw [show (d1 :: ds).headD PyData.none = d1 from rfl, not_among hs] at q3
                      exact iteY rfl q3
                    | true =>
                      refine iteN rfl ⟨a, rfl, _, .of e3, x1, at1, line_le' (by decide), fun p4 H4 s4 _ hp4 => ⟨flagsL, .of hp4, (hv3.same s4).thing, ?_⟩⟩
                      rw [hv.among]
                      cases hm : amongD flagsL d1 with
                      | false =>
                        have q4 := q H4 (s13.trans s4)
                        rw [eq_flag h1 h2 h3, hl, show (d1 :: ds).headD PyData.none = d1 from rfl, hm] at q4
                        exact iteY rfl q4
                      | true =>
                        refine iteN rfl ?_
                        have s14 := s13.trans s4
                        refine ⟨.ref a, rfl, 2, rfl, a, _, rfl, .of (s14 _ _ e), fun p5 H5 s5 hp5 => ⟨p5, rfl, ?_⟩⟩
                        have hp5 : SqT K H5 p5 xs := by
                          rw [cutV2] at hp5
                          exact hp5
                        have s15 := s14.trans s5
                        have hlen : ds.length ≤ 100000 := by
                          have := hx.len
                          simp only [List.length_cons] at hl1000
                          omega
                        have hok : ∀ d ∈ ds, fine d = true ∧ d.depth < n := fun d md => ⟨fineL_mem fr.2 md, hdep d (by simp [md])⟩
                        refine ⟨⟨_, hp5⟩, fun D hD => lc_steps (steps_tup K p5 xs) (LcI H5 D ds) ⟨same_upd hD, [], upd_same, Nat.le_refl _, rfl⟩ (fun i H6 _ h => Same.seqT h.1 hp5) ?_ ?_⟩
                        · intro i y H6 hy h
                          refine ⟨rfl, ?_⟩
                          walk_at "rq"
                          exact ⟨y, rfl, lc_turn (hx.same s15) hok hlen hD hy h⟩
                        · intro H6 h
                          refine lc_end (hx.len ▸ h) fun H7 s7 => ?_
                          have q7 := q H7 (s15.trans s7)
                          rw [eq_flag h1 h2 h3, hl, show (d1 :: ds).headD PyData.none = d1 from rfl, hm] at q7
                          exact q7
              · refine iteN (decide_eq_false h3) ⟨line_le' (by decide), fun p4 H4 s4 _ hp4 => ⟨pairsL, .of hp4, trivial, .inl ⟨by decide, by decide⟩, line_le' (by decide), fun p6 H5 s5 _ hp6 => ⟨singlesL, .of hp6, trivial, ?_⟩⟩⟩
                have s15 := ((s12.trans s3).trans s4).trans s5
                have es := eq_other (ds := ds) h1 h2 h3
                have q5 := q H5 s15
                have efl : (((V.str h :: xs).length : Nat) : Int) = (ds.length : Int) + 1 := by
                  show ((xs.length + 1 : Nat) : Int) = _
                  rw [hx.len]
                  rfl
                rw [show V.int ((V.str h :: xs).length : Nat) = V.int ((ds.length : Int) + 1) from congrArg V.int efl]
                show if decide (0 < (2 * (if decide (h ∈ pairsL) = true then (1 : Int) else 0) + if decide (h ∈ singlesL) = true then 1 else 0)) = true then _ else _
                generalize hM : ((2 * (if decide (h ∈ pairsL) = true then (1 : Int) else 0) + if decide (h ∈ singlesL) = true then 1 else 0)) = M at es ⊢
                rw [es] at q5
                cases c1 : decide (0 < M) with
                | false =>
                  rw [c1] at q5
                  exact iteN rfl q5
                | true =>
                  refine iteY rfl ?_
                  show rEq (.int ((ds.length : Int) + 1)) (.int ((2 * (if decide (h ∈ pairsL) = true then (1 : Int) else 0) + if decide (h ∈ singlesL) = true then 1 else 0) + 1)) H5 _
                  rw [rEq_int, hM]
                  refine ⟨_, rfl, ?_⟩
                  cases c2 : decide ((ds.length : Int) + 1 = M + 1) with
                  | false =>
                    rw [c1, c2] at q5
                    exact iteN rfl q5
                  | true =>
                    refine iteY rfl ?_
                    have hp7 : SqT K H5 a (V.str h :: xs) := .of (s15 _ _ e)
                    refine ⟨.ref a, rfl, 1, rfl, a, _, rfl, hp7, fun p5 H6 s6 hp5 => ⟨p5, rfl, ?_⟩⟩
                    have hp5 : SqT K H6 p5 xs := by
                      rw [cutV1] at hp5
                      exact hp5
                    have s16 := s15.trans s6
                    have hlen : ds.length ≤ 100000 := by
                      simp only [List.length_cons] at hl1000
                      omega
                    have hok : ∀ d ∈ ds, fine d = true ∧ d.depth < n := fun d md => ⟨fineL_mem fr md, hdep d md⟩
                    refine ⟨⟨_, hp5⟩, fun D hD => lc_steps (steps_tup K p5 xs) (LcI H6 D ds) ⟨same_upd hD, [], upd_same, Nat.le_refl _, rfl⟩ (fun i H6 _ h => Same.seqT h.1 hp5) ?_ ?_⟩
                    · intro i y H6 hy h
                      refine ⟨rfl, ?_⟩
                      exact ⟨y, rfl, lc_turn (hx.same s16) hok hlen hD hy h⟩
                    · intro H8 h
                      refine lc_end (hx.len ▸ h) fun H7 s7 => ?_
                      have q7 := q H7 (s16.trans s7)
                      rw [es, c1, c2] at q7
                      exact q7
        | _ =>
          have q1 := q H1 s1
          rw [isTD_eq, show shapeD _ = false from rfl, Bool.false_and] at q1
          exact iteY rfl q1
    | _ =>
      rw [isTD_eq, show shapeD _ = false from rfl, Bool.false_and] at q0
      exact iteY rfl q0
/-- the law's own is_term, at each level -/
theorem ok__law_is_term {f1 f2 : Addr} {fd1 fd2 : FuncData} (D1 : Df K mg "_law_is_term" s__law_is_term f1 fd1) (D2 : Df K mg "_law_is_related" s__law_is_related f2 fd2) (T : Tx K mg) (c__law_is_name : Cal P w K mg base "_law_is_name" ["_law_it"] 2 (spLawIsName K)) (c__law_is_num : Cal P w K mg base "_law_is_num" ["_law_it"] 1 spNumD) :
    ∀ n : Nat, Cal P w K mg base "_law_is_term" ["_law_it"] (2 * n + 3) (spLT n)
  | 0 => D1.cal (k := 2) sc__law_is_term (fun vs H Q E h => by
      obtain ⟨x, d, rfl, _⟩ := h
      rfl) (fun _ _ _ _ _ _ us hl => match us, hl with | [_], _ => rfl) (fun cdv A outer s H vs Q E hgu hr h => by
      obtain ⟨x, d, _, _, _, hn, _⟩ := h
      exact absurd hn (Nat.not_lt_zero _))
  | n + 1 => by
    have c := ok__law_is_term D1 D2 T c__law_is_name c__law_is_num n
    exact st__law_is_term (k := 2 * n + 3) (by omega) D1 T c__law_is_name c__law_is_num c (ok__law_is_related D2 T c)
end
end Vf
namespace Vf
open PySem L2 PyProof.Rows PySem.Spec
/-! ## a part of the heap, without the deck; what grows beside draws -/
structure Pt (d c : Addr) (H G : Hp) : Prop where
  deck : Deck H d c
  sub : Same G H
  nd : G d = none
  nc : G c = none
structure GD (d c : Addr) (H G H' G' : Hp) : Prop where
  to : Pt d c H' G'
  big : Sv d c H H'
  part : Same G G'
  only : Only H G G'
theorem Deck.has {d c : Addr} {H : Hp} (k : Deck H d c) : H d ≠ none ∧ H c ≠ none := by
  obtain ⟨_, ⟨t, n, hd⟩, ⟨ns, hc, _⟩⟩ := k
  rw [hd, hc]
  exact ⟨nofun, nofun⟩
theorem Pt.keep {d c : Addr} {H G H' : Hp} (P : Pt d c H G) (v : Sv d c H H') (k : Deck H' d c) : GD d c H G H' G :=
  ⟨⟨k, fun b o e => v b o (P.sub b o e) (fun z => by rw [z, P.nd] at e; cases e) (fun z => by rw [z, P.nc] at e; cases e), P.nd, P.nc⟩, v, Same.refl G, Only.refl H G⟩
theorem Pt.refl {d c : Addr} {H G : Hp} (P : Pt d c H G) : GD d c H G H G := P.keep (Sv.refl d c H) P.deck
theorem Pt.same {d c : Addr} {H G H' : Hp} (P : Pt d c H G) (s : Same H H') : GD d c H G H' G := P.keep (Same.sv s) (P.deck.same s)
theorem Pt.grow {d c : Addr} {H G H' G' : Hp} (P : Pt d c H G) (g : Grow H G H' G') : GD d c H G H' G' :=
  ⟨⟨P.deck.same g.big, g.sub, g.only d P.deck.has.1 P.nd, g.only c P.deck.has.2 P.nc⟩, Same.sv g.big, g.part, g.only⟩
theorem GD.trans {d c : Addr} {H G H1 G1 H2 G2 : Hp} (a : GD d c H G H1 G1) (b : GD d c H1 G1 H2 G2) : GD d c H G H2 G2 := by
  refine ⟨b.to, a.big.trans b.big, a.part.trans b.part, fun x h1 h2 => b.only x (fun z => ?_) (a.only x h1 h2)⟩
  exact h1 (a.big.free a.to.deck z)
/-- a new thing, in the part -/
theorem Pt.at_ {d c p : Addr} {H G H' : Hp} {o : HO} (P : Pt d c H G) (s : Same H H') (n : H p = none) (e : H' p = some o) : GD d c H G H' (upd G p o) := by
  refine P.grow ⟨s, same_upd (P.sub.free n), fun b u eb => ?_, fun b h1 h2 => ?_⟩
  · by_cases hb : b = p
    · subst hb
      rw [upd_same] at eb
      rw [e]
      exact eb
    · rw [upd_ne hb] at eb
      exact s _ _ (P.sub _ _ eb)
  · rw [upd_ne fun z => h1 (by rw [z]; exact n)]
    exact h2
/-- a thing outside of the part is set -/
theorem Pt.set {d c p : Addr} {H G : Hp} {o : HO} (P : Pt d c H G) (n : G p = none) (n1 : p ≠ d) (n2 : p ≠ c) : Pt d c (upd H p o) G :=
  ⟨P.deck.off n1 n2, fun b u e => by
    rw [upd_ne fun z => by rw [z, n] at e; cases e]
    exact P.sub b u e, P.nd, P.nc⟩
theorem GD.setp {d c p : Addr} {H G H1 G1 : Hp} {o : HO} (a : GD d c H G H1 G1) (n : H p = none) (ng : G1 p = none) (n1 : p ≠ d) (n2 : p ≠ c) : GD d c H G (upd H1 p o) G1 :=
  ⟨a.to.set ng n1 n2, fun b u e nb nc => by
    rw [upd_ne fun z => by rw [z, n] at e; cases e]
    exact a.big b u e nb nc, a.part, a.only⟩
/-- a new thing is taken into the part -/
theorem GD.inc {d c p : Addr} {H G H' G' : Hp} {o : HO} (g : GD d c H G H' G') (n : H p = none) (ng : G' p = none) (e : H' p = some o) (n1 : p ≠ d) (n2 : p ≠ c) : GD d c H G H' (upd G' p o) := by
  refine ⟨⟨g.to.deck, fun b u eb => ?_, by rw [upd_ne n1.symm]; exact g.to.nd, by rw [upd_ne n2.symm]; exact g.to.nc⟩, g.big, g.part.trans (same_upd ng), fun b h1 h2 => ?_⟩
  · by_cases hb : b = p
    · subst hb
      rw [upd_same] at eb
      rw [e]
      exact eb
    · rw [upd_ne hb] at eb
      exact g.to.sub _ _ eb
  · rw [upd_ne fun z => h1 (by rw [z]; exact n)]
    exact g.only b h1 h2
/-- data that was made -/
def Gen (Wt Dp : Nat) (d c : Addr) (H G : Hp) (Q : VK) : Prop := ∀ (x : V) (dd : PyData) (H' G' : Hp), GD d c H G H' G' → Dv G' x dd → Gd 99 Wt Dp dd → isTD dd = true → Q x H'
theorem Dv.off {d c : Addr} {H G : Hp} {x : V} {dd : PyData} (P : Pt d c H G) (h : Dv G x dd) : Dv H x dd := h.same P.sub
theorem SqL.off {K : PySem.W.Frag} {d c l : Addr} {H G : Hp} {xs : List V} (P : Pt d c H G) (h : SqL K G l xs) : SqL K H l xs := P.sub.seq h
/-- a row of statements, the rest held back -/
theorem seq_cut {t u : TS} {D : Ends} {σ : L2.St} {H : Hp} (h : ∀ u', u' = u → tSeq t u' D σ H) : tSeq t u D σ H := h u rfl
end Vf
namespace Vf
open PySem L2 PyProof.Rows PySem.Spec

local macro_rules | `(tactic| walk_at "rd") => `(tactic| simp only [tSeq, tIfS, tOr, tAnd, tNot, tB, tTest, tChain, tCB, tCons, tNil, tVar, tC, tRet, tAndV, tOrV, tNotV, tOp, tNext, tDrop, tAsg, tPar, tYes, tIf, tCall, tCalK, tTup, tLst, tSl, tNoPart, tPart, tM0, tM1, tRevL, tBM0, tBM, gName, rI0, rI, rU, rInA, rEqA, rAddA, rMulA, rSlAny, iAny, rIsi, rAll, rAny, rSum, rList, rTuple, rLen, rLenS, rLenSeq, rMulS, CDiv, rIn, rEqD, rNeD, iList, iTup, iStr, rCat, rCatA, rSlL, rSlA, rSlS, gSub, rPop, rAppend, rSetL, rIx, rIxL, rIxT, rIxS, LenV,
  L2.start, List.map_cons, List.map_nil, List.length_cons, List.length_nil, List.cons_append, List.nil_append, List.append_nil, Nat.zero_add, Nat.add_sub_cancel, Nat.sub_self, List.replicate_succ, List.replicate_zero, List.getElem?_cons_zero, List.getElem?_cons_succ, List.set_cons_zero, List.set_cons_succ,
  Option.some.injEq, V.int.injEq, V.str.injEq, V.bl.injEq, V.ref.injEq, List.cons.injEq, and_true, true_and, exists_eq_left', exists_eq_left, exists_eq_right, exists_and_left, exists_and_right, false_or, or_false, reduceCtorEq, false_and, and_false, exists_false, Bool.not_true, Bool.not_false, if_true, if_false, Bool.false_eq_true, ite_true, ite_false])
local macro_rules | `(tactic| walk_at "rq") => `(tactic| (walk_at "rd"; (try simp only [rEq_int, rEq_str, rNe_int, tUn, rU, tC, rInT, rInK, rIxK, rExtendT, rSlU, rCatU, rEqE, rIntB, tTupU, tLstU, V.int.injEq, V.str.injEq, V.bl.injEq, V.ref.injEq, exists_eq_left', exists_eq_left, Bool.false_bne, Bool.false_xor, Bool.true_xor]); (try walk_at "rd")))
section
variable {P : Program} {w : World} {K : PySem.W.Frag} {mg : Str → Option Value} {base : Heap}
def spPickL (K : PySem.W.Frag) : Sp := fun vs H Q _ => ∃ (d c l : Addr) (G : Hp) (xs : List V), vs = [.ref d, .ref l] ∧ Pt d c H G ∧ SqL K G l xs ∧ 0 < xs.length ∧ xs.length ≤ 1000 ∧ ∀ (x : V) (H' : Hp), x ∈ xs → GD d c H G H' G → Q x H'
theorem ok__law_pickL {f : Addr} {fd : FuncData} (D : Df K mg "_law_pick" s__law_pick f fd) (T : Tx K mg) (c__law_draw : Cal P w K mg base "_law_draw" ["_law_deck_here", "_law_many"] 1 spDraw) : Cal P w K mg base "_law_pick" ["_law_deck_here", "_law_some"] 2 (spPickL K) := by
  refine D.cal sc__law_pick (fun vs H Q E h => ?_) (fun _ _ _ _ _ _ us hl => match us, hl with | [_, _], _ => rfl) (fun cdv A outer s H vs Q E hgu hr h => ?_)
  · obtain ⟨d, c, l, G, xs, rfl, _⟩ := h
    rfl
  · obtain ⟨d, c, l, G, xs, rfl, pt, hl, x0, x1, q⟩ := h
    refine ⟨_, (pss_one (ps_ret (pe_ix (aIxL (K := K) rfl) (pv 1) (pe_cal c__law_draw hgu (hr.mono (by omega)) (by rfl) (pa_cons (pv 0) (pa_cons (pe_callB (aLenSeq (K := K) rfl) (by rfl) T.len (by decide +kernel) (pa_cons (pv 1) pa_nil)) pa_nil))) (fun _ _ => rfl)))), ?_⟩
    walk_at "rq"
    refine ⟨xs, .inl (pt.sub.seq hl), d, c, _, rfl, pt.deck, by omega, by omega, fun r H1 r0 r1 hd' sv => ?_⟩
    obtain ⟨x, e, hx⟩ := atI_in (xs := xs) r0 r1
    have g := pt.keep sv hd'
    exact ⟨xs, r, rfl, g.to.sub.seq hl, x, e, q x H1 hx g⟩
def spNumG : Sp := fun vs H Q _ => ∃ (d c : Addr) (G : Hp), vs = [.ref d] ∧ Pt d c H G ∧ ∀ (x : V) (i : Int) (H' G' : Hp), -99 ≤ i → i ≤ 99 → GD d c H G H' G' → Dv G' x (.tuple [.str "num", .int i]) → Q x H'
abbrev s__law_num : Stmt := top 28
theorem sc__law_num : FnScope ["_law_deck_here"] ["_law_deck_here"] (defScope s__law_num) := ⟨rfl, rfl, rfl, by decide +kernel, rfl, by decide +kernel, by decide +kernel⟩
theorem ok__law_num {f : Addr} {fd : FuncData} (D : Df K mg "_law_num" s__law_num f fd) (T : Tx K mg) (c__law_draw : Cal P w K mg base "_law_draw" ["_law_deck_here", "_law_many"] 1 spDraw) : Cal P w K mg base "_law_num" ["_law_deck_here"] 2 spNumG := by
  refine D.cal sc__law_num (fun vs H Q E h => ?_) (fun _ _ _ _ _ _ us hl => match us, hl with | [_], _ => rfl) (fun cdv A outer s H vs Q E hgu hr h => ?_)
  · obtain ⟨d, c, G, rfl, _⟩ := h
    rfl
  · obtain ⟨d, c, G, rfl, pt, q⟩ := h
    refine ⟨_, (pss_one (ps_ret (pe_tupU (pa_cons pe_str (pa_cons (pe_ix (aIxL (K := K) rfl) (pe_lstU (pa_cons pe_int (pa_cons pe_int (pa_cons (pe_un un_neg pe_int) (pa_cons pe_int (pa_cons (pe_un un_neg pe_int) (pa_cons (pe_op op_sub (pe_cal c__law_draw hgu (hr.mono (by omega)) (by rfl) (pa_cons (pv 0) (pa_cons pe_int pa_nil))) pe_int) pa_nil))))))) (pe_cal c__law_draw hgu (hr.mono (by omega)) (by rfl) (pa_cons (pv 0) (pa_cons pe_int pa_nil))) (fun _ _ => rfl)) pa_nil))))), ?_⟩
    refine ⟨1, rfl, 2, rfl, .ref d, rfl, d, c, 199, rfl, pt.deck, by decide, by decide, fun r H1 r0 r1 hd1 sv1 => ⟨r, 99, rfl, rfl, line_le' (show 6 ≤ 1000000 by decide), fun p H2 s2 n2 hp2 => ?_⟩⟩
    have hd2 := hd1.same s2
    refine ⟨.ref d, rfl, d, c, 6, rfl, hd2, by decide, by decide, fun r2 H3 a0 a1 hd3 sv3 => ?_⟩
    have hp3 : H3 p = some (.lst [.int 0, .int 1, .int (-1), .int 2, .int (-2), .int (r - 99)]) := sv3 _ _ hp2 (hd1.fresh n2).1 (hd1.fresh n2).2
    obtain ⟨x, ex, hx⟩ := atI_in (xs := [V.int 0, .int 1, .int (-1), .int 2, .int (-2), .int (r - 99)]) a0 a1
    obtain ⟨i, rfl, i0, i1⟩ : ∃ i : Int, x = .int i ∧ -99 ≤ i ∧ i ≤ 99 := by
      simp only [List.mem_cons, List.not_mem_nil, or_false] at hx
      rcases hx with rfl | rfl | rfl | rfl | rfl | rfl
      · exact ⟨_, rfl, by decide, by decide⟩
      · exact ⟨_, rfl, by decide, by decide⟩
      · exact ⟨_, rfl, by decide, by decide⟩
      · exact ⟨_, rfl, by decide, by decide⟩
      · exact ⟨_, rfl, by decide, by decide⟩
      · exact ⟨_, rfl, by omega, by omega⟩
    walk_at "rq"
    refine ⟨_, .of hp3, .int i, ex, line_le' (by decide), fun p4 H4 s4 n4 hp4 => ?_⟩
    have g3 := pt.keep ((sv1.trans (Same.sv s2)).trans sv3) hd3
    have g4 := g3.to.at_ s4 n4 hp4
    exact q _ i H4 _ i0 i1 (g3.trans g4) (.tup upd_same (.cons (.str _) (.cons (.int i) .nil)))
theorem eqv_ne {n : List Str} (h : n ≠ []) : PyData.eqv (.list (n.map PyData.str)) (.list []) = false := by
  rw [eqv_nil]
  cases n with
  | nil => exact absurd rfl h
  | cons _ _ => rfl
theorem name_fine {z : Str} (h : isName (.str z) = true) : z.length ≤ 8 ∧ PyData.strOk z = true := by
  obtain ⟨_, h2, h3⟩ := name_lets h
  exact ⟨h2, strOk_of h3.ok⟩
theorem names_ok {n : List Str} (h : ∀ x ∈ n, isName (.str x) = true) : ∀ x ∈ n, PyData.strOk x = true := fun x m => (name_fine (h x m)).2
theorem gd_name {h z : Str} (hh : h = "look" ∨ h = "const") (hz : isName (.str z) = true) : Gd 99 700 1 (.tuple [.str h, .str z]) ∧ isTD (.tuple [.str h, .str z]) = true := by
  obtain ⟨z1, z2⟩ := name_fine hz
  have hk : h.length ≤ 10 ∧ PyData.strOk h = true ∧ h ∈ leavesL ∧ ¬ h = "num" := by
    rcases hh with rfl | rfl <;> decide +kernel
  obtain ⟨k1, k2, k4, k5⟩ := hk
  refine ⟨⟨?_, ?_, ?_⟩, ?_⟩
  · simp only [okD, okL, k2, z2, Bool.and_true]
  · simp only [wt, wtL]
    omega
  · simp [PyData.depth, PyData.depthAll]
  · rw [eq_leaf k4]
    show (decide (1 = 1) && leafD h (.str z)) = true
    rw [leafD, if_neg k5]
    exact hz
theorem gd_num {i : Int} (h0 : -99 ≤ i) (h1 : i ≤ 99) : Gd 99 700 1 (.tuple [.str "num", .int i]) ∧ isTD (.tuple [.str "num", .int i]) = true := by
  have k3 : (Str.ofString "num").length ≤ 5 := by decide +kernel
  refine ⟨⟨?_, ?_, ?_⟩, ?_⟩
  · have e : okD 99 (.int i) = true := by
      simp only [okD, decide_eq_true_eq]
      omega
    have e2 : okD 99 (.str "num") = true := by decide +kernel
    simp only [okD, okL] at e e2 ⊢
    rw [e, e2]
    rfl
  · simp only [wt, wtL]
    omega
  · simp [PyData.depth, PyData.depthAll]
  · rw [eq_leaf (by decide +kernel)]
    show (decide (1 = 1) && (decide (-99 ≤ i) && decide (i ≤ 99))) = true
    simp [h0, h1]
end
end Vf
namespace Vf
open PySem L2 PyProof.Rows PySem.Spec
/-! ## what is put together of good parts -/
theorem depthAll_le {n : Nat} : ∀ {l : List PyData}, (∀ d ∈ l, d.depth ≤ n) → PyData.depthAll l ≤ n
  | [], _ => Nat.zero_le _
  | d :: l, h => by
    have h1 := h d List.mem_cons_self
    have h2 := depthAll_le (l := l) fun y m => h y (List.mem_cons_of_mem _ m)
    simp only [PyData.depthAll]
    omega
theorem okL_of {B : Nat} {l : List PyData} (h : ∀ d ∈ l, okD B d = true) : okL B l = true := okL_iff.mpr h
/-- parts of a thing: good, terms, of so much weight together -/
structure Parts (S D : Nat) (ds : List PyData) : Prop where
  ok : ∀ d ∈ ds, okD 99 d = true
  depth : ∀ d ∈ ds, d.depth ≤ D
  term : ∀ d ∈ ds, isTD d = true
  wt : wtL ds ≤ S
theorem word_ok : ∀ h ∈ flaggedL ++ pairsL ++ singlesL ++ flagsL ++ compL ++ [Str.ofString "choice"], okD 99 (.str h) = true ∧ wt (.str h) ≤ 70 ∧ (PyData.str h).depth = 0 := by decide +kernel
theorem all_terms {ds : List PyData} (h : ∀ d ∈ ds, isTD d = true) : ds.all isTD = true := List.all_eq_true.mpr h
theorem gd_flag {S D : Nat} {h f : Str} {ds : List PyData} (hh : h ∈ flaggedL) (hf : f ∈ flagsL) (hl : ds.length = if h = "twice" then 1 else 2) (g : Parts S D ds) : Gd 99 (S + 300) (D + 2) (.tuple (.str h :: .str f :: ds)) ∧ isTD (.tuple (.str h :: .str f :: ds)) = true := by
  obtain ⟨a1, a2, a3⟩ := word_ok h (by simp [hh])
  obtain ⟨b1, b2, b3⟩ := word_ok f (by simp [hf])
  have hd := depthAll_le g.depth
  have hw := g.wt
  have hn : h ∉ leavesL ∧ ¬ h = "choice" := (show ∀ h ∈ flaggedL, h ∉ leavesL ∧ ¬ h = "choice" by decide +kernel) h hh
  refine ⟨⟨?_, ?_, ?_⟩, ?_⟩
  · simp only [okD, okL] at a1 b1 ⊢
    rw [a1, b1, okL_of g.ok]
    rfl
  · simp only [wt, wtL] at a2 b2 ⊢
    omega
  · simp only [PyData.depth, PyData.depthAll] at a3 b3 ⊢
    omega
  · rw [eq_flag hn.1 hn.2 hh]
    show (decide ((((PyData.str f :: ds).length : Nat) : Int) = 1 + (if h = "twice" then 1 else 2)) && (decide (f ∈ flagsL) && ds.all isTD)) = true
    rw [all_terms g.term, decide_eq_true hf, List.length_cons, hl]
    by_cases ht : h = "twice" <;> simp [ht]
theorem gd_other {S D : Nat} {h : Str} {ds : List PyData} (hh : (h ∈ pairsL ∧ ds.length = 2) ∨ (h ∈ singlesL ∧ ds.length = 1)) (g : Parts S D ds) : Gd 99 (S + 300) (D + 2) (.tuple (.str h :: ds)) ∧ isTD (.tuple (.str h :: ds)) = true := by
  obtain ⟨a1, a2, a3⟩ := word_ok h (by rcases hh with ⟨m, _⟩ | ⟨m, _⟩ <;> simp [m])
  have hd := depthAll_le g.depth
  have hw := g.wt
  have hn : h ∉ leavesL ∧ ¬ h = "choice" ∧ h ∉ flaggedL := by
    rcases hh with ⟨m, _⟩ | ⟨m, _⟩
    · exact (show ∀ h ∈ pairsL, h ∉ leavesL ∧ ¬ h = "choice" ∧ h ∉ flaggedL by decide +kernel) h m
    · exact (show ∀ h ∈ singlesL, h ∉ leavesL ∧ ¬ h = "choice" ∧ h ∉ flaggedL by decide +kernel) h m
  refine ⟨⟨?_, ?_, ?_⟩, ?_⟩
  · simp only [okD, okL] at a1 ⊢
    rw [a1, okL_of g.ok]
    rfl
  · simp only [wt, wtL] at a2 ⊢
    omega
  · simp only [PyData.depth, PyData.depthAll] at a3 ⊢
    omega
  · rw [eq_other hn.1 hn.2.1 hn.2.2, all_terms g.term]
    rcases hh with ⟨m, l⟩ | ⟨m, l⟩
    · simp [m, (cnt_pair m).2, l]
    · have np : h ∉ pairsL := fun z => (cnt_pair z).2 m
      simp [m, np, l]
theorem gd_choice {S D : Nat} {r : Str} {a b p q : PyData} (hr : r ∈ compL) (g : Parts S D [a, b, p, q]) : Gd 99 (S + 300) (D + 2) (.tuple [.str "choice", .tuple [.str r, a, b], p, q]) ∧ isTD (.tuple [.str "choice", .tuple [.str r, a, b], p, q]) = true := by
  obtain ⟨a1, a2, a3⟩ := word_ok "choice" (by simp)
  obtain ⟨b1, b2, b3⟩ := word_ok r (by simp [hr])
  have hd := depthAll_le g.depth
  have hw := g.wt
  have ta := g.term a (by simp)
  have tb := g.term b (by simp)
  have tp := g.term p (by simp)
  have tq := g.term q (by simp)
  refine ⟨⟨?_, ?_, ?_⟩, ?_⟩
  · have oa := g.ok a (by simp)
    have ob := g.ok b (by simp)
    have op := g.ok p (by simp)
    have oq := g.ok q (by simp)
    simp only [okD, okL] at a1 b1 ⊢
    rw [a1, b1, oa, ob, op, oq]
    rfl
  · simp only [wt, wtL] at a2 b2 hw ⊢
    omega
  · simp only [PyData.depth, PyData.depthAll] at a3 b3 hd ⊢
    omega
  · rw [eq_choice]
    show (decide (3 = 3) && (decide (r ∈ compL) && ([a, b] ++ [p, q]).all isTD)) = true
    simp [hr, ta, tb, tp, tq]
end Vf
namespace Vf
open PySem L2 PyProof.Rows PySem.Spec

local macro_rules | `(tactic| walk_at "rd") => `(tactic| simp only [tSeq, tIfS, tOr, tAnd, tNot, tB, tTest, tChain, tCB, tCons, tNil, tVar, tC, tRet, tAndV, tOrV, tNotV, tOp, tNext, tDrop, tAsg, tPar, tYes, tIf, tCall, tCalK, tTup, tLst, tSl, tNoPart, tPart, tM0, tM1, tRevL, tBM0, tBM, gName, rI0, rI, rU, rInA, rEqA, rAddA, rMulA, rSlAny, iAny, rIsi, rAll, rAny, rSum, rList, rTuple, rLen, rLenS, rLenSeq, rMulS, CDiv, rIn, rEqD, rNeD, iList, iTup, iStr, rCat, rCatA, rSlL, rSlA, rSlS, gSub, rPop, rAppend, rSetL, rIx, rIxL, rIxT, rIxS, LenV,
  L2.start, List.map_cons, List.map_nil, List.length_cons, List.length_nil, List.cons_append, List.nil_append, List.append_nil, Nat.zero_add, Nat.add_sub_cancel, Nat.sub_self, List.replicate_succ, List.replicate_zero, List.getElem?_cons_zero, List.getElem?_cons_succ, List.set_cons_zero, List.set_cons_succ,
  Option.some.injEq, V.int.injEq, V.str.injEq, V.bl.injEq, V.ref.injEq, List.cons.injEq, and_true, true_and, exists_eq_left', exists_eq_left, exists_eq_right, exists_and_left, exists_and_right, false_or, or_false, reduceCtorEq, false_and, and_false, exists_false, Bool.not_true, Bool.not_false, if_true, if_false, Bool.false_eq_true, ite_true, ite_false])
local macro_rules | `(tactic| walk_at "rq") => `(tactic| (walk_at "rd"; (try simp only [rEq_int, rEq_str, rNe_int, tUn, rU, tC, rInT, rInK, rIxK, rExtendT, rSlU, rCatU, rEqE, rIntB, tTupU, tLstU, tDGet2, tDL, tD, tRevT, V.int.injEq, V.str.injEq, V.bl.injEq, V.ref.injEq, exists_eq_left', exists_eq_left, Bool.false_bne, Bool.false_xor, Bool.true_xor]); (try walk_at "rd")))
section
variable {P : Program} {w : World} {K : PySem.W.Frag} {mg : Str → Option Value} {base : Heap}
theorem DvAll.mem {H : Hp} : ∀ {xs : List V} {ds : List PyData} {x : V}, DvAll H xs ds → x ∈ xs → ∃ d, d ∈ ds ∧ Dv H x d
  | _, _, _, .nil, m => absurd m List.not_mem_nil
  | _, _, _, .cons h t, m => by
    rcases List.mem_cons.mp m with rfl | m
    · exact ⟨_, List.mem_cons_self, h⟩
    · obtain ⟨d, m, h⟩ := t.mem m
      exact ⟨d, List.mem_cons_of_mem _ m, h⟩
def some18 (dd : PyData) : List PyData := [PyData.none, PyData.bool true, PyData.bool false, PyData.str (Str.ofString ""), PyData.tuple [], PyData.list [],
  PyData.dict [], PyData.list [dd], PyData.tuple [dd], PyData.dict [(PyData.int 0, dd)],
  PyData.str (Str.ofString "sum"), PyData.str (Str.ofString "x"), PyData.int (-1), PyData.int 0, PyData.int 1,
  PyData.int (10 ^ Int.toNat 39), PyData.str (Str.ofString "look"), PyData.str (Str.ofString "#x")]
theorem gd_base (d : PyData) {B W D : Nat} (h1 : okD (10 ^ 39) d = true) (h2 : wt d ≤ 2000) (h3 : d.depth ≤ 1) : Gd (B + 10 ^ 40) (3 * W + 2000) (D + 1) d :=
  ⟨okD_mono (by omega) d h1, by omega, by omega⟩
theorem gd_some {B W D : Nat} {dd : PyData} (g : Gd B W D dd) : ∀ y ∈ some18 dd, Gd (B + 10 ^ 40) (3 * W + 2000) (D + 1) y := by
  have b : ∀ y : PyData, (okD (10 ^ 39) y && decide (wt y ≤ 2000) && decide (y.depth ≤ 1)) = true → Gd (B + 10 ^ 40) (3 * W + 2000) (D + 1) y := fun y h => by
    simp only [Bool.and_eq_true, decide_eq_true_eq] at h
    exact gd_base y h.1.1 h.1.2 h.2
  have ok := okD_mono (show B ≤ B + 10 ^ 40 by omega) dd g.ok
  have w := g.wt
  have dp := g.depth
  intro y hy
  simp only [some18, List.mem_cons, List.not_mem_nil, or_false] at hy
  rcases hy with rfl | rfl | rfl | rfl | rfl | rfl | rfl | rfl | rfl | rfl | rfl | rfl | rfl | rfl | rfl | rfl | rfl | rfl
  · exact b _ (by decide +kernel)
  · exact b _ (by decide +kernel)
  · exact b _ (by decide +kernel)
  · exact b _ (by decide +kernel)
  · exact b _ (by decide +kernel)
  · exact b _ (by decide +kernel)
  · exact b _ (by decide +kernel)
  · refine ⟨?_, ?_, ?_⟩
    · simp only [okD, okL, ok, Bool.and_true]
    · simp only [wt, wtL]
      omega
    · simp only [PyData.depth, PyData.depthAll]
      omega
  · refine ⟨?_, ?_, ?_⟩
    · simp only [okD, okL, ok, Bool.and_true]
    · simp only [wt, wtL]
      omega
    · simp only [PyData.depth, PyData.depthAll]
      omega
  · refine ⟨?_, ?_, ?_⟩
    · have : okD (B + 10 ^ 40) (.int 0) = true := by simp [okD]
      simp only [okD, okK, ok, Bool.and_true]
      simp
    · simp only [wt, wtK]
      omega
    · simp only [PyData.depth, PyData.depthKv]
      omega
  · exact b _ (by decide +kernel)
  · exact b _ (by decide +kernel)
  · exact b _ (by decide +kernel)
  · exact b _ (by decide +kernel)
  · exact b _ (by decide +kernel)
  · exact b _ (by decide +kernel)
  · exact b _ (by decide +kernel)
  · exact b _ (by decide +kernel)
theorem DvAll.take {H : Hp} : ∀ {n : Nat} {vs : List V} {ds : List PyData}, DvAll H vs ds → DvAll H (vs.take n) (ds.take n)
  | 0, _, _, _ => .nil
  | n + 1, _, _, .nil => .nil
  | n + 1, _, _, .cons h t => .cons h t.take
theorem DvAll.rev {H : Hp} : ∀ {vs : List V} {ds : List PyData}, DvAll H vs ds → DvAll H vs.reverse ds.reverse
  | _, _, .nil => .nil
  | _, _, .cons h t => by
    rw [List.reverse_cons, List.reverse_cons]
    exact t.rev.append (.cons h .nil)
theorem atI_nat {α : Type} {xs : List α} {i : Nat} (h : i < xs.length) : atI xs (i : Int) = some xs[i] := by
  unfold atI ixN
  rw [if_pos (by omega), if_pos (by omega)]
  exact List.getElem?_eq_getElem h
theorem cutV_mid (xs : List V) (n m : Nat) : cutV xs (some (n : Int)) (some ((n : Int) + (m : Int))) = (xs.drop n).take m := by
  unfold cutV HT.sIx
  have e1 : ¬ ((n : Int) < 0) := by omega
  have e2 : ¬ ((n : Int) + (m : Int) < 0) := by omega
  simp only [e1, e2, if_false]
  have e3 : ((n : Int)).toNat = n := by omega
  have e4 : ((n : Int) + (m : Int)).toNat = n + m := by omega
  rw [e3, e4]
  by_cases hn : n ≤ xs.length
  · rw [Nat.min_eq_left hn]
    by_cases hm : n + m ≤ xs.length
    · rw [Nat.min_eq_left hm, Nat.add_sub_cancel_left]
    · rw [Nat.min_eq_right (by omega), List.take_of_length_le (by rw [List.length_drop]; omega), List.take_of_length_le (by rw [List.length_drop]; omega)]
  · rw [Nat.min_eq_right (by omega), List.drop_of_length_le (by omega), List.drop_of_length_le (by omega)]
    simp
theorem wtL_take_le (n : Nat) (l : List PyData) : wtL (l.take n) ≤ wtL l := by
  have := wtL_take n l
  omega
theorem wtL_drop_le (n : Nat) (l : List PyData) : wtL (l.drop n) ≤ wtL l := by
  have := wtL_take n l
  omega
theorem wtL_rev : ∀ l : List PyData, wtL l.reverse = wtL l
  | [] => rfl
  | d :: l => by
    rw [List.reverse_cons, wtL_append, wtL_rev l]
    simp only [wtL]
    omega
theorem gd_rows {B W D : Nat} {ds R : List PyData} (g : Gd B W D (.tuple ds)) (sub : ∀ y ∈ R, y ∈ ds) (hw : wtL R ≤ 3 * wtL ds) : Gd (B + 10 ^ 40) (3 * W + 2000) (D + 1) (.tuple R) ∧ Gd (B + 10 ^ 40) (3 * W + 2000) (D + 1) (.list R) := by
  have h1 := g.ok
  have h2 := g.wt
  have h3 := g.depth
  simp only [okD] at h1
  simp only [wt] at h2
  simp only [PyData.depth] at h3
  have hok : okL (B + 10 ^ 40) R = true := okL_iff.mpr fun y hy => okD_mono (by omega) y (okL_iff.mp h1 y (sub y hy))
  have hd : PyData.depthAll R ≤ PyData.depthAll ds := depthAll_le fun y hy => depth_mem (sub y hy)
  refine ⟨⟨?_, ?_, ?_⟩, ⟨?_, ?_, ?_⟩⟩
  · simp only [okD]
    exact hok
  · simp only [wt]
    omega
  · simp only [PyData.depth]
    omega
  · simp only [okD]
    exact hok
  · simp only [wt]
    omega
  · simp only [PyData.depth]
    omega
theorem fine_of {s : Str} (h : PyData.strOk s = true) : Fine s.length s := ⟨Nat.le_refl _, fun x hx => by
  have := Array.all_eq_true_iff_forall_mem.mp h x (by simpa [cs] using hx)
  simpa using this⟩
theorem gd_fine {B W D n : Nat} {s : Str} (h : Fine n s) (hn : 10 * n + 7 ≤ 3 * W + 2000) : Gd (B + 10 ^ 40) (3 * W + 2000) (D + 1) (.str s) := by
  refine ⟨?_, ?_, ?_⟩
  · simp only [okD]
    exact strOk_of h.ok
  · have := h.len
    simp only [wt]
    omega
  · simp [PyData.depth]
theorem gd_int {B W D : Nat} {i : Int} (h : i.natAbs ≤ B + 10 ^ 40) : Gd (B + 10 ^ 40) (3 * W + 2000) (D + 1) (.int i) := by
  refine ⟨?_, ?_, ?_⟩
  · simp only [okD, decide_eq_true_eq]
    exact h
  · simp only [wt]
    omega
  · simp [PyData.depth]
theorem strN_of {x : V} {i : Int} (h : numV x = some i) (hb : i.natAbs ≤ 10 ^ 50) : ∃ sx : Str, Fine 52 sx ∧ ∀ (H : Hp) (Q : VK), Q (.str sx) H → rStrN [x] H Q := by
  cases x with
  | int k =>
    cases h
    have h1 := int_len hb
    refine ⟨Str.ofString (toString i), ⟨?_, fun c hc => ?_⟩, fun H Q q => .inl ⟨i, rfl, ?_, q⟩⟩
    · have := h1.1
      simp only [PyData.shown] at this
      exact this
    · rw [Str.ofString_eq_toList] at hc
      have hc : c ∈ (toString i).toList.map Char.toNat := by simpa [cs] using hc
      obtain ⟨ch, hm, rfl⟩ := List.mem_map.mp hc
      have := int_ascii i ch hm
      omega
    · simpa [PyData.showable] using h1.2
  | bl b =>
    refine ⟨Str.ofString (if b = true then "True" else "False"), ?_, fun H Q q => .inr ⟨b, rfl, q⟩⟩
    cases b
    · exact ⟨by decide +kernel, by decide +kernel⟩
    · exact ⟨by decide +kernel, by decide +kernel⟩
  | _ => cases h
/-- another thing, near it: of any data in a part; no greater than thrice, and something -/
def spOdd (n : Nat) : Sp := fun vs H Q _ => ∃ (d c : Addr) (x : V) (G : Hp) (dd : PyData) (B W D : Nat), vs = [.ref d, x] ∧ Pt d c H G ∧ Dv G x dd ∧ Gd B W D dd ∧ B ≤ 10 ^ 48 ∧ W ≤ 100000 ∧ dd.depth < n ∧
  ∀ (x' : V) (dd' : PyData) (H' G' : Hp), GD d c H G H' G' → Dv G' x' dd' → Gd (B + 10 ^ 40) (3 * W + 2000) (D + 1) dd' → Q x' H'
abbrev s__law_odd : Stmt := top 34
theorem sc__law_odd : FnScope ["_law_deck_here", "_law_it", "_law_way", "_law_some", "_law_words", "_law_at", "_law_rows"] ["_law_deck_here", "_law_it"] (defScope s__law_odd) := ⟨rfl, rfl, rfl, by decide +kernel, rfl, by decide +kernel, by decide +kernel⟩
set_option format.width 500 in
set_option format.indent 0 in
set_option pp.deepTerms true in
set_option pp.maxSteps 200000 in
theorem st__law_odd {f : Addr} {fd : FuncData} {n k : Nat} (hk : 1 ≤ k) (D : Df K mg "_law_odd" s__law_odd f fd) (T : Tx K mg) (c__law_draw : Cal P w K mg base "_law_draw" ["_law_deck_here", "_law_many"] 1 spDraw)
    (c__law_odd : Cal P w K mg base "_law_odd" ["_law_deck_here", "_law_it"] k (spOdd n)) : Cal P w K mg base "_law_odd" ["_law_deck_here", "_law_it"] (k + 1) (spOdd (n + 1)) := by
  refine D.cal sc__law_odd (fun vs H Q E h => ?_) (fun _ _ _ _ _ _ us hl => match us, hl with | [_, _], _ => rfl) (fun cdv A outer s H vs Q E hgu hr h => ?_)
  · obtain ⟨d, c, x, G, dd, B, W, Dp, rfl, _⟩ := h
    rfl
  · obtain ⟨d, c, x, G, dd, B, W, Dp, rfl, pt, hx, hg, hB, hW, hn, q⟩ := h
    refine ⟨_, (pss_cons (ps_set (i := 2) sc__law_odd.nd rfl (by first | exact Or.inl rfl | exact Or.inr rfl) (pe_cal c__law_draw hgu (hr.mono (by omega)) (by rfl) (pa_cons (pv 0) (pa_cons pe_int pa_nil)))) (pss_cons (ps_set (i := 3) sc__law_odd.nd rfl (by first | exact Or.inl rfl | exact Or.inr rfl) (wDL (wDs_cons (wD_con pe_non fun _ => .non) (wDs_cons (wD_con pe_bl fun _ => .bl _) (wDs_cons (wD_con pe_bl fun _ => .bl _) (wDs_cons (wD_con pe_str fun _ => .str _) (wDs_cons (wD_tup wDs_nil) (wDs_cons (wD_lst wDs_nil) (wDs_cons wD_dic0 (wDs_cons (wD_lst (wDs_cons (wD_var dd (pv 1)) wDs_nil)) (wDs_cons (wD_tup (wDs_cons (wD_var dd (pv 1)) wDs_nil)) (wDs_cons (wD_dic1 (wD_var dd (pv 1))) (wDs_cons (wD_con pe_str fun _ => .str _) (wDs_cons (wD_con pe_str fun _ => .str _) (wDs_cons wD_neg (wDs_cons (wD_con pe_int fun _ => .int _) (wDs_cons (wD_con pe_int fun _ => .int _) (wDs_cons (wD_pow ⟨by decide, by decide, by decide⟩) (wDs_cons (wD_con pe_str fun _ => .str _) (wDs_cons (wD_con pe_str fun _ => .str _) wDs_nil)))))))))))))))))))) (pss_cons (ps_if (pt_cmpR op_eq (pe_cal c__law_draw hgu (hr.mono (by omega)) (by rfl) (pa_cons (pv 0) (pa_cons pe_int pa_nil))) pe_int (by rfl)) (pss_one (ps_ret (pe_ix (aIxL (K := K) rfl) (pe_op op_cat (pv 3) (wDL (wDs_cons (wD_tup (wDs_cons (wD_con pe_str fun _ => .str _) (wDs_cons (wD_con pe_int fun _ => .int _) wDs_nil))) (wDs_cons (wD_tup (wDs_cons (wD_con pe_str fun _ => .str _) (wDs_cons (wD_con pe_str fun _ => .str _) wDs_nil))) wDs_nil)))) (pe_cal c__law_draw hgu (hr.mono (by omega)) (by rfl) (pa_cons (pv 0) (pa_cons pe_int pa_nil))) (fun _ _ => rfl)))) pss_nil) (pss_cons (ps_if (pt_val (pe_callB (aIsi (K := K) rfl) (by rfl) T.isinstance (by decide +kernel) (pa_cons (pv 1) (pa_cons (pe_bltn (v := .ty "str") (by rfl) T.str (by decide +kernel) rfl) pa_nil)))) (pss_cons (ps_set (i := 4) sc__law_odd.nd rfl (by first | exact Or.inl rfl | exact Or.inr rfl) (wDL (wDs_cons (wD_con pe_str fun _ => .str _) (wDs_cons (wD_con pe_str fun _ => .str _) (wDs_cons (wD_con pe_str fun _ => .str _) (wDs_cons (wD_con pe_str fun _ => .str _) (wDs_cons (wD_con pe_str fun _ => .str _) (wDs_cons (wD_con pe_str fun _ => .str _) (wDs_cons (wD_con pe_str fun _ => .str _) (wDs_cons (wD_con pe_str fun _ => .str _) (wDs_cons (wD_con pe_str fun _ => .str _) (wDs_cons (wD_con pe_str fun _ => .str _) (wDs_cons (wD_con pe_str fun _ => .str _) (wDs_cons (wD_con pe_str fun _ => .str _) (wDs_cons (wD_con pe_str fun _ => .str _) wDs_nil))))))))))))))) (pss_cons (ps_set (i := 4) sc__law_odd.nd rfl (by first | exact Or.inl rfl | exact Or.inr rfl) (pe_op op_cat (pv 4) (wDL (wDs_cons (wD_con pe_str fun _ => .str _) (wDs_cons (wD_con pe_str fun _ => .str _) (wDs_cons (wD_con pe_str fun _ => .str _) (wDs_cons (wD_con pe_str fun _ => .str _) (wDs_cons (wD_con pe_str fun _ => .str _) (wDs_cons (wD_con pe_str fun _ => .str _) wDs_nil))))))))) (pss_one (ps_ret (pe_ix (aIxL (K := K) rfl) (pe_lstU (pa_cons (pe_op op_add_str (pv 1) pe_str) (pa_cons (pe_slice sl_str (pv 1) po_none (po_some (pe_un un_neg pe_int))) (pa_cons (pe_upper (pv 1)) (pa_cons pe_str (pa_cons (wD_lst (wDs_cons (wD_var dd (pv 1)) wDs_nil)) (pa_cons (pe_op op_add_str (pv 1) pe_str) (pa_cons (pe_ix (aIxL (K := K) rfl) (pv 4) (pe_cal c__law_draw hgu (hr.mono (by omega)) (by rfl) (pa_cons (pv 0) (pa_cons pe_int pa_nil))) (fun _ _ => rfl)) (pa_cons pe_str (pa_cons pe_str pa_nil)))))))))) (pv 2) (fun _ _ => rfl)))))) pss_nil) (pss_cons (ps_if (pt_val (pe_callB (aIsi (K := K) rfl) (by rfl) T.isinstance (by decide +kernel) (pa_cons (pv 1) (pa_cons (pe_bltn (v := .ty "int") (by rfl) T.int (by decide +kernel) rfl) pa_nil)))) (pss_one (ps_ret (pe_ix (aIxL (K := K) rfl) (pe_lstU (pa_cons (pe_op aAddN (pv 1) pe_int) (pa_cons (pe_op aSubN (pv 1) pe_int) (pa_cons (pe_op aSubR pe_int (pv 1)) (pa_cons (pe_cmpR aEqN (pv 1) pe_int (by rfl)) (pa_cons (pe_callTy aStrN (by rfl) T.str (by decide +kernel) (pa_cons (pv 1) pa_nil)) (pa_cons (pe_op aAddN (pv 1) pe_int) (pa_cons (pe_op aSubN (pv 1) pe_int) (pa_cons (wD_lst (wDs_cons (wD_var dd (pv 1)) wDs_nil)) (pa_cons pe_non pa_nil)))))))))) (pv 2) (fun _ _ => rfl)))) pss_nil) (pss_cons (ps_if (PW.pt (pw_or (pt_not (pt_val (pe_callB (aIsi (K := K) rfl) (by rfl) T.isinstance (by decide +kernel) (pa_cons (pv 1) (pa_cons (pe_bltn (v := .ty "tuple") (by rfl) T.tuple (by decide +kernel) rfl) pa_nil))))) (pw_or1 (pt_cmpR (aEqE (K := K) rfl hr.units) (pv 1) (pe_tupU pa_nil) (by rfl))))) (pss_one (ps_ret (pe_ix (aIxL (K := K) rfl) (pv 3) (pv 2) (fun _ _ => rfl)))) pss_nil) (pss_cons (ps_set (i := 5) sc__law_odd.nd rfl (by first | exact Or.inl rfl | exact Or.inr rfl) (pe_cal c__law_draw hgu (hr.mono (by omega)) (by rfl) (pa_cons (pv 0) (pa_cons (pe_callB (aLen (K := K) rfl) (by rfl) T.len (by decide +kernel) (pa_cons (pv 1) pa_nil)) pa_nil)))) (pss_cons (ps_set (i := 6) sc__law_odd.nd rfl (by first | exact Or.inl rfl | exact Or.inr rfl) (pe_lstU (pa_cons (pe_op aCatD (pe_slice aSlD (pv 1) po_none (po_some (pv 5))) (pe_slice aSlD (pv 1) (po_some (pe_op op_add (pv 5) pe_int)) po_none)) (pa_cons (pe_op aCatD (pe_slice aSlD (pv 1) po_none (po_some (pe_op op_add (pv 5) pe_int))) (pe_slice aSlD (pv 1) (po_some (pv 5)) po_none)) (pa_cons (pe_op aCatD (pe_op aCatD (pe_slice aSlD (pv 1) po_none (po_some (pv 5))) (aRevT (K := K) rfl (pe_slice aSlD (pv 1) (po_some (pv 5)) (po_some (pe_op op_add (pv 5) pe_int))))) (pe_slice aSlD (pv 1) (po_some (pe_op op_add (pv 5) pe_int)) po_none)) (pa_cons (pe_callTy (aList (K := K) rfl) (by rfl) T.list (by decide +kernel) (pa_cons (pv 1) pa_nil)) pa_nil)))))) (pss_cons (ps_if (pt_cmpR op_lt (pv 2) pe_int (by rfl)) (pss_one (ps_ret (pe_ix (aIxL (K := K) rfl) (pv 6) (pv 2) (fun _ _ => rfl)))) pss_nil) (pss_one (ps_ret (pe_op aCatD (pe_op aCatD (pe_slice aSlD (pv 1) po_none (po_some (pv 5))) (pe_tupU (pa_cons (pe_cal c__law_odd hgu (hr.mono (by omega)) (by rfl) (pa_cons (pv 0) (pa_cons (pe_ix (aIxT (K := K) rfl) (pv 1) (pv 5) (fun _ _ => rfl)) pa_nil))) pa_nil))) (pe_slice aSlD (pv 1) (po_some (pe_op op_add (pv 5) pe_int)) po_none))))))))))))), ?_⟩
    refine seq_cut fun u hu => ?_
    walk_at "rq"
    refine ⟨d, c, 9, rfl, pt.deck, by decide, by decide, fun way H1 r0 r1 hd1 sv1 => ?_⟩
    have g1 := pt.keep sv1 hd1
    obtain ⟨w9, rfl⟩ := Int.eq_ofNat_of_zero_le r0
    have hw9 : w9 < 9 := by omega
    clear r0 r1 sv1 hd1
    subst hu
    refine seq_cut fun u hu => ?_
    walk_at "rq"
    refine ⟨G, g1.to.sub, ⟨⟨x, rfl, hx⟩, ⟨x, rfl, hx⟩, ⟨x, rfl, hx⟩, trivial⟩, fun p xs H2 G2 gr hxs hp => ?_⟩
    have g2 := g1.trans (g1.to.grow gr)
    have g3 := g2.trans (g2.to.keep (Same.sv (same_upd (o := .lst xs) hp)) (g2.to.deck.same (same_upd hp)))
    have pG2 : G2 p = none := g2.to.sub.free hp
    have np := g2.to.deck.fresh hp
    have pH : H p = none := g2.big.free g2.to.deck hp
    refine (show ∀ H3 : Hp, H3 p = some (.lst xs) → GD d c H G H3 G2 → u ?D1 [some (V.ref d), some x, some (V.int ↑w9), some (V.ref p), none, none, none] H3 from ?h1) _ upd_same g3
    case h1 =>
    clear g3
    intro H3 hp3 g3
    have hx := hx.same g3.part
    have hxs : DvAll G2 xs (some18 dd) := hxs
    clear g1 gr g2 hp
    clear H1 H2
    subst hu
    refine seq_cut fun u hu => ?_
    walk_at "rq"
    have all18 := gd_some hg
    have xl : xs.length = 18 := hxs.len
    refine ⟨d, c, 4, rfl, g3.to.deck, by decide, by decide, fun r H4 r0 r1 hd4 sv4 => ?_⟩
    have g4 := g3.trans (g3.to.keep sv4 hd4)
    have hp4 : H4 p = some (.lst xs) := sv4 _ _ hp3 np.1 np.2
    show rEq (.int r) (.int 0) H4 _
    rw [rEq_int]
    refine ⟨_, rfl, ?_⟩
    cases w0 : decide (r = 0) with
    | true =>
      refine iteY rfl ⟨G2, g4.to.sub, trivial, fun p1 ys H5 G5 gr hys hp1 => ⟨xs, same_upd hp1 _ _ (gr.big _ _ hp4), ys, upd_same, ?_, fun p2 hp2 => ?_⟩⟩
      · have := hys.len
        exact line_le' (by rw [xl, this]; decide)
      · have yl : ys.length = 2 := hys.len
        have g5 := g4.trans (g4.to.grow gr)
        have g7 := g5.trans (g5.to.same ((same_upd (o := .lst ys) hp1).trans (same_upd (o := .lst (xs ++ ys)) hp2)))
        refine ⟨d, c, 20, rfl, g7.to.deck, by decide, by decide, fun r H6 r0 r1 hd6 sv6 => ?_⟩
        have g8 := g7.trans (g7.to.keep sv6 hd6)
        obtain ⟨z, ez, hz⟩ := atI_in (xs := xs ++ ys) r0 (by rw [List.length_append, xl, yl]; exact r1)
        have np2 := (g5.to.deck.same (same_upd (o := .lst ys) hp1)).fresh hp2
        refine ⟨xs ++ ys, r, rfl, .of (sv6 _ _ upd_same np2.1 np2.2), z, ez, ?_⟩
        rcases List.mem_append.mp hz with m | m
        · obtain ⟨dz, md, hdz⟩ := hxs.mem m
          exact q z dz H6 _ g8 (hdz.same gr.part) (all18 dz md)
        · obtain ⟨dz, md, hdz⟩ := hys.mem m
          refine q z dz H6 _ g8 hdz ?_
          simp only [List.mem_cons, List.not_mem_nil, or_false] at md
          rcases md with rfl | rfl
          · exact gd_base _ (by decide +kernel) (by decide +kernel) (by decide +kernel)
          · exact gd_base _ (by decide +kernel) (by decide +kernel) (by decide +kernel)
    | false =>
    refine iteN rfl ?_
    have hx := hx
    clear w0 r0 r1 hd4 sv4 r g3 hp3 H3
    subst hu
    refine seq_cut fun u hu => ?_
    walk_at "rq"
    refine ⟨x, _, ⟨rfl, rfl⟩, _, _, .ty "str", (hx.same g4.to.sub).ty, _, kit_ty (kit_str hx), ?_⟩
    have wx := hg.wt
    have okx := okD_mono (show B ≤ B + 10 ^ 40 by omega) dd hg.ok
    have dx := hg.depth
    have g40 := g4.to
    by_cases hs : isStrD dd = true
    · refine iteY hs ?_
      cases hx with
      | str s =>
        simp only [wt] at wx
        refine ⟨G2, g4.to.sub, trivial, fun p1 ys1 H5 G5 gr1 hys1 hp1 => ⟨G5, gr1.sub.trans (same_upd hp1), trivial, fun p2 ys2 H6 G6 gr2 hys2 hp2 => ⟨ys1, same_upd hp2 _ _ (gr2.big _ _ upd_same), ys2, upd_same, line_le' (by rw [hys1.len, hys2.len]; decide), fun p3 hp3 => ?_⟩⟩⟩
        have g5 := g4.trans (g4.to.grow gr1)
        have g5 := g5.trans (g5.to.same (same_upd (o := .lst ys1) hp1))
        have g6 := g5.trans (g5.to.grow gr2)
        have g7 := g6.trans (g6.to.same ((same_upd (o := .lst ys2) hp2).trans (same_upd (o := .lst (ys1 ++ ys2)) hp3)))
        refine ⟨s, rfl, line_le' (by show _ + 1 ≤ _; omega), 1, rfl, -1, rfl, s, rfl, line_le' (by omega), ⟨s, rfl⟩, s, rfl, by omega, ?_⟩
        refine ⟨G6, g7.to.sub, ⟨⟨.str s, rfl, .str s⟩, trivial⟩, fun x8 H8 G8 gr8 hx8 => ⟨s, rfl, line_le' (by show _ + 8 ≤ _; omega), ?_⟩⟩
        have g8 := g7.trans (g7.to.grow gr8)
        have np3 := (g6.to.deck.same (same_upd (o := .lst ys2) hp2)).fresh hp3
        refine ⟨d, c, 19, rfl, g8.to.deck, by decide, by decide, fun r H9 r0 r1 hd9 sv9 => ?_⟩
        have g9 := g8.trans (g8.to.keep sv9 hd9)
        obtain ⟨z, ez, hz⟩ := atI_in (xs := ys1 ++ ys2) r0 (by rw [List.length_append, hys1.len, hys2.len]; exact r1)
        have zd : ∃ dz, Dv G8 z dz ∧ Gd (B + 10 ^ 40) (3 * W + 2000) (Dp + 1) dz := by
          rcases List.mem_append.mp hz with m | m
          · obtain ⟨dz, md, hdz⟩ := hys1.mem m
            refine ⟨dz, (hdz.same gr2.part).same gr8.part, ?_⟩
            have := List.all_eq_true.mp (show (([PyData.str (Str.ofString "sum"), PyData.str (Str.ofString "less"), PyData.str (Str.ofString "twice"), PyData.str (Str.ofString "and"), PyData.str (Str.ofString "not"), PyData.str (Str.ofString "froze"), PyData.str (Str.ofString "choice"), PyData.str (Str.ofString "same"), PyData.str (Str.ofString "below"), PyData.str (Str.ofString "under"), PyData.str (Str.ofString "u"), PyData.str (Str.ofString "s"), PyData.str (Str.ofString "us")] : List PyData).all fun y => okD (10 ^ 39) y && decide (wt y ≤ 2000) && decide (y.depth ≤ 1)) = true by decide +kernel) dz md
            simp only [Bool.and_eq_true, decide_eq_true_eq] at this
            exact gd_base dz this.1.1 this.1.2 this.2
          · obtain ⟨dz, md, hdz⟩ := hys2.mem m
            refine ⟨dz, hdz.same gr8.part, ?_⟩
            have := List.all_eq_true.mp (show (([PyData.str (Str.ofString "su"), PyData.str (Str.ofString "look"), PyData.str (Str.ofString "const"), PyData.str (Str.ofString "num"), PyData.str (Str.ofString "left"), PyData.str (Str.ofString "unlike")] : List PyData).all fun y => okD (10 ^ 39) y && decide (wt y ≤ 2000) && decide (y.depth ≤ 1)) = true by decide +kernel) dz md
            simp only [Bool.and_eq_true, decide_eq_true_eq] at this
            exact gd_base dz this.1.1 this.1.2 this.2
        obtain ⟨dz, hdz, gz⟩ := zd
        refine ⟨_, r, rfl, .of (sv9 _ _ (gr8.big _ _ upd_same) np3.1 np3.2), z, ez, line_le' (by decide), fun p5 H10 s10 n10 e10 => ?_⟩
        have g10 := g9.trans (g9.to.same s10)
        have hall : DvAll G8 [.str (s ++ Str.ofString "s"), .str (cutS s none (some (-1))), .str (Txt.upper s), .str (Str.ofString ""), x8, .str (s ++ Str.ofString "abcdefgh"), z, .str (Str.ofString "x"), .str (Str.ofString "a")]
            [.str (s ++ Str.ofString "s"), .str (cutS s none (some (-1))), .str (Txt.upper s), .str (Str.ofString ""), .list [.str s], .str (s ++ Str.ofString "abcdefgh"), dz, .str (Str.ofString "x"), .str (Str.ofString "a")] :=
          .cons (.str _) (.cons (.str _) (.cons (.str _) (.cons (.str _) (.cons hx8 (.cons (.str _) (.cons hdz (.cons (.str _) (.cons (.str _) .nil))))))))
        obtain ⟨y, ey, hy⟩ := atI_in (xs := [V.str (s ++ Str.ofString "s"), .str (cutS s none (some (-1))), .str (Txt.upper s), .str (Str.ofString ""), x8, .str (s ++ Str.ofString "abcdefgh"), z, .str (Str.ofString "x"), .str (Str.ofString "a")]) (i := (w9 : Int)) (by omega) (by show (w9 : Int) < 9; omega)
        obtain ⟨dy, md, hdy⟩ := hall.mem hy
        refine ⟨_, .of e10, y, ey, q y dy H10 G8 g10 hdy ?_⟩
        have hos : PyData.strOk s = true := by
          have := hg.ok
          simp only [okD] at this
          exact this
        have fs := fine_of hos
        have f1 : Fine 1 (Str.ofString "s") := ⟨by decide +kernel, by decide +kernel⟩
        have f8 : Fine 8 (Str.ofString "abcdefgh") := ⟨by decide +kernel, by decide +kernel⟩
        have fu : Fine (3 * s.length) (Txt.upper s) := ⟨len_upper s, (fine_of (upper_strOk hos)).ok⟩
        simp only [List.mem_cons, List.not_mem_nil, or_false] at md
        rcases md with rfl | rfl | rfl | rfl | rfl | rfl | rfl | rfl | rfl
        · exact gd_fine (fs.app f1) (by omega)
        · exact gd_fine (fs.cut none (some (-1))) (by omega)
        · exact gd_fine fu (by omega)
        · exact gd_base _ (by decide +kernel) (by decide +kernel) (by decide +kernel)
        · refine ⟨?_, ?_, ?_⟩
          · simp only [okD, okL] at okx ⊢
            rw [okx]
            rfl
          · simp only [wt, wtL]
            omega
          · simp only [PyData.depth, PyData.depthAll]
            omega
        · exact gd_fine (fs.app f8) (by omega)
        · exact gz
        · exact gd_base _ (by decide +kernel) (by decide +kernel) (by decide +kernel)
        · exact gd_base _ (by decide +kernel) (by decide +kernel) (by decide +kernel)
      | _ => exact absurd hs Bool.false_ne_true
    · refine iteN (Bool.eq_false_iff.mpr hs) ?_
      subst hu
      refine seq_cut fun u hu => ?_
      walk_at "rq"
      refine ⟨x, _, ⟨rfl, rfl⟩, _, _, .ty "int", (hx.same g4.to.sub).ty, _, kit_ty (kit_int hx), ?_⟩
      by_cases hi : (isIntD dd || isBoolD dd) = true
      · refine iteY hi ?_
        obtain ⟨i, hi, hb⟩ : ∃ i, numV x = some i ∧ i.natAbs ≤ B + 1 := by
          have ok := hg.ok
          cases hx with
          | int i =>
            simp only [okD, decide_eq_true_eq] at ok
            exact ⟨i, rfl, by omega⟩
          | bl b => exact ⟨_, rfl, by cases b <;> simp⟩
          | _ => exact absurd hi Bool.false_ne_true
        obtain ⟨sx, fsx, hsx⟩ := strN_of hi (by omega)
        refine ⟨i, 1, hi, rfl, i, 1, hi, rfl, 0, i, rfl, hi, i, 1, hi, rfl, hsx _ _ ⟨i, 99, hi, rfl, i, 99, hi, rfl, G2, g4.to.sub, ⟨⟨x, rfl, hx⟩, trivial⟩, fun x8 H8 G8 gr8 hx8 => ⟨line_le' (by decide), fun p5 H10 s10 n10 e10 => ?_⟩⟩⟩
        have g8 := g4.trans (g4.to.grow gr8)
        have g10 := g8.trans (g8.to.same s10)
        have hall : DvAll G8 [.int (i + 1), .int (i - 1), .int (0 - i), .bl (decide (i = 1)), .str sx, .int (i + 99), .int (i - 99), x8, .non] [.int (i + 1), .int (i - 1), .int (0 - i), .bool (decide (i = 1)), .str sx, .int (i + 99), .int (i - 99), .list [dd], .none] :=
          .cons (.int _) (.cons (.int _) (.cons (.int _) (.cons (.bl _) (.cons (.str _) (.cons (.int _) (.cons (.int _) (.cons hx8 (.cons .non .nil))))))))
        obtain ⟨y, ey, hy⟩ := atI_in (xs := [V.int (i + 1), .int (i - 1), .int (0 - i), .bl (decide (i = 1)), .str sx, .int (i + 99), .int (i - 99), x8, .non]) (i := (w9 : Int)) (by omega) (by show (w9 : Int) < 9; omega)
        obtain ⟨dy, md, hdy⟩ := hall.mem hy
        refine ⟨_, .of e10, y, ey, q y dy H10 G8 g10 hdy ?_⟩
        simp only [List.mem_cons, List.not_mem_nil, or_false] at md
        rcases md with rfl | rfl | rfl | rfl | rfl | rfl | rfl | rfl | rfl
        · exact gd_int (by omega)
        · exact gd_int (by omega)
        · exact gd_int (by omega)
        · exact ⟨rfl, by simp only [wt]; omega, by simp [PyData.depth]⟩
        · exact gd_fine fsx (by omega)
        · exact gd_int (by omega)
        · exact gd_int (by omega)
        · refine ⟨?_, ?_, ?_⟩
          · simp only [okD, okL] at okx ⊢
            rw [okx]
            rfl
          · simp only [wt, wtL]
            omega
          · simp only [PyData.depth, PyData.depthAll]
            omega
        · exact gd_base _ (by decide +kernel) (by decide +kernel) (by decide +kernel)
      · refine iteN (Bool.eq_false_iff.mpr hi) ?_
        subst hu
        refine seq_cut fun u hu => ?_
        walk_at "rq"
        have pick18 : ∀ Hx, GD d c H G Hx G2 → Hx p = some (.lst xs) → ∃ zs, SqL K Hx p zs ∧ ∃ z, atI zs ↑w9 = some z ∧ Q z Hx := by
          intro Hx gx hpx
          obtain ⟨y, ey, hy⟩ := atI_in (xs := xs) (i := (w9 : Int)) (by omega) (by rw [xl]; omega)
          obtain ⟨dy, md, hdy⟩ := hxs.mem hy
          exact ⟨xs, .of hpx, y, ey, q y dy Hx G2 gx hdy (all18 dy md)⟩
        refine ⟨x, _, ⟨rfl, rfl⟩, _, _, .ty "tuple", (hx.same g4.to.sub).ty, _, kit_ty (kit_tup hx), ?_⟩
        cases hx with
        | @tup a ts ds ea hts =>
          refine iteN rfl ⟨Nat.zero_le _, fun p1 H5 s5 n5 e5 => ?_⟩
          have g5 := g4.trans (g4.to.same s5)
          have hp5 := s5 _ _ hp4
          refine ⟨a, rfl, ts, .of (g5.to.sub _ _ ea), .of e5, ?_⟩
          have tl : ts.length = ds.length := hts.len
          by_cases hne : ts = []
          · subst hne
            exact iteY rfl (pick18 H5 g5 hp5)
          have ne : 0 < ts.length := List.length_pos_iff.mpr hne
          refine iteN (by cases ts with | nil => exact absurd rfl hne | cons _ _ => rfl) ?_
          clear hne
          have lw : ds.length ≤ 100000 := by
            have := wtL_len ds
            simp only [wt] at wx
            omega
          subst hu
          refine seq_cut fun u hu => ?_
          walk_at "rq"
          refine ⟨ts.length, .inr ⟨ts, .of (g5.to.sub _ _ ea), rfl⟩, d, c, _, rfl, g5.to.deck, by omega, by omega, fun r H6 r0 r1 hd6 sv6 => ?_⟩
          have g6 := g5.trans (g5.to.keep sv6 hd6)
          have hp6 := sv6 _ _ hp5 np.1 np.2
          obtain ⟨at', rfl⟩ := Int.eq_ofNat_of_zero_le r0
          have hat : at' < ts.length := by omega
          refine (show ∀ H7 : Hp, GD d c H G H7 G2 → u ?D2 [some (V.ref d), some (V.ref a), some (V.int ↑w9), some (V.ref p), none, some (V.int (at' : Nat)), none] H7 from ?h2) _ g6
          case h2 =>
          clear g6 g5 hp6 hp5 e5 n5 s5 sv6 hd6 r0 r1 g4 hp4 pick18 hi hs g40
          intro H7 g7
          subst hu
          refine seq_cut fun u hu => ?_
          walk_at "rq"
          have c1 : cutV ts none (some (at' : Int)) = ts.take at' := cutV_to ts at'
          have c2 : cutV ts (some ((at' : Int) + 1)) none = ts.drop (at' + 1) := cutV_from ts (at' + 1)
          have c3 : cutV ts none (some ((at' : Int) + 1)) = ts.take (at' + 1) := cutV_to ts (at' + 1)
          have c4 : cutV ts (some (at' : Int)) none = ts.drop at' := cutV_from ts at'
          have c5 : cutV ts (some (at' : Int)) (some ((at' : Int) + 2)) = (ts.drop at').take 2 := cutV_mid ts at' 2
          have c6 : cutV ts (some ((at' : Int) + 2)) none = ts.drop (at' + 2) := cutV_from ts (at' + 2)
          simp only [rSlD, rCatD]
          refine ⟨G2, a, ts, rfl, g7.to.sub, ea, fun p1 H8 G8 gr8 e1 => ⟨G8, a, ts, rfl, gr8.sub, gr8.part _ _ ea, fun p2 H9 G9 gr9 e2 => ⟨G9, p1, p2, _, _, rfl, rfl, gr9.sub, gr9.part _ _ e1, e2, ?_, fun p3 H10 G10 gr10 e3 => ?_⟩⟩⟩
          · rw [c1, c2, List.length_take, List.length_drop]
            exact line_le' (by omega)
          have gA := (gr8.trans gr9).trans gr10
          refine ⟨G10, a, ts, rfl, gA.sub, gA.part _ _ ea, fun p4 H11 G11 gr11 e4 => ⟨G11, a, ts, rfl, gr11.sub, (gA.trans gr11).part _ _ ea, fun p5 H12 G12 gr12 e5 => ⟨G12, p4, p5, _, _, rfl, rfl, gr12.sub, gr12.part _ _ e4, e5, ?_, fun p6 H13 G13 gr13 e6 => ?_⟩⟩⟩
          · rw [c3, c4, List.length_take, List.length_drop]
            exact line_le' (by omega)
          have gB := ((gA.trans gr11).trans gr12).trans gr13
          refine ⟨G13, a, ts, rfl, gB.sub, gB.part _ _ ea, fun p7 H14 G14 gr14 e7 => ?_⟩
          simp only [tRevT, tSl]
          walk_at "rd"
          simp only [rSlD]
          refine ⟨G14, a, ts, rfl, gr14.sub, (gB.trans gr14).part _ _ ea, fun p8 H15 G15 gr15 e8 => ?_⟩
          have gC := (gB.trans gr14).trans gr15
          refine ⟨p8, rfl, _, .of (gr15.sub _ _ e8), fun p9 hp9 => ?_⟩
          have gr16 : Grow H15 G15 (upd H15 p9 (.tup (cutV ts (some (at' : Int)) (some ((at' : Int) + 2))).reverse)) (upd G15 p9 (.tup (cutV ts (some (at' : Int)) (some ((at' : Int) + 2))).reverse)) := Grow.new gr15.sub hp9
          refine ⟨_, gr16.sub, _, gr16.part _ _ (gr15.part _ _ e7), _, upd_same, ?_, fun p10 H16 G16 gr17 e10 => ?_⟩
          · simp only [c1, c5, List.length_take, List.length_reverse, List.length_drop]
            exact line_le' (by omega)
          have gD := (gC.trans gr16).trans gr17
          refine ⟨G16, gr17.sub, ts, gD.part _ _ ea, fun p11 H17 G17 gr18 e11 => ⟨G17, gr18.sub, _, gr18.part _ _ e10, _, e11, ?_, fun p12 H18 G18 gr19 e12 => ?_⟩⟩
          · simp only [c1, c5, c6, List.length_append, List.length_take, List.length_reverse, List.length_drop]
            exact line_le' (by omega)
          have gE := (gD.trans gr18).trans gr19
          refine ⟨ts, .inr (.of (gE.sub _ _ (gE.part _ _ ea))), fun l hl => ⟨line_le' (by decide), fun p13 H19 s19 n13 e13 => ?_⟩⟩
          have gr20 : Grow H18 G18 (upd H18 l (.lst ts)) (upd G18 l (.lst ts)) := Grow.new gE.sub hl
          have gF := gE.trans gr20
          -- the rows, as data
          have h3 : (upd G18 l (.lst ts)) p3 = some (.tup (ts.take at' ++ ts.drop (at' + 1))) := by
            have := ((((((((gr11.trans gr12).trans gr13).trans gr14).trans gr15).trans gr16).trans gr17).trans gr18).trans gr19).trans gr20
            rw [← c1, ← c2]
            exact this.part _ _ e3
          have h6 : (upd G18 l (.lst ts)) p6 = some (.tup (ts.take (at' + 1) ++ ts.drop at')) := by
            have := (((((gr14.trans gr15).trans gr16).trans gr17).trans gr18).trans gr19).trans gr20
            rw [← c3, ← c4]
            exact this.part _ _ e6
          have h12 : (upd G18 l (.lst ts)) p12 = some (.tup ((ts.take at' ++ ((ts.drop at').take 2).reverse) ++ ts.drop (at' + 2))) := by
            rw [← c1, ← c5, ← c6]
            exact gr20.part _ _ e12
          have h20 : (upd G18 l (.lst ts)) l = some (.lst ts) := upd_same
          have hts20 := hts.same gF.part
          have ea20 := gF.part _ _ ea
          have gz := g7.trans (g7.to.grow gF)
          generalize upd G18 l (.lst ts) = GZ at h3 h6 h12 h20 hts20 ea20 gz
          have gy := gz.trans (gz.to.same s19)
          refine (show ∀ H7 : Hp, H7 p13 = some (.lst [.ref p3, .ref p6, .ref p12, .ref l]) → GD d c H G H7 GZ → u ?D3 [some (V.ref d), some (V.ref a), some (V.int ↑w9), some (V.ref p), none, some (V.int (at' : Nat)), some (V.ref p13)] H7 from ?h3) _ e13 gy
          case h3 =>
          have hall : DvAll GZ [.ref p3, .ref p6, .ref p12, .ref l] [.tuple (ds.take at' ++ ds.drop (at' + 1)), .tuple (ds.take (at' + 1) ++ ds.drop at'), .tuple ((ds.take at' ++ ((ds.drop at').take 2).reverse) ++ ds.drop (at' + 2)), .list ds] :=
            .cons (.tup h3 (hts20.take.append hts20.drop)) (.cons (.tup h6 (hts20.take.append hts20.drop)) (.cons (.tup h12 ((hts20.take.append hts20.drop.take.rev).append hts20.drop)) (.cons (.lst h20 hts20) .nil)))
          clear gy gz e13 n13 s19 h3 h6 h12 h20 gF gr20 hl gE gr19 gr18 gD gr17 gr16 gC gr15 gr14 gB gr13 gr12 gr11 gA gr10 gr9 gr8 g7
          intro H7 e13 g7
          subst hu
          refine seq_cut fun u hu => ?_
          walk_at "rq"
          by_cases hw4 : w9 < 4
          · refine iteY (decide_eq_true (by omega)) ?_
            obtain ⟨y, ey, hy⟩ := atI_in (xs := [V.ref p3, .ref p6, .ref p12, .ref l]) (i := (w9 : Int)) (by omega) (by show (w9 : Int) < 4; omega)
            obtain ⟨dy, md, hdy⟩ := hall.mem hy
            refine ⟨_, .of e13, y, ey, q y dy H7 GZ g7 hdy ?_⟩
            have m1 : ∀ n, ∀ y ∈ ds.take n, y ∈ ds := fun n y => List.mem_of_mem_take
            have m2 : ∀ n, ∀ y ∈ ds.drop n, y ∈ ds := fun n y => List.mem_of_mem_drop
            have w1 := wtL_take_le at' ds
            have w2 := wtL_drop_le (at' + 1) ds
            have w3 := wtL_take_le (at' + 1) ds
            have w4 := wtL_drop_le at' ds
            have w5 := wtL_take_le 2 (ds.drop at')
            have w6 := wtL_drop_le (at' + 2) ds
            have w7 := wtL_rev ((ds.drop at').take 2)
            simp only [List.mem_cons, List.not_mem_nil, or_false] at md
            rcases md with rfl | rfl | rfl | rfl
            · exact (gd_rows hg (fun y hy => (List.mem_append.mp hy).elim (m1 _ y) (m2 _ y)) (by rw [wtL_append]; omega)).1
            · exact (gd_rows hg (fun y hy => (List.mem_append.mp hy).elim (m1 _ y) (m2 _ y)) (by rw [wtL_append]; omega)).1
            · exact (gd_rows hg (fun y hy => (List.mem_append.mp hy).elim (fun hy => (List.mem_append.mp hy).elim (m1 _ y) (fun hy => m2 _ y (List.mem_of_mem_take (List.mem_reverse.mp hy)))) (m2 _ y)) (by rw [wtL_append, wtL_append]; omega)).1
            · exact (gd_rows hg (fun y hy => hy) (by omega)).2
          · refine iteN (decide_eq_false (by omega)) ?_
            subst hu
            walk_at "rq"
            simp only [rSlD, rCatD]
            have hds : at' < ds.length := by omega
            obtain ⟨de, ed, hde⟩ := dv_at (i := at') hts20 (List.getElem?_eq_getElem hat)
            have edrop : ds.drop at' = de :: ds.drop (at' + 1) := by
              rw [List.drop_eq_getElem_cons hds]
              have e1 := List.getElem?_eq_getElem hds
              rw [ed] at e1
              cases e1
              rfl
            have wsum := wtL_take at' ds
            rw [edrop] at wsum
            simp only [wtL] at wsum
            have hmem : de ∈ ds := List.mem_of_getElem? ed
            have okd : okL B ds = true := by
              have := hg.ok
              simp only [okD] at this
              exact this
            simp only [wt] at wx
            simp only [PyData.depth] at hn dx
            have hdd := depth_mem hmem
            have w3 := wtL_take_le at' ds
            refine ⟨GZ, a, ts, rfl, g7.to.sub, ea20, fun q1 H8 G8 gr8 e1 => ⟨ts, .of (gr8.sub _ _ (gr8.part _ _ ea20)), _, atI_nat hat, d, c, ts[at'], G8, de, B, wt de, de.depth, rfl, (g7.to.grow gr8).to, hde.same gr8.part, ⟨okL_iff.mp okd de hmem, Nat.le_refl _, Nat.le_refl _⟩, hB, by omega, by omega, fun x' dd' H9 G9 g9 hx' hg' => ⟨line_le' (by decide), fun q2 H10 s10 n10 e10 => ?_⟩⟩⟩
            have g8 := g7.trans (g7.to.grow gr8)
            have g10 := (g8.trans g9).trans (g9.to.at_ s10 n10 e10)
            have p9 := (g9.to.at_ s10 n10 e10).part
            refine ⟨_, q1, q2, _, _, rfl, rfl, g10.to.sub, p9 _ _ (g9.part _ _ e1), upd_same, ?_, fun q3 H11 G11 gr11 e11 => ⟨G11, a, ts, rfl, gr11.sub, gr11.part _ _ (p9 _ _ (g9.part _ _ (gr8.part _ _ ea20))), fun q4 H12 G12 gr12 e12 => ⟨G12, q3, q4, _, _, rfl, rfl, gr12.sub, gr12.part _ _ e11, e12, ?_, fun q5 H13 G13 gr13 e13 => ?_⟩⟩⟩
            · simp only [c1, List.length_take, List.length_cons, List.length_nil]
              exact line_le' (by omega)
            · simp only [c1, c2, List.length_append, List.length_take, List.length_drop, List.length_cons, List.length_nil]
              exact line_le' (by omega)
            · have gT := (gr11.trans gr12).trans gr13
              have hts13 : DvAll G13 ts ds := (((hts20.same gr8.part).same g9.part).same p9).same gT.part
              have hx13 := (hx'.same p9).same gT.part
              rw [c1, c2] at e13
              refine q (.ref q5) (.tuple ((ds.take at' ++ [dd']) ++ ds.drop (at' + 1))) H13 G13 (g10.trans (g10.to.grow gT)) (.tup e13 ((hts13.take.append (.cons hx13 .nil)).append hts13.drop)) ⟨?_, ?_, ?_⟩
              · simp only [okD]
                refine okL_iff.mpr fun y hy => ?_
                rcases List.mem_append.mp hy with hy | hy
                · rcases List.mem_append.mp hy with hy | hy
                  · exact okD_mono (by omega) y (okL_iff.mp okd y (List.mem_of_mem_take hy))
                  · rw [List.mem_singleton.mp hy]
                    exact hg'.ok
                · exact okD_mono (by omega) y (okL_iff.mp okd y (List.mem_of_mem_drop hy))
              · have := hg'.wt
                simp only [wt]
                rw [wtL_append, wtL_append]
                simp only [wtL]
                omega
              · simp only [PyData.depth]
                refine Nat.succ_le_succ (depthAll_le fun y hy => ?_)
                rcases List.mem_append.mp hy with hy | hy
                · rcases List.mem_append.mp hy with hy | hy
                  · have := depth_mem (List.mem_of_mem_take hy)
                    omega
                  · rw [List.mem_singleton.mp hy]
                    have := hg'.depth
                    omega
                · have := depth_mem (List.mem_of_mem_drop hy)
                  omega
        | _ => exact iteY rfl (pick18 H4 g4 hp4)
/-- another thing, at each level -/
theorem ok__law_odd {f : Addr} {fd : FuncData} (D : Df K mg "_law_odd" s__law_odd f fd) (T : Tx K mg) (c__law_draw : Cal P w K mg base "_law_draw" ["_law_deck_here", "_law_many"] 1 spDraw) : ∀ n : Nat, Cal P w K mg base "_law_odd" ["_law_deck_here", "_law_it"] (n + 1) (spOdd n)
  | 0 => D.cal (k := 0) sc__law_odd (fun vs H Q E h => by
      obtain ⟨d, c, x, G, dd, B, W, Dp, rfl, _⟩ := h
      rfl) (fun _ _ _ _ _ _ us hl => match us, hl with | [_, _], _ => rfl) (fun cdv A outer s H vs Q E hgu hr h => by
      obtain ⟨d, c, x, G, dd, B, W, Dp, _, _, _, _, _, _, hn, _⟩ := h
      exact absurd hn (Nat.not_lt_zero _))
  | n + 1 => st__law_odd (k := n + 1) (by omega) D T c__law_draw (ok__law_odd D T c__law_draw n)
end
end Vf
namespace Vf
open PySem L2 PyProof.Rows PySem.Spec

local macro_rules | `(tactic| walk_at "rd") => `(tactic| simp only [tSeq, tIfS, tOr, tAnd, tNot, tB, tTest, tChain, tCB, tCons, tNil, tVar, tC, tRet, tAndV, tOrV, tNotV, tOp, tNext, tDrop, tAsg, tPar, tYes, tIf, tCall, tCalK, tTup, tLst, tSl, tNoPart, tPart, tM0, tM1, tRevL, tBM0, tBM, gName, rI0, rI, rU, rInA, rEqA, rAddA, rMulA, rSlAny, iAny, rIsi, rAll, rAny, rSum, rList, rTuple, rLen, rLenS, rLenSeq, rMulS, CDiv, rIn, rEqD, rNeD, iList, iTup, iStr, rCat, rCatA, rSlL, rSlA, rSlS, gSub, rPop, rAppend, rSetL, rIx, rIxL, rIxT, rIxS, LenV,
  L2.start, List.map_cons, List.map_nil, List.length_cons, List.length_nil, List.cons_append, List.nil_append, List.append_nil, Nat.zero_add, Nat.add_sub_cancel, Nat.sub_self, List.replicate_succ, List.replicate_zero, List.getElem?_cons_zero, List.getElem?_cons_succ, List.set_cons_zero, List.set_cons_succ,
  Option.some.injEq, V.int.injEq, V.str.injEq, V.bl.injEq, V.ref.injEq, List.cons.injEq, and_true, true_and, exists_eq_left', exists_eq_left, exists_eq_right, exists_and_left, exists_and_right, false_or, or_false, reduceCtorEq, false_and, and_false, exists_false, Bool.not_true, Bool.not_false, if_true, if_false, Bool.false_eq_true, ite_true, ite_false])
local macro_rules | `(tactic| walk_at "rq") => `(tactic| (walk_at "rd"; (try simp only [rEq_int, rEq_str, rNe_int, tUn, rU, tC, rInT, rInK, rIxK, rExtendT, rSlU, rCatU, rEqE, rIntB, tTupU, tLstU, tDGet2, tCont, tToT, tDL, tD, tEL, tE, tRevT, V.int.injEq, V.str.injEq, V.bl.injEq, V.ref.injEq, exists_eq_left', exists_eq_left, Bool.false_bne, Bool.false_xor, Bool.true_xor]); (try walk_at "rd"); (try (simp only [tTupU, tLstU, tDL, tD, tEL, tE]; try walk_at "rd")); (try (simp only [tTupU, tLstU, tDL, tD, tEL, tE]; try walk_at "rd"))))
/-! ## tests: all things of a term, which of them are plain -/
def headsL : List Str := ["const", "num", "and", "or", "xor", "not"]
def testL : List Str := ["same", "unlike", "below", "under"]
def blankD : PyData → Bool
  | .str s => decide (s = Str.ofString "")
  | _ => false
def plain1 : PyData → Bool
  | .tuple (.str h :: r) => if h ∈ flaggedL then blankD (r.headD .none) else decide (h ∈ headsL)
  | _ => false
def plf : Nat → PyData → Bool
  | 0, _ => true
  | n + 1, d => plain1 d && (partsD d).all (plf n)
def plainD (d : PyData) : Bool := plf (sz d) d
def thf : Nat → PyData → List PyData
  | 0, _ => []
  | n + 1, d => d :: (partsD d).flatMap (thf n)
def thingsD (d : PyData) : List PyData := thf (sz d) d
theorem thf_all : ∀ (n : Nat) (d : PyData), (thf n d).all plain1 = plf n d
  | 0, _ => rfl
  | n + 1, d => by
    rw [thf, plf, List.all_cons]
    congr 1
    have : ∀ l : List PyData, (l.flatMap (thf n)).all plain1 = l.all (plf n) := by
      intro l
      induction l with
      | nil => rfl
      | cons a l ih => rw [List.flatMap_cons, List.all_append, List.all_cons, thf_all n a, ih]
    exact this _
theorem thf_more : ∀ (n : Nat) (d : PyData), sz d ≤ n → ∀ m, sz d ≤ m → thf n d = thf m d
  | 0, d, h, _, _ => by
    have := sz_pos d
    omega
  | n + 1, d, h, 0, h2 => by
    have := sz_pos d
    omega
  | n + 1, d, h, m + 1, h2 => by
    rw [thf, thf]
    congr 1
    have hp := sz_parts d
    have : ∀ l : List PyData, szL l < sz d → l.flatMap (thf n) = l.flatMap (thf m) := by
      intro l
      induction l with
      | nil => intro _; rfl
      | cons a l ih =>
        intro hl
        simp only [szL] at hl
        rw [List.flatMap_cons, List.flatMap_cons, thf_more n a (by omega) m (by omega), ih (by omega)]
    exact this _ hp
theorem thf_parts {l : List PyData} {n : Nat} (h : szL l ≤ n) : l.flatMap (thf n) = l.flatMap thingsD := by
  induction l with
  | nil => rfl
  | cons a l ih =>
    simp only [szL] at h
    rw [List.flatMap_cons, List.flatMap_cons, ih (by omega)]
    congr 1
    exact thf_more n a (by omega) (sz a) (Nat.le_refl _)
theorem things_eq (d : PyData) : thingsD d = d :: (partsD d).flatMap thingsD := by
  have hp := sz_parts d
  have := sz_pos d
  show thf (sz d) d = _
  obtain ⟨n, hn⟩ : ∃ n, sz d = n + 1 := ⟨sz d - 1, by omega⟩
  rw [hn, thf, thf_parts (by omega)]
theorem things_plain (d : PyData) : (thingsD d).all plain1 = plainD d := thf_all _ _
theorem plain_eq (d : PyData) : plainD d = (plain1 d && (partsD d).all plainD) := by
  rw [← things_plain, things_eq, List.all_cons]
  congr 1
  have : ∀ l : List PyData, (l.flatMap thingsD).all plain1 = l.all plainD := by
    intro l
    induction l with
    | nil => rfl
    | cons a l ih => rw [List.flatMap_cons, List.all_append, List.all_cons, things_plain, ih]
  exact this _
theorem things_shape : ∀ (n : Nat) (d : PyData), isTD d = true → ∀ y ∈ thf n d, shapeD y = true
  | 0, _, _, y, hy => absurd hy List.not_mem_nil
  | n + 1, d, h, y, hy => by
    rw [isTD_eq, Bool.and_eq_true] at h
    rw [thf] at hy
    rcases List.mem_cons.mp hy with rfl | hy
    · exact h.1
    · obtain ⟨p, hp, hy⟩ := List.mem_flatMap.mp hy
      exact things_shape n p (List.all_eq_true.mp h.2 p hp) y hy
/-- how many things -/
theorem things_len (d : PyData) : (thingsD d).length ≤ sz d := by
  have : ∀ n : Nat, ∀ d : PyData, sz d ≤ n → (thf n d).length ≤ sz d := by
    intro n
    induction n with
    | zero => intro d h; exact Nat.zero_le _
    | succ n ih =>
      intro d h
      have hp := sz_parts d
      rw [thf, List.length_cons]
      have : ∀ l : List PyData, szL l ≤ n → (l.flatMap (thf n)).length ≤ szL l := by
        intro l
        induction l with
        | nil => intro _; exact Nat.zero_le _
        | cons a l ih2 =>
          intro hl
          simp only [szL] at hl ⊢
          rw [List.flatMap_cons, List.length_append]
          have := ih a (by omega)
          have := ih2 (by omega)
          omega
      have := this (partsD d) (by omega)
      omega
  exact this _ d (Nat.le_refl _)
/-- a row of truths, as a comprehension makes it -/
def LcB (H1 : Hp) (D : Addr) (ds : List PyData) (g : PyData → Bool) (i : Nat) (H' : Hp) : Prop := Same H1 H' ∧ H' D = some (.lst (((ds.take i).map g).map V.bl))
theorem lcB_turn {i : Nat} {H1 H : Hp} {D : Addr} {ys : List V} {ds : List PyData} {g : PyData → Bool} {x : V} (hy : DvAll H1 ys ds) (hl : ds.length ≤ 500000) (nD : H1 D = none) (hx : ys[i]? = some x) (h : LcB H1 D ds g i H) :
    ∃ d, d ∈ ds ∧ Dv H x d ∧ ∀ H2, Same H H2 → ∃ acc, H2 D = some (.lst acc) ∧ acc.length < sizeLine ∧ LcB H1 D ds g (i + 1) (upd H2 D (.lst (acc ++ [.bl (g d)]))) := by
  obtain ⟨s1, e⟩ := h
  obtain ⟨d, ed, hv⟩ := dv_at hy hx
  have li : i < ds.length := (List.getElem?_eq_some_iff.mp ed).1
  refine ⟨d, List.mem_of_getElem? ed, hv.same s1, fun H2 s2 => ⟨_, s2 _ _ e, ?_, fun b o eb => ?_, ?_⟩⟩
  · have := sizeLine_eq
    rw [List.length_map, List.length_map, List.length_take]
    omega
  · rw [upd_ne (fun z => by rw [z, nD] at eb; cases eb)]
    exact s2 _ _ (s1 _ _ eb)
  · have et : ds.take (i + 1) = ds.take i ++ [d] := by rw [List.take_add_one, ed]; rfl
    rw [upd_same, et]
    simp
theorem lcB_end {H1 H2 : Hp} {D : Addr} {ds : List PyData} {g : PyData → Bool} (h : LcB H1 D ds g ds.length H2) : Same H1 H2 ∧ H2 D = some (.lst ((ds.map g).map V.bl)) ∧ (ds.map g).all id = ds.all g := by
  obtain ⟨s1, e⟩ := h
  rw [List.take_length] at e
  refine ⟨s1, e, ?_⟩
  rw [List.all_map]
  rfl
section
variable {P : Program} {w : World} {K : PySem.W.Frag} {mg : Str → Option Value} {base : Heap}
def spPlain1 : Sp := fun vs H Q _ => ∃ (x : V) (d : PyData), vs = [x] ∧ Dv H x d ∧ shapeD d = true ∧ ∀ H', Same H H' → Q (.bl (plain1 d)) H'
abbrev s_is_plain_thing : Stmt := top 21
theorem sc_is_plain_thing : FnScope ["thing"] ["thing"] (defScope s_is_plain_thing) := ⟨rfl, rfl, rfl, by decide +kernel, rfl, by decide +kernel, by decide +kernel⟩
theorem ok_is_plain_thing {f : Addr} {fd : FuncData} (D : Df K mg "is_plain_thing" s_is_plain_thing f fd) (T : Tx K mg) {aFLAGGED : Addr} (mFLAGGED : mg "FLAGGED" = some (.ref aFLAGGED)) (tFLAGGED : ∀ H, SqT K H aFLAGGED (flaggedL.map V.str))
    {aTEST_HEADS : Addr} (mTEST_HEADS : mg "TEST_HEADS" = some (.ref aTEST_HEADS)) (tTEST_HEADS : ∀ H, SqT K H aTEST_HEADS (headsL.map V.str)) : Cal P w K mg base "is_plain_thing" ["thing"] 1 spPlain1 := by
  refine D.cal sc_is_plain_thing (fun vs H Q E h => ?_) (fun _ _ _ _ _ _ us hl => match us, hl with | [_], _ => rfl) (fun cdv A outer s H vs Q E hgu hr h => ?_)
  · obtain ⟨x, d, rfl, _⟩ := h
    rfl
  · obtain ⟨x, d, rfl, hd, hs, q⟩ := h
    refine ⟨_, (pss_cons (ps_if (pt_cmpR (aInSeq (K := K) rfl) (pe_ix (aIxT (K := K) rfl) (pv 0) pe_int (fun _ _ => rfl)) (pe_glob (v := .ref aFLAGGED) rfl mFLAGGED rfl) (by rfl)) (pss_one (ps_ret (pe_cmpR op_eq (pe_ix (aIxT (K := K) rfl) (pv 0) pe_int (fun _ _ => rfl)) pe_str (by rfl)))) pss_nil) (pss_one (ps_ret (pe_cmpR (aInSeq (K := K) rfl) (pe_ix (aIxT (K := K) rfl) (pv 0) pe_int (fun _ _ => rfl)) (pe_glob (v := .ref aTEST_HEADS) rfl mTEST_HEADS rfl) (by rfl))))), ?_⟩
    walk_at "rq"
    obtain ⟨h, r, rfl⟩ : ∃ h r, d = .tuple (.str h :: r) := by
      unfold shapeD at hs
      split at hs
      · exact ⟨_, _, rfl⟩
      · exact absurd hs Bool.false_ne_true
    cases hd with
    | @tup a xs _ e hx =>
      cases hx with
      | @cons v xs _ _ h0 hx =>
        cases h0 with
        | str h =>
          refine ⟨a, rfl, _, .of e, .str h, at0, flaggedL.map V.str, .inr (tFLAGGED H), rfl, flat_strs _, ?_⟩
          rw [inV_strs]
          have q0 := q H (Same.refl H)
          by_cases hf : h ∈ flaggedL
          · refine iteY (decide_eq_true hf) ?_
            have hn : h ∉ leavesL ∧ ¬ h = "choice" := (show ∀ h ∈ flaggedL, h ∉ leavesL ∧ ¬ h = "choice" by decide +kernel) h hf
            have hs' : shapeT h r = true := hs
            unfold shapeT at hs'
            rw [cnt_flag hf] at hs'
            simp only [hn.1, hn.2, hf, if_false, if_true, Bool.and_eq_true] at hs'
            have ha := hs'.2
            cases hx with
            | nil => exact absurd ha Bool.false_ne_true
            | @cons v1 xs d1 r h1 hx =>
              cases h1 with
              | str s1 =>
                refine ⟨a, rfl, _, .of e, .str s1, at1, ?_⟩
                rw [rEq_str]
                rw [show plain1 (.tuple (.str h :: .str s1 :: r)) = decide (s1 = Str.ofString "") by
                  rw [plain1, if_pos hf]
                  rfl] at q0
                exact q0
              | _ => exact absurd ha Bool.false_ne_true
          · refine iteN (decide_eq_false hf) ⟨a, rfl, _, .of e, .str h, at0, headsL.map V.str, .inr (tTEST_HEADS H), rfl, flat_strs _, ?_⟩
            rw [inV_strs]
            rw [show plain1 (.tuple (.str h :: r)) = decide (h ∈ headsL) by rw [plain1, if_neg hf]] at q0
            exact q0
theorem szL_rev : ∀ l : List PyData, szL l.reverse = szL l
  | [] => rfl
  | d :: l => by
    rw [List.reverse_cons, szL_append, szL_rev l]
    simp only [szL]
    omega
end
theorem szL_reverse : ∀ l : List PyData, szL l.reverse = szL l
  | [] => rfl
  | x :: l => by
    rw [List.reverse_cons, szL_append, szL_reverse l]
    simp only [szL]
    omega
theorem DvAll.reverse {H : Hp} : ∀ {xs : List V} {ds : List PyData}, DvAll H xs ds → DvAll H xs.reverse ds.reverse
  | _, _, .nil => .nil
  | _, _, .cons h t => by
    rw [List.reverse_cons, List.reverse_cons]
    exact t.reverse.append (.cons h .nil)
/-- what kind of term it is -/
inductive TForm : PyData → Prop
  | leaf (h : Str) (d : PyData) : h ∈ leavesL → leafD h d = true → TForm (.tuple [.str h, d])
  | choice (r : Str) (t v p q : PyData) : r ∈ compL → (∀ x ∈ [t, v, p, q], isTD x = true) → TForm (.tuple [.str "choice", .tuple [.str r, t, v], p, q])
  | flag (h f : Str) (ps : List PyData) : h ∈ flaggedL → f ∈ flagsL → ps.length = (if h = "twice" then 1 else 2) → (∀ x ∈ ps, isTD x = true) → TForm (.tuple (.str h :: .str f :: ps))
  | other (h : Str) (ps : List PyData) : (h ∈ pairsL ∧ ps.length = 2) ∨ (h ∈ singlesL ∧ ps.length = 1) → (∀ x ∈ ps, isTD x = true) → TForm (.tuple (.str h :: ps))
theorem tform {d : PyData} (h : isTD d = true) : TForm d := by
  obtain ⟨hh, r, rfl⟩ : ∃ hh r, d = .tuple (.str hh :: r) := by
    have hs : shapeD d = true := by
      rw [isTD_eq, Bool.and_eq_true] at h
      exact h.1
    unfold shapeD at hs
    split at hs
    · exact ⟨_, _, rfl⟩
    · exact absurd hs Bool.false_ne_true
  by_cases h1 : hh ∈ leavesL
  · rw [eq_leaf h1, Bool.and_eq_true, decide_eq_true_eq] at h
    match r, h with
    | [d], ⟨_, h⟩ => exact .leaf hh d h1 h
  by_cases h2 : hh = "choice"
  · subst h2
    rw [eq_choice, Bool.and_eq_true, decide_eq_true_eq] at h
    match r, h with
    | [a, p, q], ⟨_, h⟩ =>
      rw [Bool.and_eq_true] at h
      obtain ⟨h3, h4⟩ := h
      have h3 : triD compL a = true := h3
      obtain ⟨s, t, v, rfl, hs⟩ : ∃ s t v, a = .tuple [.str s, t, v] ∧ s ∈ compL := by
        unfold triD amongD at h3
        split at h3
        · split at h3
          · exact ⟨_, _, _, rfl, of_decide_eq_true h3⟩
          · exact absurd h3 Bool.false_ne_true
        · exact absurd h3 Bool.false_ne_true
      exact .choice s t v p q hs fun x hx => List.all_eq_true.mp h4 x (by simpa [behind] using hx)
  by_cases h3 : hh ∈ flaggedL
  · rw [eq_flag h1 h2 h3, Bool.and_eq_true, decide_eq_true_eq, Bool.and_eq_true] at h
    obtain ⟨l, h4, h5⟩ := h
    match r, h4, h5, l with
    | f :: ps, h4, h5, l =>
      have h4 : amongD flagsL f = true := h4
      obtain ⟨s, rfl, hs⟩ : ∃ s, f = .str s ∧ s ∈ flagsL := by
        unfold amongD at h4
        split at h4
        · exact ⟨_, rfl, of_decide_eq_true h4⟩
        · exact absurd h4 Bool.false_ne_true
      refine .flag hh s ps h3 hs ?_ fun x hx => List.all_eq_true.mp h5 x hx
      simp only [List.length_cons] at l
      split
      · next e => rw [if_pos e] at l; omega
      · next e => rw [if_neg e] at l; omega
    | [], h4, _, _ => exact absurd h4 Bool.false_ne_true
  · rw [eq_other h1 h2 h3] at h
    simp only [Bool.and_eq_true, decide_eq_true_eq] at h
    refine .other hh r ?_ fun x hx => List.all_eq_true.mp h.2.2 x hx
    by_cases h4 : hh ∈ pairsL
    · have := (cnt_pair h4).2
      simp [h4, this] at h
      exact .inl ⟨h4, by omega⟩
    · by_cases h5 : hh ∈ singlesL
      · simp [h4, h5] at h
        exact .inr ⟨h5, by omega⟩
      · simp [h4, h5] at h
theorem parts_leaf {h : Str} {r : List PyData} (m : h ∈ leavesL) : partsD (.tuple (.str h :: r)) = [] := by
  show partsT h r = []
  rw [partsT, if_pos m]
theorem parts_choice {r : Str} {t v p q : PyData} : partsD (.tuple [.str "choice", .tuple [.str r, t, v], p, q]) = [t, v, p, q] := by
  show partsT "choice" _ = _
  rw [partsT, if_neg (by decide +kernel), if_pos rfl]
  rfl
theorem flag_not {h : Str} (m : h ∈ flaggedL) : h ∉ leavesL ∧ ¬ h = "choice" := (show ∀ h ∈ flaggedL, h ∉ leavesL ∧ ¬ h = "choice" by decide +kernel) h m
theorem other_not {h : Str} {ps : List PyData} (m : (h ∈ pairsL ∧ ps.length = 2) ∨ (h ∈ singlesL ∧ ps.length = 1)) : h ∉ leavesL ∧ ¬ h = "choice" ∧ h ∉ flaggedL := by
  rcases m with ⟨m, _⟩ | ⟨m, _⟩
  · exact (show ∀ h ∈ pairsL, h ∉ leavesL ∧ ¬ h = "choice" ∧ h ∉ flaggedL by decide +kernel) h m
  · exact (show ∀ h ∈ singlesL, h ∉ leavesL ∧ ¬ h = "choice" ∧ h ∉ flaggedL by decide +kernel) h m
theorem parts_flag {h f : Str} {ps : List PyData} (m : h ∈ flaggedL) : partsD (.tuple (.str h :: .str f :: ps)) = ps := by
  show partsT h _ = _
  rw [partsT, if_neg (flag_not m).1, if_neg (flag_not m).2, if_pos m]
  rfl
theorem parts_other {h : Str} {ps : List PyData} (m : (h ∈ pairsL ∧ ps.length = 2) ∨ (h ∈ singlesL ∧ ps.length = 1)) : partsD (.tuple (.str h :: ps)) = ps := by
  obtain ⟨h1, h2, h3⟩ := other_not m
  show partsT h _ = _
  rw [partsT, if_neg h1, if_neg h2, if_neg h3]
theorem DvAll.tups {H : Hp} {a : Addr} {ds : List PyData} (h : Dv H (.ref a) (.tuple ds)) : ∃ xs, H a = some (.tup xs) ∧ DvAll H xs ds := by
  cases h with
  | tup e t => exact ⟨_, e, t⟩
theorem Dv.tupR {H : Hp} {x : V} {ds : List PyData} (h : Dv H x (.tuple ds)) : ∃ a xs, x = .ref a ∧ H a = some (.tup xs) ∧ DvAll H xs ds := by
  cases h with
  | tup e t => exact ⟨_, _, rfl, e, t⟩
theorem Dv.strR {H : Hp} {x : V} {s : Str} (h : Dv H x (.str s)) : x = .str s := by
  cases h
  rfl
theorem Dv.intR {H : Hp} {x : V} {i : Int} (h : Dv H x (.int i)) : x = .int i := by
  cases h
  rfl
theorem DvAll.consR {H : Hp} {xs : List V} {d : PyData} {ds : List PyData} (h : DvAll H xs (d :: ds)) : ∃ x ys, xs = x :: ys ∧ Dv H x d ∧ DvAll H ys ds := by
  cases h with
  | cons a b => exact ⟨_, _, rfl, a, b⟩
theorem DvAll.nilR {H : Hp} {xs : List V} (h : DvAll H xs []) : xs = [] := by
  cases h
  rfl
/-- the walk under way -/
structure TW (H : Hp) (x : V) (p q : Addr) (d0 : PyData) (m : Nat) (σ : L2.St) (H1 : Hp) : Prop where
  ex : ∃ (o1 o2 : Option V) (fs ws : List V) (fd wd : List PyData), σ = [some x, some (.ref p), some (.ref q), o1, o2] ∧ H1 p = some (.lst fs) ∧ H1 q = some (.lst ws) ∧ DvAll H fs fd ∧ DvAll H ws wd ∧ (∀ y ∈ wd, isTD y = true) ∧
    fd ++ wd.reverse.flatMap thingsD = thingsD d0 ∧ m = szL wd ∧ fd.length + szL wd ≤ 500000
  same : Same H H1
theorem FnG.up {P : Program} {w : World} {K : PySem.W.Frag} {mg : Str → Option Value} {base : Heap} {C : CXT} {k k' : Nat} {f : Addr} {fd : FuncData} {ps : List Str} {sp : Sp} (F : FnG P w K mg base C k f fd ps sp) (h : k ≤ k') : FnG P w K mg base C k' f fd ps sp := ⟨F.many, fun A outer s H args us vs Q E hg hr => F.go A outer s H args us vs Q E hg (hr.mono h)⟩
theorem FnG.imp {P : Program} {w : World} {K : PySem.W.Frag} {mg : Str → Option Value} {base : Heap} {C : CXT} {k : Nat} {f : Addr} {fd : FuncData} {ps : List Str} {sp sp' : Sp} (F : FnG P w K mg base C k f fd ps sp) (h : ∀ vs H Q E, sp' vs H Q E → sp vs H Q E) : FnG P w K mg base C k f fd ps sp' :=
  ⟨fun vs H Q E z => F.many vs H Q E (h vs H Q E z), fun A outer s H args us vs Q E hg hr e b r z => F.go A outer s H args us vs Q E hg hr e b r (h vs H Q E z)⟩
section
variable {P : Program} {w : World} {K : PySem.W.Frag} {mg : Str → Option Value} {base : Heap}
def spThings2 : Sp := fun vs H Q _ => ∃ (x : V) (d : PyData), vs = [x] ∧ Dv H x d ∧ isTD d = true ∧ sz d ≤ 500000 ∧ ∀ (p : Addr) (xs : List V) (H' : Hp), Same H H' → H p = none → H' p = some (.tup xs) → DvAll H' xs (thingsD d) → Q (.ref p) H'
abbrev s_things_of : Stmt := top 18
theorem sc_things_of : FnScope ["term", "found", "waiting", "one", "head"] ["term"] (defScope s_things_of) := ⟨rfl, rfl, rfl, by decide +kernel, rfl, by decide +kernel, by decide +kernel⟩
set_option format.width 500 in
set_option format.indent 0 in
set_option pp.deepTerms true in
set_option pp.maxSteps 200000 in
theorem fn_things_of {f : Addr} {fd : FuncData} (D : Df K mg "things_of" s_things_of f fd) (T : Tx K mg) {aLEAVES : Addr} (mLEAVES : mg "LEAVES" = some (.ref aLEAVES)) (tLEAVES : ∀ H, SqT K H aLEAVES (leavesL.map V.str)) {aFLAGGED : Addr} (mFLAGGED : mg "FLAGGED" = some (.ref aFLAGGED)) (tFLAGGED : ∀ H, SqT K H aFLAGGED (flaggedL.map V.str)) : FnG P w K mg base CX0 1 f fd ["term"] spThings2 := by
  refine D.fnG sc_things_of (fun vs H Q E h => ?_) (fun cdv A outer s H vs Q E hgu hr h => ?_)
  · obtain ⟨x, d, rfl, _⟩ := h
    rfl
  · obtain ⟨x, d0, rfl, hd0, ht0, hz, fin⟩ := h
    refine ⟨_, (pss_cons (ps_set (i := 1) sc_things_of.nd rfl (by first | exact Or.inl rfl | exact Or.inr rfl) (pe_lstU pa_nil)) (pss_cons (ps_set (i := 2) sc_things_of.nd rfl (by first | exact Or.inl rfl | exact Or.inr rfl) (pe_lstU (pa_cons (pv 0) pa_nil))) (pss_cons (ps_while PassesOwn.never (pt_truth (pv 2) (by intro _; rfl)) (pss_cons (ps_set (i := 3) sc_things_of.nd rfl (by first | exact Or.inl rfl | exact Or.inr rfl) (pe_bm0 PySem.F.plainAttrs_list PySem.F.slot_list_pop PySem.F.type_list_pop mt_pop (pv 2))) (pss_cons (ps_expr (pe_bm PySem.F.plainAttrs_list PySem.F.slot_list_append PySem.F.type_list_append mt_append (pv 1) (pa_cons (pv 3) pa_nil))) (pss_cons (ps_set (i := 4) sc_things_of.nd rfl (by first | exact Or.inl rfl | exact Or.inr rfl) (pe_ix (aIxT (K := K) rfl) (pv 3) pe_int (fun _ _ => rfl))) (pss_cons (ps_if (pt_cmpR (aInSeq (K := K) rfl) (pv 4) (pe_glob (v := .ref aLEAVES) rfl mLEAVES rfl) (by rfl)) (pss_one ps_continue) pss_nil) (pss_one (ps_if (pt_cmpR op_eq (pv 4) pe_str (by rfl)) (pss_one (ps_expr (pe_bm PySem.F.plainAttrs_list PySem.F.slot_list_extend PySem.F.type_list_extend (aExtendT (K := K) rfl) (pv 2) (pa_cons (pe_tupU (pa_cons (pe_ix (aIxT (K := K) rfl) (pv 3) pe_int (fun _ _ => rfl)) (pa_cons (pe_ix (aIxT (K := K) rfl) (pv 3) pe_int (fun _ _ => rfl)) (pa_cons (pe_ix (aIxT (K := K) rfl) (pe_ix (aIxT (K := K) rfl) (pv 3) pe_int (fun _ _ => rfl)) pe_int (fun _ _ => rfl)) (pa_cons (pe_ix (aIxT (K := K) rfl) (pe_ix (aIxT (K := K) rfl) (pv 3) pe_int (fun _ _ => rfl)) pe_int (fun _ _ => rfl)) pa_nil))))) pa_nil)))) (pss_one (ps_expr (pe_bm PySem.F.plainAttrs_list PySem.F.slot_list_extend PySem.F.type_list_extend (aExtendT (K := K) rfl) (pv 2) (pa_cons (aToT (K := K) rfl (pv 3) (pe_ifExp (pt_cmpR (aInSeq (K := K) rfl) (pv 4) (pe_glob (v := .ref aFLAGGED) rfl mFLAGGED rfl) (by rfl)) pe_int pe_int)) pa_nil))))))))))) (pss_one (ps_ret (pe_callTy (aTuple (K := K) rfl) (by rfl) T.tuple (by decide +kernel) (pa_cons (pv 1) pa_nil))))))), ?_⟩
    walk_at "rq"
    refine ⟨Nat.zero_le _, fun p H1 s1 n1 e1 => ⟨line_le' (by decide), fun q H2 s2 n2 e2 => ⟨TW H x p q d0, ⟨sz d0, ⟨⟨none, none, [], [x], [], [d0], rfl, s2 _ _ e1, e2, .nil, .cons hd0 .nil, fun y hy => by rw [List.mem_singleton.mp hy]; exact ht0, by simp, by simp [szL], by simp [szL]; exact hz⟩, s1.trans s2⟩⟩, fun m σ Hc hw => ?_⟩⟩⟩
    have npq : p ≠ q := fun z => by rw [← z, e1] at n2; cases n2
    have pH : H p = none := n1
    have qH : H q = none := s1.free n2
    obtain ⟨⟨o1, o2, fs, ws, fd, wd, rfl, ep, eq, hf, hw, htw, htot, rfl, hlen⟩, sc⟩ := hw
    refine ⟨_, rfl, _, .inl ⟨ws, .of eq, rfl⟩, ?_⟩
    have keep : ∀ {H3 : Hp} {b : Addr} {u : HO}, H b = none → Same H H3 → Same H (upd H3 b u) := fun nb s a o e => by
      rw [upd_ne (fun z => by rw [z, nb] at e; cases e)]
      exact s a o e
    rcases list_end' ws with rfl | ⟨vs, z, rfl⟩
    · cases hw
      refine iteN rfl ?_
      walk_at "rq"
      refine ⟨fs, .inl ⟨.of ep, fun l hl => ?_⟩⟩
      have : fd = thingsD d0 := by simpa using htot
      rw [← this] at fin
      exact fin l fs _ (sc.trans (same_upd hl)) (sc.free hl) upd_same (hf.same (sc.trans (same_upd hl)))
    · obtain ⟨ds, d1, rfl, hv1, hd1⟩ := hw.last
      refine iteY (by cases vs <;> rfl) ⟨fun σ' H' => ∃ m', m' < szL (ds ++ [d1]) ∧ TW H x p q d0 m' σ' H', fun _ _ h => h, ?_⟩
      have ez : szL (ds ++ [d1]) = szL ds + sz d1 := by
        rw [szL_append]
        simp only [szL, Nat.add_zero]
      have t1 : isTD d1 = true := htw d1 (by simp)
      have tds : ∀ y ∈ ds, isTD y = true := fun y hy => htw y (by simp [hy])
      have htot' : (fd ++ [d1]) ++ ((partsD d1).flatMap thingsD ++ ds.reverse.flatMap thingsD) = thingsD d0 := by
        rw [← htot]
        simp [things_eq d1]
      have lt := sz_parts d1
      have dl : (vs ++ [z]).dropLast = vs := by simp
      have l1 := szL_len ds
      rw [ez] at hlen ⊢
      have sp1 := sz_pos d1
      obtain ⟨Ha, hHa⟩ : ∃ Ha, Ha = upd (upd Hc q (.lst vs)) p (.lst (fs ++ [z])) := ⟨_, rfl⟩
      have sa : Same H Ha := by rw [hHa]; exact keep pH (keep qH sc)
      have eqa : Ha q = some (.lst vs) := by rw [hHa, upd_ne npq.symm, upd_same]
      have epa : Ha p = some (.lst (fs ++ [z])) := by rw [hHa, upd_same]
      have hf1 : DvAll H (fs ++ [z]) (fd ++ [d1]) := hf.append (.cons hd1 .nil)
      -- what is put behind what waits
      have go : ∀ (o1 o2 : Option V) (Hb : Hp) (ys : List V) (ps : List PyData), Same Ha Hb → DvAll H ys ps → ps.reverse = partsD d1 → TW H x p q d0 (szL (ds ++ ps)) [some x, some (.ref p), some (.ref q), o1, o2] (upd Hb q (.lst (vs ++ ys))) := by
        intro o1 o2 Hb ys ps sb hy hp
        have e1 : szL ps = szL (partsD d1) := by rw [← hp, szL_reverse]
        refine ⟨⟨o1, o2, fs ++ [z], vs ++ ys, fd ++ [d1], ds ++ ps, rfl, by rw [upd_ne npq]; exact sb _ _ epa, upd_same, hf1, hv1.append hy, fun y hy => ?_, ?_, rfl, ?_⟩, keep qH (sa.trans sb)⟩
        · rcases List.mem_append.mp hy with m | m
          · exact tds y m
          · rw [isTD_eq, Bool.and_eq_true] at t1
            exact List.all_eq_true.mp t1.2 y (by rw [← hp]; exact List.mem_reverse.mpr m)
        · rw [← htot', List.reverse_append, hp, List.flatMap_append]
        · rw [List.length_append, List.length_singleton, szL_append, e1]
          omega
      have less : ∀ ps : List PyData, ps.reverse = partsD d1 → szL (ds ++ ps) < szL ds + sz d1 ∧ ps.length ≤ sz d1 := by
        intro ps hp
        have e1 : szL ps = szL (partsD d1) := by rw [← hp, szL_reverse]
        have l2 := szL_len ps
        rw [szL_append]
        omega
      walk_at "rq"
      refine ⟨.inl ⟨rfl, _, .of eq⟩, _, eq, z, by simp, ?_⟩
      rw [dl]
      refine ⟨.inl ⟨rfl, _, .of (by rw [upd_ne npq]; exact ep)⟩, fs, by rw [upd_ne npq]; exact ep, line_le' (by rw [hf.len]; omega), ?_⟩
      rw [← hHa]
      have f := tform t1
      cases f with
      | leaf h d m hl =>
        obtain ⟨a, xs, rfl, ea, hx⟩ := hd1.tupR
        obtain ⟨v0, ys, rfl, h0, hx0⟩ := hx.consR
        cases h0.strR
        refine ⟨a, rfl, _, .of (sa _ _ ea), .str h, at0, _, .inr (tLEAVES Ha), rfl, flat_strs _, ?_⟩
        rw [inV_strs]
        have e0 : partsD (.tuple [.str h, d]) = [] := parts_leaf m
        refine iteY (decide_eq_true m) ⟨szL ds, by omega, ⟨⟨_, _, fs ++ [.ref a], vs, _, ds, rfl, epa, eqa, hf1, hv1, tds, by rw [← htot', e0]; rfl, rfl, by rw [List.length_append, List.length_singleton]; omega⟩, sa⟩⟩
      | choice r t v p' q' m ht =>
        obtain ⟨a, xs, rfl, ea, hx⟩ := hd1.tupR
        obtain ⟨v0, ys0, rfl, h0, hx0⟩ := hx.consR
        cases h0.strR
        obtain ⟨x1, ys1, rfl, h1, hx1⟩ := hx0.consR
        obtain ⟨x2, ys2, rfl, h2, hx2⟩ := hx1.consR
        obtain ⟨x3, ys3, rfl, h3, hx3⟩ := hx2.consR
        cases hx3.nilR
        obtain ⟨b, zs, rfl, eb, hz0⟩ := h1.tupR
        obtain ⟨y0, ws0, rfl, g0, hz1⟩ := hz0.consR
        cases g0.strR
        obtain ⟨y1, ws1, rfl, g1, hz2⟩ := hz1.consR
        obtain ⟨y2, ws2, rfl, g2, hz3⟩ := hz2.consR
        cases hz3.nilR
        have k1 : SqT K Ha a [.str "choice", .ref b, x2, x3] := .of (sa _ _ ea)
        have k2 : SqT K Ha b [.str r, y1, y2] := .of (sa _ _ eb)
        refine ⟨a, rfl, _, k1, _, at0, _, .inr (tLEAVES Ha), rfl, flat_strs _, ?_⟩
        rw [inV_strs]
        refine iteN (decide_eq_false (by decide +kernel)) ?_
        rw [rEq_str]
        refine ⟨_, rfl, iteY rfl ⟨.inl ⟨rfl, _, .of eqa⟩, a, rfl, _, k1, x3, at3, a, rfl, _, k1, x2, at2, a, rfl, _, k1, _, at1, b, rfl, _, k2, y2, at2, a, rfl, _, k1, _, at1, b, rfl, _, k2, y1, at1, ?_⟩⟩
        have e0 : [q', p', v, t].reverse = partsD (.tuple [.str "choice", .tuple [.str r, t, v], p', q']) := by rw [parts_choice]; rfl
        have lv := hv1.len
        have l2 := (less _ e0).2
        exact ⟨line_le' (by decide), fun p1 Hb sb nb eb1 => ⟨vs, sb _ _ eqa, _, .of eb1, line_le' (by show _ + 4 ≤ _; omega), _, (less _ e0).1, go _ _ Hb _ [q', p', v, t] sb (.cons h3 (.cons h2 (.cons g2 (.cons g1 .nil)))) e0⟩⟩
      | flag h f ps m mf l ht =>
        obtain ⟨a, xs, rfl, ea, hx⟩ := hd1.tupR
        obtain ⟨v0, ys, rfl, h0, hx0⟩ := hx.consR
        cases h0.strR
        obtain ⟨x1, ys1, rfl, h1, hx1⟩ := hx0.consR
        have nn := flag_not m
        refine ⟨a, rfl, _, .of (sa _ _ ea), _, at0, _, .inr (tLEAVES Ha), rfl, flat_strs _, ?_⟩
        rw [inV_strs]
        refine iteN (decide_eq_false nn.1) ?_
        rw [rEq_str]
        refine ⟨_, rfl, iteN (decide_eq_false nn.2) ?_⟩
        refine ⟨.inl ⟨rfl, _, .of eqa⟩, _, .inr (tFLAGGED Ha), rfl, flat_strs _, ?_⟩
        rw [inV_strs]
        have e0 : ps.reverse.reverse = partsD (.tuple (.str h :: .str f :: ps)) := by rw [parts_flag m, List.reverse_reverse]
        have lv := hv1.len
        have l2 := (less _ e0).2
        have l3 := hx1.len
        rw [List.length_reverse] at l2
        refine iteY (decide_eq_true m) ⟨a, rfl, _, 1, rfl, .of (sa _ _ ea), by simp, fun pn hn => ⟨vs, by rw [upd_ne (fun z => by rw [← z, eqa] at hn; cases hn)]; exact eqa, _, .of upd_same, ?_, _, (less _ e0).1, go _ _ _ _ ps.reverse (same_upd hn) hx1.reverse e0⟩⟩
        show vs.length + ys1.reverse.length ≤ _
        rw [List.length_reverse]
        exact line_le' (by omega)
      | other h ps m ht =>
        obtain ⟨a, xs, rfl, ea, hx⟩ := hd1.tupR
        obtain ⟨v0, ys, rfl, h0, hx0⟩ := hx.consR
        cases h0.strR
        obtain ⟨n1, n2, n3⟩ := other_not m
        refine ⟨a, rfl, _, .of (sa _ _ ea), _, at0, _, .inr (tLEAVES Ha), rfl, flat_strs _, ?_⟩
        rw [inV_strs]
        refine iteN (decide_eq_false n1) ?_
        rw [rEq_str]
        refine ⟨_, rfl, iteN (decide_eq_false n2) ?_⟩
        refine ⟨.inl ⟨rfl, _, .of eqa⟩, _, .inr (tFLAGGED Ha), rfl, flat_strs _, ?_⟩
        rw [inV_strs]
        have e0 : ps.reverse.reverse = partsD (.tuple (.str h :: ps)) := by rw [parts_other m, List.reverse_reverse]
        have lv := hv1.len
        have l2 := (less _ e0).2
        have l3 := hx0.len
        rw [List.length_reverse] at l2
        refine iteN (decide_eq_false n3) ⟨a, rfl, _, 0, rfl, .of (sa _ _ ea), by simp, fun pn hn => ⟨vs, by rw [upd_ne (fun z => by rw [← z, eqa] at hn; cases hn)]; exact eqa, _, .of upd_same, ?_, _, (less _ e0).1, go _ _ _ _ ps.reverse (same_upd hn) hx0.reverse e0⟩⟩
        show vs.length + ys.reverse.length ≤ _
        rw [List.length_reverse]
        exact line_le' (by omega)
def spThings (K : PySem.W.Frag) : Sp := fun vs H Q _ => ∃ (x : V) (d : PyData), vs = [x] ∧ Dv H x d ∧ fine d = true ∧ sz d ≤ 500000 ∧ isTD d = true ∧ ∀ (p : Addr) (ys : List V) (H' : Hp), Same H H' → H' p = some (.tup ys) → DvAll H' ys (thingsD d) → Q (.ref p) H'
theorem ok_things_of {f : Addr} {fd : FuncData} (D : Df K mg "things_of" s_things_of f fd) (T : Tx K mg) {aLEAVES : Addr} (mLEAVES : mg "LEAVES" = some (.ref aLEAVES)) (tLEAVES : ∀ H, SqT K H aLEAVES (leavesL.map V.str)) {aFLAGGED : Addr} (mFLAGGED : mg "FLAGGED" = some (.ref aFLAGGED)) (tFLAGGED : ∀ H, SqT K H aFLAGGED (flaggedL.map V.str)) : Cal P w K mg base "things_of" ["term"] 2 (spThings K) :=
  ⟨f, fd, ((fn_things_of D T mLEAVES tLEAVES mFLAGGED tFLAGGED).imp fun vs H Q E ⟨x, d, e, hd, _, hz, ht, q⟩ => ⟨x, d, e, hd, ht, hz, fun p xs H' s _ e2 hx => q p xs H' s e2 hx⟩).up (by decide), D.gl, D.fn.kp, D.fn.binds fun _ _ _ _ _ _ us hl => match us, hl with | [_], _ => rfl⟩
def spPlain : Sp := fun vs H Q _ => ∃ (x : V) (d : PyData), vs = [x] ∧ Dv H x d ∧ fine d = true ∧ sz d ≤ 500000 ∧ isTD d = true ∧ ∀ H', Same H H' → Q (.bl (plainD d)) H'
abbrev s_is_plain : Stmt := top 20
theorem sc_is_plain : FnScope ["term", "thing"] ["term"] (defScope s_is_plain) := ⟨rfl, rfl, rfl, by decide +kernel, rfl, by decide +kernel, by decide +kernel⟩
theorem ok_is_plain {f : Addr} {fd : FuncData} (D : Df K mg "is_plain" s_is_plain f fd) (T : Tx K mg) (c_things_of : Cal P w K mg base "things_of" ["term"] 2 (spThings K)) (c_is_plain_thing : Cal P w K mg base "is_plain_thing" ["thing"] 1 spPlain1) : Cal P w K mg base "is_plain" ["term"] 3 spPlain := by
  refine D.cal sc_is_plain (fun vs H Q E h => ?_) (fun _ _ _ _ _ _ us hl => match us, hl with | [_], _ => rfl) (fun cdv A outer s H vs Q E hgu hr h => ?_)
  · obtain ⟨x, d, rfl, _⟩ := h
    rfl
  · obtain ⟨x, d, rfl, hd, fd, hz, ht, q⟩ := h
    refine ⟨_, (pss_one (ps_ret (pe_callB (aAll (K := K) rfl rfl) (by rfl) T.all (by decide +kernel) (pa_cons (pe_lc (own := [("thing", 1)]) (g := gName 1) (tt := tYes) (by rfl) sc_is_plain.nd (aWalkT (K := K) rfl (pe_cal c_things_of hgu (hr.mono (by omega)) (by rfl) (pa_cons (pv 0) pa_nil))) (blkOk_by (own := [("thing", 1)]) (N := ["term", "thing"]) (sc := defScope s_is_plain) (by decide +kernel)) (fun _ _ _ _ _ => (pg_name (i := 1) sc_is_plain.nd rfl (Or.inl rfl))) (fun _ _ _ _ _ => pts_nil) (fun _ _ _ _ _ => (pe_cal c_is_plain_thing hgu (hr.mono (by omega)) (by rfl) (pa_cons (pv 1) pa_nil)))) pa_nil)))), ?_⟩
    walk_at "rq"
    refine ⟨_, rfl, x, d, rfl, hd, fd, hz, ht, fun p ys H1 s1 hp hys => ⟨p, rfl, ⟨_, .of hp⟩, fun D hD => lc_steps (steps_tup K p ys) (LcB H1 D (thingsD d) plain1) ⟨same_upd hD, upd_same⟩ (fun i H6 _ h => .of (h.1 _ _ hp)) ?_ ?_⟩⟩
    · intro i y H6 hy h
      refine ⟨rfl, ?_⟩
      walk_at "rq"
      have tl := things_len d
      obtain ⟨dy, my, hdy, next⟩ := lcB_turn hys (by omega) hD hy h
      exact ⟨y, rfl, y, dy, rfl, hdy, things_shape _ d ht dy my, fun H2 s2 => next H2 s2⟩
    · intro H8 h
      obtain ⟨s8, e8, ea⟩ := lcB_end (hys.len ▸ h)
      refine ⟨_, rfl, _, .of e8, ?_⟩
      rw [ea, things_plain]
      exact q H8 (s1.trans s8)
def testD (d : PyData) : Bool := triD testL d && (behind d).all fun y => isTD y && plainD y
def spTest : Sp := fun vs H Q _ => ∃ (x : V) (d : PyData), vs = [x] ∧ Dv H x d ∧ fine d = true ∧ sz d ≤ 500000 ∧ ∀ H', Same H H' → Q (.bl (testD d)) H'
abbrev s_is_test : Stmt := top 19
theorem sc_is_test : FnScope ["thing", "side"] ["thing"] (defScope s_is_test) := ⟨rfl, rfl, rfl, by decide +kernel, rfl, by decide +kernel, by decide +kernel⟩
theorem fn_is_test {f : Addr} {fd : FuncData} (D : Df K mg "is_test" s_is_test f fd) (T : Tx K mg) {aTEST_COMPARISONS : Addr} (mTEST_COMPARISONS : mg "TEST_COMPARISONS" = some (.ref aTEST_COMPARISONS)) (tTEST_COMPARISONS : ∀ H, SqT K H aTEST_COMPARISONS (testL.map V.str)) (c_is_triple : Cal P w K mg base "is_triple" ["thing", "comparisons"] 1 (spTri K))
    (c_is_term : Cal P w K mg base "is_term" ["thing"] 4 (spIsTerm K)) (c_is_plain : Cal P w K mg base "is_plain" ["term"] 3 spPlain) : FnG P w K mg base CX0 5 f fd ["thing"] spTest := by
  refine D.fnG sc_is_test (fun vs H Q E h => ?_) (fun cdv A outer s H vs Q E hgu hr h => ?_)
  · obtain ⟨x, d, rfl, _⟩ := h
    rfl
  · obtain ⟨x, d, rfl, hd, fd, hz, q⟩ := h
    refine ⟨_, (pss_cons (ps_if (pt_not (pt_val (pe_cal c_is_triple hgu (hr.mono (by omega)) (by rfl) (pa_cons (pv 0) (pa_cons (pe_glob (v := .ref aTEST_COMPARISONS) rfl mTEST_COMPARISONS rfl) pa_nil))))) (pss_one (ps_ret pe_bl)) pss_nil) (pss_one (ps_ret (pe_callB (aAll (K := K) rfl rfl) (by rfl) T.all (by decide +kernel) (pa_cons (pe_lc (own := [("side", 1)]) (g := gName 1) (tt := tYes) (by rfl) sc_is_test.nd (aWalkT (K := K) rfl (pe_slice (aSlU (K := K) rfl) (pv 0) (po_some pe_int) po_none)) (blkOk_by (own := [("side", 1)]) (N := ["thing", "side"]) (sc := defScope s_is_test) (by decide +kernel)) (fun _ _ _ _ _ => (pg_name (i := 1) sc_is_test.nd rfl (Or.inl rfl))) (fun _ _ _ _ _ => pts_nil) (fun _ _ _ _ _ => (pe_and (pe_cal c_is_term hgu (hr.mono (by omega)) (by rfl) (pa_cons (pv 1) pa_nil)) (pe_one (pe_cal c_is_plain hgu (hr.mono (by omega)) (by rfl) (pa_cons (pv 1) pa_nil)))))) pa_nil))))), ?_⟩
    walk_at "rq"
    refine ⟨x, d, aTEST_COMPARISONS, testL, rfl, hd, fd, tTEST_COMPARISONS H, _, rfl, ?_⟩
    cases ht : triD testL d with
    | false =>
      have q0 := q H (Same.refl H)
      rw [show testD d = false by rw [testD, ht, Bool.false_and]] at q0
      exact iteY rfl q0
    | true =>
      refine iteN rfl ?_
      obtain ⟨r, d1, d2, rfl⟩ : ∃ r d1 d2, d = .tuple [r, d1, d2] := by
        unfold triD at ht
        split at ht
        · exact ⟨_, _, _, rfl⟩
        · exact absurd ht Bool.false_ne_true
      cases hd with
      | @tup a xs _ e hx =>
        obtain ⟨x0, x1, x2, _, _, _, rfl, e0, h0, h1, h2⟩ := all3 hx rfl
        cases e0
        simp only [fine, fineL, Bool.and_eq_true] at fd
        simp only [sz, szL] at hz
        refine ⟨.ref a, rfl, 1, rfl, a, _, rfl, .of e, fun p H1 s1 hp => ⟨p, rfl, ?_⟩⟩
        have hp : SqT K H1 p [x1, x2] := by
          rw [cutV1] at hp
          exact hp
        refine ⟨⟨_, hp⟩, fun D hD => ?_⟩
        have hys : DvAll H1 [x1, x2] [d1, d2] := .cons (h1.same s1) (.cons (h2.same s1) .nil)
        refine lc_steps (steps_tup K p [x1, x2]) (LcB H1 D [d1, d2] fun y => isTD y && plainD y) ⟨same_upd hD, upd_same⟩ (fun i H6 _ h => Same.seqT h.1 hp) ?_ ?_
        · intro i y H6 hy h
          refine ⟨rfl, ?_⟩
          walk_at "rq"
          obtain ⟨dy, my, hdy, next⟩ := lcB_turn hys (by simp) hD hy h
          have hf : fine dy = true ∧ sz dy ≤ 500000 := by
            simp only [List.mem_cons, List.not_mem_nil, or_false] at my
            rcases my with rfl | rfl
            · exact ⟨fd.2.2.1, by omega⟩
            · exact ⟨fd.2.2.2.1, by omega⟩
          refine ⟨y, rfl, y, dy, rfl, hdy, hf.1, hf.2, fun H2 s2 => ⟨_, rfl, ?_⟩⟩
          cases hi : isTD dy with
          | false =>
            have nx := next H2 s2
            simp only [hi, Bool.false_and] at nx
            exact iteN rfl nx
          | true =>
            refine iteY rfl ⟨y, rfl, y, dy, rfl, hdy.same s2, hf.1, hf.2, hi, fun H3 s3 => ?_⟩
            have nx := next H3 (s2.trans s3)
            simp only [hi, Bool.true_and] at nx
            exact nx
        · intro H8 h
          obtain ⟨s8, e8, ea⟩ := lcB_end h
          refine ⟨_, rfl, _, .of e8, ?_⟩
          rw [ea]
          have q8 := q H8 (s1.trans s8)
          rw [show testD (.tuple [r, d1, d2]) = ([d1, d2].all fun y => isTD y && plainD y) by
            rw [testD, ht, Bool.true_and]
            rfl] at q8
          exact q8
end
end Vf
namespace Vf
open PySem L2 PyProof.Rows PySem.Spec

local macro_rules | `(tactic| walk_at "rd") => `(tactic| simp only [tSeq, tIfS, tOr, tAnd, tNot, tB, tTest, tChain, tCB, tCons, tNil, tVar, tC, tRet, tAndV, tOrV, tNotV, tOp, tNext, tDrop, tAsg, tPar, tYes, tIf, tCall, tCalK, tTup, tLst, tSl, tNoPart, tPart, tM0, tM1, tRevL, tBM0, tBM, gName, rI0, rI, rU, rInA, rEqA, rAddA, rMulA, rSlAny, iAny, rIsi, rAll, rAny, rSum, rList, rTuple, rLen, rLenS, rLenSeq, rMulS, CDiv, rIn, rEqD, rNeD, iList, iTup, iStr, rCat, rCatA, rSlL, rSlA, rSlS, gSub, rPop, rAppend, rSetL, rIx, rIxL, rIxT, rIxS, LenV,
  L2.start, List.map_cons, List.map_nil, List.length_cons, List.length_nil, List.cons_append, List.nil_append, List.append_nil, Nat.zero_add, Nat.add_sub_cancel, Nat.sub_self, List.replicate_succ, List.replicate_zero, List.getElem?_cons_zero, List.getElem?_cons_succ, List.set_cons_zero, List.set_cons_succ,
  Option.some.injEq, V.int.injEq, V.str.injEq, V.bl.injEq, V.ref.injEq, List.cons.injEq, and_true, true_and, exists_eq_left', exists_eq_left, exists_eq_right, exists_and_left, exists_and_right, false_or, or_false, reduceCtorEq, false_and, and_false, exists_false, Bool.not_true, Bool.not_false, if_true, if_false, Bool.false_eq_true, ite_true, ite_false])
local macro_rules | `(tactic| walk_at "rq") => `(tactic| (walk_at "rd"; (try simp only [rEq_int, rEq_str, rNe_int, tUn, rU, tC, rInT, rInK, rIxK, rExtendT, rSlU, rCatU, rEqE, rIntB, tTupU, tLstU, tDGet2, tDL, tD, tEL, tE, tRevT, V.int.injEq, V.str.injEq, V.bl.injEq, V.ref.injEq, exists_eq_left', exists_eq_left, Bool.false_bne, Bool.false_xor, Bool.true_xor]); (try walk_at "rd"); (try (simp only [tTupU, tLstU, tDL, tD, tEL, tE]; try walk_at "rd")); (try (simp only [tTupU, tLstU, tDL, tD, tEL, tE]; try walk_at "rd"))))
/-- the row [1 for one in ys if not g(one)] -/
def LcN (H1 : Hp) (D : Addr) (ds : List PyData) (g : PyData → Bool) (i : Nat) (H' : Hp) : Prop := Same H1 H' ∧ ∃ acc : List Int, H' D = some (.lst (acc.map V.int)) ∧ acc.length ≤ i ∧ acc.isEmpty = (ds.take i).all g
theorem lcN_turn {i : Nat} {H1 H : Hp} {D : Addr} {ys : List V} {ds : List PyData} {g : PyData → Bool} {x : V} (hy : DvAll H1 ys ds) (hl : ds.length ≤ 500000) (nD : H1 D = none) (hx : ys[i]? = some x) (h : LcN H1 D ds g i H) :
    ∃ d, d ∈ ds ∧ Dv H x d ∧ ∀ H2, Same H H2 → if (!g d) = true then ∃ acc, H2 D = some (.lst acc) ∧ acc.length < sizeLine ∧ LcN H1 D ds g (i + 1) (upd H2 D (.lst (acc ++ [.int 1]))) else LcN H1 D ds g (i + 1) H2 := by
  obtain ⟨s1, acc, ha, hi, hb⟩ := h
  obtain ⟨d, ed, hv⟩ := dv_at hy hx
  have li : i < ds.length := (List.getElem?_eq_some_iff.mp ed).1
  have et : ds.take (i + 1) = ds.take i ++ [d] := by rw [List.take_add_one, ed]; rfl
  refine ⟨d, List.mem_of_getElem? ed, hv.same s1, fun H2 s2 => ?_⟩
  have ha2 := s2 _ _ ha
  cases ht : g d with
  | false =>
    refine iteY rfl ⟨_, ha2, ?_, fun b o e => ?_, acc ++ [1], ?_, ?_, ?_⟩
    · have := sizeLine_eq
      rw [List.length_map]
      omega
    · rw [upd_ne (fun z => by rw [z, nD] at e; cases e)]
      exact s2 _ _ (s1 _ _ e)
    · rw [upd_same, List.map_append]
      rfl
    · rw [List.length_append]
      exact Nat.succ_le_succ hi
    · rw [et, List.all_append, List.all_cons, ht, Bool.false_and, Bool.and_false]
      cases acc <;> rfl
  | true =>
    refine iteN rfl ⟨s1.trans s2, acc, ha2, Nat.le_succ_of_le hi, ?_⟩
    rw [et, List.all_append, List.all_cons, ht, hb]
    simp
theorem lcN_end {K : PySem.W.Frag} {H1 H2 : Hp} {D : Addr} {ds : List PyData} {g : PyData → Bool} {Q : VK} (h : LcN H1 D ds g ds.length H2) (q : ∀ H', Same H1 H' → Q (.bl (ds.all g)) H') :
    0 ≤ sizeLine ∧ ∀ (p : Addr) (H' : Hp), Same H2 H' → H2 p = none → H' p = some (.lst []) → ∃ d, Dp K H' (.ref D) d ∧ ∃ x, Dp K H' (.ref p) x ∧ SeqAt.shaped d = true ∧ SeqAt.shaped x = true ∧ Q (.bl (d.eqv x)) H' := by
  obtain ⟨s1, acc, ha, -, hb⟩ := h
  refine ⟨Nat.zero_le _, fun p H' s2 _ hp => ⟨_, .lst (.of (s2 _ _ ha)) (dp_ints acc), _, .lst (.of hp) .nil, shaped_ints acc, rfl, ?_⟩⟩
  have e : PyData.eqv (.list (acc.map PyData.int)) (.list []) = ds.all g := by
    rw [List.take_length] at hb
    rw [← hb]
    cases acc <;> rfl
  rw [e]
  exact q H' (s1.trans s2)
theorem rNe_str {i j : Str} {H : Hp} {Q : VK} : rNe (.str i) (.str j) H Q = Q (.bl (!decide (i = j))) H := by
  have e : decide (V.str i = V.str j) = decide (i = j) := by simp
  unfold rNe
  rw [e]
  exact propext ⟨fun h => h.2, fun h => ⟨rfl, h⟩⟩
theorem depth_behind {d p : PyData} (m : p ∈ behind d) : p.depth < d.depth := by
  cases d with
  | tuple ts =>
    have := depth_mem (List.mem_of_mem_drop m)
    simp only [PyData.depth]
    omega
  | _ => exact absurd m List.not_mem_nil
theorem depth_parts {d p : PyData} (m : p ∈ partsD d) : p.depth < d.depth := by
  unfold partsD at m
  split at m
  · next h r =>
    have key : ∀ y ∈ r, y.depth < (PyData.tuple (.str h :: r)).depth := fun y hy => by
      have := depth_mem hy
      simp only [PyData.depth, PyData.depthAll]
      omega
    unfold partsT at m
    split at m
    · exact absurd m List.not_mem_nil
    · split at m
      · rcases List.mem_append.mp m with m | m
        · cases r with
          | nil => exact absurd m List.not_mem_nil
          | cons y r =>
            have h1 := depth_behind m
            have h2 := key y List.mem_cons_self
            simp only [List.headD_cons] at h1
            omega
        · exact key p (List.mem_of_mem_drop m)
      · split at m
        · exact key p (List.mem_of_mem_drop m)
        · exact key p m
  · exact absurd m List.not_mem_nil
theorem partsT_len {h : Str} {r : List PyData} (fd : fine (.tuple (.str h :: r)) = true) (hs : shapeT h r = true) : (partsT h r).length ≤ 500000 := by
  simp only [fine, fineL, Bool.and_eq_true, decide_eq_true_eq, List.length_cons] at fd
  unfold partsT
  split
  · exact Nat.zero_le _
  · split
    · next hc =>
      subst hc
      have hs2 : (decide (r.length = 3) && triD compL (r.headD .none)) = true := hs
      rw [Bool.and_eq_true, decide_eq_true_eq] at hs2
      have ht := hs2.2
      have : (behind (r.headD .none)).length ≤ 3 := by
        unfold triD at ht
        split at ht
        · next e => rw [e]; exact Nat.le_of_ble_eq_true rfl
        · exact absurd ht Bool.false_ne_true
      rw [List.length_append, List.length_drop]
      omega
    · split
      · rw [List.length_drop]
        omega
      · omega
def nineL : List Str := ["const", "num", "and", "or", "xor", "not", "sum", "less", "twice"]
section
variable {P : Program} {w : World} {K : PySem.W.Frag} {mg : Str → Option Value} {base : Heap}
def spLParts : Sp := fun vs H Q _ => ∃ (x : V) (d : PyData), vs = [x] ∧ Dv H x d ∧ fine d = true ∧ shapeD d = true ∧ ∀ (p : Addr) (ys : List V) (H' : Hp), Same H H' → H' p = some (.lst ys) → DvAll H' ys (partsD d) → Q (.ref p) H'
abbrev s__law_parts : Stmt := top 26
theorem sc__law_parts : FnScope ["_law_it"] ["_law_it"] (defScope s__law_parts) := ⟨rfl, rfl, rfl, by decide +kernel, rfl, by decide +kernel, by decide +kernel⟩
set_option format.width 500 in
set_option format.indent 0 in
set_option pp.deepTerms true in
set_option pp.maxSteps 200000 in
theorem ok__law_parts {f : Addr} {fd : FuncData} (D : Df K mg "_law_parts" s__law_parts f fd) (T : Tx K mg) : Cal P w K mg base "_law_parts" ["_law_it"] 1 spLParts := by
  refine D.cal sc__law_parts (fun vs H Q E h => ?_) (fun _ _ _ _ _ _ us hl => match us, hl with | [_], _ => rfl) (fun cdv A outer s H vs Q E hgu hr h => ?_)
  · obtain ⟨x, d, rfl, _⟩ := h
    rfl
  · obtain ⟨x, d, rfl, hd, fd, hs, q⟩ := h
    refine ⟨_, (pss_cons (ps_if (pt_cmpR (aInSeq (K := K) rfl) (pe_ix (aIxT (K := K) rfl) (pv 0) pe_int (fun _ _ => rfl)) (pe_tupU (pa_cons pe_str (pa_cons pe_str (pa_cons pe_str pa_nil)))) (by rfl)) (pss_one (ps_ret (pe_lstU pa_nil))) pss_nil) (pss_cons (ps_if (pt_cmpR op_eq (pe_ix (aIxT (K := K) rfl) (pv 0) pe_int (fun _ _ => rfl)) pe_str (by rfl)) (pss_one (ps_ret (pe_op op_cat (pe_callTy (aList (K := K) rfl) (by rfl) T.list (by decide +kernel) (pa_cons (pe_slice (aSlU (K := K) rfl) (pe_ix (aIxT (K := K) rfl) (pv 0) pe_int (fun _ _ => rfl)) (po_some pe_int) po_none) pa_nil)) (pe_callTy (aList (K := K) rfl) (by rfl) T.list (by decide +kernel) (pa_cons (pe_slice (aSlU (K := K) rfl) (pv 0) (po_some pe_int) po_none) pa_nil))))) pss_nil) (pss_one (ps_ret (pe_ifExp (pt_cmpR (aInSeq (K := K) rfl) (pe_ix (aIxT (K := K) rfl) (pv 0) pe_int (fun _ _ => rfl)) (pe_tupU (pa_cons pe_str (pa_cons pe_str (pa_cons pe_str pa_nil)))) (by rfl)) (pe_callTy (aList (K := K) rfl) (by rfl) T.list (by decide +kernel) (pa_cons (pe_slice (aSlU (K := K) rfl) (pv 0) (po_some pe_int) po_none) pa_nil)) (pe_callTy (aList (K := K) rfl) (by rfl) T.list (by decide +kernel) (pa_cons (pe_slice (aSlU (K := K) rfl) (pv 0) (po_some pe_int) po_none) pa_nil))))))), ?_⟩
    walk_at "rq"
    obtain ⟨h, r, rfl⟩ : ∃ h r, d = .tuple (.str h :: r) := by
      unfold shapeD at hs
      split at hs
      · exact ⟨_, _, rfl⟩
      · exact absurd hs Bool.false_ne_true
    have hs' : shapeT h r = true := hs
    have ep : partsD (.tuple (.str h :: r)) = partsT h r := rfl
    rw [ep] at q
    cases hd with
    | @tup a xs _ e hx =>
      cases hx with
      | @cons v xs _ _ h0 hx =>
        cases h0 with
        | str h =>
          have hlx : xs.length ≤ 100000 := by
            have := hx.len
            simp only [fine, Bool.and_eq_true, decide_eq_true_eq, List.length_cons] at fd
            omega
          refine ⟨a, rfl, _, .of e, .str h, at0, line_le' (by decide), fun p1 H1 s1 n1 e1 => ⟨leavesL.map V.str, .inr (.of e1), rfl, flat_strs _, ?_⟩⟩
          rw [inV_strs]
          by_cases hl : h ∈ leavesL
          · refine iteY (decide_eq_true hl) ⟨Nat.zero_le _, fun p2 H2 s2 n2 e2 => q p2 [] H2 (s1.trans s2) e2 ?_⟩
            rw [partsT, if_pos hl]
            exact .nil
          · refine iteN (decide_eq_false hl) ⟨a, rfl, _, .of (s1 _ _ e), .str h, at0, ?_⟩
            rw [rEq_str]
            refine ⟨_, rfl, ?_⟩
            by_cases hc : h = Str.ofString "choice"
            · refine iteY (decide_eq_true hc) ?_
              subst hc
              have hs2 : (decide (r.length = 3) && triD compL (r.headD .none)) = true := hs'
              rw [Bool.and_eq_true, decide_eq_true_eq] at hs2
              obtain ⟨x1, x2, x3, d1, d2, d3, rfl, rfl, v1, v2, v3⟩ := all3 hx hs2.1
              have ht : triD compL d1 = true := hs2.2
              obtain ⟨t0, t1, t2, rfl⟩ : ∃ t0 t1 t2, d1 = .tuple [t0, t1, t2] := by
                unfold triD at ht
                split at ht
                · exact ⟨_, _, _, rfl⟩
                · exact absurd ht Bool.false_ne_true
              cases v1 with
              | @tup b ts _ eb hts =>
                have lt : ts.length = 3 := hts.len
                refine ⟨a, rfl, _, .of (s1 _ _ e), .ref b, at1, b, rfl, ts, .of (s1 _ _ eb), fun p2 H2 s2 hp2 => ⟨_, .inr hp2, fun l2 hl2 => ⟨a, rfl, _, .of (same_upd hl2 _ _ (s2 _ _ (s1 _ _ e))), fun p3 H3 s3 hp3 => ⟨_, .inr hp3, fun l3 hl3 => ⟨_, same_upd hl3 _ _ (s3 _ _ upd_same), _, upd_same, ?_, fun p4 hp4 => ?_⟩⟩⟩⟩⟩
                · rw [cutV1, cutV2, List.length_drop, lt]
                  exact line_le' (Nat.le_of_ble_eq_true rfl)
                · have sA := ((((s1.trans s2).trans (same_upd (o := .lst (cutV ts (some 1) none)) hl2)).trans s3).trans (same_upd (o := .lst (cutV [V.str (Str.ofString "choice"), .ref b, x2, x3] (some 2) none)) hl3)).trans (same_upd (o := .lst (cutV ts (some 1) none ++ cutV [V.str (Str.ofString "choice"), .ref b, x2, x3] (some 2) none)) hp4)
                  refine q p4 _ _ sA upd_same ?_
                  rw [cutV1, cutV2, show List.drop 2 [V.str (Str.ofString "choice"), .ref b, x2, x3] = [x2, x3] from rfl] at *
                  have : partsT (Str.ofString "choice") [.tuple [t0, t1, t2], d2, d3] = [t1, t2] ++ [d2, d3] := rfl
                  rw [this]
                  exact ((hts.same sA).drop (n := 1)).append (.cons (v2.same sA) (.cons (v3.same sA) .nil))
            · refine iteN (decide_eq_false hc) ⟨a, rfl, _, .of (s1 _ _ e), .str h, at0, line_le' (by decide), fun p2 H2 s2 n2 e2 => ⟨flaggedL.map V.str, .inr (.of e2), rfl, flat_strs _, ?_⟩⟩
              rw [inV_strs]
              have s12 := s1.trans s2
              by_cases hf : h ∈ flaggedL
              · refine iteY (decide_eq_true hf) ?_
                refine ⟨a, rfl, _, .of (s12 _ _ e), fun p3 H3 s3 hp3 => ⟨_, .inr hp3, fun l3 hl3 => ?_⟩⟩
                rw [cutV2]
                have sA := (s12.trans s3).trans (same_upd (o := .lst ((V.str h :: xs).drop 2)) hl3)
                refine q l3 _ _ sA upd_same ?_
                rw [partsT, if_neg hl, if_neg hc, if_pos hf]
                exact (hx.same sA).drop (n := 1)
              · refine iteN (decide_eq_false hf) ?_
                refine ⟨a, rfl, _, .of (s12 _ _ e), fun p3 H3 s3 hp3 => ⟨_, .inr hp3, fun l3 hl3 => ?_⟩⟩
                rw [cutV1]
                have sA := (s12.trans s3).trans (same_upd (o := .lst ((V.str h :: xs).drop 1)) hl3)
                refine q l3 _ _ sA upd_same ?_
                rw [partsT, if_neg hl, if_neg hc, if_neg hf]
                exact hx.same sA
def spLPlain (n : Nat) : Sp := fun vs H Q _ => ∃ (x : V) (d : PyData), vs = [x] ∧ Dv H x d ∧ fine d = true ∧ isTD d = true ∧ d.depth < n ∧ ∀ H', Same H H' → Q (.bl (plainD d)) H'
abbrev s__law_is_plain : Stmt := top 35
theorem sc__law_is_plain : FnScope ["_law_it", "_law_good", "_law_part"] ["_law_it"] (defScope s__law_is_plain) := ⟨rfl, rfl, rfl, by decide +kernel, rfl, by decide +kernel, by decide +kernel⟩
set_option format.width 500 in
set_option format.indent 0 in
set_option pp.deepTerms true in
set_option pp.maxSteps 200000 in
theorem st__law_is_plain {f : Addr} {fd : FuncData} {n k : Nat} (hk : 1 ≤ k) (D : Df K mg "_law_is_plain" s__law_is_plain f fd) (T : Tx K mg) (c__law_parts : Cal P w K mg base "_law_parts" ["_law_it"] 1 spLParts) (c__law_is_plain : Cal P w K mg base "_law_is_plain" ["_law_it"] k (spLPlain n)) : Cal P w K mg base "_law_is_plain" ["_law_it"] (k + 1) (spLPlain (n + 1)) := by
  refine D.cal sc__law_is_plain (fun vs H Q E h => ?_) (fun _ _ _ _ _ _ us hl => match us, hl with | [_], _ => rfl) (fun cdv A outer s H vs Q E hgu hr h => ?_)
  · obtain ⟨x, d, rfl, _⟩ := h
    rfl
  · obtain ⟨x, d, rfl, hd, fd, ht, hn, q⟩ := h
    refine ⟨_, (pss_cons (ps_if (PW.pt (pw_and (pt_cmpR (aInSeq (K := K) rfl) (pe_ix (aIxT (K := K) rfl) (pv 0) pe_int (fun _ _ => rfl)) (pe_tupU (pa_cons pe_str (pa_cons pe_str (pa_cons pe_str pa_nil)))) (by rfl)) (pw_and1 (pt_cmpR op_ne (pe_ix (aIxT (K := K) rfl) (pv 0) pe_int (fun _ _ => rfl)) pe_str (by rfl))))) (pss_one (ps_ret pe_bl)) pss_nil) (pss_cons (ps_set (i := 1) sc__law_is_plain.nd rfl (by first | exact Or.inl rfl | exact Or.inr rfl) (pe_cmpR (aInSeq (K := K) rfl) (pe_ix (aIxT (K := K) rfl) (pv 0) pe_int (fun _ _ => rfl)) (pe_tupU (pa_cons pe_str (pa_cons pe_str (pa_cons pe_str (pa_cons pe_str (pa_cons pe_str (pa_cons pe_str (pa_cons pe_str (pa_cons pe_str (pa_cons pe_str pa_nil)))))))))) (by rfl))) (pss_one (ps_ret (pe_and (pv 1) (pe_one (pe_cmpR (aEqD (K := K) rfl hr.units) (pe_lc (own := [("_law_part", 2)]) (g := gName 2) (tt := _) (by rfl) sc__law_is_plain.nd (aWalkL (K := K) rfl (pe_cal c__law_parts hgu (hr.mono (by omega)) (by rfl) (pa_cons (pv 0) pa_nil))) (blkOk_by (own := [("_law_part", 2)]) (N := ["_law_it", "_law_good", "_law_part"]) (sc := defScope s__law_is_plain) (by decide +kernel)) (fun _ _ _ _ _ => (pg_name (i := 2) sc__law_is_plain.nd rfl (Or.inl rfl))) (fun _ _ _ _ _ => (pts_one (pt_not (pt_val (pe_cal c__law_is_plain hgu (hr.mono (by omega)) (by rfl) (pa_cons (pv 2) pa_nil)))))) (fun _ _ _ _ _ => pe_int)) (pe_lstU pa_nil) (by rfl)))))))), ?_⟩
    walk_at "rq"
    have htd := ht
    rw [isTD_eq, Bool.and_eq_true] at ht
    obtain ⟨hs, hparts⟩ := ht
    obtain ⟨h, r, rfl⟩ : ∃ h r, d = .tuple (.str h :: r) := by
      unfold shapeD at hs
      split at hs
      · exact ⟨_, _, rfl⟩
      · exact absurd hs Bool.false_ne_true
    have hs' : shapeT h r = true := hs
    have hd' := hd
    have plen : (partsD (.tuple (.str h :: r))).length ≤ 500000 := by
      have := partsT_len fd hs'
      exact this
    cases hd with
    | @tup a xs _ e hx =>
      cases hx with
      | @cons v xs _ _ h0 hx =>
        cases h0 with
        | str h =>
          refine ⟨a, rfl, _, .of e, .str h, at0, line_le' (by decide), fun p1 H1 s1 n1 e1 => ⟨flaggedL.map V.str, .inr (.of e1), rfl, flat_strs _, ?_⟩⟩
          rw [inV_strs]
          by_cases hf : h ∈ flaggedL
          · refine iteY (decide_eq_true hf) ?_
            have hn2 : h ∉ leavesL ∧ ¬ h = "choice" := (show ∀ h ∈ flaggedL, h ∉ leavesL ∧ ¬ h = "choice" by decide +kernel) h hf
            unfold shapeT at hs'
            rw [cnt_flag hf] at hs'
            simp only [hn2.1, hn2.2, hf, if_false, if_true, Bool.and_eq_true] at hs'
            have ha := hs'.2
            cases hx with
            | nil => exact absurd ha Bool.false_ne_true
            | @cons v1 xs d1 r h1 hx =>
              cases h1 with
              | str s1' =>
                refine ⟨a, rfl, _, .of (s1 _ _ e), .str s1', at1, ?_⟩
                rw [rNe_str]
                have epl : plain1 (.tuple (.str h :: .str s1' :: r)) = decide (s1' = Str.ofString "") := by
                  rw [plain1, if_pos hf]
                  rfl
                by_cases hb : s1' = Str.ofString ""
                · refine ⟨_, rfl, iteN (by rw [decide_eq_true hb]; rfl) ?_⟩
                  refine ⟨a, rfl, _, .of (s1 _ _ e), .str h, at0, line_le' (by decide), fun p9 H9 s9 n9 e9 => ⟨nineL.map V.str, .inr (.of e9), rfl, flat_strs _, ?_⟩⟩
                  rw [inV_strs]
                  have sA := s1.trans s9
                  have e1 : decide (h ∈ nineL) = plain1 (.tuple (.str h :: .str s1' :: r)) := by
                    rw [epl, decide_eq_true hb]
                    exact decide_eq_true ((show ∀ z ∈ flaggedL, z ∈ nineL by decide +kernel) h hf)
                  cases hp : plain1 (.tuple (.str h :: .str s1' :: r)) with
                  | false =>
                    refine iteN (by rw [e1]; exact hp) ?_
                    have q9 := q H9 sA
                    rw [plain_eq, hp, Bool.false_and] at q9
                    exact q9
                  | true =>
                    refine iteY (by rw [e1]; exact hp) ⟨_, rfl, .ref a, _, rfl, hd'.same sA, fd, hs, fun p2 ys H3 s3 hp3 hys => ⟨p2, rfl, ⟨_, .of hp3⟩, fun D hD => lc_steps (steps_list K p2 ys) (LcN H3 D (partsD (.tuple (.str h :: .str s1' :: r))) plainD) ⟨same_upd hD, [], upd_same, Nat.le_refl _, rfl⟩ (fun i H6 _ h => .of (h.1 _ _ hp3)) ?_ ?_⟩⟩
                    · intro i y H6 hy hh
                      refine ⟨rfl, ?_⟩
                      have lw := sz_parts (.tuple (.str h :: .str s1' :: r))
                      obtain ⟨dy, my, hdy, next⟩ := lcN_turn hys plen hD hy hh
                      have hn' := depth_parts my
                      exact ⟨y, rfl, y, dy, rfl, hdy, fine_parts fd my, List.all_eq_true.mp hparts dy my, by omega, fun H2 s2 => ⟨_, rfl, next H2 s2⟩⟩
                    · intro H8 hh
                      refine lcN_end (hys.len ▸ hh) fun H7 s7 => ?_
                      have q7 := q H7 ((sA.trans s3).trans s7)
                      rw [plain_eq, hp, Bool.true_and] at q7
                      exact q7
                · refine ⟨_, rfl, iteY (by rw [decide_eq_false hb]; rfl) ?_⟩
                  have q1 := q H1 s1
                  rw [plain_eq, epl, decide_eq_false hb, Bool.false_and] at q1
                  exact q1
              | _ => exact absurd ha Bool.false_ne_true
          · refine iteN (decide_eq_false hf) ?_
            refine ⟨a, rfl, _, .of (s1 _ _ e), .str h, at0, line_le' (by decide), fun p9 H9 s9 n9 e9 => ⟨nineL.map V.str, .inr (.of e9), rfl, flat_strs _, ?_⟩⟩
            rw [inV_strs]
            have sA := s1.trans s9
            have e1 : decide (h ∈ nineL) = plain1 (.tuple (.str h :: r)) := by
              rw [plain1, if_neg hf]
              exact decide_eq_decide.mpr ⟨fun m => ((show ∀ z ∈ nineL, z ∈ flaggedL ∨ z ∈ headsL by decide +kernel) h m).resolve_left hf, (show ∀ z ∈ headsL, z ∈ nineL by decide +kernel) h⟩
            cases hp : plain1 (.tuple (.str h :: r)) with
            | false =>
              refine iteN (by rw [e1]; exact hp) ?_
              have q9 := q H9 sA
              rw [plain_eq, hp, Bool.false_and] at q9
              exact q9
            | true =>
              refine iteY (by rw [e1]; exact hp) ⟨_, rfl, .ref a, _, rfl, hd'.same sA, fd, hs, fun p2 ys H3 s3 hp3 hys => ⟨p2, rfl, ⟨_, .of hp3⟩, fun D hD => lc_steps (steps_list K p2 ys) (LcN H3 D (partsD (.tuple (.str h :: r))) plainD) ⟨same_upd hD, [], upd_same, Nat.le_refl _, rfl⟩ (fun i H6 _ h => .of (h.1 _ _ hp3)) ?_ ?_⟩⟩
              · intro i y H6 hy hh
                refine ⟨rfl, ?_⟩
                have lw := sz_parts (.tuple (.str h :: r))
                obtain ⟨dy, my, hdy, next⟩ := lcN_turn hys plen hD hy hh
                have hn' := depth_parts my
                exact ⟨y, rfl, y, dy, rfl, hdy, fine_parts fd my, List.all_eq_true.mp hparts dy my, by omega, fun H2 s2 => ⟨_, rfl, next H2 s2⟩⟩
              · intro H8 hh
                refine lcN_end (hys.len ▸ hh) fun H7 s7 => ?_
                have q7 := q H7 ((sA.trans s3).trans s7)
                rw [plain_eq, hp, Bool.true_and] at q7
                exact q7
end
end Vf
namespace Vf
open PySem L2 PyProof.Rows PySem.Spec

local macro_rules | `(tactic| walk_at "rd") => `(tactic| simp only [tSeq, tIfS, tOr, tAnd, tNot, tB, tTest, tChain, tCB, tCons, tNil, tVar, tC, tRet, tAndV, tOrV, tNotV, tOp, tNext, tDrop, tAsg, tPar, tYes, tIf, tCall, tCalK, tTup, tLst, tSl, tNoPart, tPart, tM0, tM1, tRevL, tBM0, tBM, gName, rI0, rI, rU, rInA, rEqA, rAddA, rMulA, rSlAny, iAny, rIsi, rAll, rAny, rSum, rList, rTuple, rLen, rLenS, rLenSeq, rMulS, CDiv, rIn, rEqD, rNeD, iList, iTup, iStr, rCat, rCatA, rSlL, rSlA, rSlS, gSub, rPop, rAppend, rSetL, rIx, rIxL, rIxT, rIxS, LenV,
  L2.start, List.map_cons, List.map_nil, List.length_cons, List.length_nil, List.cons_append, List.nil_append, List.append_nil, Nat.zero_add, Nat.add_sub_cancel, Nat.sub_self, List.replicate_succ, List.replicate_zero, List.getElem?_cons_zero, List.getElem?_cons_succ, List.set_cons_zero, List.set_cons_succ,
  Option.some.injEq, V.int.injEq, V.str.injEq, V.bl.injEq, V.ref.injEq, List.cons.injEq, and_true, true_and, exists_eq_left', exists_eq_left, exists_eq_right, exists_and_left, exists_and_right, false_or, or_false, reduceCtorEq, false_and, and_false, exists_false, Bool.not_true, Bool.not_false, if_true, if_false, Bool.false_eq_true, ite_true, ite_false])
local macro_rules | `(tactic| walk_at "rq") => `(tactic| (walk_at "rd"; (try simp only [rEq_int, rEq_str, rNe_int, tUn, rU, tC, rInT, rInK, rIxK, rExtendT, rSlU, rCatU, rEqE, rIntB, tTupU, tLstU, tDGet2, tDL, tD, tEL, tE, tRevT, V.int.injEq, V.str.injEq, V.bl.injEq, V.ref.injEq, exists_eq_left', exists_eq_left, Bool.false_bne, Bool.false_xor, Bool.true_xor]); (try walk_at "rd"); (try (simp only [tTupU, tLstU, tDL, tD, tEL, tE]; try walk_at "rd")); (try (simp only [tTupU, tLstU, tDL, tD, tEL, tE]; try walk_at "rd"))))
theorem test_eq (r a b : PyData) : testD (.tuple [r, a, b]) = (relD testL (.tuple [r, a, b]) && (plainD a && plainD b)) := by
  show (amongD testL r && ((isTD a && plainD a) && ((isTD b && plainD b) && true))) = ((amongD testL r && (isTD a && isTD b)) && (plainD a && plainD b))
  cases amongD testL r <;> cases isTD a <;> cases isTD b <;> cases plainD a <;> cases plainD b <;> rfl
theorem rel_shape {l : List Str} {d : PyData} (h : relD l d = true) : ∃ r a b, d = .tuple [r, a, b] := by
  unfold relD at h
  split at h
  · exact ⟨_, _, _, rfl⟩
  · exact absurd h Bool.false_ne_true
theorem test_no {d : PyData} (h : relD testL d = false) : testD d = false := by
  cases hb : testD d with
  | false => rfl
  | true =>
    have ht : triD testL d = true := by
      unfold testD at hb
      rw [Bool.and_eq_true] at hb
      exact hb.1
    obtain ⟨r, a, b, rfl⟩ : ∃ r a b, d = .tuple [r, a, b] := by
      unfold triD at ht
      split at ht
      · exact ⟨_, _, _, rfl⟩
      · exact absurd ht Bool.false_ne_true
    rw [test_eq, h, Bool.false_and] at hb
    exact hb.symm
section
variable {P : Program} {w : World} {K : PySem.W.Frag} {mg : Str → Option Value} {base : Heap}
theorem ok__law_is_plain {f : Addr} {fd : FuncData} (D : Df K mg "_law_is_plain" s__law_is_plain f fd) (T : Tx K mg) (c__law_parts : Cal P w K mg base "_law_parts" ["_law_it"] 1 spLParts) : ∀ n : Nat, Cal P w K mg base "_law_is_plain" ["_law_it"] (n + 1) (spLPlain n)
  | 0 => D.cal (k := 0) sc__law_is_plain (fun vs H Q E h => by
      obtain ⟨x, d, rfl, _⟩ := h
      rfl) (fun _ _ _ _ _ _ us hl => match us, hl with | [_], _ => rfl) (fun cdv A outer s H vs Q E hgu hr h => by
      obtain ⟨x, d, _, _, _, _, hn, _⟩ := h
      exact absurd hn (Nat.not_lt_zero _))
  | n + 1 => st__law_is_plain (k := n + 1) (by omega) D T c__law_parts (ok__law_is_plain D T c__law_parts n)
def spLTest (n : Nat) : Sp := fun vs H Q _ => ∃ (x : V) (d : PyData), vs = [x] ∧ Dv H x d ∧ fine d = true ∧ d.depth ≤ n ∧ ∀ H', Same H H' → Q (.bl (testD d)) H'
abbrev s__law_is_test : Stmt := top 36
theorem sc__law_is_test : FnScope ["_law_it"] ["_law_it"] (defScope s__law_is_test) := ⟨rfl, rfl, rfl, by decide +kernel, rfl, by decide +kernel, by decide +kernel⟩
set_option format.width 500 in
set_option format.indent 0 in
set_option pp.deepTerms true in
set_option pp.maxSteps 200000 in
theorem ok__law_is_test {f : Addr} {fd : FuncData} {n k : Nat} (D : Df K mg "_law_is_test" s__law_is_test f fd) (T : Tx K mg) (c__law_is_related : Cal P w K mg base "_law_is_related" ["_law_it", "_law_relations"] k (spRel K n)) (c__law_is_plain : Cal P w K mg base "_law_is_plain" ["_law_it"] k (spLPlain n)) : Cal P w K mg base "_law_is_test" ["_law_it"] (k + 1) (spLTest n) := by
  refine D.cal sc__law_is_test (fun vs H Q E h => ?_) (fun _ _ _ _ _ _ us hl => match us, hl with | [_], _ => rfl) (fun cdv A outer s H vs Q E hgu hr h => ?_)
  · obtain ⟨x, d, rfl, _⟩ := h
    rfl
  · obtain ⟨x, d, rfl, hd, fd, hn, q⟩ := h
    refine ⟨_, (pss_cons (ps_if (pt_not (pt_val (pe_cal c__law_is_related hgu (hr.mono (by omega)) (by rfl) (pa_cons (pv 0) (pa_cons (pe_tupU (pa_cons pe_str (pa_cons pe_str (pa_cons pe_str (pa_cons pe_str pa_nil))))) pa_nil))))) (pss_one (ps_ret pe_bl)) pss_nil) (pss_one (ps_ret (pe_and (pe_cal c__law_is_plain hgu (hr.mono (by omega)) (by rfl) (pa_cons (pe_ix (aIxT (K := K) rfl) (pv 0) pe_int (fun _ _ => rfl)) pa_nil)) (pe_one (pe_cal c__law_is_plain hgu (hr.mono (by omega)) (by rfl) (pa_cons (pe_ix (aIxT (K := K) rfl) (pv 0) pe_int (fun _ _ => rfl)) pa_nil))))))), ?_⟩
    walk_at "rq"
    refine ⟨line_le' (by decide), fun p H1 s1 n1 e1 => ⟨x, d, p, testL, rfl, hd.same s1, fd, hn, .of e1, fun H2 s2 => ⟨_, rfl, ?_⟩⟩⟩
    have s12 := s1.trans s2
    cases hrel : relD testL d with
    | false =>
      have q2 := q H2 s12
      rw [test_no hrel] at q2
      exact iteY rfl q2
    | true =>
      refine iteN rfl ?_
      obtain ⟨r, da, db, rfl⟩ := rel_shape hrel
      have hr2 : (amongD testL r && (isTD da && isTD db)) = true := hrel
      simp only [Bool.and_eq_true] at hr2
      have q' : ∀ H', Same H H' → Q (.bl (plainD da && plainD db)) H' := fun H' s' => by
        have := q H' s'
        rw [test_eq, hrel, Bool.true_and] at this
        exact this
      cases hd with
      | @tup a xs _ e hx =>
        obtain ⟨x0, x1, x2, _, _, _, rfl, e0, h0, h1, h2⟩ := all3 hx rfl
        cases e0
        simp only [fine, fineL, Bool.and_eq_true] at fd
        simp only [PyData.depth, PyData.depthAll] at hn
        refine ⟨a, rfl, _, .of (s12 _ _ e), x1, at1, x1, da, rfl, h1.same s12, fd.2.2.1, hr2.2.1, by omega, fun H3 s3 => ⟨_, rfl, ?_⟩⟩
        have s13 := s12.trans s3
        cases hp : plainD da with
        | false =>
          have q3 := q' H3 s13
          rw [hp, Bool.false_and] at q3
          exact iteN rfl q3
        | true =>
          refine iteY rfl ⟨a, rfl, _, .of (s13 _ _ e), x2, at2, x2, db, rfl, h2.same s13, fd.2.2.2.1, hr2.2.2, by omega, fun H4 s4 => ?_⟩
          have q4 := q' H4 (s13.trans s4)
          rw [hp, Bool.true_and] at q4
          exact q4
theorem plain_leaf {h : Str} {r : List PyData} (m : h ∈ leavesL) (m2 : h ∈ headsL) : plainD (.tuple (.str h :: r)) = true := by
  rw [plain_eq, show partsD (.tuple (.str h :: r)) = partsT h r from rfl, partsT, if_pos m, plain1, if_neg ((show ∀ z ∈ leavesL, z ∉ flaggedL by decide +kernel) h m), decide_eq_true m2]
  rfl
theorem plain_flag {h : Str} {r : List PyData} (m : h ∈ flaggedL) (hr : ∀ y ∈ r, plainD y = true) : plainD (.tuple (.str h :: .str (Str.ofString "") :: r)) = true := by
  have hn : h ∉ leavesL ∧ ¬ h = "choice" := (show ∀ h ∈ flaggedL, h ∉ leavesL ∧ ¬ h = "choice" by decide +kernel) h m
  rw [plain_eq, show partsD (.tuple (.str h :: .str (Str.ofString "") :: r)) = partsT h (.str (Str.ofString "") :: r) from rfl, partsT, if_neg hn.1, if_neg hn.2, if_pos m, plain1, if_pos m, Bool.and_eq_true]
  exact ⟨decide_eq_true (rfl : Str.ofString "" = Str.ofString ""), List.all_eq_true.mpr hr⟩
theorem plain_other {h : Str} {r : List PyData} (m : h ∈ headsL) (m2 : h ∉ leavesL) (hr : ∀ y ∈ r, plainD y = true) : plainD (.tuple (.str h :: r)) = true := by
  have hn : h ∉ flaggedL ∧ ¬ h = "choice" := (show ∀ h ∈ headsL, h ∉ flaggedL ∧ ¬ h = "choice" by decide +kernel) h m
  rw [plain_eq, show partsD (.tuple (.str h :: r)) = partsT h r from rfl, partsT, if_neg m2, if_neg hn.2, if_neg hn.1, plain1, if_neg hn.1, decide_eq_true m]
  exact List.all_eq_true.mpr hr
def wSide (n : Nat) : Nat := 1010 * 2 ^ n - 310
theorem wSide_succ (n : Nat) : wSide (n + 1) = 2 * wSide n + 310 := by
  unfold wSide
  have : 1 ≤ 2 ^ n := Nat.one_le_two_pow
  rw [Nat.pow_succ]
  omega
theorem wSide_le (n : Nat) : 700 ≤ wSide n := by
  unfold wSide
  have : 1 ≤ 2 ^ n := Nat.one_le_two_pow
  omega
def spSide (K : PySem.W.Frag) (n : Nat) : Sp := fun vs H Q _ => ∃ (d c l : Addr) (G : Hp) (ns : List Str) (deep : Nat), vs = [.ref d, .ref l, .int deep] ∧ Pt d c H G ∧ SqL K G l (ns.map V.str) ∧ ns ≠ [] ∧ ns.length ≤ 100 ∧ (∀ x ∈ ns, isName (.str x) = true) ∧ deep ≤ n + 1 ∧
  ∀ (x : V) (dd : PyData) (H' G' : Hp), GD d c H G H' G' → Dv G' x dd → Gd 99 (wSide n) (2 * n + 1) dd → isTD dd = true → plainD dd = true → Q x H'
abbrev s__law_side : Stmt := top 37
theorem sc__law_side : FnScope ["_law_deck_here", "_law_names_here", "_law_deep", "_law_way", "_law_one", "_law_other", "_law_word"] ["_law_deck_here", "_law_names_here", "_law_deep"] (defScope s__law_side) := ⟨rfl, rfl, rfl, by decide +kernel, rfl, by decide +kernel, by decide +kernel⟩
set_option format.width 500 in
set_option format.indent 0 in
set_option pp.deepTerms true in
set_option pp.maxSteps 200000 in
/-- one more level: c where deep is at least 2 alone -/
theorem st__law_side {f : Addr} {fd : FuncData} {n k : Nat} (hk : 2 ≤ k) (D : Df K mg "_law_side" s__law_side f fd) (T : Tx K mg) (c__law_draw : Cal P w K mg base "_law_draw" ["_law_deck_here", "_law_many"] 1 spDraw) (c__law_pick : Cal P w K mg base "_law_pick" ["_law_deck_here", "_law_some"] 2 (spPickL K))
    (c__law_num : Cal P w K mg base "_law_num" ["_law_deck_here"] 2 spNumG) (sp' : Sp) (hsp : ∀ n', n = n' + 1 → sp' = spSide K n') (c__law_side : Cal P w K mg base "_law_side" ["_law_deck_here", "_law_names_here", "_law_deep"] k sp') : Cal P w K mg base "_law_side" ["_law_deck_here", "_law_names_here", "_law_deep"] (k + 1) (spSide K n) := by
  refine D.cal sc__law_side (fun vs H Q E h => ?_) (fun _ _ _ _ _ _ us hl => match us, hl with | [_, _, _], _ => rfl) (fun cdv A outer s H vs Q E hgu hr h => ?_)
  · obtain ⟨d, c, l, G, ns, deep, rfl, _⟩ := h
    rfl
  · obtain ⟨d, c, l, G, ns, deep, rfl, pt, hl, ne, nl, nm, hdp, q⟩ := h
    refine ⟨_, (pss_cons (ps_set (i := 3) sc__law_side.nd rfl (by first | exact Or.inl rfl | exact Or.inr rfl) (pe_cal c__law_draw hgu (hr.mono (by omega)) (by rfl) (pa_cons (pv 0) (pa_cons pe_int pa_nil)))) (pss_cons (ps_if (PW.pt (pw_or (pt_cmpR op_lt (pv 2) pe_int (by rfl)) (pw_or1 (pt_cmpR op_lt (pv 3) pe_int (by rfl))))) (pss_one (ps_ret (pe_ix (aIxL (K := K) rfl) (pe_lstU (pa_cons (pe_tupU (pa_cons pe_str (pa_cons (pe_cal c__law_pick hgu (hr.mono (by omega)) (by rfl) (pa_cons (pv 0) (pa_cons (pv 1) pa_nil))) pa_nil))) (pa_cons (pe_cal c__law_num hgu (hr.mono (by omega)) (by rfl) (pa_cons (pv 0) pa_nil)) pa_nil))) (pe_cal c__law_draw hgu (hr.mono (by omega)) (by rfl) (pa_cons (pv 0) (pa_cons pe_int pa_nil))) (fun _ _ => rfl)))) pss_nil) (pss_cons (ps_set (i := 4) sc__law_side.nd rfl (by first | exact Or.inl rfl | exact Or.inr rfl) (pe_cal c__law_side hgu (hr.mono (by omega)) (by rfl) (pa_cons (pv 0) (pa_cons (pv 1) (pa_cons (pe_op op_sub (pv 2) pe_int) pa_nil))))) (pss_cons (ps_if (pt_cmpR op_lt (pv 3) pe_int (by rfl)) (pss_one (ps_ret (pe_ix (aIxL (K := K) rfl) (pe_lstU (pa_cons (pe_tupU (pa_cons pe_str (pa_cons (pv 4) pa_nil))) (pa_cons (pe_tupU (pa_cons pe_str (pa_cons pe_str (pa_cons (pv 4) pa_nil)))) pa_nil))) (pe_op op_sub (pv 3) pe_int) (fun _ _ => rfl)))) pss_nil) (pss_cons (ps_set (i := 5) sc__law_side.nd rfl (by first | exact Or.inl rfl | exact Or.inr rfl) (pe_cal c__law_side hgu (hr.mono (by omega)) (by rfl) (pa_cons (pv 0) (pa_cons (pv 1) (pa_cons (pe_op op_sub (pe_op op_sub (pv 2) pe_int) (pe_cal c__law_draw hgu (hr.mono (by omega)) (by rfl) (pa_cons (pv 0) (pa_cons pe_int pa_nil)))) pa_nil))))) (pss_cons (ps_set (i := 6) sc__law_side.nd rfl (by first | exact Or.inl rfl | exact Or.inr rfl) (pe_ix (aIxL (K := K) rfl) (pe_lstU (pa_cons pe_str (pa_cons pe_str (pa_cons pe_str (pa_cons pe_str (pa_cons pe_str pa_nil)))))) (pe_op op_sub (pv 3) pe_int) (fun _ _ => rfl))) (pss_one (ps_ret (pe_ifExp (pt_cmpR op_gt (pv 3) pe_int (by rfl)) (pe_tupU (pa_cons (pv 6) (pa_cons pe_str (pa_cons (pv 4) (pa_cons (pv 5) pa_nil))))) (pe_tupU (pa_cons (pv 6) (pa_cons (pv 4) (pa_cons (pv 5) pa_nil))))))))))))), ?_⟩
    refine seq_cut fun u hu => ?_
    walk_at "rq"
    refine ⟨d, c, 10, rfl, pt.deck, by decide, by decide, fun r H1 r0 r1 hd1 sv1 => ?_⟩
    have g1 := pt.keep sv1 hd1
    obtain ⟨wy, rfl⟩ := Int.eq_ofNat_of_zero_le r0
    have hwy : wy < 10 := by omega
    clear r0 r1 sv1 hd1
    show u _ _ _
    subst hu
    refine seq_cut fun u hu => ?_
    walk_at "rq"
    by_cases hde : deep < 2
    · refine iteY (decide_eq_true (by omega)) ⟨d, c, l, G, ns.map V.str, rfl, g1.to, hl, by rw [List.length_map]; exact List.length_pos_iff.mpr ne, by rw [List.length_map]; omega, fun x H2 hx g2 => ⟨line_le' (by decide), fun p2 H3 s3 n3 e3 => ?_⟩⟩
      obtain ⟨z, hz, rfl⟩ := List.mem_map.mp hx
      have g2 := g1.trans g2
      have g3 := g2.trans (g2.to.at_ s3 n3 e3)
      refine ⟨d, c, _, rfl, g3.to, fun x i H4 G4 i0 i1 g4 hx4 => ⟨line_le' (by decide), fun p4 H5 s5 n5 e5 => ?_⟩⟩
      have g4' := g3.trans g4
      have g5 := g4'.trans (g4.to.same s5)
      refine ⟨d, c, 2, rfl, g5.to.deck, by decide, by decide, fun r H6 r0 r1 hd6 sv6 => ?_⟩
      have g6 := g5.trans (g5.to.keep sv6 hd6)
      have np := g4.to.deck.fresh n5
      obtain ⟨y, ey, hy⟩ := atI_in (xs := [V.ref p2, x]) r0 r1
      refine ⟨_, r, rfl, .of (sv6 _ _ e5 np.1 np.2), y, ey, ?_⟩
      have w0 := wSide_le n
      simp only [List.mem_cons, List.not_mem_nil, or_false] at hy
      rcases hy with rfl | rfl
      · obtain ⟨t1, t2⟩ := gd_name (.inr rfl) (nm z hz)
        exact q _ _ H6 _ g6 (.tup (g4.part _ _ upd_same) (.cons (.str _) (.cons (.str z) .nil))) (t1.mono (Nat.le_refl _) w0 (by omega)) t2 (plain_leaf (by decide +kernel) (by decide +kernel))
      · obtain ⟨t1, t2⟩ := gd_num i0 i1
        exact q _ _ H6 _ g6 hx4 (t1.mono (Nat.le_refl _) w0 (by omega)) t2 (plain_leaf (by decide +kernel) (by decide +kernel))
    refine iteN (decide_eq_false (by omega)) ?_
    by_cases hw3 : wy < 3
    · refine iteY (decide_eq_true (by omega)) ⟨d, c, l, G, ns.map V.str, rfl, g1.to, hl, by rw [List.length_map]; exact List.length_pos_iff.mpr ne, by rw [List.length_map]; omega, fun x H2 hx g2 => ⟨line_le' (by decide), fun p2 H3 s3 n3 e3 => ?_⟩⟩
      obtain ⟨z, hz, rfl⟩ := List.mem_map.mp hx
      have g2 := g1.trans g2
      have g3 := g2.trans (g2.to.at_ s3 n3 e3)
      refine ⟨d, c, _, rfl, g3.to, fun x i H4 G4 i0 i1 g4 hx4 => ⟨line_le' (by decide), fun p4 H5 s5 n5 e5 => ?_⟩⟩
      have g4' := g3.trans g4
      have g5 := g4'.trans (g4.to.same s5)
      refine ⟨d, c, 2, rfl, g5.to.deck, by decide, by decide, fun r H6 r0 r1 hd6 sv6 => ?_⟩
      have g6 := g5.trans (g5.to.keep sv6 hd6)
      have np := g4.to.deck.fresh n5
      obtain ⟨y, ey, hy⟩ := atI_in (xs := [V.ref p2, x]) r0 r1
      refine ⟨_, r, rfl, .of (sv6 _ _ e5 np.1 np.2), y, ey, ?_⟩
      have w0 := wSide_le n
      simp only [List.mem_cons, List.not_mem_nil, or_false] at hy
      rcases hy with rfl | rfl
      · obtain ⟨t1, t2⟩ := gd_name (.inr rfl) (nm z hz)
        exact q _ _ H6 _ g6 (.tup (g4.part _ _ upd_same) (.cons (.str _) (.cons (.str z) .nil))) (t1.mono (Nat.le_refl _) w0 (by omega)) t2 (plain_leaf (by decide +kernel) (by decide +kernel))
      · obtain ⟨t1, t2⟩ := gd_num i0 i1
        exact q _ _ H6 _ g6 hx4 (t1.mono (Nat.le_refl _) w0 (by omega)) t2 (plain_leaf (by decide +kernel) (by decide +kernel))
    refine iteN (decide_eq_false (by omega)) ?_
    obtain ⟨n', rfl⟩ : ∃ n', n = n' + 1 := ⟨n - 1, by omega⟩
    have hs := hsp n' rfl
    subst hs
    subst hu
    refine seq_cut fun u hu => ?_
    walk_at "rq"
    refine ⟨d, c, l, G, ns, deep - 1, by rw [show (deep : Int) - 1 = ((deep - 1 : Nat) : Int) by omega], g1.to, hl, ne, nl, nm, by omega, fun x1 d1 H2 G2 g2 hx1 k1 t1 p1 => ?_⟩
    have g2 := g1.trans g2
    show u _ _ _
    subst hu
    refine seq_cut fun u hu => ?_
    walk_at "rq"
    have ws := wSide_succ n'
    by_cases hw5 : wy < 5
    · refine iteY (decide_eq_true (by omega)) ⟨line_le' (by decide), fun p2 H3 s3 n3 e3 => ⟨line_le' (by decide), fun p3 H4 s4 n4 e4 => ⟨line_le' (by decide), fun p4 H5 s5 n5 e5 => ?_⟩⟩⟩
      have ga := g2.to.at_ s3 n3 e3
      have gb := ga.to.at_ s4 n4 e4
      have gc := gb.to.same s5
      have g5 := ((g2.trans ga).trans gb).trans gc
      obtain ⟨y, ey, hy⟩ := atI_in (xs := [V.ref p2, .ref p3]) (i := (wy : Int) - 3) (by omega) (by show (wy : Int) - 3 < 2; omega)
      refine ⟨_, .of e5, y, ey, ?_⟩
      have hP : Parts (wSide n' + 5) (2 * n' + 1) [d1] := ⟨fun y hy => by rw [List.mem_singleton.mp hy]; exact k1.ok, fun y hy => by rw [List.mem_singleton.mp hy]; exact k1.depth, fun y hy => by rw [List.mem_singleton.mp hy]; exact t1, by
        have := k1.wt
        simp only [wtL]
        omega⟩
      have hx5 := (hx1.same ga.part).same gb.part
      simp only [List.mem_cons, List.not_mem_nil, or_false] at hy
      rcases hy with rfl | rfl
      · obtain ⟨u1, u2⟩ := gd_other (h := Str.ofString "not") (.inr ⟨by decide +kernel, rfl⟩) hP
        exact q _ _ H5 _ g5 (.tup (gb.part _ _ upd_same) (.cons (.str _) (.cons hx5 .nil))) (u1.mono (Nat.le_refl _) (by omega) (by omega)) u2 (plain_other (by decide +kernel) (by decide +kernel) fun y hy => by rw [List.mem_singleton.mp hy]; exact p1)
      · obtain ⟨u1, u2⟩ := gd_flag (h := Str.ofString "twice") (f := Str.ofString "") (by decide +kernel) (by decide +kernel) rfl hP
        exact q _ _ H5 _ g5 (.tup upd_same (.cons (.str _) (.cons (.str _) (.cons hx5 .nil)))) (u1.mono (Nat.le_refl _) (by omega) (by omega)) u2 (plain_flag (by decide +kernel) fun y hy => by rw [List.mem_singleton.mp hy]; exact p1)
    refine iteN (decide_eq_false (by omega)) ?_
    subst hu
    refine seq_cut fun u hu => ?_
    walk_at "rq"
    refine ⟨d, c, 2, rfl, g2.to.deck, by decide, by decide, fun r H3 r0 r1 hd3 sv3 => ?_⟩
    have gd3 := g2.to.keep sv3 hd3
    have g3 := g2.trans gd3
    obtain ⟨rn, rfl⟩ := Int.eq_ofNat_of_zero_le r0
    refine ⟨(rn : Nat), rfl, d, c, l, G2, ns, deep - 1 - rn, by rw [show (deep : Int) - 1 - (rn : Nat) = ((deep - 1 - rn : Nat) : Int) by omega], g3.to, g2.part.seq hl, ne, nl, nm, by omega, fun x2 d2 H4 G4 g4' hx2 k2 t2 p2 => ?_⟩
    have g4 := g3.trans g4'
    have hx1 := hx1.same g4'.part
    clear g4' g3 gd3 hd3 sv3 r0 r1 g2 g1
    show u _ _ _
    subst hu
    refine seq_cut fun u hu => ?_
    walk_at "rq"
    refine ⟨line_le' (by decide), fun pl H5 s5 n5 e5 => ⟨_, .of e5, ?_⟩⟩
    have g5 := g4.trans (g4.to.same s5)
    obtain ⟨yw, eyw, hyw⟩ := atI_in (xs := (["and", "or", "xor", "sum", "less"] : List Str).map V.str) (i := (wy : Int) - 5) (by omega) (by show (wy : Int) - 5 < 5; omega)
    have hword : ∃ wd : Str, yw = .str wd ∧ (7 < wy → wd = "sum" ∨ wd = "less") ∧ (¬ 7 < wy → wd ∈ pairsL ∧ wd ∈ headsL) := by
      have : wy = 5 ∨ wy = 6 ∨ wy = 7 ∨ wy = 8 ∨ wy = 9 := by omega
      rcases this with rfl | rfl | rfl | rfl | rfl
      · have : atI ((["and", "or", "xor", "sum", "less"] : List Str).map V.str) (((5 : Nat) : Int) - 5) = some (.str "and") := by decide +kernel
        rw [this] at eyw
        cases eyw
        exact ⟨_, rfl, fun z => by omega, fun _ => by decide +kernel⟩
      · have : atI ((["and", "or", "xor", "sum", "less"] : List Str).map V.str) (((6 : Nat) : Int) - 5) = some (.str "or") := by decide +kernel
        rw [this] at eyw
        cases eyw
        exact ⟨_, rfl, fun z => by omega, fun _ => by decide +kernel⟩
      · have : atI ((["and", "or", "xor", "sum", "less"] : List Str).map V.str) (((7 : Nat) : Int) - 5) = some (.str "xor") := by decide +kernel
        rw [this] at eyw
        cases eyw
        exact ⟨_, rfl, fun z => by omega, fun _ => by decide +kernel⟩
      · have : atI ((["and", "or", "xor", "sum", "less"] : List Str).map V.str) (((8 : Nat) : Int) - 5) = some (.str "sum") := by decide +kernel
        rw [this] at eyw
        cases eyw
        exact ⟨_, rfl, fun _ => .inl rfl, fun z => by omega⟩
      · have : atI ((["and", "or", "xor", "sum", "less"] : List Str).map V.str) (((9 : Nat) : Int) - 5) = some (.str "less") := by decide +kernel
        rw [this] at eyw
        cases eyw
        exact ⟨_, rfl, fun _ => .inr rfl, fun z => by omega⟩
    obtain ⟨wd, rfl, hw7, hw7'⟩ := hword
    refine ⟨_, eyw, ?_⟩
    have hP : Parts (2 * wSide n' + 10) (2 * n' + 1) [d1, d2] := ⟨fun y hy => by
        simp only [List.mem_cons, List.not_mem_nil, or_false] at hy
        rcases hy with rfl | rfl
        · exact k1.ok
        · exact k2.ok, fun y hy => by
        simp only [List.mem_cons, List.not_mem_nil, or_false] at hy
        rcases hy with rfl | rfl
        · exact k1.depth
        · exact k2.depth, fun y hy => by
        simp only [List.mem_cons, List.not_mem_nil, or_false] at hy
        rcases hy with rfl | rfl
        · exact t1
        · exact t2, by
        have := k1.wt
        have := k2.wt
        simp only [wtL]
        omega⟩
    have hpl : ∀ y ∈ [d1, d2], plainD y = true := fun y hy => by
      simp only [List.mem_cons, List.not_mem_nil, or_false] at hy
      rcases hy with rfl | rfl
      · exact p1
      · exact p2
    subst hu
    walk_at "rq"
    by_cases h7 : 7 < wy
    · refine iteY (decide_eq_true (by omega)) ⟨line_le' (by decide), fun p6 H6 s6 n6 e6 => ?_⟩
      have ga := g5.to.at_ s6 n6 e6
      have hm : wd ∈ flaggedL ∧ (if wd = "twice" then 1 else 2) = 2 := by
        rcases hw7 h7 with rfl | rfl <;> decide +kernel
      obtain ⟨u1, u2⟩ := gd_flag (ds := [d1, d2]) (h := wd) (f := Str.ofString "") hm.1 (by decide +kernel) hm.2.symm hP
      exact q _ _ H6 _ (g5.trans ga) (.tup upd_same (.cons (.str _) (.cons (.str _) (.cons (hx1.same ga.part) (.cons (hx2.same ga.part) .nil))))) (u1.mono (Nat.le_refl _) (by omega) (by omega)) u2 (plain_flag hm.1 hpl)
    · refine iteN (decide_eq_false (by omega)) ⟨line_le' (by decide), fun p6 H6 s6 n6 e6 => ?_⟩
      have ga := g5.to.at_ s6 n6 e6
      obtain ⟨m1, m2⟩ := hw7' h7
      obtain ⟨u1, u2⟩ := gd_other (h := wd) (.inl ⟨m1, rfl⟩) hP
      exact q _ _ H6 _ (g5.trans ga) (.tup upd_same (.cons (.str _) (.cons (hx1.same ga.part) (.cons (hx2.same ga.part) .nil)))) (u1.mono (Nat.le_refl _) (by omega) (by omega)) u2 (plain_other m2 ((show ∀ z ∈ pairsL, z ∉ leavesL by decide +kernel) wd m1) hpl)
/-- .. at each level -/
theorem ok__law_side {f : Addr} {fd : FuncData} (D : Df K mg "_law_side" s__law_side f fd) (T : Tx K mg) (c__law_draw : Cal P w K mg base "_law_draw" ["_law_deck_here", "_law_many"] 1 spDraw) (c__law_pick : Cal P w K mg base "_law_pick" ["_law_deck_here", "_law_some"] 2 (spPickL K))
    (c__law_num : Cal P w K mg base "_law_num" ["_law_deck_here"] 2 spNumG) : ∀ n : Nat, Cal P w K mg base "_law_side" ["_law_deck_here", "_law_names_here", "_law_deep"] (n + 3) (spSide K n)
  | 0 => by
    have c0 : Cal P w K mg base "_law_side" ["_law_deck_here", "_law_names_here", "_law_deep"] 2 (fun _ _ _ _ => False) := D.cal (k := 1) sc__law_side (fun vs H Q E h => h.elim) (fun _ _ _ _ _ _ us hl => match us, hl with | [_, _, _], _ => rfl) (fun cdv A outer s H vs Q E hgu hr h => h.elim)
    exact st__law_side (n := 0) (k := 2) (by omega) D T c__law_draw c__law_pick c__law_num _ (fun n' h => by omega) c0
  | n + 1 => st__law_side (n := n + 1) (k := n + 3) (by omega) D T c__law_draw c__law_pick c__law_num _ (fun n' h => by
      have : n' = n := by omega
      rw [this]) (ok__law_side D T c__law_draw c__law_pick c__law_num n)
end
end Vf
namespace Vf
open PySem L2 PyProof.Rows PySem.Spec

local macro_rules | `(tactic| walk_at "rd") => `(tactic| simp only [tSeq, tIfS, tOr, tAnd, tNot, tB, tTest, tChain, tCB, tCons, tNil, tVar, tC, tRet, tAndV, tOrV, tNotV, tOp, tNext, tDrop, tAsg, tPar, tYes, tIf, tCall, tCalK, tTup, tLst, tSl, tNoPart, tPart, tM0, tM1, tRevL, tBM0, tBM, gName, rI0, rI, rU, rInA, rEqA, rAddA, rMulA, rSlAny, iAny, rIsi, rAll, rAny, rSum, rList, rTuple, rLen, rLenS, rLenSeq, rMulS, CDiv, rIn, rEqD, rNeD, iList, iTup, iStr, rCat, rCatA, rSlL, rSlA, rSlS, gSub, rPop, rAppend, rSetL, rIx, rIxL, rIxT, rIxS, LenV,
  L2.start, List.map_cons, List.map_nil, List.length_cons, List.length_nil, List.cons_append, List.nil_append, List.append_nil, Nat.zero_add, Nat.add_sub_cancel, Nat.sub_self, List.replicate_succ, List.replicate_zero, List.getElem?_cons_zero, List.getElem?_cons_succ, List.set_cons_zero, List.set_cons_succ,
  Option.some.injEq, V.int.injEq, V.str.injEq, V.bl.injEq, V.ref.injEq, List.cons.injEq, and_true, true_and, exists_eq_left', exists_eq_left, exists_eq_right, exists_and_left, exists_and_right, false_or, or_false, reduceCtorEq, false_and, and_false, exists_false, Bool.not_true, Bool.not_false, if_true, if_false, Bool.false_eq_true, ite_true, ite_false])
local macro_rules | `(tactic| walk_at "rq") => `(tactic| (walk_at "rd"; (try simp only [rEq_int, rEq_str, rNe_int, tUn, rU, tC, rInT, rInK, rIxK, rExtendT, rSlU, rCatU, rEqE, rIntB, tTupU, tLstU, tDGet2, tDL, tD, tEL, tE, tRevT, V.int.injEq, V.str.injEq, V.bl.injEq, V.ref.injEq, exists_eq_left', exists_eq_left, Bool.false_bne, Bool.false_xor, Bool.true_xor]); (try walk_at "rd"); (try (simp only [tTupU, tLstU, tDL, tD, tEL, tE]; try walk_at "rd")); (try (simp only [tTupU, tLstU, tDL, tD, tEL, tE]; try walk_at "rd"))))
theorem gd_tup {B W D : Nat} {ds : List PyData} (h : ∀ y ∈ ds, okD B y = true ∧ y.depth ≤ D) (hw : wtL ds ≤ W) : Gd B (W + 10) (D + 1) (.tuple ds) := by
  refine ⟨?_, ?_, ?_⟩
  · simp only [okD]
    exact okL_iff.mpr fun y hy => (h y hy).1
  · simp only [wt]
    omega
  · have := depthAll_le fun y hy => (h y hy).2
    simp only [PyData.depth]
    omega
theorem gd_txt {B : Nat} {z : Str} (h : PyData.strOk z = true) (hl : z.length ≤ 8) : okD B (.str z) = true ∧ wt (.str z) ≤ 87 ∧ (PyData.str z).depth = 0 := by
  refine ⟨by simp only [okD]; exact h, by simp only [wt]; omega, by simp [PyData.depth]⟩
theorem words_ok : ∀ z ∈ (["look", "x", "froze", "sum", "u", "times", "twice", "s", "choice", "same", "unlike", "below", "under"] : List Str), PyData.strOk z = true ∧ z.length ≤ 8 := by decide +kernel
def five (s : PyData) : List PyData := [.tuple [.str "look", .str "x"], .tuple [.str "froze", s], .tuple [.str "sum", .str "u", s, s], .tuple [.str "times", s, s], .tuple [.str "twice", .str "s", s]]
def chD (s : PyData) : PyData := .tuple [.str "choice", .tuple [.str "same", s, s], s, s]
theorem gd_word {B : Nat} {z : Str} (m : z ∈ (["look", "x", "froze", "sum", "u", "times", "twice", "s", "choice", "same", "unlike", "below", "under"] : List Str)) : okD B (.str z) = true ∧ wt (.str z) ≤ 87 ∧ (PyData.str z).depth = 0 := gd_txt (words_ok z m).1 (words_ok z m).2
theorem gd_row {B W D n : Nat} {ds : List PyData} (h : ∀ y ∈ ds, okD B y = true ∧ wt y ≤ W ∧ y.depth ≤ D) (hl : ds.length ≤ n) : Gd B (n * (W + 5) + 10) (D + 1) (.tuple ds) := by
  refine gd_tup (fun y hy => ⟨(h y hy).1, (h y hy).2.2⟩) (Nat.le_trans ?_ (Nat.mul_le_mul_right _ hl))
  clear hl
  induction ds with
  | nil => simp [wtL]
  | cons d ds ih =>
    have h1 := ih fun y hy => h y (List.mem_cons_of_mem _ hy)
    have h2 := (h d List.mem_cons_self).2.1
    simp only [wtL, List.length_cons, Nat.succ_mul]
    omega
theorem gd_six {B W D : Nat} {s : PyData} (hW : 87 ≤ W) (g : Gd B W D s) : ∀ y ∈ five s ++ [chD s], Gd B (8 * W + 100) (D + 2) y := by
  have tx : ∀ z ∈ (["look", "x", "froze", "sum", "u", "times", "twice", "s", "choice", "same", "unlike", "below", "under"] : List Str), okD B (.str z) = true ∧ wt (.str z) ≤ W ∧ (PyData.str z).depth ≤ D := fun z m => by
    obtain ⟨a, b, c⟩ := gd_word (B := B) m
    exact ⟨a, by omega, by omega⟩
  have ts : okD B s = true ∧ wt s ≤ W ∧ s.depth ≤ D := ⟨g.ok, g.wt, g.depth⟩
  have row : ∀ ds : List PyData, (∀ y ∈ ds, okD B y = true ∧ wt y ≤ W ∧ y.depth ≤ D) → ds.length ≤ 4 → Gd B (8 * W + 100) (D + 2) (.tuple ds) := fun ds h hl => (gd_row h hl).mono (Nat.le_refl _) (by omega) (by omega)
  intro y hy
  simp only [five, List.cons_append, List.nil_append, List.mem_cons, List.not_mem_nil, or_false] at hy
  rcases hy with rfl | rfl | rfl | rfl | rfl | rfl
  · refine row _ (fun y hy => ?_) (by decide)
    simp only [List.mem_cons, List.not_mem_nil, or_false] at hy
    rcases hy with rfl | rfl
    · exact tx _ (by decide +kernel)
    · exact tx _ (by decide +kernel)
  · refine row _ (fun y hy => ?_) (by simp)
    simp only [List.mem_cons, List.not_mem_nil, or_false] at hy
    rcases hy with rfl | rfl
    · exact tx _ (by decide +kernel)
    · exact ts
  · refine row _ (fun y hy => ?_) (by simp)
    simp only [List.mem_cons, List.not_mem_nil, or_false] at hy
    rcases hy with rfl | rfl | rfl | rfl
    · exact tx _ (by decide +kernel)
    · exact tx _ (by decide +kernel)
    · exact ts
    · exact ts
  · refine row _ (fun y hy => ?_) (by simp)
    simp only [List.mem_cons, List.not_mem_nil, or_false] at hy
    rcases hy with rfl | rfl | rfl
    · exact tx _ (by decide +kernel)
    · exact ts
    · exact ts
  · refine row _ (fun y hy => ?_) (by simp)
    simp only [List.mem_cons, List.not_mem_nil, or_false] at hy
    rcases hy with rfl | rfl | rfl
    · exact tx _ (by decide +kernel)
    · exact tx _ (by decide +kernel)
    · exact ts
  · have tri : Gd B (3 * (W + 5) + 10) (D + 1) (.tuple [.str "same", s, s]) := gd_row (fun y hy => by
      simp only [List.mem_cons, List.not_mem_nil, or_false] at hy
      rcases hy with rfl | rfl | rfl
      · exact tx _ (by decide +kernel)
      · exact ts
      · exact ts) (by simp)
    refine (gd_tup (W := 6 * W + 60) (D := D + 1) (fun y hy => ?_) ?_).mono (Nat.le_refl _) (by omega) (by omega)
    · simp only [List.mem_cons, List.not_mem_nil, or_false] at hy
      rcases hy with rfl | rfl | rfl | rfl
      · have := tx (Str.ofString "choice") (by decide +kernel)
        exact ⟨this.1, by omega⟩
      · exact ⟨tri.ok, tri.depth⟩
      · exact ⟨ts.1, by omega⟩
      · exact ⟨ts.1, by omega⟩
    · have h1 := (tx (Str.ofString "choice") (by decide +kernel)).2.1
      have h2 := tri.wt
      have h3 := ts.2.1
      simp only [wtL]
      omega
section
variable {P : Program} {w : World} {K : PySem.W.Frag} {mg : Str → Option Value} {base : Heap}
def spSpoilt : Sp := fun vs H Q _ => ∃ (d c : Addr) (x : V) (G : Hp) (r : Str) (d1 d2 : PyData), vs = [.ref d, x] ∧ Pt d c H G ∧ Dv G x (.tuple [.str r, d1, d2]) ∧ r ∈ testL ∧ Gd 99 7770 7 d1 ∧ Gd 99 7770 7 d2 ∧
  ∀ (x' : V) (dd' : PyData) (H' G' : Hp), GD d c H G H' G' → Dv G' x' dd' → Gd (99 + 10 ^ 40) 80000 11 dd' → Q x' H'
abbrev s__law_spoilt : Stmt := top 38
theorem sc__law_spoilt : FnScope ["_law_deck_here", "_law_test", "_law_way", "_law_at", "_law_side_here", "_law_some"] ["_law_deck_here", "_law_test"] (defScope s__law_spoilt) := ⟨rfl, rfl, rfl, by decide +kernel, rfl, by decide +kernel, by decide +kernel⟩
set_option format.width 500 in
set_option format.indent 0 in
set_option pp.deepTerms true in
set_option pp.maxSteps 200000 in
theorem ok__law_spoilt {f : Addr} {fd : FuncData} (D : Df K mg "_law_spoilt" s__law_spoilt f fd) (T : Tx K mg) (c__law_draw : Cal P w K mg base "_law_draw" ["_law_deck_here", "_law_many"] 1 spDraw) (c__law_odd : Cal P w K mg base "_law_odd" ["_law_deck_here", "_law_it"] 17 (spOdd 16)) : Cal P w K mg base "_law_spoilt" ["_law_deck_here", "_law_test"] 18 spSpoilt := by
  refine D.cal sc__law_spoilt (fun vs H Q E h => ?_) (fun _ _ _ _ _ _ us hl => match us, hl with | [_, _], _ => rfl) (fun cdv A outer s H vs Q E hgu hr h => ?_)
  · obtain ⟨d, c, x, G, r, d1, d2, rfl, _⟩ := h
    rfl
  · obtain ⟨d, c, x, G, r, d1, d2, rfl, pt, hx, hr', hg1, hg2, q⟩ := h
    refine ⟨_, (pss_cons (ps_set (i := 2) sc__law_spoilt.nd rfl (by first | exact Or.inl rfl | exact Or.inr rfl) (pe_cal c__law_draw hgu (hr.mono (by omega)) (by rfl) (pa_cons (pv 0) (pa_cons pe_int pa_nil)))) (pss_cons (ps_set (i := 3) sc__law_spoilt.nd rfl (by first | exact Or.inl rfl | exact Or.inr rfl) (pe_op op_add pe_int (pe_cal c__law_draw hgu (hr.mono (by omega)) (by rfl) (pa_cons (pv 0) (pa_cons pe_int pa_nil))))) (pss_cons (ps_set (i := 4) sc__law_spoilt.nd rfl (by first | exact Or.inl rfl | exact Or.inr rfl) (pe_ix (aIxT (K := K) rfl) (pv 1) (pv 3) (fun _ _ => rfl))) (pss_cons (ps_set (i := 5) sc__law_spoilt.nd rfl (by first | exact Or.inl rfl | exact Or.inr rfl) (wEL (wEs_cons (wE_tup (wEs_cons (wE_con pe_str fun _ => .str _) (wEs_cons (wE_con pe_str fun _ => .str _) wEs_nil))) (wEs_cons (wE_tup (wEs_cons (wE_con pe_str fun _ => .str _) (wEs_cons (wE_var (pv 4)) wEs_nil))) (wEs_cons (wE_tup (wEs_cons (wE_con pe_str fun _ => .str _) (wEs_cons (wE_con pe_str fun _ => .str _) (wEs_cons (wE_var (pv 4)) (wEs_cons (wE_var (pv 4)) wEs_nil))))) (wEs_cons (wE_tup (wEs_cons (wE_con pe_str fun _ => .str _) (wEs_cons (wE_var (pv 4)) (wEs_cons (wE_var (pv 4)) wEs_nil)))) (wEs_cons (wE_tup (wEs_cons (wE_con pe_str fun _ => .str _) (wEs_cons (wE_con pe_str fun _ => .str _) (wEs_cons (wE_var (pv 4)) wEs_nil)))) wEs_nil))))))) (pss_cons (ps_expr (pe_bm PySem.F.plainAttrs_list PySem.F.slot_list_append PySem.F.type_list_append mt_append (pv 5) (pa_cons (wE_tup (wEs_cons (wE_con pe_str fun _ => .str _) (wEs_cons (wE_tup (wEs_cons (wE_con pe_str fun _ => .str _) (wEs_cons (wE_var (pv 4)) (wEs_cons (wE_var (pv 4)) wEs_nil)))) (wEs_cons (wE_var (pv 4)) (wEs_cons (wE_var (pv 4)) wEs_nil))))) pa_nil))) (pss_cons (ps_if (pt_cmpR op_lt (pv 2) pe_int (by rfl)) (pss_one (ps_ret (pe_op aCatD (pe_op aCatD (pe_slice aSlD (pv 1) po_none (po_some (pv 3))) (pe_tupU (pa_cons (pe_ix (aIxL (K := K) rfl) (pv 5) (pv 2) (fun _ _ => rfl)) pa_nil))) (pe_slice aSlD (pv 1) (po_some (pe_op op_add (pv 3) pe_int)) po_none)))) pss_nil) (pss_one (ps_ret (pe_cal c__law_odd hgu (hr.mono (by omega)) (by rfl) (pa_cons (pv 0) (pa_cons (pv 1) pa_nil))))))))))), ?_⟩
    refine seq_cut fun u hu => ?_
    walk_at "rq"
    refine ⟨d, c, 8, rfl, pt.deck, by decide, by decide, fun r0' H1 r0 r1 hd1 sv1 => ?_⟩
    have g1 := pt.keep sv1 hd1
    obtain ⟨wy, rfl⟩ := Int.eq_ofNat_of_zero_le r0
    have hwy : wy < 8 := by omega
    clear r0 r1 sv1 hd1
    show u _ _ _
    subst hu
    refine seq_cut fun u hu => ?_
    walk_at "rq"
    refine ⟨d, c, 2, rfl, g1.to.deck, by decide, by decide, fun r0' H2 r0 r1 hd2 sv2 => ⟨r0', rfl, ?_⟩⟩
    have g2 := g1.trans (g1.to.keep sv2 hd2)
    obtain ⟨k0, rfl⟩ := Int.eq_ofNat_of_zero_le r0
    have hk0 : k0 < 2 := by omega
    rw [show (1 : Int) + (k0 : Nat) = ((1 + k0 : Nat) : Int) by omega]
    have hxx := hx
    cases hx with
    | @tup a xs _ ea hxs =>
    obtain ⟨x0, v1, v2, _, _, _, rfl, e0, h0, h1, h2⟩ := all3 hxs rfl
    cases e0
    have hr8 : Gd 99 7770 7 (.str r) := by
      have := gd_word (B := 99) (z := r) ((show ∀ z ∈ testL, z ∈ (["look", "x", "froze", "sum", "u", "times", "twice", "s", "choice", "same", "unlike", "below", "under"] : List Str) by decide +kernel) r hr')
      exact ⟨this.1, by omega, by omega⟩
    obtain ⟨vS, dS, evS, hvS, gS⟩ : ∃ vS dS, atI [x0, v1, v2] ((1 + k0 : Nat) : Int) = some vS ∧ Dv G vS dS ∧ Gd 99 7770 7 dS := by
      have : k0 = 0 ∨ k0 = 1 := by omega
      rcases this with rfl | rfl
      · exact ⟨v1, d1, at1, h1, hg1⟩
      · exact ⟨v2, d2, at2, h2, hg2⟩
    refine (show ∀ H3 : Hp, GD d c H G H3 G → u ?D1 [some (V.ref d), some (V.ref a), some (V.int ↑wy), some (V.int ((1 + k0 : Nat) : Int)), none, none] H3 from ?h1) _ g2
    case h1 =>
    clear g2 hd2 sv2 r0 r1 g1
    clear H1 H2
    intro H3 g3
    subst hu
    refine seq_cut fun u hu => ?_
    walk_at "rq"
    refine ⟨_, .of (g3.to.sub _ _ ea), vS, evS, ?_⟩
    show u _ _ _
    subst hu
    refine seq_cut fun u hu => ?_
    walk_at "rq"
    refine ⟨fun _ => dS, G, g3.to.sub, (by repeat (first | exact trivial | refine ⟨⟨_, rfl, hvS⟩, ?_⟩)), fun p ys H4 G4 gr4 hys hp4 => ?_⟩
    have g4 := g3.trans (g3.to.grow gr4)
    have np := g4.to.deck.fresh hp4
    have pG : G4 p = none := g4.to.sub.free hp4
    have hys : DvAll G4 ys (five dS) := hys
    refine (show ∀ H5 : Hp, H5 p = some (.lst ys) → GD d c H G H5 G4 → u ?D2 [some (V.ref d), some (V.ref a), some (V.int ↑wy), some (V.int ((1 + k0 : Nat) : Int)), some vS, some (.ref p)] H5 from ?h2) _ upd_same (g4.trans (g4.to.keep (Same.sv (same_upd (o := .lst ys) hp4)) (g4.to.deck.same (same_upd hp4))))
    case h2 =>
    have pH : H p = none := g4.big.free g4.to.deck hp4
    have pt4 := g4.part
    clear g4 hp4 gr4 g3
    intro H5 e5 g5
    subst hu
    refine seq_cut fun u hu => ?_
    walk_at "rq"
    have hvS := hvS.same pt4
    refine ⟨.inl ⟨rfl, _, .of e5⟩, fun _ => dS, G4, g5.to.sub, (by repeat (first | exact trivial | refine ⟨⟨_, rfl, hvS⟩, ?_⟩)), fun y H6 G6 gr6 hy => ⟨ys, gr6.big _ _ e5, ?_, ?_⟩⟩
    · have := sizeLine_eq
      have := hys.len
      have : (five dS).length = 5 := rfl
      omega
    have g6 := g5.trans (g5.to.grow gr6)
    have p6 : G6 p = none := gr6.only p (by rw [e5]; nofun) pG
    have hall : DvAll G6 (ys ++ [y]) (five dS ++ [chD dS]) := (hys.same gr6.part).append (.cons hy .nil)
    have hl6 : (ys ++ [y]).length = 6 := by rw [hall.len]; rfl
    have g7 := GD.setp (o := .lst (ys ++ [y])) g6 pH p6 np.1 np.2
    refine (show ∀ H7 : Hp, H7 p = some (.lst (ys ++ [y])) → GD d c H G H7 G6 → u ?D3 [some (V.ref d), some (V.ref a), some (V.int ↑wy), some (V.int ((1 + k0 : Nat) : Int)), some vS, some (.ref p)] H7 from ?h3) _ upd_same g7
    case h3 =>
    have pt6 := pt4.trans gr6.part
    clear g7 g6 gr6 g5 e5
    intro H7 e7 g7
    subst hu
    refine seq_cut fun u hu => ?_
    walk_at "rq"
    by_cases hw6 : wy < 6
    · refine iteY (decide_eq_true (by omega)) ?_
      simp only [rSlD, rCatD]
      have ea7 := pt6 _ _ ea
      have hx7 : DvAll G6 [x0, v1, v2] [.str r, d1, d2] := (DvAll.cons h0 (.cons h1 (.cons h2 .nil))).same pt6
      obtain ⟨z, ez, hz⟩ := atI_in (xs := ys ++ [y]) (i := (wy : Int)) (by omega) (by rw [hl6]; omega)
      obtain ⟨dz, mz, hdz⟩ := hall.mem hz
      have gz := gd_six (by decide) gS dz mz
      have c1 : cutV [x0, v1, v2] none (some ((1 + k0 : Nat) : Int)) = [x0, v1, v2].take (1 + k0) := cutV_to _ (1 + k0)
      have c2 : cutV [x0, v1, v2] (some (((1 + k0 : Nat) : Int) + 1)) none = [x0, v1, v2].drop (1 + k0 + 1) := cutV_from _ (1 + k0 + 1)
      refine ⟨G6, a, _, rfl, g7.to.sub, ea7, fun q1 H8 G8 gr8 e1 => ⟨ys ++ [y], .of (gr8.big _ _ e7), z, ez, line_le' (by decide), fun q2 H9 s9 n9 e9 => ?_⟩⟩
      have g8 := g7.trans (g7.to.grow gr8)
      have ga := g8.to.at_ s9 n9 e9
      refine ⟨_, q1, q2, _, _, rfl, rfl, ga.to.sub, ga.part _ _ e1, upd_same, ?_, fun q3 H10 G10 gr10 e3 => ⟨G10, a, _, rfl, gr10.sub, gr10.part _ _ (ga.part _ _ (gr8.part _ _ ea7)), fun q4 H11 G11 gr11 e4 => ⟨G11, q3, q4, _, _, rfl, rfl, gr11.sub, gr11.part _ _ e3, e4, ?_, fun q5 H12 G12 gr12 e5 => ?_⟩⟩⟩
      · simp only [c1, List.length_take, List.length_cons, List.length_nil]
        first | done | exact line_le' (by omega)
      · simp only [c1, c2, List.length_append, List.length_take, List.length_drop, List.length_cons, List.length_nil]
        exact line_le' (by omega)
      · have gT := (gr10.trans gr11).trans gr12
        have hx12 := ((hx7.same gr8.part).same ga.part).same gT.part
        have hz12 := ((hdz.same gr8.part).same ga.part).same gT.part
        rw [c1, c2] at e5
        refine q (.ref q5) (.tuple (([.str r, d1, d2].take (1 + k0) ++ [dz]) ++ [.str r, d1, d2].drop (1 + k0 + 1))) H12 G12 (((g8.trans ga)).trans (ga.to.grow gT)) (.tup e5 ((hx12.take.append (.cons hz12 .nil)).append hx12.drop)) ?_
        have w1 := wtL_take (1 + k0) [.str r, d1, d2]
        have w2 := wtL_drop_le 1 ([.str r, d1, d2].drop (1 + k0))
        rw [List.drop_drop] at w2
        have w3 := gz.wt
        have w4 := hr8.wt
        have w5 := hg1.wt
        have w6 := hg2.wt
        have w7 : wtL [.str r, d1, d2] = wt (.str r) + 5 + (wt d1 + 5 + (wt d2 + 5 + 0)) := rfl
        have w8 : wt (.str r) ≤ 87 := (gd_word (B := 99) (z := r) ((show ∀ z ∈ testL, z ∈ (["look", "x", "froze", "sum", "u", "times", "twice", "s", "choice", "same", "unlike", "below", "under"] : List Str) by decide +kernel) r hr')).2.1
        have mem3 : ∀ y ∈ [PyData.str r, d1, d2], okD 99 y = true ∧ y.depth ≤ 9 := fun y hy => by
          simp only [List.mem_cons, List.not_mem_nil, or_false] at hy
          rcases hy with rfl | rfl | rfl
          · exact ⟨hr8.ok, Nat.le_trans hr8.depth (by decide)⟩
          · exact ⟨hg1.ok, Nat.le_trans hg1.depth (by decide)⟩
          · exact ⟨hg2.ok, Nat.le_trans hg2.depth (by decide)⟩
        refine (gd_tup (B := 99) (W := 79000) (D := 9) (fun y hy => ?_) ?_).mono (by omega) (by decide) (by decide)
        · rcases List.mem_append.mp hy with hy | hy
          · rcases List.mem_append.mp hy with hy | hy
            · exact mem3 y (List.mem_of_mem_take hy)
            · rw [List.mem_singleton.mp hy]
              exact ⟨gz.ok, gz.depth⟩
          · exact mem3 y (List.mem_of_mem_drop hy)
        · rw [wtL_append, wtL_append]
          have w9 : wtL [dz] = wt dz + 5 + 0 := rfl
          omega
    · refine iteN (decide_eq_false (by omega)) ?_
      subst hu
      walk_at "rq"
      refine ⟨d, c, .ref a, G6, .tuple [.str r, d1, d2], 99, 16000, 8, rfl, g7.to, hxx.same pt6, ?_, by decide, by decide, ?_, fun x' dd' H' G' g hx' hg' => q x' dd' H' G' (g7.trans g) hx' (hg'.mono (Nat.le_refl _) (by decide) (by decide))⟩
      · refine (gd_tup (B := 99) (W := 15990) (D := 7) (fun y hy => ?_) ?_).mono (Nat.le_refl _) (by decide) (by decide)
        · simp only [List.mem_cons, List.not_mem_nil, or_false] at hy
          rcases hy with rfl | rfl | rfl
          · exact ⟨hr8.ok, hr8.depth⟩
          · exact ⟨hg1.ok, hg1.depth⟩
          · exact ⟨hg2.ok, hg2.depth⟩
        · have w8 : wt (.str r) ≤ 87 := (gd_word (B := 99) (z := r) ((show ∀ z ∈ testL, z ∈ (["look", "x", "froze", "sum", "u", "times", "twice", "s", "choice", "same", "unlike", "below", "under"] : List Str) by decide +kernel) r hr')).2.1
          have w5 := hg1.wt
          have w6 := hg2.wt
          simp only [wtL]
          omega
      · have := hg1.depth
        have := hg2.depth
        have := hr8.depth
        simp only [PyData.depth, PyData.depthAll] at *
        omega
end
end Vf
namespace Vf
open PySem L2 PyProof.Rows PySem.Spec

local macro_rules | `(tactic| walk_at "rd") => `(tactic| simp only [tSeq, tIfS, tOr, tAnd, tNot, tB, tTest, tChain, tCB, tCons, tNil, tVar, tC, tRet, tAndV, tOrV, tNotV, tOp, tNext, tDrop, tAsg, tPar, tYes, tIf, tCall, tCalK, tTup, tLst, tSl, tNoPart, tPart, tM0, tM1, tRevL, tBM0, tBM, gName, rI0, rI, rU, rInA, rEqA, rAddA, rMulA, rSlAny, iAny, rIsi, rAll, rAny, rSum, rList, rTuple, rLen, rLenS, rLenSeq, rMulS, CDiv, rIn, rEqD, rNeD, iList, iTup, iStr, rCat, rCatA, rSlL, rSlA, rSlS, gSub, rPop, rAppend, rSetL, rIx, rIxL, rIxT, rIxS, LenV,
  L2.start, List.map_cons, List.map_nil, List.length_cons, List.length_nil, List.cons_append, List.nil_append, List.append_nil, Nat.zero_add, Nat.add_sub_cancel, Nat.sub_self, List.replicate_succ, List.replicate_zero, List.getElem?_cons_zero, List.getElem?_cons_succ, List.set_cons_zero, List.set_cons_succ,
  Option.some.injEq, V.int.injEq, V.str.injEq, V.bl.injEq, V.ref.injEq, List.cons.injEq, and_true, true_and, exists_eq_left', exists_eq_left, exists_eq_right, exists_and_left, exists_and_right, false_or, or_false, reduceCtorEq, false_and, and_false, exists_false, Bool.not_true, Bool.not_false, if_true, if_false, Bool.false_eq_true, ite_true, ite_false])
local macro_rules | `(tactic| walk_at "rq") => `(tactic| (walk_at "rd"; (try simp only [rEq_int, rEq_str, rNe_int, tUn, rU, tC, rInT, rInK, rIxK, rExtendT, rSlU, rCatU, rEqE, rIntB, tTupU, tLstU, tDGet2, tDL, tD, tRevT, V.int.injEq, V.str.injEq, V.bl.injEq, V.ref.injEq, exists_eq_left', exists_eq_left, Bool.false_bne, Bool.false_xor, Bool.true_xor]); (try walk_at "rd"); (try (simp only [tTupU, tLstU, tDL, tD]; try walk_at "rd")); (try (simp only [tTupU, tLstU, tDL, tD]; try walk_at "rd"))))
/-! ## what is fixed, and the law -/
def constC : PyData := .tuple [.str "const", .str "c"]
def num3 : PyData := .tuple [.str "num", .int 3]
def fx1 : List PyData := [.tuple [.str "same", constC, num3], .tuple [.str "unlike", constC, constC], .tuple [.str "below", num3, num3], .tuple [.str "under", num3, constC], .tuple [.str "Same", constC, num3], .tuple [.str "same", constC], .tuple [constC, num3]]
def fx2 : List PyData := [.tuple [.str "same", constC, num3, num3], .list [.str "same", constC, num3], .tuple [.str "above", constC, num3], .tuple [.str "same", .tuple [.str "twice", .str "", constC], .tuple [.str "not", constC]], .tuple []]
def fx3 : List PyData := [.tuple [.str "same", .tuple [.str "twice", .str "u", constC], constC], .tuple [.str "same", .tuple [.str "left", constC, constC], constC], .tuple [.str "same", .tuple [.str "look", .str "c"], constC], .tuple [.str "", constC, num3]]
def fx4 : List PyData := [.dict [], .int 0, .str "same", .tuple [.str "same", constC, .str "c"], .tuple [.str "same", .tuple [.str "froze", constC], num3]]
def fixedD : List PyData := fx1 ++ fx2 ++ [.none] ++ fx3 ++ fx4
theorem fixed_good : ∀ d ∈ fixedD, Gd (10 ^ 40) 100000 60 d := by
  have h : fixedD.all (fun d => okD (10 ^ 40) d && decide (wt d ≤ 100000) && decide (d.depth ≤ 60)) = true := by decide +kernel
  intro d hd
  have := List.all_eq_true.mp h d hd
  simp only [Bool.and_eq_true, decide_eq_true_eq] at this
  exact ⟨this.1.1, this.1.2, this.2⟩
theorem Lst.cat {H H1 G1 H2 G2 : Hp} {p p2 p3 : Addr} {ds es : List PyData} {ys zs : List V} (l : Lst H H1 G1 p ds) (hys : DvAll G1 ys ds) (gr : Grow H1 G1 H2 G2) (hzs : DvAll G2 zs es) (hp2 : H2 p2 = none) (hp3 : (upd H2 p2 (.lst zs)) p3 = none) :
    Lst H (upd (upd H2 p2 (.lst zs)) p3 (.lst (ys ++ zs))) G2 p3 (ds ++ es) := by
  have s2 := same_upd (o := .lst zs) hp2
  have s3 := same_upd (o := .lst (ys ++ zs)) hp3
  have g2 := l.grow.trans gr
  exact ⟨g2.big.free (s2.free hp3), g2.trans (Grow.same g2.sub (s2.trans s3)), g2.sub.free (s2.free hp3), _, upd_same, (hys.same gr.part).append hzs⟩
theorem Lst.add {H H1 G1 H2 G2 : Hp} {p : Addr} {ds : List PyData} {d : PyData} {ys : List V} {x : V} (l : Lst H H1 G1 p ds) (ey : H1 p = some (.lst ys)) (hys : DvAll G1 ys ds) (gr : Grow H1 G1 H2 G2) (hx : Dv G2 x d) : Lst H (upd H2 p (.lst (ys ++ [x]))) G2 p (ds ++ [d]) := by
  have o := gr.only p (by rw [ey]; nofun) l.out
  exact ⟨l.new, Grow.setp (l.grow.trans gr) l.new o, o, _, upd_same, (hys.same gr.part).append (.cons hx .nil)⟩
/-- the deck, and a list of things that may be asked -/
structure Bag (d c p : Addr) (n : Nat) (H G : Hp) : Prop where
  pt : Pt d c H G
  out : G p = none
  nd : p ≠ d
  nc : p ≠ c
  has : ∃ xs ds, H p = some (.lst xs) ∧ DvAll G xs ds ∧ (∀ y ∈ ds, Gd (10 ^ 41) 250000 60 y) ∧ ds.length ≤ n
theorem Bag.more {d c p : Addr} {n : Nat} {H G H' G' : Hp} (b : Bag d c p n H G) (g : GD d c H G H' G') : Bag d c p n H' G' := by
  obtain ⟨xs, ds, e, h1, h2, h3⟩ := b.has
  exact ⟨g.to, g.only p (by rw [e]; nofun) b.out, b.nd, b.nc, xs, ds, g.big _ _ e b.nd b.nc, h1.same g.part, h2, h3⟩
theorem Bag.add {d c p : Addr} {n : Nat} {H G : Hp} {x : V} {dx : PyData} {xs : List V} (b : Bag d c p n H G) (e : H p = some (.lst xs)) (hx : Dv G x dx) (g : Gd (10 ^ 41) 250000 60 dx) : Bag d c p (n + 1) (upd H p (.lst (xs ++ [x]))) G := by
  obtain ⟨xs', ds, e', h1, h2, h3⟩ := b.has
  rw [e] at e'
  cases e'
  refine ⟨b.pt.set b.out b.nd b.nc, b.out, b.nd, b.nc, _, ds ++ [dx], upd_same, h1.append (.cons hx .nil), fun y hy => ?_, by rw [List.length_append]; exact Nat.succ_le_succ h3⟩
  rcases List.mem_append.mp hy with z | z
  · exact h2 y z
  · rw [List.mem_singleton.mp z]
    exact g
theorem two_shown (b : Bool) : (PyData.list [.bool b, .bool b]).shown.length ≤ 1000000 := by
  cases b <;> decide +kernel
theorem two_deep (b : Bool) : (PyData.list [.bool b, .bool b]).depth ≤ 60 := by simp [PyData.depth, PyData.depthAll]
theorem ne_self {z : Str} {H : Hp} {Q : VK} (h : Q (.bl false) H) : rNe (.str z) (.str z) H Q := ⟨rfl, by simpa using h⟩
section
variable {P : Program} {w : World} {K : PySem.W.Frag} {mg : Str → Option Value} {base : Heap}
def spFixed : Sp := fun vs H Q _ => vs = [] ∧ GotL H noHp fixedD Q
abbrev s__law_fixed : Stmt := top 39
theorem sc__law_fixed : FnScope ["_law_c", "_law_n", "_law_some"] [] (defScope s__law_fixed) := ⟨rfl, rfl, rfl, by decide +kernel, rfl, by decide +kernel, by decide +kernel⟩
set_option format.width 500 in
set_option format.indent 0 in
set_option pp.deepTerms true in
set_option pp.maxSteps 200000 in
theorem ok__law_fixed {f : Addr} {fd : FuncData} (D : Df K mg "_law_fixed" s__law_fixed f fd) (T : Tx K mg) : Cal P w K mg base "_law_fixed" [] 2 spFixed := by
  refine D.cal sc__law_fixed (fun vs H Q E h => ?_) (fun _ _ _ _ _ _ us hl => match us, hl with | [], _ => rfl) (fun cdv A outer s H vs Q E hgu hr h => ?_)
  · obtain ⟨rfl, _⟩ := h
    rfl
  · obtain ⟨rfl, q⟩ := h
    refine ⟨_, (pss_cons (ps_asg (wD_tup (wDs_cons (wD_tup (wDs_cons (wD_con pe_str fun _ => .str _) (wDs_cons (wD_con pe_str fun _ => .str _) wDs_nil))) (wDs_cons (wD_tup (wDs_cons (wD_con pe_str fun _ => .str _) (wDs_cons (wD_con pe_int fun _ => .int _) wDs_nil))) wDs_nil))) (pg_tup rfl (pgs_cons (pg_name (i := 0) sc__law_fixed.nd rfl (by first | exact Or.inl rfl | exact Or.inr rfl)) (pgs_cons (pg_name (i := 1) sc__law_fixed.nd rfl (by first | exact Or.inl rfl | exact Or.inr rfl)) pgs_nil)))) (pss_cons (ps_set (i := 2) sc__law_fixed.nd rfl (by first | exact Or.inl rfl | exact Or.inr rfl) (wDL (wDs_cons (wD_tup (wDs_cons (wD_con pe_str fun _ => .str _) (wDs_cons (wD_var constC (pv 0)) (wDs_cons (wD_var num3 (pv 1)) wDs_nil)))) (wDs_cons (wD_tup (wDs_cons (wD_con pe_str fun _ => .str _) (wDs_cons (wD_var constC (pv 0)) (wDs_cons (wD_var constC (pv 0)) wDs_nil)))) (wDs_cons (wD_tup (wDs_cons (wD_con pe_str fun _ => .str _) (wDs_cons (wD_var num3 (pv 1)) (wDs_cons (wD_var num3 (pv 1)) wDs_nil)))) (wDs_cons (wD_tup (wDs_cons (wD_con pe_str fun _ => .str _) (wDs_cons (wD_var num3 (pv 1)) (wDs_cons (wD_var constC (pv 0)) wDs_nil)))) (wDs_cons (wD_tup (wDs_cons (wD_con pe_str fun _ => .str _) (wDs_cons (wD_var constC (pv 0)) (wDs_cons (wD_var num3 (pv 1)) wDs_nil)))) (wDs_cons (wD_tup (wDs_cons (wD_con pe_str fun _ => .str _) (wDs_cons (wD_var constC (pv 0)) wDs_nil))) (wDs_cons (wD_tup (wDs_cons (wD_var constC (pv 0)) (wDs_cons (wD_var num3 (pv 1)) wDs_nil))) wDs_nil))))))))) (pss_cons (ps_set (i := 2) sc__law_fixed.nd rfl (by first | exact Or.inl rfl | exact Or.inr rfl) (pe_op op_cat (pv 2) (wDL (wDs_cons (wD_tup (wDs_cons (wD_con pe_str fun _ => .str _) (wDs_cons (wD_var constC (pv 0)) (wDs_cons (wD_var num3 (pv 1)) (wDs_cons (wD_var num3 (pv 1)) wDs_nil))))) (wDs_cons (wD_lst (wDs_cons (wD_con pe_str fun _ => .str _) (wDs_cons (wD_var constC (pv 0)) (wDs_cons (wD_var num3 (pv 1)) wDs_nil)))) (wDs_cons (wD_tup (wDs_cons (wD_con pe_str fun _ => .str _) (wDs_cons (wD_var constC (pv 0)) (wDs_cons (wD_var num3 (pv 1)) wDs_nil)))) (wDs_cons (wD_tup (wDs_cons (wD_con pe_str fun _ => .str _) (wDs_cons (wD_tup (wDs_cons (wD_con pe_str fun _ => .str _) (wDs_cons (wD_con pe_str fun _ => .str _) (wDs_cons (wD_var constC (pv 0)) wDs_nil)))) (wDs_cons (wD_tup (wDs_cons (wD_con pe_str fun _ => .str _) (wDs_cons (wD_var constC (pv 0)) wDs_nil))) wDs_nil)))) (wDs_cons (wD_tup wDs_nil) wDs_nil)))))))) (pss_cons (ps_expr (pe_bm PySem.F.plainAttrs_list PySem.F.slot_list_append PySem.F.type_list_append mt_append (pv 2) (pa_cons pe_non pa_nil))) (pss_cons (ps_set (i := 2) sc__law_fixed.nd rfl (by first | exact Or.inl rfl | exact Or.inr rfl) (pe_op op_cat (pv 2) (wDL (wDs_cons (wD_tup (wDs_cons (wD_con pe_str fun _ => .str _) (wDs_cons (wD_tup (wDs_cons (wD_con pe_str fun _ => .str _) (wDs_cons (wD_con pe_str fun _ => .str _) (wDs_cons (wD_var constC (pv 0)) wDs_nil)))) (wDs_cons (wD_var constC (pv 0)) wDs_nil)))) (wDs_cons (wD_tup (wDs_cons (wD_con pe_str fun _ => .str _) (wDs_cons (wD_tup (wDs_cons (wD_con pe_str fun _ => .str _) (wDs_cons (wD_var constC (pv 0)) (wDs_cons (wD_var constC (pv 0)) wDs_nil)))) (wDs_cons (wD_var constC (pv 0)) wDs_nil)))) (wDs_cons (wD_tup (wDs_cons (wD_con pe_str fun _ => .str _) (wDs_cons (wD_tup (wDs_cons (wD_con pe_str fun _ => .str _) (wDs_cons (wD_con pe_str fun _ => .str _) wDs_nil))) (wDs_cons (wD_var constC (pv 0)) wDs_nil)))) (wDs_cons (wD_tup (wDs_cons (wD_con pe_str fun _ => .str _) (wDs_cons (wD_var constC (pv 0)) (wDs_cons (wD_var num3 (pv 1)) wDs_nil)))) wDs_nil))))))) (pss_one (ps_ret (pe_op op_cat (pv 2) (wDL (wDs_cons wD_dic0 (wDs_cons (wD_con pe_int fun _ => .int _) (wDs_cons (wD_con pe_str fun _ => .str _) (wDs_cons (wD_tup (wDs_cons (wD_con pe_str fun _ => .str _) (wDs_cons (wD_var constC (pv 0)) (wDs_cons (wD_con pe_str fun _ => .str _) wDs_nil)))) (wDs_cons (wD_tup (wDs_cons (wD_con pe_str fun _ => .str _) (wDs_cons (wD_tup (wDs_cons (wD_con pe_str fun _ => .str _) (wDs_cons (wD_var constC (pv 0)) wDs_nil))) (wDs_cons (wD_var num3 (pv 1)) wDs_nil)))) wDs_nil)))))))))))))), ?_⟩
    refine seq_cut fun u hu => ?_
    walk_at "rq"
    refine ⟨noHp, noHp_sub H, trivial, fun x2 H1 G1' g1 hx2 => ?_⟩
    cases hx2 with
    | @tup pa xs2 _ ea hx2 =>
    cases hx2 with
    | @cons xc xs2 _ _ hc hx2 =>
    cases hx2 with
    | @cons xn xs2 _ _ hn hx2 =>
    cases hx2
    have hc : Dv G1' xc constC := hc
    have hn : Dv G1' xn num3 := hn
    refine ⟨pa, [xc, xn], rfl, .of (g1.sub _ _ ea), rfl, ?_⟩
    refine ⟨xc, [xn], rfl, ⟨xn, [], rfl, ⟨rfl, ?_⟩⟩⟩
    show u _ _ _
    subst hu
    refine seq_cut fun u hu => ?_
    walk_at "rq"
    refine ⟨G1', g1.sub, (by repeat (first | exact trivial | refine ⟨⟨_, rfl, hc⟩, ?_⟩ | refine ⟨⟨_, rfl, hn⟩, ?_⟩)), fun p xs H2 G2 gr hxs hp => ?_⟩
    have g2 := g1.trans gr
    refine (show ∀ (H2 G2 : Hp) (p : Addr), Lst H H2 G2 p fx1 → Dv G2 xc constC → Dv G2 xn num3 → u ?D1 [some xc, some xn, some (.ref p)] H2 from ?h1) _ _ _ ⟨g2.big.free hp, g2.trans (Grow.same g2.sub (same_upd hp)), g2.sub.free hp, xs, upd_same, hxs⟩ (hc.same gr.part) (hn.same gr.part)
    case h1 =>
    clear g2 hp hxs gr G2 H2 xs p hc hn g1
    intro H1 G1 p l hc hn
    subst hu
    refine seq_cut fun u hu => ?_
    walk_at "rq"
    obtain ⟨ys, ey, hys⟩ := id l.has
    refine ⟨G1, l.grow.sub, (by repeat (first | exact trivial | refine ⟨⟨_, rfl, hc⟩, ?_⟩ | refine ⟨⟨_, rfl, hn⟩, ?_⟩)), fun p2 zs H2 G2 gr hzs hp2 => ⟨ys, same_upd hp2 _ _ (gr.big _ _ ey), zs, upd_same, line_le' (by rw [hys.len, hzs.len]; decide +kernel), fun p3 hp3 => ?_⟩⟩
    refine (show ∀ (H2 G2 : Hp) (p : Addr), Lst H H2 G2 p (fx1 ++ fx2) → Dv G2 xc constC → Dv G2 xn num3 → u ?D2 [some xc, some xn, some (.ref p)] H2 from ?h2) _ _ _ (l.cat hys gr hzs hp2 hp3) (hc.same gr.part) (hn.same gr.part)
    case h2 =>
    clear hp3 p3 hp2 hzs gr G2 H2 zs p2 hys ey ys hc hn l p G1 H1
    intro H1 G1 p l hc hn
    subst hu
    refine seq_cut fun u hu => ?_
    walk_at "rq"
    obtain ⟨ys, ey, hys⟩ := id l.has
    refine ⟨.inl ⟨rfl, _, .of ey⟩, ys, ey, ?_, ?_⟩
    · rw [hys.len]
      have := sizeLine_eq
      have e : (fx1 ++ fx2).length ≤ 100 := by decide +kernel
      omega
    refine (show ∀ (H2 G2 : Hp) (p : Addr), Lst H H2 G2 p (fx1 ++ fx2 ++ [.none]) → Dv G2 xc constC → Dv G2 xn num3 → u ?D9 [some xc, some xn, some (.ref p)] H2 from ?h9) _ _ _ (l.add ey hys (Grow.refl l.grow.sub) .non) hc hn
    case h9 =>
    clear hys ey ys hc hn l p G1 H1
    intro H1 G1 p l hc hn
    subst hu
    refine seq_cut fun u hu => ?_
    walk_at "rq"
    obtain ⟨ys, ey, hys⟩ := id l.has
    refine ⟨G1, l.grow.sub, (by repeat (first | exact trivial | refine ⟨⟨_, rfl, hc⟩, ?_⟩ | refine ⟨⟨_, rfl, hn⟩, ?_⟩)), fun p2 zs H2 G2 gr hzs hp2 => ⟨ys, same_upd hp2 _ _ (gr.big _ _ ey), zs, upd_same, line_le' (by rw [hys.len, hzs.len]; decide +kernel), fun p3 hp3 => ?_⟩⟩
    refine (show ∀ (H2 G2 : Hp) (p : Addr), Lst H H2 G2 p (fx1 ++ fx2 ++ [.none] ++ fx3) → Dv G2 xc constC → Dv G2 xn num3 → u ?D3 [some xc, some xn, some (.ref p)] H2 from ?h3) _ _ _ (l.cat hys gr hzs hp2 hp3) (hc.same gr.part) (hn.same gr.part)
    case h3 =>
    clear hp3 p3 hp2 hzs gr G2 H2 zs p2 hys ey ys hc hn l p G1 H1
    intro H1 G1 p l hc hn
    subst hu
    walk_at "rq"
    obtain ⟨ys, ey, hys⟩ := id l.has
    refine ⟨G1, l.grow.sub, (by repeat (first | exact trivial | refine ⟨⟨_, rfl, hc⟩, ?_⟩ | refine ⟨⟨_, rfl, hn⟩, ?_⟩)), fun p2 zs H2 G2 gr hzs hp2 => ⟨ys, same_upd hp2 _ _ (gr.big _ _ ey), zs, upd_same, line_le' (by rw [hys.len, hzs.len]; decide +kernel), fun p3 hp3 => ?_⟩⟩
    have g2 := l.grow.trans gr
    exact q p3 (ys ++ zs) _ _ G2 (g2.trans (Grow.same g2.sub (same_upd hp2))) ((hys.same gr.part).append hzs) hp3 (same_upd hp3) upd_same
end
end Vf
namespace Vf
open PySem L2 PyProof.Rows PySem.Spec

local macro_rules | `(tactic| walk_at "rd") => `(tactic| simp only [tSeq, tIfS, tOr, tAnd, tNot, tB, tTest, tChain, tCB, tCons, tNil, tVar, tC, tRet, tAndV, tOrV, tNotV, tOp, tNext, tDrop, tAsg, tPar, tYes, tIf, tCall, tCalK, tTup, tLst, tSl, tNoPart, tPart, tM0, tM1, tRevL, tBM0, tBM, gName, rI0, rI, rU, rInA, rEqA, rAddA, rMulA, rSlAny, iAny, rIsi, rAll, rAny, rSum, rList, rTuple, rLen, rLenS, rLenSeq, rMulS, CDiv, rIn, rEqD, rNeD, iList, iTup, iStr, rCat, rCatA, rSlL, rSlA, rSlS, gSub, rPop, rAppend, rSetL, rIx, rIxL, rIxT, rIxS, LenV,
  L2.start, List.map_cons, List.map_nil, List.length_cons, List.length_nil, List.cons_append, List.nil_append, List.append_nil, Nat.zero_add, Nat.add_sub_cancel, Nat.sub_self, List.replicate_succ, List.replicate_zero, List.getElem?_cons_zero, List.getElem?_cons_succ, List.set_cons_zero, List.set_cons_succ,
  Option.some.injEq, V.int.injEq, V.str.injEq, V.bl.injEq, V.ref.injEq, List.cons.injEq, and_true, true_and, exists_eq_left', exists_eq_left, exists_eq_right, exists_and_left, exists_and_right, false_or, or_false, reduceCtorEq, false_and, and_false, exists_false, Bool.not_true, Bool.not_false, if_true, if_false, Bool.false_eq_true, ite_true, ite_false])
local macro_rules | `(tactic| walk_at "rq") => `(tactic| (walk_at "rd"; (try simp only [rEq_int, rEq_str, rNe_int, tUn, rU, tC, rInT, rInK, rIxK, rExtendT, rSlU, rCatU, rEqE, rIntB, tTupU, tLstU, tDGet2, tDL, tD, tRevT, V.int.injEq, V.str.injEq, V.bl.injEq, V.ref.injEq, exists_eq_left', exists_eq_left, Bool.false_bne, Bool.false_xor, Bool.true_xor]); (try walk_at "rd"); (try (simp only [tTupU, tLstU, tDL, tD]; try walk_at "rd")); (try (simp only [tTupU, tLstU, tDL, tD]; try walk_at "rd"))))
section
variable {P : Program} {w : World} {K : PySem.W.Frag} {mg : Str → Option Value} {base : Heap}
abbrev s_law : Stmt := top 40
theorem sc_law : FnScope ["_law_script", "_law_deck_here", "_law_some", "_law_turn", "_law_twice", "_law_names_here", "_law_relation", "_law_good", "_law_k", "_law_it", "_law_kept_here", "_law_due"] ["_law_script"] (defScope s_law) := ⟨rfl, rfl, rfl, by decide +kernel, rfl, by decide +kernel, by decide +kernel⟩
set_option format.width 500 in
set_option format.indent 0 in
set_option pp.deepTerms true in
set_option pp.maxSteps 200000 in
theorem ok_law (hsys : SysAt base) {f : Addr} {fd : FuncData} (D : Df K mg "law" s_law f fd) (T : Tx K mg) (c__law_draw : Cal P w K mg base "_law_draw" ["_law_deck_here", "_law_many"] 1 spDraw) (c__law_deck : Cal P w K mg base "_law_deck" ["_law_script"] 1 (spDeck K)) (c__law_pick : Cal P w K mg base "_law_pick" ["_law_deck_here", "_law_some"] 2 (spPickL K))
    (c__law_fixed : Cal P w K mg base "_law_fixed" [] 2 spFixed) (c__law_names : Cal P w K mg base "_law_names" ["_law_deck_here", "_law_many"] 2 spNames) (c__law_side : Cal P w K mg base "_law_side" ["_law_deck_here", "_law_names_here", "_law_deep"] 6 (spSide K 3))
    (c__law_odd : Cal P w K mg base "_law_odd" ["_law_deck_here", "_law_it"] 17 (spOdd 16)) (c__law_spoilt : Cal P w K mg base "_law_spoilt" ["_law_deck_here", "_law_test"] 18 spSpoilt) (c__law_is_test : Cal P w K mg base "_law_is_test" ["_law_it"] 125 (spLTest 60))
    (c_is_test : Cal P w K mg base "is_test" ["thing"] 5 spTest) (k_is_test_thing : CalK P w K mg base "is_test" ["thing"] ["thing"] 0 (fun _ us ws => us ++ ws) 5 spTest) : FnG P w K mg base CX0 126 f fd ["_law_script"] (spLaw K) := by
  refine D.fnG sc_law (fun vs H Q E h => ?_) (fun cdv A outer s H vs Q E hgu hr h => ?_)
  · obtain ⟨a, ns, rfl, _⟩ := h
    rfl
  · obtain ⟨a, ns, rfl, ha, hn, q⟩ := h
    refine ⟨_, (pss_cons (ps_set (i := 1) sc_law.nd rfl (by first | exact Or.inl rfl | exact Or.inr rfl) (pe_cal c__law_deck hgu (hr.mono (by omega)) (by rfl) (pa_cons (pv 0) pa_nil))) (pss_cons (ps_set (i := 2) sc_law.nd rfl (by first | exact Or.inl rfl | exact Or.inr rfl) (pe_cal0 c__law_fixed hgu (hr.mono (by omega)) (by rfl))) (pss_cons (ps_for PassesOwn.never rfl (pi_range1 rfl T.range (pa_cons pe_int pa_nil)) (pg_name (i := 3) sc_law.nd rfl (by first | exact Or.inl rfl | exact Or.inr rfl)) (pss_cons (ps_set (i := 4) sc_law.nd rfl (by first | exact Or.inl rfl | exact Or.inr rfl) (pe_cmpR op_eq (pe_cal c__law_draw hgu (hr.mono (by omega)) (by rfl) (pa_cons (pv 1) (pa_cons pe_int pa_nil))) pe_int (by rfl))) (pss_cons (ps_set (i := 5) sc_law.nd rfl (by first | exact Or.inl rfl | exact Or.inr rfl) (pe_cal c__law_names hgu (hr.mono (by omega)) (by rfl) (pa_cons (pv 1) (pa_cons pe_int pa_nil)))) (pss_cons (ps_set (i := 6) sc_law.nd rfl (by first | exact Or.inl rfl | exact Or.inr rfl) (pe_cal c__law_pick hgu (hr.mono (by omega)) (by rfl) (pa_cons (pv 1) (pa_cons (pe_lstU (pa_cons pe_str (pa_cons pe_str (pa_cons pe_str (pa_cons pe_str pa_nil))))) pa_nil)))) (pss_cons (ps_set (i := 7) sc_law.nd rfl (by first | exact Or.inl rfl | exact Or.inr rfl) (pe_tupU (pa_cons (pv 6) (pa_cons (pe_cal c__law_side hgu (hr.mono (by omega)) (by rfl) (pa_cons (pv 1) (pa_cons (pv 5) (pa_cons pe_int pa_nil)))) (pa_cons (pe_cal c__law_side hgu (hr.mono (by omega)) (by rfl) (pa_cons (pv 1) (pa_cons (pv 5) (pa_cons pe_int pa_nil)))) pa_nil))))) (pss_cons (ps_if (pt_cmpR op_isnot_bl (pe_cal c_is_test hgu (hr.mono (by omega)) (by rfl) (pa_cons (pv 7) pa_nil)) pe_bl (by rfl)) (pss_one (ps_ret pe_bl)) pss_nil) (pss_cons (ps_expr (pe_bm PySem.F.plainAttrs_list PySem.F.slot_list_append PySem.F.type_list_append mt_append (pv 2) (pa_cons (pv 7) pa_nil))) (pss_cons (ps_for PassesOwn.never rfl (pi_range1 rfl T.range (pa_cons pe_int pa_nil)) (pg_name (i := 8) sc_law.nd rfl (by first | exact Or.inl rfl | exact Or.inr rfl)) (pss_cons (ps_set (i := 9) sc_law.nd rfl (by first | exact Or.inl rfl | exact Or.inr rfl) (pe_cal c__law_spoilt hgu (hr.mono (by omega)) (by rfl) (pa_cons (pv 1) (pa_cons (pv 7) pa_nil)))) (pss_one (ps_expr (pe_bm PySem.F.plainAttrs_list PySem.F.slot_list_append PySem.F.type_list_append mt_append (pv 2) (pa_cons (pe_ifExp (pt_truth (pv 4) (by intro _; rfl)) (pe_cal c__law_odd hgu (hr.mono (by omega)) (by rfl) (pa_cons (pv 1) (pa_cons (pv 9) pa_nil))) (pv 9)) pa_nil)))))) (pss_one (ps_expr (pe_bm PySem.F.plainAttrs_list PySem.F.slot_list_append PySem.F.type_list_append mt_append (pv 2) (pa_cons (pv 7) pa_nil)))))))))))) (pss_cons (ps_for PassesOwn.never rfl (aWalkL (K := K) rfl (pv 2)) (pg_name (i := 9) sc_law.nd rfl (by first | exact Or.inl rfl | exact Or.inr rfl)) (pss_cons (ps_set (i := 10) sc_law.nd rfl (by first | exact Or.inl rfl | exact Or.inr rfl) (pe_callB (call_reprS hsys hgu hr.units) (by rfl) T.repr (by decide +kernel) (pa_cons (pv 9) pa_nil))) (pss_cons (ps_set (i := 11) sc_law.nd rfl (by first | exact Or.inl rfl | exact Or.inr rfl) (pe_cal c__law_is_test hgu (hr.mono (by omega)) (by rfl) (pa_cons (pv 9) pa_nil))) (pss_one (ps_if (PW.pt (pw_or (pt_cmpR op_ne (pe_callB (call_reprS hsys hgu hr.units) (by rfl) T.repr (by decide +kernel) (pa_cons (pe_lstU (pa_cons (pe_cal c_is_test hgu (hr.mono (by omega)) (by rfl) (pa_cons (pv 9) pa_nil)) (pa_cons (pe_calK0 k_is_test_thing hgu (hr.mono (by omega)) (by rfl) (pk_cons (pv 9) pk_nil)) pa_nil))) pa_nil)) (pe_callB (call_reprS hsys hgu hr.units) (by rfl) T.repr (by decide +kernel) (pa_cons (pe_lstU (pa_cons (pv 11) (pa_cons (pv 11) pa_nil))) pa_nil)) (by rfl)) (pw_or1 (pt_cmpR op_ne (pe_callB (call_reprS hsys hgu hr.units) (by rfl) T.repr (by decide +kernel) (pa_cons (pv 9) pa_nil)) (pv 10) (by rfl))))) (pss_one (ps_ret pe_bl)) pss_nil))))) (pss_one (ps_ret pe_bl)))))), ?_⟩
    refine seq_cut fun u hu => ?_
    walk_at "rq"
    refine ⟨a, ns, rfl, ha, hn, fun d c H1 s1 fd1 fc1 k1 => ?_⟩
    clear ha
    subst hu
    refine seq_cut fun u hu => ?_
    walk_at "rq"
    have pt1 : Pt d c H1 noHp := ⟨k1, noHp_sub _, rfl, rfl⟩
    refine ⟨rfl, fun p xs H2 H3 G2 gr hxs np s3 e3 => ?_⟩
    have b : Bag d c p 100 H3 G2 := by
      have g2 := pt1.grow gr
      have g3 := g2.trans (g2.to.same s3)
      have n2 := g2.to.deck.fresh np
      exact ⟨g3.to, g2.to.sub.free np, n2.1, n2.2, xs, fixedD, e3, hxs, fun y hy => (fixed_good y hy).mono (by decide) (by decide) (Nat.le_refl _), by decide +kernel⟩
    clear e3 s3 np hxs gr pt1
    clear k1 fd1 fc1 s1 H2 H1
    show u _ _ _
    subst hu
    refine seq_cut fun u hu => ?_
    refine ⟨6, rfl, by decide, by decide, for_steps (steps_range 0 6) (fun i σ Hc => ∃ (v3 v4 v5 v6 v7 v8 v9 : Option V) (Gc : Hp), σ = [some (.ref a), some (.ref d), some (.ref p), v3, v4, v5, v6, v7, v8, v9, none, none] ∧ Bag d c p (100 + 12 * i) Hc Gc) ⟨none, none, none, none, none, none, none, G2, rfl, b⟩ (fun _ _ _ _ _ => trivial) ?_ ?_⟩
    · rintro i x σ H4 hx ⟨v3, v4, v5, v6, v7, v8, v9, G4, rfl, b4⟩
      obtain ⟨hi, rfl⟩ := wholes_at hx
      clear b
      refine seq_cut fun u' hu' => ?_
      walk_at "rq"
      refine ⟨d, c, 2, rfl, b4.pt.deck, by decide, by decide, fun r H5 r0 r1 hd5 sv5 => ?_⟩
      show rEq (.int r) (.int 1) H5 _
      rw [rEq_int]
      have b5 := b4.more (b4.pt.keep sv5 hd5)
      generalize decide (r = 1) = tw
      clear sv5 hd5 r0 r1 r b4 H4
      show u' _ _ _
      subst hu'
      refine seq_cut fun u' hu' => ?_
      walk_at "rq"
      refine ⟨d, c, 2, rfl, b5.pt.deck, by decide, fun l pn H6 hl nd good hd6 sv6 np6 e6 => ?_⟩
      have nn := hd6.has
      have npd : pn ≠ d := fun z => b5.pt.deck.has.1 (z ▸ np6)
      have npc : pn ≠ c := fun z => b5.pt.deck.has.2 (z ▸ np6)
      have g6 := (b5.pt.keep sv6 hd6).inc np6 (b5.pt.sub.free np6) e6 npd npc
      have b6 := b5.more g6
      have en : (upd G4 pn (.lst (l.map V.str))) pn = some (.lst (l.map V.str)) := upd_same
      generalize upd G4 pn (.lst (l.map V.str)) = G6 at b6 en g6
      clear nn g6 e6 np6 sv6 hd6 b5 G4 H5 nd npd npc
      subst hu'
      refine seq_cut fun u' hu' => ?_
      walk_at "rq"
      refine ⟨line_le' (by decide), fun pl H7 s7 n7 e7 => ⟨d, c, pl, upd G6 pl (.lst (testL.map V.str)), testL.map V.str, rfl, (b6.pt.at_ s7 n7 e7).to, .of upd_same, by decide, by decide, fun x H8 hx g8 => ?_⟩⟩
      obtain ⟨rel, hrel, rfl⟩ := List.mem_map.mp hx
      have ga := b6.pt.at_ s7 n7 e7
      have b8 := b6.more (ga.trans g8)
      have en8 := ga.part _ _ en
      obtain ⟨G8, b8, en8⟩ : ∃ G8, Bag d c p (100 + 12 * i) H8 G8 ∧ G8 pn = some (.lst (l.map V.str)) := ⟨_, b8, en8⟩
      clear ga g8 hx e7 n7 s7 en b6
      have lne : l ≠ [] := fun z => by rw [z] at hl; cases hl
      show u' _ _ _
      subst hu'
      refine seq_cut fun u' hu' => ?_
      walk_at "rq"
      refine ⟨d, c, pn, G8, l, 4, rfl, b8.pt, .of en8, lne, by omega, good, by decide, fun x1 d1 H9 G9 g9 hx1 k1 t1 p1 => ⟨d, c, pn, G9, l, 3, rfl, g9.to, .of (g9.part _ _ en8), lne, by omega, good, by decide, fun x2 d2 H10 G10 g10 hx2 k2 t2 p2 => ⟨line_le' (by decide), fun pg H11 s11 n11 e11 => ?_⟩⟩⟩
      have gg := g10.to.at_ s11 n11 e11
      have b11 := ((b8.more g9).more g10).more gg
      have k1 : Gd 99 7770 7 d1 := k1.mono (Nat.le_refl _) (by decide) (by decide)
      have k2 : Gd 99 7770 7 d2 := k2.mono (Nat.le_refl _) (by decide) (by decide)
      obtain ⟨G11, b11, hx⟩ : ∃ G11, Bag d c p (100 + 12 * i) H11 G11 ∧ Dv G11 (.ref pg) (.tuple [.str rel, d1, d2]) :=
        ⟨_, b11, .tup upd_same (.cons (.str rel) (.cons ((hx1.same g10.part).same gg.part) (.cons (hx2.same gg.part) .nil)))⟩
      have hw8 := gd_word (B := 99) (z := rel) ((show ∀ z ∈ testL, z ∈ (["look", "x", "froze", "sum", "u", "times", "twice", "s", "choice", "same", "unlike", "below", "under"] : List Str) by decide +kernel) rel hrel)
      have hg : Gd 99 16000 8 (.tuple [.str rel, d1, d2]) := by
        refine (gd_tup (B := 99) (W := 15990) (D := 7) (fun y hy => ?_) ?_).mono (Nat.le_refl _) (by decide) (by decide)
        · simp only [List.mem_cons, List.not_mem_nil, or_false] at hy
          rcases hy with rfl | rfl | rfl
          · exact ⟨hw8.1, by omega⟩
          · exact ⟨k1.ok, k1.depth⟩
          · exact ⟨k2.ok, k2.depth⟩
        · have w8 := hw8.2.1
          have w5 := k1.wt
          have w6 := k2.wt
          simp only [wtL]
          omega
      have ht : testD (.tuple [.str rel, d1, d2]) = true := by
        rw [test_eq, p1, p2, show relD testL (.tuple [.str rel, d1, d2]) = (decide (rel ∈ testL) && (isTD d1 && isTD d2)) from rfl, decide_eq_true hrel, t1, t2]
        rfl
      generalize hdd : PyData.tuple [.str rel, d1, d2] = dd at hx hg ht
      generalize V.ref pg = x at hx ⊢
      subst hu'
      refine seq_cut fun u' hu' => ?_
      walk_at "rq"
      obtain ⟨w1, w2, w3, w4, w5⟩ := hg.shows (by decide) (by decide) (by decide)
      refine ⟨x, dd, rfl, hx.off b11.pt, w1, w2, fun H12 s12 => ?_⟩
      refine ⟨_, rfl, iteN (by rw [ht]; rfl) ?_⟩
      have b12 := b11.more (b11.pt.same s12)
      clear s12 b11 w1 w2 w3 w4 w5
      subst hu'
      refine seq_cut fun u' hu' => ?_
      walk_at "rq"
      obtain ⟨xs, ds, exs, -⟩ := id b12.has
      have hg2 : Gd (10 ^ 41) 250000 60 dd := hg.mono (by decide) (by decide) (by decide)
      have lxs : ∀ {n : Nat} {H G : Hp} {xs : List V}, Bag d c p n H G → H p = some (.lst xs) → n ≤ 1000 → xs.length < sizeLine := by
        intro n H G xs b e hn
        obtain ⟨xs', ds, e', h1, h2, h3⟩ := b.has
        rw [e] at e'
        cases e'
        have := sizeLine_eq
        have := h1.len
        omega
      refine ⟨.inl ⟨rfl, _, .of exs⟩, xs, exs, lxs b12 exs (by omega), ?_⟩
      have b13 := b12.add exs hx hg2
      clear b12
      show u' _ _ _
      subst hu'
      refine seq_cut fun u' hu' => ?_
      refine ⟨10, rfl, by decide, by decide, for_steps (steps_range 0 10) (fun j σ Hc => ∃ (v8 v9 : Option V) (Gc : Hp), σ = [some (.ref a), some (.ref d), some (.ref p), some (V.int (0 + ↑i)), some (V.bl tw), some (V.ref pn), some (.str rel), some x, v8, v9, none, none] ∧ Bag d c p (100 + 12 * i + 1 + j) Hc Gc ∧ Dv Gc x dd) ⟨v8, v9, _, rfl, b13, hx⟩ (fun _ _ _ _ _ => trivial) ?_ ?_⟩
      · rintro j y σ H13 hy ⟨v8, v9, G13, rfl, b14, hx14⟩
        obtain ⟨hj, rfl⟩ := wholes_at hy
        walk_at "rq"
        have hp14 : ∃ xs, H13 p = some (.lst xs) := by
          obtain ⟨xs, ds, e, -⟩ := b14.has
          exact ⟨xs, e⟩
        refine ⟨d, c, x, G13, rel, d1, d2, rfl, b14.pt, hdd ▸ hx14, hrel, k1, k2, fun x1 e1 H14 G14 g14 hx1 hg1 => ?_⟩
        have b15 := b14.more g14
        obtain ⟨xs, ds, e15, -⟩ := id b15.has
        refine ⟨.inl ⟨rfl, _, .of e15⟩, tw, rfl, ?_⟩
        cases tw with
        | true =>
          refine iteY rfl ⟨d, c, x1, G14, e1, _, _, _, rfl, b15.pt, hx1, hg1, by decide, by decide, by have := hg1.depth; omega, fun x2 d2 H15 G15 g15 hx2 hg2' => ?_⟩
          have b16 := b15.more g15
          obtain ⟨xs2, ds2, e16, -⟩ := id b16.has
          exact ⟨xs2, e16, lxs b16 e16 (by omega), ⟨_, rfl⟩, G15, b16.add e16 hx2 (hg2'.mono (by decide) (by decide) (by decide)), (hx14.same g14.part).same g15.part⟩
        | false =>
          exact iteN rfl ⟨xs, e15, lxs b15 e15 (by omega), ⟨_, rfl⟩, G14, b15.add e15 hx1 (hg1.mono (by decide) (by decide) (by decide)), hx14.same g14.part⟩
      · rintro σ H13 ⟨v8, v9, G13, rfl, b14, hx14⟩
        rw [wholes_len] at b14
        show u' _ _ _
        subst hu'
        walk_at "rq"
        obtain ⟨xs, ds, exs, -⟩ := id b14.has
        refine ⟨.inl ⟨rfl, _, .of exs⟩, xs, exs, lxs b14 exs (by omega), ?_⟩
        have bz := b14.add exs hx14 hg2
        rw [show 100 + 12 * i + 1 + 10 + 1 = 100 + 12 * (i + 1) by omega] at bz
        exact ⟨⟨_, rfl⟩, _, bz⟩
    · rintro σ H4 ⟨v3, v4, v5, v6, v7, v8, v9, G4, rfl, b4⟩
      rw [wholes_len] at b4
      show u _ _ _
      subst hu
      refine seq_cut fun u hu => ?_
      obtain ⟨xs, ds, exs, hxs, hgs, -⟩ := b4.has
      have hxs := hxs.same b4.pt.sub
      refine ⟨_, rfl, p, rfl, ⟨_, .of exs⟩, for_steps (steps_list K p xs) (fun i σ Hc => ∃ v9 v10 v11 : Option V, σ = [some (.ref a), some (.ref d), some (.ref p), v3, v4, v5, v6, v7, v8, v9, v10, v11] ∧ Same H4 Hc) ⟨_, _, _, rfl, Same.refl H4⟩ (fun i σ Hc _ ⟨_, _, _, _, sm⟩ => .of (sm _ _ exs)) ?_ ?_⟩
      · rintro i x σ H5 hx5 ⟨v9, v10, v11, rfl, sm⟩
        obtain ⟨dx, hdx, h1⟩ := dv_at hxs hx5
        have h1 := h1.same sm
        have hg := hgs dx (List.mem_of_getElem? hdx)
        obtain ⟨w1, w2, w3, w4, w5⟩ := hg.shows (by decide) (by decide) (by decide)
        walk_at "rq"
        refine ⟨x, dx, rfl, h1, w3, w4, w5, x, dx, rfl, h1, w1, w4, fun Ha sa => ⟨x, dx, rfl, h1.same sa, w1, w2, fun Hb sb => ⟨x, dx, rfl, (h1.same sa).same sb, w1, w2, fun Hc sc => ⟨line_le' (by decide), fun p1 Hd sd nd ed => ?_⟩⟩⟩⟩
        refine ⟨.ref p1, .list [.bool (testD dx), .bool (testD dx)], rfl, .lst ed (.cons (.bl _) (.cons (.bl _) .nil)), rfl, two_deep _, line_le' (two_shown _), line_le' (by decide), fun p2 He se ne ee => ?_⟩
        refine ⟨.ref p2, .list [.bool (testD dx), .bool (testD dx)], rfl, .lst ee (.cons (.bl _) (.cons (.bl _) .nil)), rfl, two_deep _, line_le' (two_shown _), ne_self ⟨false, rfl, iteN rfl ?_⟩⟩
        have s5 := ((((sa.trans sb).trans sc).trans sd).trans se)
        exact ⟨x, dx, rfl, h1.same s5, w3, w4, w5, ne_self ⟨false, rfl, iteN rfl ⟨⟨_, rfl⟩, sm.trans s5⟩⟩⟩
      · rintro σ H5 ⟨v9, v10, v11, rfl, sm⟩
        show u _ _ _
        subst hu
        walk_at "rd"
        exact q H5
end
end Vf
namespace Vf
open PySem L2 PyProof.Rows PySem.Spec
/-- a def as the top has left it -/
def DefAt (K : PySem.W.Frag) (x : Str) (st : Stmt) : Prop := ∃ (f : Addr) (oc : Value) (od : Option Addr) (kV doc pm : Value) (an : Option Addr) (cdv ct : Value) (osl : Array (Option Value)),
  PySem.W.nsIn K mainGlobals x = some (some (.ref f)) ∧ K.lookup f = some ⟨oc, od, .func (PySem.W.fnOf x x (defArgs st) (defBody st) (defScope st) .none kV doc pm an cdv ct), osl⟩ ∧ PySem.W.codeIn K cdv x = true ∧ PySem.W.keepIn K (.ref f) = true
theorem DefAt.mk {K : PySem.W.Frag} {x : Str} {st : Stmt} {f : Addr} {oc : Value} {od : Option Addr} {kV doc pm : Value} {an : Option Addr} {cdv ct : Value} {osl : Array (Option Value)}
    (a : PySem.W.nsIn K mainGlobals x = some (some (.ref f))) (l : K.lookup f = some ⟨oc, od, .func (PySem.W.fnOf x x (defArgs st) (defBody st) (defScope st) .none kV doc pm an cdv ct), osl⟩) (c : PySem.W.codeIn K cdv x = true) (k : PySem.W.keepIn K (.ref f) = true) : DefAt K x st :=
  ⟨f, oc, od, kV, doc, pm, an, cdv, ct, osl, a, l, c, k⟩
theorem DefAt.df {K : PySem.W.Frag} {x : Str} {st : Stmt} {h : Heap} {mg : Str → Option Value} (X : K.In h) (G : h.Ns mainGlobals mg) (A : DefAt K x st) : ∃ f kV doc pm an cdv ct, Df K mg x st f (PySem.W.fnOf x x (defArgs st) (defBody st) (defScope st) .none kV doc pm an cdv ct) := by
  obtain ⟨f, oc, od, kV, doc, pm, an, cdv, ct, osl, a, l, c, k⟩ := A
  exact ⟨f, kV, doc, pm, an, cdv, ct, fun_mk l c k, PySem.W.mg_of X G a⟩
/-- a tuple of texts as the top has left it -/
def TupAt (K : PySem.W.Frag) (x : Str) (l : List Str) : Prop := ∃ (a : Addr) (o : Obj) (its : Array Value) (n : Nat), PySem.W.nsIn K mainGlobals x = some (some (.ref a)) ∧ K.lookup a = some o ∧ o.cls = .type "tuple" ∧ o.data = .seq its n ∧ its.size ≤ 1000 ∧ Vals (l.map V.str) its.toList
/-- a text as the top has left it -/
def TextAt (K : PySem.W.Frag) (x z : Str) : Prop := ∃ z' t, PySem.W.nsIn K mainGlobals x = some (some (.str z' t)) ∧ z' = z
theorem TextAt.mk {K : PySem.W.Frag} {x z z' : Str} {t : Tok} (h : PySem.W.nsIn K mainGlobals x = some (some (.str z' t))) (e : z' = z) : TextAt K x z := ⟨z', t, h, e⟩
theorem TupAt.mk {K : PySem.W.Frag} {x : Str} {l : List Str} {a : Addr} {od : Option Addr} {its : Array Value} {n : Nat} {sl : Array (Option Value)} (h1 : PySem.W.nsIn K mainGlobals x = some (some (.ref a))) (h2 : K.lookup a = some ⟨.type "tuple", od, .seq its n, sl⟩)
    (h3 : its.size ≤ 1000) (h4 : Vals (l.map V.str) its.toList) : TupAt K x l := ⟨a, ⟨.type "tuple", od, .seq its n, sl⟩, its, n, h1, h2, rfl, rfl, h3, h4⟩
/-- a dict of texts and numbers as the top has left it -/
def EntsAre : List DictEntry → List (Str × Int) → Prop
  | [], [] => True
  | e :: es, (x, i) :: l => ((∃ t, e.key = .str x t) ∧ ∃ t, e.val = .int i t) ∧ EntsAre es l
  | _, _ => False
theorem ents_none : ∀ {es : List DictEntry} {l : List (Str × Int)}, EntsAre es l → es.any (·.refKey) = false
  | [], [], _ => rfl
  | e :: es, (x, i) :: l, h => by
    obtain ⟨⟨⟨t, ek⟩, _⟩, h⟩ := h
    rw [List.any_cons, ents_none h, Bool.or_false]
    unfold DictEntry.refKey
    rw [ek]
theorem ents_find : ∀ {es : List DictEntry} {l : List (Str × Int)}, EntsAre es l → ∀ z : Str, RelO (((l.find? fun p => p.1 == z).map (·.2)).map V.int) ((es.find? (·.key.isStr z)).map (·.val))
  | [], [], _, z => trivial
  | e :: es, (x, i) :: l, h, z => by
    obtain ⟨⟨⟨t, ek⟩, ⟨t', ev⟩⟩, h⟩ := h
    have hb : e.key.isStr z = (x == z) := by
      rw [ek]
      rfl
    rw [List.find?_cons, List.find?_cons, hb]
    cases hx : x == z with
    | true => exact ⟨t', ev⟩
    | false => exact ents_find h z
def CntAt (K : PySem.W.Frag) (w : World) (x : Str) (l : List (Str × Int)) : Prop := ∃ (d : Addr) (es : Array DictEntry) (n : Nat), PySem.W.nsIn K mainGlobals x = some (some (.ref d)) ∧ KDict K w d es n ∧ EntsAre es.toList l
theorem CntAt.mk {K : PySem.W.Frag} {w : World} {x : Str} {l : List (Str × Int)} {d : Addr} {es : Array DictEntry} {n : Nat} (h1 : PySem.W.nsIn K mainGlobals x = some (some (.ref d))) (h2 : K.lookup d = some ⟨.type "dict", none, .dict es n, #[]⟩)
    (h3 : PySem.W.KeysLit w.params es.toList) (h4 : (d == sysModules) = false) (h5 : EntsAre es.toList l) : CntAt K w x l := ⟨d, es, n, h1, ⟨h2, h3, h4⟩, h5⟩
theorem CntAt.cnt {K : PySem.W.Frag} {w : World} {x : Str} {l : List (Str × Int)} (h : CntAt K w x l) : ∃ d, PySem.W.nsIn K mainGlobals x = some (some (.ref d)) ∧ Cnt K w d fun z => (l.find? fun p => p.1 == z).map (·.2) := by
  obtain ⟨d, es, n, h1, h2, h3⟩ := h
  refine ⟨d, h1, ⟨es, n, h2⟩, fun z => ⟨(es.toList.find? (·.key.isStr z)).map (·.val), ?_, ents_find h3 z⟩⟩
  unfold PySem.W.nsIn
  rw [h2.at_]
  show (match es.toList.find? (·.key.isStr z) with | some e => some (some e.val) | none => if es.toList.any (·.refKey) = true then none else some none) = _
  cases es.toList.find? (·.key.isStr z) with
  | some e => rfl
  | none =>
    show (if es.toList.any (·.refKey) = true then none else some none) = _
    rw [ents_none h3]
    rfl
theorem Cal.up {P : Program} {w : World} {K : PySem.W.Frag} {mg : Str → Option Value} {base : Heap} {x : Str} {ps : List Str} {k k' : Nat} {sp : Sp} (c : Cal P w K mg base x ps k sp) (h : k ≤ k') : Cal P w K mg base x ps k' sp := by
  obtain ⟨f, fd, F, a, b, d⟩ := c.ex
  exact ⟨f, fd, ⟨F.many, fun A outer s H args us vs Q E hg hr => F.go A outer s H args us vs Q E hg (hr.mono h)⟩, a, b, d⟩
theorem all_mk {l : PySem.W.OpenLaw} {w : World} {K : PySem.W.Frag} {h : Heap} {mg : Str → Option Value} {fa : Addr} (X : K.In h) (G : h.Ns mainGlobals mg) (hfa : mg "law" = some (.ref fa))
    (d_is_whole : DefAt K "is_whole" s_is_whole) (d_is_name : DefAt K "is_name" s_is_name) (d_is_term : DefAt K "is_term" s_is_term) (d_has_shape : DefAt K "has_shape" s_has_shape) (d_is_leaf_word : DefAt K "is_leaf_word" s_is_leaf_word) (d_is_triple : DefAt K "is_triple" s_is_triple) (d_parts_of : DefAt K "parts_of" s_parts_of) (d_things_of : DefAt K "things_of" s_things_of) (d_is_test : DefAt K "is_test" s_is_test) (d_is_plain : DefAt K "is_plain" s_is_plain) (d_is_plain_thing : DefAt K "is_plain_thing" s_is_plain_thing) (d_law_deck : DefAt K "_law_deck" s__law_deck) (d_law_draw : DefAt K "_law_draw" s__law_draw) (d_law_pick : DefAt K "_law_pick" s__law_pick) (d_law_parts : DefAt K "_law_parts" s__law_parts) (d_law_names : DefAt K "_law_names" s__law_names) (d_law_num : DefAt K "_law_num" s__law_num) (d_law_kept : DefAt K "_law_kept" s__law_kept) (d_law_is_name : DefAt K "_law_is_name" s__law_is_name) (d_law_is_related : DefAt K "_law_is_related" s__law_is_related) (d_law_is_num : DefAt K "_law_is_num" s__law_is_num) (d_law_is_term : DefAt K "_law_is_term" s__law_is_term) (d_law_odd : DefAt K "_law_odd" s__law_odd) (d_law_is_plain : DefAt K "_law_is_plain" s__law_is_plain) (d_law_is_test : DefAt K "_law_is_test" s__law_is_test) (d_law_side : DefAt K "_law_side" s__law_side) (d_law_spoilt : DefAt K "_law_spoilt" s__law_spoilt) (d_law_fixed : DefAt K "_law_fixed" s__law_fixed) (d_law : DefAt K "law" s_law) (t_KEPT : TupAt K "KEPT" kept) (t_LEAVES : TupAt K "LEAVES" leavesL) (t_FLAGGED : TupAt K "FLAGGED" flaggedL) (t_FLAGS : TupAt K "FLAGS" flagsL) (t_COMPARISONS : TupAt K "COMPARISONS" compL) (t_TEST_COMPARISONS : TupAt K "TEST_COMPARISONS" testL) (t_TEST_HEADS : TupAt K "TEST_HEADS" headsL) (t_LETTERS : TextAt K "LETTERS" "abcdefghijklmnopqrstuvwxyz") (t_CNT : CntAt K w "PART_COUNTS" cntL) (z0 : PySem.W.nsIn K mainGlobals "isinstance" = some none) (z1 : PySem.W.nsIn K mainGlobals "str" = some none) (z2 : PySem.W.nsIn K mainGlobals "int" = some none) (z3 : PySem.W.nsIn K mainGlobals "bool" = some none) (z4 : PySem.W.nsIn K mainGlobals "tuple" = some none) (z5 : PySem.W.nsIn K mainGlobals "len" = some none) (z6 : PySem.W.nsIn K mainGlobals "all" = some none) (z7 : PySem.W.nsIn K mainGlobals "sum" = some none) (z8 : PySem.W.nsIn K mainGlobals "list" = some none) (z9 : PySem.W.nsIn K mainGlobals "range" = some none) (z10 : PySem.W.nsIn K mainGlobals "repr" = some none) :
    ∃ fd : FuncData, (∀ (s : Shared) (v : Value), BindsTo s fd ⟨[v], []⟩ [("_law_script", v)]) ∧ ∀ base : Heap, K.In base → base.Ns mainGlobals mg → SysAt base → FnG l.prog w K mg base CX0 126 fa fd ["_law_script"] (spLaw K) := by
  have T : Tx K mg := ⟨PySem.W.mg_none_of X G z0, PySem.W.mg_none_of X G z1, PySem.W.mg_none_of X G z2, PySem.W.mg_none_of X G z3, PySem.W.mg_none_of X G z4, PySem.W.mg_none_of X G z5, PySem.W.mg_none_of X G z6, PySem.W.mg_none_of X G z7, PySem.W.mg_none_of X G z8, PySem.W.mg_none_of X G z9, PySem.W.mg_none_of X G z10⟩
  obtain ⟨f_is_whole, _, _, _, _, _, _, D_is_whole⟩ := d_is_whole.df X G
  obtain ⟨f_is_name, _, _, _, _, _, _, D_is_name⟩ := d_is_name.df X G
  obtain ⟨f_is_term, _, _, _, _, _, _, D_is_term⟩ := d_is_term.df X G
  obtain ⟨f_has_shape, _, _, _, _, _, _, D_has_shape⟩ := d_has_shape.df X G
  obtain ⟨f_is_leaf_word, _, _, _, _, _, _, D_is_leaf_word⟩ := d_is_leaf_word.df X G
  obtain ⟨f_is_triple, _, _, _, _, _, _, D_is_triple⟩ := d_is_triple.df X G
  obtain ⟨f_parts_of, _, _, _, _, _, _, D_parts_of⟩ := d_parts_of.df X G
  obtain ⟨f_things_of, _, _, _, _, _, _, D_things_of⟩ := d_things_of.df X G
  obtain ⟨f_is_test, _, _, _, _, _, _, D_is_test⟩ := d_is_test.df X G
  obtain ⟨f_is_plain, _, _, _, _, _, _, D_is_plain⟩ := d_is_plain.df X G
  obtain ⟨f_is_plain_thing, _, _, _, _, _, _, D_is_plain_thing⟩ := d_is_plain_thing.df X G
  obtain ⟨f_law_deck, _, _, _, _, _, _, D_law_deck⟩ := d_law_deck.df X G
  obtain ⟨f_law_draw, _, _, _, _, _, _, D_law_draw⟩ := d_law_draw.df X G
  obtain ⟨f_law_pick, _, _, _, _, _, _, D_law_pick⟩ := d_law_pick.df X G
  obtain ⟨f_law_parts, _, _, _, _, _, _, D_law_parts⟩ := d_law_parts.df X G
  obtain ⟨f_law_names, _, _, _, _, _, _, D_law_names⟩ := d_law_names.df X G
  obtain ⟨f_law_num, _, _, _, _, _, _, D_law_num⟩ := d_law_num.df X G
  obtain ⟨f_law_kept, _, _, _, _, _, _, D_law_kept⟩ := d_law_kept.df X G
  obtain ⟨f_law_is_name, _, _, _, _, _, _, D_law_is_name⟩ := d_law_is_name.df X G
  obtain ⟨f_law_is_related, _, _, _, _, _, _, D_law_is_related⟩ := d_law_is_related.df X G
  obtain ⟨f_law_is_num, _, _, _, _, _, _, D_law_is_num⟩ := d_law_is_num.df X G
  obtain ⟨f_law_is_term, _, _, _, _, _, _, D_law_is_term⟩ := d_law_is_term.df X G
  obtain ⟨f_law_odd, _, _, _, _, _, _, D_law_odd⟩ := d_law_odd.df X G
  obtain ⟨f_law_is_plain, _, _, _, _, _, _, D_law_is_plain⟩ := d_law_is_plain.df X G
  obtain ⟨f_law_is_test, _, _, _, _, _, _, D_law_is_test⟩ := d_law_is_test.df X G
  obtain ⟨f_law_side, _, _, _, _, _, _, D_law_side⟩ := d_law_side.df X G
  obtain ⟨f_law_spoilt, _, _, _, _, _, _, D_law_spoilt⟩ := d_law_spoilt.df X G
  obtain ⟨f_law_fixed, _, _, _, _, _, _, D_law_fixed⟩ := d_law_fixed.df X G
  obtain ⟨f_law, kV9, doc9, pm9, an9, cd9, ct9, D_law⟩ := d_law.df X G
  obtain ⟨aKEPT, oKEPT, itsKEPT, nKEPT, k1KEPT, k2KEPT, k3KEPT, k4KEPT, k5KEPT, k6KEPT⟩ := t_KEPT
  obtain ⟨aLEAVES, oLEAVES, itsLEAVES, nLEAVES, k1LEAVES, k2LEAVES, k3LEAVES, k4LEAVES, k5LEAVES, k6LEAVES⟩ := t_LEAVES
  obtain ⟨aFLAGGED, oFLAGGED, itsFLAGGED, nFLAGGED, k1FLAGGED, k2FLAGGED, k3FLAGGED, k4FLAGGED, k5FLAGGED, k6FLAGGED⟩ := t_FLAGGED
  obtain ⟨aFLAGS, oFLAGS, itsFLAGS, nFLAGS, k1FLAGS, k2FLAGS, k3FLAGS, k4FLAGS, k5FLAGS, k6FLAGS⟩ := t_FLAGS
  obtain ⟨aCOMPARISONS, oCOMPARISONS, itsCOMPARISONS, nCOMPARISONS, k1COMPARISONS, k2COMPARISONS, k3COMPARISONS, k4COMPARISONS, k5COMPARISONS, k6COMPARISONS⟩ := t_COMPARISONS
  obtain ⟨aTEST_COMPARISONS, oTEST_COMPARISONS, itsTEST_COMPARISONS, nTEST_COMPARISONS, k1TEST_COMPARISONS, k2TEST_COMPARISONS, k3TEST_COMPARISONS, k4TEST_COMPARISONS, k5TEST_COMPARISONS, k6TEST_COMPARISONS⟩ := t_TEST_COMPARISONS
  obtain ⟨aTEST_HEADS, oTEST_HEADS, itsTEST_HEADS, nTEST_HEADS, k1TEST_HEADS, k2TEST_HEADS, k3TEST_HEADS, k4TEST_HEADS, k5TEST_HEADS, k6TEST_HEADS⟩ := t_TEST_HEADS
  obtain ⟨zL, tL, l1, rfl⟩ := t_LETTERS
  obtain ⟨aCNT, c1, cPART_COUNTS⟩ := t_CNT.cnt
  obtain rfl : f_law = fa := by
    have e := hfa.symm.trans D_law.gl
    cases e
    rfl
  refine ⟨PySem.W.fnOf "law" "law" (defArgs s_law) (defBody s_law) (defScope s_law) .none kV9 doc9 pm9 an9 cd9 ct9, fun s v => .of_eq rfl, fun base _ _ hsys => ?_⟩
  have tKEPT : ∀ H, SqT K H aKEPT (kept.map V.str) := fun H => .inr ⟨oKEPT, itsKEPT, nKEPT, k2KEPT, k3KEPT, k4KEPT, Nat.le_trans k5KEPT (line_le (by decide)), k6KEPT⟩
  have mKEPT := PySem.W.mg_of X G k1KEPT
  have tLEAVES : ∀ H, SqT K H aLEAVES (leavesL.map V.str) := fun H => .inr ⟨oLEAVES, itsLEAVES, nLEAVES, k2LEAVES, k3LEAVES, k4LEAVES, Nat.le_trans k5LEAVES (line_le (by decide)), k6LEAVES⟩
  have mLEAVES := PySem.W.mg_of X G k1LEAVES
  have tFLAGGED : ∀ H, SqT K H aFLAGGED (flaggedL.map V.str) := fun H => .inr ⟨oFLAGGED, itsFLAGGED, nFLAGGED, k2FLAGGED, k3FLAGGED, k4FLAGGED, Nat.le_trans k5FLAGGED (line_le (by decide)), k6FLAGGED⟩
  have mFLAGGED := PySem.W.mg_of X G k1FLAGGED
  have tFLAGS : ∀ H, SqT K H aFLAGS (flagsL.map V.str) := fun H => .inr ⟨oFLAGS, itsFLAGS, nFLAGS, k2FLAGS, k3FLAGS, k4FLAGS, Nat.le_trans k5FLAGS (line_le (by decide)), k6FLAGS⟩
  have mFLAGS := PySem.W.mg_of X G k1FLAGS
  have tCOMPARISONS : ∀ H, SqT K H aCOMPARISONS (compL.map V.str) := fun H => .inr ⟨oCOMPARISONS, itsCOMPARISONS, nCOMPARISONS, k2COMPARISONS, k3COMPARISONS, k4COMPARISONS, Nat.le_trans k5COMPARISONS (line_le (by decide)), k6COMPARISONS⟩
  have mCOMPARISONS := PySem.W.mg_of X G k1COMPARISONS
  have tTEST_COMPARISONS : ∀ H, SqT K H aTEST_COMPARISONS (testL.map V.str) := fun H => .inr ⟨oTEST_COMPARISONS, itsTEST_COMPARISONS, nTEST_COMPARISONS, k2TEST_COMPARISONS, k3TEST_COMPARISONS, k4TEST_COMPARISONS, Nat.le_trans k5TEST_COMPARISONS (line_le (by decide)), k6TEST_COMPARISONS⟩
  have mTEST_COMPARISONS := PySem.W.mg_of X G k1TEST_COMPARISONS
  have tTEST_HEADS : ∀ H, SqT K H aTEST_HEADS (headsL.map V.str) := fun H => .inr ⟨oTEST_HEADS, itsTEST_HEADS, nTEST_HEADS, k2TEST_HEADS, k3TEST_HEADS, k4TEST_HEADS, Nat.le_trans k5TEST_HEADS (line_le (by decide)), k6TEST_HEADS⟩
  have mTEST_HEADS := PySem.W.mg_of X G k1TEST_HEADS
  have draw := ok__law_draw (P := l.prog) (w := w) (base := base) D_law_draw T
  have keptc := ok__law_kept (P := l.prog) (w := w) (base := base) D_law_kept T
  have lname := ok__law_is_name D_law_is_name T keptc
  have pick := ok__law_pickL D_law_pick T draw
  have isnF := fn_is_name (P := l.prog) (w := w) (base := base) D_is_name T mKEPT tKEPT (PySem.W.mg_of X G l1)
  have isn : Cal l.prog w K mg base "is_name" ["thing"] 1 (spIsName K) := ⟨f_is_name, _, isnF, D_is_name.gl, D_is_name.fn.kp, D_is_name.fn.binds fun _ _ _ _ _ _ us hl => match us, hl with | [_], _ => rfl⟩
  have whole := ok_is_whole (P := l.prog) (w := w) (base := base) D_is_whole T
  have leafw := ok_is_leaf_word D_is_leaf_word T whole isn
  have triple := ok_is_triple (P := l.prog) (w := w) (base := base) D_is_triple T
  have partsc := ok_parts_of (P := l.prog) (w := w) (base := base) D_parts_of T mLEAVES tLEAVES mFLAGGED tFLAGGED
  have shapec := ok_has_shape (P := l.prog) (w := w) (base := base) D_has_shape T mLEAVES tLEAVES mFLAGGED tFLAGGED mFLAGS tFLAGS mCOMPARISONS tCOMPARISONS (PySem.W.mg_of X G c1) cPART_COUNTS leafw triple
  have istF := fn_is_term (P := l.prog) (w := w) (base := base) D_is_term T shapec partsc
  have ist : Cal l.prog w K mg base "is_term" ["thing"] 4 (spIsTerm K) := ⟨f_is_term, _, istF, D_is_term.gl, D_is_term.fn.kp, D_is_term.fn.binds fun _ _ _ _ _ _ us hl => match us, hl with | [_], _ => rfl⟩
  have things := ok_things_of (P := l.prog) (w := w) (base := base) D_things_of T mLEAVES tLEAVES mFLAGGED tFLAGGED
  have pthing := ok_is_plain_thing (P := l.prog) (w := w) (base := base) D_is_plain_thing T mFLAGGED tFLAGGED mTEST_HEADS tTEST_HEADS
  have plainc := ok_is_plain D_is_plain T things pthing
  have tstF := fn_is_test (P := l.prog) (w := w) (base := base) D_is_test T mTEST_COMPARISONS tTEST_COMPARISONS triple ist plainc
  have tst : Cal l.prog w K mg base "is_test" ["thing"] 5 spTest := ⟨f_is_test, _, tstF, D_is_test.gl, D_is_test.fn.kp, D_is_test.fn.binds fun _ _ _ _ _ _ us hl => match us, hl with | [_], _ => rfl⟩
  have num := ok__law_num (P := l.prog) (w := w) (base := base) D_law_num T draw
  have isnum := ok__law_is_num (P := l.prog) (w := w) (base := base) D_law_is_num T
  have lterm := ok__law_is_term (P := l.prog) (w := w) (base := base) D_law_is_term D_law_is_related T lname isnum 60
  have related := ok__law_is_related D_law_is_related T lterm
  have lplain := ok__law_is_plain (P := l.prog) (w := w) (base := base) D_law_is_plain T (ok__law_parts D_law_parts T) 60
  have ltest := ok__law_is_test D_law_is_test T related (lplain.up (by decide))
  have odd := ok__law_odd (P := l.prog) (w := w) (base := base) D_law_odd T draw 16
  have side := ok__law_side (P := l.prog) (w := w) (base := base) D_law_side T draw pick num 3
  have spoilt := ok__law_spoilt D_law_spoilt T draw odd
  exact ok_law hsys D_law T draw (ok__law_deck D_law_deck T) pick (ok__law_fixed D_law_fixed T) (ok__law_names D_law_names T draw) side odd spoilt ltest tst
    ⟨⟨f_is_test, _, tstF, D_is_test.gl, D_is_test.fn.kp, fun s us ws h1 h2 => match us, ws, h1, h2 with | [], [_], _, _ => .of_eq rfl⟩, fun r1 r2 => r1.append r2⟩
end Vf
open PySem PySem.W PyProof.Rows
set_option maxHeartbeats 0 in
theorem PySem.Challenge.cw_poisonrules_k03_what_are_tests_holds : PySem.Challenge.rw_poisonrules_k03_what_are_tests.Holds := by
  w_on; o_law; k_head; (case hw => w_witness2)
  k_fill
  refine Vf.walk_ofS (l := PySem.Challenge.rw_poisonrules_k03_what_are_tests) (k := 126) (x := "_law_script") (by first | rfl | decide +kernel) rfl rfl ⟨rfl, by decide, by decide⟩ (fun w h Y => PySem.W.kIn_of Y) ?F
  case F =>
    intro w mg fa h KX G hmg
    refine Vf.all_mk (w := w) KX G hmg ?d0 ?d1 ?d2 ?d3 ?d4 ?d5 ?d6 ?d7 ?d8 ?d9 ?d10 ?d11 ?d12 ?d13 ?d14 ?d15 ?d16 ?d17 ?d18 ?d19 ?d20 ?d21 ?d22 ?d23 ?d24 ?d25 ?d26 ?d27 ?d28 ?t0 ?t1 ?t2 ?t3 ?t4 ?t5 ?t6 ?tl ?tc ?z0 ?z1 ?z2 ?z3 ?z4 ?z5 ?z6 ?z7 ?z8 ?z9 ?z10
    case t0 =>
      refine' Vf.TupAt.mk ?ta0 ?tb0 ?tc0 ?td0
      (case ta0 => k_is); (case tb0 => k_is); (case tc0 => decide)
      case td0 => repeat (first | exact .nil | refine .cons ⟨_, rfl⟩ ?_)
    case t1 =>
      refine' Vf.TupAt.mk ?ta1 ?tb1 ?tc1 ?td1
      (case ta1 => k_is); (case tb1 => k_is); (case tc1 => decide)
      case td1 => repeat (first | exact .nil | refine .cons ⟨_, rfl⟩ ?_)
    case t2 =>
      refine' Vf.TupAt.mk ?ta2 ?tb2 ?tc2 ?td2
      (case ta2 => k_is); (case tb2 => k_is); (case tc2 => decide)
      case td2 => repeat (first | exact .nil | refine .cons ⟨_, rfl⟩ ?_)
    case t3 =>
      refine' Vf.TupAt.mk ?ta3 ?tb3 ?tc3 ?td3
      (case ta3 => k_is); (case tb3 => k_is); (case tc3 => decide)
      case td3 => repeat (first | exact .nil | refine .cons ⟨_, rfl⟩ ?_)
    case t4 =>
      refine' Vf.TupAt.mk ?ta4 ?tb4 ?tc4 ?td4
      (case ta4 => k_is); (case tb4 => k_is); (case tc4 => decide)
      case td4 => repeat (first | exact .nil | refine .cons ⟨_, rfl⟩ ?_)
    case t5 =>
      refine' Vf.TupAt.mk ?ta5 ?tb5 ?tc5 ?td5
      (case ta5 => k_is); (case tb5 => k_is); (case tc5 => decide)
      case td5 => repeat (first | exact .nil | refine .cons ⟨_, rfl⟩ ?_)
    case t6 =>
      refine' Vf.TupAt.mk ?ta6 ?tb6 ?tc6 ?td6
      (case ta6 => k_is); (case tb6 => k_is); (case tc6 => decide)
      case td6 => repeat (first | exact .nil | refine .cons ⟨_, rfl⟩ ?_)
    case tl =>
      refine' Vf.TextAt.mk ?tl1 ?te1
      (case tl1 => k_is)
      case te1 => first | rfl | decide +kernel
    case tc =>
      refine' Vf.CntAt.mk ?c1 ?c2 ?c3 ?c4 ?c5
      (case c1 => k_is); (case c2 => k_is)
      case c3 => repeat (first | exact trivial | refine ⟨⟨_, _, rfl, rfl⟩, ?_⟩)
      case c4 => first | rfl | decide
      case c5 => repeat (first | exact trivial | refine ⟨⟨⟨_, rfl⟩, ⟨_, rfl⟩⟩, ?_⟩)
    case z0 => k_is
    case z1 => k_is
    case z2 => k_is
    case z3 => k_is
    case z4 => k_is
    case z5 => k_is
    case z6 => k_is
    case z7 => k_is
    case z8 => k_is
    case z9 => k_is
    case z10 => k_is
    case d0 =>
      refine' Vf.DefAt.mk ?a100 ?l100 ?c100 ?k100
      (case a100 => k_is); (case l100 => k_is); (case c100 => k_is); (case k100 => k_is)
    case d1 =>
      refine' Vf.DefAt.mk ?a101 ?l101 ?c101 ?k101
      (case a101 => k_is); (case l101 => k_is); (case c101 => k_is); (case k101 => k_is)
    case d2 =>
      refine' Vf.DefAt.mk ?a102 ?l102 ?c102 ?k102
      (case a102 => k_is); (case l102 => k_is); (case c102 => k_is); (case k102 => k_is)
    case d3 =>
      refine' Vf.DefAt.mk ?a103 ?l103 ?c103 ?k103
      (case a103 => k_is); (case l103 => k_is); (case c103 => k_is); (case k103 => k_is)
    case d4 =>
      refine' Vf.DefAt.mk ?a104 ?l104 ?c104 ?k104
      (case a104 => k_is); (case l104 => k_is); (case c104 => k_is); (case k104 => k_is)
    case d5 =>
      refine' Vf.DefAt.mk ?a105 ?l105 ?c105 ?k105
      (case a105 => k_is); (case l105 => k_is); (case c105 => k_is); (case k105 => k_is)
    case d6 =>
      refine' Vf.DefAt.mk ?a106 ?l106 ?c106 ?k106
      (case a106 => k_is); (case l106 => k_is); (case c106 => k_is); (case k106 => k_is)
    case d7 =>
      refine' Vf.DefAt.mk ?a107 ?l107 ?c107 ?k107
      (case a107 => k_is); (case l107 => k_is); (case c107 => k_is); (case k107 => k_is)
    case d8 =>
      refine' Vf.DefAt.mk ?a108 ?l108 ?c108 ?k108
      (case a108 => k_is); (case l108 => k_is); (case c108 => k_is); (case k108 => k_is)
    case d9 =>
      refine' Vf.DefAt.mk ?a109 ?l109 ?c109 ?k109
      (case a109 => k_is); (case l109 => k_is); (case c109 => k_is); (case k109 => k_is)
    case d10 =>
      refine' Vf.DefAt.mk ?a110 ?l110 ?c110 ?k110
      (case a110 => k_is); (case l110 => k_is); (case c110 => k_is); (case k110 => k_is)
    case d11 =>
      refine' Vf.DefAt.mk ?a111 ?l111 ?c111 ?k111
      (case a111 => k_is); (case l111 => k_is); (case c111 => k_is); (case k111 => k_is)
    case d12 =>
      refine' Vf.DefAt.mk ?a112 ?l112 ?c112 ?k112
      (case a112 => k_is); (case l112 => k_is); (case c112 => k_is); (case k112 => k_is)
    case d13 =>
      refine' Vf.DefAt.mk ?a113 ?l113 ?c113 ?k113
      (case a113 => k_is); (case l113 => k_is); (case c113 => k_is); (case k113 => k_is)
    case d14 =>
      refine' Vf.DefAt.mk ?a114 ?l114 ?c114 ?k114
      (case a114 => k_is); (case l114 => k_is); (case c114 => k_is); (case k114 => k_is)
    case d15 =>
      refine' Vf.DefAt.mk ?a115 ?l115 ?c115 ?k115
      (case a115 => k_is); (case l115 => k_is); (case c115 => k_is); (case k115 => k_is)
    case d16 =>
      refine' Vf.DefAt.mk ?a116 ?l116 ?c116 ?k116
      (case a116 => k_is); (case l116 => k_is); (case c116 => k_is); (case k116 => k_is)
    case d17 =>
      refine' Vf.DefAt.mk ?a117 ?l117 ?c117 ?k117
      (case a117 => k_is); (case l117 => k_is); (case c117 => k_is); (case k117 => k_is)
    case d18 =>
      refine' Vf.DefAt.mk ?a118 ?l118 ?c118 ?k118
      (case a118 => k_is); (case l118 => k_is); (case c118 => k_is); (case k118 => k_is)
    case d19 =>
      refine' Vf.DefAt.mk ?a119 ?l119 ?c119 ?k119
      (case a119 => k_is); (case l119 => k_is); (case c119 => k_is); (case k119 => k_is)
    case d20 =>
      refine' Vf.DefAt.mk ?a120 ?l120 ?c120 ?k120
      (case a120 => k_is); (case l120 => k_is); (case c120 => k_is); (case k120 => k_is)
    case d21 =>
      refine' Vf.DefAt.mk ?a121 ?l121 ?c121 ?k121
      (case a121 => k_is); (case l121 => k_is); (case c121 => k_is); (case k121 => k_is)
    case d22 =>
      refine' Vf.DefAt.mk ?a122 ?l122 ?c122 ?k122
      (case a122 => k_is); (case l122 => k_is); (case c122 => k_is); (case k122 => k_is)
    case d23 =>
      refine' Vf.DefAt.mk ?a123 ?l123 ?c123 ?k123
      (case a123 => k_is); (case l123 => k_is); (case c123 => k_is); (case k123 => k_is)
    case d24 =>
      refine' Vf.DefAt.mk ?a124 ?l124 ?c124 ?k124
      (case a124 => k_is); (case l124 => k_is); (case c124 => k_is); (case k124 => k_is)
    case d25 =>
      refine' Vf.DefAt.mk ?a125 ?l125 ?c125 ?k125
      (case a125 => k_is); (case l125 => k_is); (case c125 => k_is); (case k125 => k_is)
    case d26 =>
      refine' Vf.DefAt.mk ?a126 ?l126 ?c126 ?k126
      (case a126 => k_is); (case l126 => k_is); (case c126 => k_is); (case k126 => k_is)
    case d27 =>
      refine' Vf.DefAt.mk ?a127 ?l127 ?c127 ?k127
      (case a127 => k_is); (case l127 => k_is); (case c127 => k_is); (case k127 => k_is)
    case d28 =>
      refine' Vf.DefAt.mk ?a128 ?l128 ?c128 ?k128
      (case a128 => k_is); (case l128 => k_is); (case c128 => k_is); (case k128 => k_is)
#print axioms PySem.Challenge.cw_poisonrules_k03_what_are_tests_holds
