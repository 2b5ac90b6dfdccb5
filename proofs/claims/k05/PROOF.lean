import PyProof.Rows.All
import Wide.All
import OpenK.AllK
import Wide.FinOn
import HandS.ForMost
import HandS.IsInst
import HandS.TupAny
import HandS.TupMul
import HandS.Style
import PyProof.ReprRoads
import PyProof.FactsAll.subtypes
import PyProof.FactsAll.dict
import HandS.More
import PyProof.AutoSeq1
import HandS.Defaults
import PyProof.Rows.IntBool
import PyProof.Rows.StrCase
import PyProof.CallStr
import HandS.SetTxt0
import HandS.Set
import KE.GoesSet
import HandS.TupSets
import HandS.Strs
import HandS.SetBool
import KE.KSortTupG
import HandS.Star
import HandS.SortKw
import HandS.StrMore
import HandS.Rev
import PySem.Challenge.RW_poisonrules_k05_terms_there_and_back
set_option Elab.async false
set_option linter.all false
set_option maxRecDepth 100000
set_option maxHeartbeats 6000000
namespace Vf
open PySem L2 PyProof.Rows PySem.Spec
/-! ## data: what stands at a value, dicts too -/
def keyD : Key → PyData
  | .inl i => .int i
  | .inr x => .str x
mutual
inductive Dv (H : Hp) : V → PyData → Prop
  | non : Dv H .non .none
  | bl (b : Bool) : Dv H (.bl b) (.bool b)
  | int (i : Int) : Dv H (.int i) (.int i)
  | str (x : Str) : Dv H (.str x) (.str x)
  | lst {a : Addr} {xs : List V} {ds : List PyData} : H a = some (.lst xs) → DvAll H xs ds → Dv H (.ref a) (.list ds)
  | tup {a : Addr} {xs : List V} {ds : List PyData} : H a = some (.tup xs) → DvAll H xs ds → Dv H (.ref a) (.tuple ds)
  | dic {a : Addr} {kvs : List (Key × V)} {ds : List PyData} : H a = some (.dK kvs) → DvAll H (kvs.map (·.2)) ds → Dv H (.ref a) (.dict ((kvs.map fun p => keyD p.1).zip ds))
inductive DvAll (H : Hp) : List V → List PyData → Prop
  | nil : DvAll H [] []
  | cons {v : V} {vs : List V} {d : PyData} {ds : List PyData} : Dv H v d → DvAll H vs ds → DvAll H (v :: vs) (d :: ds)
end
mutual
theorem Dv.same {H H' : Hp} (s : Same H H') : ∀ {v : V} {d : PyData}, Dv H v d → Dv H' v d
  | _, _, .non => .non
  | _, _, .bl b => .bl b
  | _, _, .int i => .int i
  | _, _, .str x => .str x
  | _, _, .lst e h => .lst (s _ _ e) (h.same s)
  | _, _, .tup e h => .tup (s _ _ e) (h.same s)
  | _, _, .dic e h => .dic (s _ _ e) (h.same s)
theorem DvAll.same {H H' : Hp} (s : Same H H') : ∀ {v : List V} {d : List PyData}, DvAll H v d → DvAll H' v d
  | _, _, .nil => .nil
  | _, _, .cons h t => .cons (h.same s) (t.same s)
end
theorem DvAll.len {H : Hp} : ∀ {v : List V} {d : List PyData}, DvAll H v d → v.length = d.length
  | _, _, .nil => rfl
  | _, _, .cons _ t => congrArg (· + 1) t.len
section
variable {X : Cx} {s : Shared} {H : Hp} {σ : L2.St} {pins : List (Addr × Obj)}
theorem keys_read {P : Program} {w : World} {h : Heap} : ∀ {es : List DictEntry} {vs : List (Key × Value)} {kvs : List (Key × V)}, Pairs (mixKind P w) es vs → KV kvs vs →
    ReadsAll h (es.map (·.key)) (kvs.map fun p => keyD p.1) [] ∧ Vals (kvs.map (·.2)) (es.map (·.val))
  | [], [], _, .nil, k => by
    cases k
    exact ⟨.nil, .nil⟩
  | e :: es, (k, u) :: vs, _, .cons hk hv hp, .cons (a := p) r t => by
    obtain ⟨r1, r2⟩ := keys_read (h := h) hp t
    obtain ⟨e1, e2⟩ := r
    obtain ⟨k', v⟩ := p
    have ek : k' = k := e1
    subst ek
    refine ⟨?_, .cons (show RelV v e.val by rw [hv]; exact e2) r2⟩
    show ReadsAll h (e.key :: es.map (·.key)) (keyD k' :: _) ([] ++ [])
    refine .cons ?_ r1
    rcases keyIs_shape hk with ⟨i, tk, rfl, ev⟩ | ⟨x, tk, rfl, ev⟩
    · rw [ev]
      exact .int _ _
    · rw [ev]
      exact .str _ _
theorem zip_fst : ∀ {a : List PyData} {b : List PyData}, a.length = b.length → (a.zip b).map (·.1) = a
  | [], [], _ => rfl
  | x :: a, y :: b, h => by
    show x :: (a.zip b).map (·.1) = x :: a
    rw [zip_fst (Nat.succ.inj h)]
theorem zip_snd : ∀ {a : List PyData} {b : List PyData}, a.length = b.length → (a.zip b).map (·.2) = b
  | [], [], _ => rfl
  | x :: a, y :: b, h => by
    show y :: (a.zip b).map (·.2) = y :: b
    rw [zip_snd (Nat.succ.inj h)]
mutual
theorem Dv.read (I : Inv X pins σ H s) : ∀ {v : V} {d : PyData}, Dv H v d → ∀ (u : Value), RelV v u → ∃ as, Reads s.heap u d as ∧ ∀ b ∈ as, H b ≠ none
  | _, _, .non, u, r => by
    cases r
    exact ⟨_, .none, nofun⟩
  | _, _, .bl b, u, r => by
    cases r
    exact ⟨_, .bool b, nofun⟩
  | _, _, .int i, u, r => by
    obtain ⟨t, rfl⟩ := r
    exact ⟨_, .int i t, nofun⟩
  | _, _, .str x, u, r => by
    obtain ⟨t, rfl⟩ := r
    exact ⟨_, .str x t, nofun⟩
  | _, _, @Dv.lst _ a xs ds e ha, u, r => by
    cases r
    obtain ⟨_, its, n, rv, ho⟩ : ObjOk X.prog X.w H s.heap a (.lst xs) := I.hok a _ e
    obtain ⟨as, hr, hb⟩ := DvAll.read I ha its rv
    exact ⟨_, .list ho rfl rfl hr, fun b m => by
      rcases List.mem_cons.mp m with rfl | m
      · rw [e]; nofun
      · exact hb b m⟩
  | _, _, @Dv.tup _ a xs ds e ha, u, r => by
    cases r
    obtain ⟨_, its, rv, o, ho, hc, n, hd⟩ : ObjOk X.prog X.w H s.heap a (.tup xs) := I.hok a _ e
    obtain ⟨as, hr, hb⟩ := DvAll.read I ha its rv
    exact ⟨_, .tuple ho hc hd hr, hb⟩
  | _, _, @Dv.dic _ a kvs ds e ha, u, r => by
    cases r
    obtain ⟨_, hsys, vs, kv, o, es, ep, ho, ⟨hc, _⟩, hd, _, hp, _⟩ : ObjOk X.prog X.w H s.heap a (.dK kvs) := I.hok a _ e
    obtain ⟨rk, rv⟩ := keys_read (h := s.heap) hp kv
    have hl : (kvs.map fun p => keyD p.1).length = ds.length := by
      have := ha.len
      simpa using this
    obtain ⟨bs, hr, hb⟩ := DvAll.read I ha _ rv
    refine ⟨_, .dict ho hc hd (by rw [zip_fst hl]; exact rk) (by rw [zip_snd hl]; exact hr), fun b m => ?_⟩
    rcases List.mem_cons.mp (by simpa using m) with rfl | m
    · rw [e]; nofun
    · exact hb b m
theorem DvAll.read (I : Inv X pins σ H s) : ∀ {vs : List V} {ds : List PyData}, DvAll H vs ds → ∀ (us : List Value), Vals vs us → ∃ as, ReadsAll s.heap us ds as ∧ ∀ b ∈ as, H b ≠ none
  | _, _, .nil, us, r => by
    cases r
    exact ⟨_, .nil, nofun⟩
  | _, _, .cons h1 h2, us, r => by
    cases r with
    | cons r1 r2 =>
      obtain ⟨as, q1, b1⟩ := Dv.read I h1 _ r1
      obtain ⟨bs, q2, b2⟩ := DvAll.read I h2 _ r2
      exact ⟨_, .cons q1 q2, fun b m => (List.mem_append.mp m).elim (b1 b) (b2 b)⟩
end
theorem flat_read (I : Inv X pins σ H s) : ∀ {vs : List V} {ds : List PyData}, DvAll H vs ds → vs.all flatV = true → ∀ (us : List Value), Vals vs us → ReadsAll s.heap us ds []
  | _, _, .nil, _, us, r => by
    cases r
    exact .nil
  | _, _, @DvAll.cons _ v vs d ds h1 h2, f, us, r => by
    have f := (Bool.and_eq_true _ _).mp f
    cases r with
    | @cons _ u _ us r1 r2 =>
      have q2 := flat_read I h2 f.2 _ r2
      have q1 : Reads s.heap u d [] := by
        cases h1 with
        | non => cases r1; exact .none
        | bl b => cases r1; exact .bool b
        | int i =>
          obtain ⟨t, rfl⟩ := r1
          exact .int i t
        | str x =>
          obtain ⟨t, rfl⟩ := r1
          exact .str x t
        | lst _ _ => cases f.1
        | tup _ _ => cases f.1
        | dic _ _ => cases f.1
      exact .cons q1 q2
/-- a dict is shown where it stands alone, its values flat -/
def FlatDict (H : Hp) (x : V) : Prop := ∃ a kvs, x = .ref a ∧ H a = some (.dK kvs) ∧ (kvs.map (·.2)).all flatV = true
/-- repr(x), x data -/
def rRepr : List V → Hp → VK → Prop := fun xs H Q => ∃ x d, xs = [x] ∧ Dv H x d ∧ d.showable = true ∧ (d.hasDict = false ∨ FlatDict H x) ∧ d.depth ≤ 50 ∧ d.shown.length ≤ sizeLine ∧ Q (.str d.shown) H
theorem call_reprD (hg : X.A.guards = some []) (hu : X.A.units + 64 < cLine) : CallR X (.builtin "repr") rRepr := by
  intro pins s σ H xs us Q I rr h
  obtain ⟨x, d, rfl, hd, hs, hn, hp, hz, q⟩ := h
  obtain ⟨u, rfl, rx⟩ := vals1 rr
  have fin : ∀ (h' : Heap) (t k : Tok), (∀ b o, s.heap.get? b = some o → h'.get? b = some o) → EP X pins σ Q (.str d.shown t) { s with heap := h', toks := k } := fun h' t k kp =>
    ⟨.str d.shown, H, I.kept kp, ⟨t, rfl⟩, q⟩
  have main : ∃ as, Reads s.heap u d as ∧ (d.hasDict = true → sysModules ∉ as) := by
    rcases hn with hn | ⟨a, kvs, rfl, ha, hf⟩
    · obtain ⟨as, rd, -⟩ := Dv.read I hd u rx
      exact ⟨as, rd, fun z => by rw [hn] at z; cases z⟩
    · cases hd with
      | lst e _ => rw [ha] at e; cases e
      | tup e _ => rw [ha] at e; cases e
      | @dic _ kvs' ds e hv =>
        rw [ha] at e; cases e
        cases rx
        obtain ⟨_, hsys, vs, kv, o, es, ep, ho, ⟨hc, _⟩, hdd, _, hpp, _⟩ : ObjOk X.prog X.w H s.heap a (.dK kvs) := I.hok a _ ha
        obtain ⟨rk, rv⟩ := keys_read (h := s.heap) hpp kv
        have hl : (kvs.map fun p => keyD p.1).length = ds.length := by
          have := hv.len
          simpa using this
        refine ⟨_, .dict ho hc hdd (by rw [zip_fst hl]; exact rk) (by rw [zip_snd hl]; exact flat_read I hv hf _ rv), fun _ m => ?_⟩
        have m' : sysModules = a := by simpa using m
        rw [m'] at hsys
        simp at hsys
  obtain ⟨as, rd, hm⟩ := main
  cases rd with
  | none =>
    simp only [PyData.shown] at fin
    exact PySem.P.repr_of_none (fin _ _ _ fun _ _ e => e)
  | bool b =>
    simp only [PyData.shown] at fin
    exact PySem.P.repr_of_bool (fin _ _ _ fun _ _ e => e)
  | int i t =>
    simp only [PyData.shown] at fin
    exact PySem.P.repr_of_int (by simpa [PyData.showable] using hs) (fin _ _ _ fun _ _ e => e)
  | str y t =>
    simp only [PyData.shown] at fin hz
    exact PySem.P.repr_of_str (fin _ _ _ fun _ _ e => e) hz
  | list h1 h2 h3 h4 => exact repr_of_reads' (.list h1 h2 h3 h4) hs hm hg (by omega) (fun _ _ e => e) fin hz
  | tuple h1 h2 h3 h4 => exact repr_of_reads' (.tuple h1 h2 h3 h4) hs hm hg (by omega) (fun _ _ e => e) fin hz
  | dict h1 h2 h3 h4 h5 => exact repr_of_reads' (.dict h1 h2 h3 h4 h5) hs hm hg (by omega) (fun _ _ e => e) fin hz
end
end Vf
namespace Vf
open PySem L2 PyProof.Rows PySem.Spec
/-! ## a def's promise where no repr is under way -/
structure FnG (P : Program) (w : World) (K : PySem.W.Frag) (mg : Str → Option Value) (base : Heap) (C : CXT) (k : Nat) (f : Addr) (fd : FuncData) (ps : List Str) (sp : Sp) : Prop where
  many : ∀ vs H Q E, sp vs H Q E → vs.length = ps.length
  go : ∀ (A : Around) (outer : List Env) (s : Shared) (H : Hp) (args : Args) (us : List Value) (vs : List V) (Q : VK) (E : XK), A.guards = some [] → Room k A → Env0 P w K mg base A outer s H → BindsTo s fd args (ps.zip us) →
    Vals vs us → sp vs H Q E → codeAny (model P w) A (.call (.ref f) args) (CR C outer P w H s Q E) s
section
variable {K : PySem.W.Frag} {P : Program} {w : World} {base : Heap} {mg : Str → Option Value}
theorem fnG_of {C : CXT} {k : Nat} {f : Addr} {name qual : Str} {params : Arguments} {body : List Stmt} {scope : Scope} {dV kV doc pm cdv ct oc : Value} {an od : Option Addr} {osl : Array (Option Value)} {N ps : List Str} {sp : Sp}
    (at_ : K.lookup f = some ⟨oc, od, .func (PySem.W.fnOf name qual params body scope dV kV doc pm an cdv ct), osl⟩) (code : PySem.W.codeIn K cdv qual = true) (S : FnScope N ps scope) (many : ∀ vs H Q E, sp vs H Q E → vs.length = ps.length)
    (bd : ∀ (A : Around) (outer : List Env) (s : Shared) (H : Hp) (vs : List V) (Q : VK) (E : XK), (A.deeper (envOfC qual scope s.heap.objs.size f cdv)).guards = some [] → Room k (A.deeper (envOfC qual scope s.heap.objs.size f cdv)) → sp vs H Q E →
      ∃ t, PSs (cxOf C P w K mg base N qual scope f cdv A outer s H E) body t ∧ t { nx := fun _ H' => Q .non H', rt := Q } (start N vs) H) :
    FnG P w K mg base C (k + 1) f (PySem.W.fnOf name qual params body scope dV kV doc pm an cdv ct) ps sp where
  many := many
  go := by
    intro A outer s H args us vs Q E hg hr env0 hb rv hsp
    have hKs : K.In s.heap := env0.mod.kin.keeps fun b o z => (env0.bs b o z).1
    have hlim : s.heap.NoLimit := env0.mod.nolimit.keeps fun b o z => (env0.bs b o z).1
    refine codeAny_call_function hr.depth (hKs _ _ at_) rfl S.co S.gen rfl (PySem.W.codeRec_of hKs code) (hb _ _ _ _ ?_)
    refine wpAny_newFunctionEnv_cells S.kind (fun y hy => ?_) fun env he s1 x => ?_
    · rcases S.par y.1 (List.of_mem_zip hy).1 with z | z
      · exact .inl z
      · exact .inr ⟨z, PySem.W.cellsFrom_some _ _ _ (.inl z)⟩
    · subst he
      obtain ⟨t, derived, reads⟩ := bd A outer s H vs Q E hg (hr.deeper _) hsp
      refine ⟨hlim.keeps x.toInCall.keep, codeAny_func (wpAny_mono (derived.run [] s1 (start N vs) H _ (inv_start S hr.hd env0 (many _ _ _ _ hsp) rv x) reads) (fun fl s' hs => ?_) fun _ _ hs => hs)⟩
      cases fl with
      | ret u =>
        obtain ⟨v, σ', H', J, rv', q⟩ := hs
        exact ⟨v, H', J.os, J.bare, J.base, J.hok, rv', q⟩
      | next =>
        obtain ⟨σ', H', J, q⟩ := hs
        exact ⟨V.non, H', J.os, J.bare, J.base, J.hok, rfl, q⟩
      | brk =>
        obtain ⟨_, _, _, q⟩ := hs
        exact q.elim
      | cont =>
        obtain ⟨_, _, _, q⟩ := hs
        exact q.elim
/-- a def of the top's text, as it stands in the module -/
structure Df (K : PySem.W.Frag) (mg : Str → Option Value) (x : Str) (st : Stmt) (f : Addr) (fd : FuncData) : Prop where
  fn : Fun K x x st f fd
  gl : mg x = some (.ref f)
/-- a def that may be called -/
structure Cal (P : Program) (w : World) (K : PySem.W.Frag) (mg : Str → Option Value) (base : Heap) (x : Str) (ps : List Str) (k : Nat) (sp : Sp) : Prop where
  ex : ∃ f fd, FnG P w K mg base CX0 k f fd ps sp ∧ mg x = some (.ref f) ∧ PySem.W.keepIn K (.ref f) = true ∧ Binds K fd ps []
theorem Df.fnG {x : Str} {st : Stmt} {f : Addr} {fd : FuncData} {N ps : List Str} {k : Nat} {sp : Sp} (D : Df K mg x st f fd) (S : FnScope N ps (defScope st)) (many : ∀ vs H Q E, sp vs H Q E → vs.length = ps.length)
    (bd : ∀ (cdv : Value) (A : Around) (outer : List Env) (s : Shared) (H : Hp) (vs : List V) (Q : VK) (E : XK), (A.deeper (envOfC x (defScope st) s.heap.objs.size f cdv)).guards = some [] → Room k (A.deeper (envOfC x (defScope st) s.heap.objs.size f cdv)) → sp vs H Q E →
      ∃ t, PSs (cxOf CX0 P w K mg base N x (defScope st) f cdv A outer s H E).nox (defBody st) t ∧ t { nx := fun _ H' => Q .non H', rt := Q } (start N vs) H) : FnG P w K mg base CX0 (k + 1) f fd ps sp := by
  obtain ⟨oc, od, kV, doc, pm, an, cdv, ct, osl, rfl, here, code⟩ := D.fn.ex
  refine fnG_of here code S many fun A outer s H vs Q E hg hr hsp => ?_
  obtain ⟨t, h1, h2⟩ := bd cdv A outer s H vs Q E hg hr hsp
  exact ⟨t, h1.nox, h2⟩
theorem Df.cal {x : Str} {st : Stmt} {f : Addr} {fd : FuncData} {N ps : List Str} {k : Nat} {sp : Sp} (D : Df K mg x st f fd) (S : FnScope N ps (defScope st)) (many : ∀ vs H Q E, sp vs H Q E → vs.length = ps.length)
    (bi : ∀ (kV doc pm : Value) (an : Option Addr) (cdv ct : Value) (us : List Value), us.length = ps.length → bindArgs (PySem.W.fnOf x x (defArgs st) (defBody st) (defScope st) .none kV doc pm an cdv ct) ⟨us, []⟩ = pure (ps.zip us))
    (bd : ∀ (cdv : Value) (A : Around) (outer : List Env) (s : Shared) (H : Hp) (vs : List V) (Q : VK) (E : XK), (A.deeper (envOfC x (defScope st) s.heap.objs.size f cdv)).guards = some [] → Room k (A.deeper (envOfC x (defScope st) s.heap.objs.size f cdv)) → sp vs H Q E →
      ∃ t, PSs (cxOf CX0 P w K mg base N x (defScope st) f cdv A outer s H E).nox (defBody st) t ∧ t { nx := fun _ H' => Q .non H', rt := Q } (start N vs) H) : Cal P w K mg base x ps (k + 1) sp :=
  ⟨f, fd, D.fnG S many bd, D.gl, D.fn.kp, D.fn.binds bi⟩
end
section
variable {X : Cx} {k : Nat} {ps ks : List Str} {sp : Sp} {x : Str} {p pos kpos : Pos} {e : Expr} {es : List Expr} {kws : List Keyword} {t tk : TA} {nm : Option Str}
theorem go_cal {f : Addr} {fd : FuncData} {pins : List (Addr × Obj)} {σ : L2.St} {H : Hp} {s : Shared} {Q : VK} {args : Args} {us : List Value} {vs : List V} (F : FnG X.prog X.w X.K X.mg X.base CX0 k f fd ps sp) (hg : X.A.guards = some []) (hr : Room k X.A)
    (I : Inv X pins σ H s) (hb : BindsTo s fd args (ps.zip us)) (r : Vals vs us) (h : sp vs H Q E0) : codeAny (model X.prog X.w) X.A (.call (.ref f) args) (callEnd (EP X pins σ Q) X.xe) s := by
  refine codeAny_mono (F.go X.A X.stack s H args us vs Q E0 hg hr I.env0 hb r h) fun res s' hq => ?_
  cases res with
  | error _ => exact False.elim hq
  | ok fl =>
    cases fl with
    | ret u => exact I.after hq
    | next => exact False.elim hq
    | brk => exact False.elim hq
    | cont => exact False.elim hq
theorem pe_cal (c : Cal X.prog X.w X.K X.mg X.base x ps k sp) (hgd : X.A.guards = some []) (hr : Room k X.A) (hg : Gl X x) (ha : PA X (e :: es) t) (hdb : (x == ("__debug__" : Str)) = false := by decide)
    (he : starEach (e :: es) X.env = (false, eval e X.env) :: starEach es X.env := by rfl) (hpl : (backTo pos (starEach es X.env)).any (·.1) = false := by rfl) : PE X (.Call (.Name x p) (e :: es) [] pos) (tCall sp [] E0 t) := by
  obtain ⟨f, fd, F, gl, kp, bi⟩ := c.ex
  refine ⟨fun pins s σ H Q I h => wpAny_Call_Name_kw (ld_glob I hg gl ?_ hdb)⟩
  refine PySem.W.callWith_K (h₀ := X.base) I.ok.mod.kin kp (thn (ha.run pos pins s σ H _ I h) fun us s1 ⟨vs, H1, I1, r, q⟩ => ⟨I1.kIn, ?_⟩) he hpl
  have q : sp (vs ++ []) H1 Q E0 := q
  rw [List.append_nil] at q
  have hb := bi s1 us I1.kIn (by rw [List.append_nil, ← r.length]; exact F.many _ _ _ _ q)
  rw [List.append_nil] at hb
  exact wpAny_call (go_cal F hgd hr I1 hb r q)
theorem pe_cal0 (c : Cal X.prog X.w X.K X.mg X.base x ps k sp) (hgd : X.A.guards = some []) (hr : Room k X.A) (hg : Gl X x) (hdb : (x == ("__debug__" : Str)) = false := by decide) : PE X (.Call (.Name x p) [] [] pos) (tCall sp [] E0 tNil) := by
  obtain ⟨f, fd, F, gl, kp, bi⟩ := c.ex
  refine ⟨fun pins s σ H Q I h => wpAny_Call_Name_kw (ld_glob I hg gl ?_ hdb)⟩
  have h' : sp [] H Q E0 := h
  have hb := bi s [] I.kIn (by rw [List.append_nil]; exact F.many _ _ _ _ h')
  exact PySem.W.callWith_K0 I.kIn kp (wpAny_call (go_cal F hgd hr I hb .nil h'))
/-- a def that may be called by keywords: n by places, then the names ks; g puts them in the parameters' order -/
structure CalK (P : Program) (w : World) (K : PySem.W.Frag) (mg : Str → Option Value) (base : Heap) (x : Str) (ps ks : List Str) (n : Nat) (g : ∀ α : Type, List α → List α → List α) (k : Nat) (sp : Sp) : Prop where
  ex : ∃ f fd, FnG P w K mg base CX0 k f fd ps sp ∧ mg x = some (.ref f) ∧ PySem.W.keepIn K (.ref f) = true ∧ (∀ (s : Shared) (us ws : List Value), us.length = n → ws.length = ks.length → BindsTo s fd ⟨us, ks.zip ws⟩ (ps.zip (g Value us ws)))
  rel : ∀ {vs : List V} {us : List Value} {zs : List V} {ws : List Value}, Vals vs us → Vals zs ws → Vals (g V vs zs) (g Value us ws)
def tCalK (n m : Nat) (g : ∀ α : Type, List α → List α → List α) (sp : Sp) (t tk : TA) : TE := fun σ H Q => t σ H fun vs H1 => tk σ H1 fun zs H2 => vs.length = n ∧ zs.length = m ∧ sp (g V vs zs) H2 Q E0
theorem pe_calK0 {n : Nat} {g : ∀ α : Type, List α → List α → List α} (c : CalK X.prog X.w X.K X.mg X.base x ps ks n g k sp) (hgd : X.A.guards = some []) (hr : Room k X.A) (hg : Gl X x) (hkw : PK X kws tk)
    (hal : (backToKw pos (keywordEach kws X.env)).all (·.1.isSome) = true := by rfl) (hks : (backToKw pos (keywordEach kws X.env)).filterMap (·.1) = ks := by rfl) (hdb : (x == ("__debug__" : Str)) = false := by decide)
    (hpl : ((backTo pos (starEach [] X.env)).any (·.1) || (backToKw pos (keywordEach kws X.env)).any (·.1.isNone)) = false := by rfl) : PE X (.Call (.Name x p) [] kws pos) (tCalK n ks.length g sp tNil tk) := by
  obtain ⟨f, fd, F, gl, kp, bi⟩ := c.ex
  refine ⟨fun pins s σ H Q I h => wpAny_Call_Name_kw (ld_glob I hg gl ?_ hdb)⟩
  refine PySem.W.callWith_KW0 (h₀ := X.base) I.ok.mod.kin kp hal (thn (hkw.run pos pins s σ H _ I h) fun ws s1 ⟨zs, H1, I1, rz, n0, m0, q⟩ => ⟨I1.kIn, ?_⟩) hpl
  rw [hks]
  exact wpAny_call (go_cal F hgd hr I1 (bi s1 [] ws n0 (by rw [← rz.length]; exact m0)) (c.rel .nil rz) q)
theorem pe_calK {n : Nat} {g : ∀ α : Type, List α → List α → List α} (c : CalK X.prog X.w X.K X.mg X.base x ps ks n g k sp) (hgd : X.A.guards = some []) (hr : Room k X.A) (hg : Gl X x) (ha : PA X (e :: es) t) (hkw : PK X kws tk)
    (hal : (backToKw pos (keywordEach kws X.env)).all (·.1.isSome) = true := by rfl) (hks : (backToKw pos (keywordEach kws X.env)).filterMap (·.1) = ks := by rfl) (hdb : (x == ("__debug__" : Str)) = false := by decide)
    (he : starEach (e :: es) X.env = (false, eval e X.env) :: starEach es X.env := by rfl)
    (hpl : ((backTo pos (starEach (e :: es) X.env)).any (·.1) || (backToKw pos (keywordEach kws X.env)).any (·.1.isNone)) = false := by rfl) : PE X (.Call (.Name x p) (e :: es) kws pos) (tCalK n ks.length g sp t tk) := by
  obtain ⟨f, fd, F, gl, kp, bi⟩ := c.ex
  refine ⟨fun pins s σ H Q I h => wpAny_Call_Name_kw (ld_glob I hg gl ?_ hdb)⟩
  refine PySem.W.callWith_KW (h₀ := X.base) I.ok.mod.kin kp hal (thn (ha.run pos pins s σ H _ I h) fun us s1 ⟨vs, H1, I1, r1, q1⟩ => ?_) hpl he
  refine thn (hkw.run pos pins s1 σ H1 _ I1 q1) fun ws s2 ⟨zs, H2, I2, rz, n0, m0, q⟩ => ⟨I2.kIn, ?_⟩
  rw [hks]
  exact wpAny_call (go_cal F hgd hr I2 (bi s2 us ws (by rw [← r1.length]; exact n0) (by rw [← rz.length]; exact m0)) (c.rel r1 rz) q)
end
end Vf
namespace Vf
open PySem L2 PyProof.Rows PySem.Spec
/-! ## operations by the kinds of what they get -/
section
variable {X : Cx}
def rAddA (K : PySem.W.Frag) : R2 := fun x y H Q => match x, y with
  | .int i, .int j => Q (.int (i + j)) H
  | .str a, .str b => a.length + b.length ≤ sizeLine ∧ Q (.str (a ++ b)) H
  | .ref l, .ref b => (∃ xs zs, H l = some (.lst xs) ∧ H b = some (.lst zs) ∧ xs.length + zs.length ≤ sizeLine ∧ ∀ p, H p = none → Q (.ref p) (upd H p (.lst (xs ++ zs)))) ∨ rCatA K x y H Q
  | _, _ => False
theorem opAdd : OpR X (binaryOp .Add) (rAddA X.K) := by
  intro pins s σ H x y v u Q I rx ry h
  match x, y, h with
  | .int i, .int j, h => exact op_add pins s σ H _ _ v u Q I rx ry ⟨i, j, rfl, rfl, h⟩
  | .str a, .str b, h => exact op_add_str pins s σ H _ _ v u Q I rx ry ⟨a, b, rfl, rfl, h⟩
  | .ref l, .ref b, .inl ⟨xs, zs, h⟩ => exact op_cat pins s σ H _ _ v u Q I rx ry ⟨l, b, xs, zs, rfl, rfl, h⟩
  | .ref l, .ref b, .inr h => exact op_catA pins s σ H _ _ v u Q I rx ry h
/-- s * n of a text -/
def repS (x : Str) (n : Nat) : Str := ⟨(List.replicate n x.cps).foldl (· ++ ·) #[]⟩
theorem fold_cat (c : Array Nat) : ∀ (n : Nat) (a : Array Nat), ((List.replicate n c).foldl (· ++ ·) a).toList = a.toList ++ (List.replicate n c.toList).flatten
  | 0, a => by simp
  | n + 1, a => by
    rw [List.replicate_succ, List.foldl_cons, fold_cat c n, List.replicate_succ, List.flatten_cons]
    simp
theorem repS_list (x : Str) (n : Nat) : (repS x n).cps.toList = (List.replicate n x.cps.toList).flatten := by
  unfold repS
  rw [fold_cat]
  rfl
theorem repS_len (x : Str) (n : Nat) : (repS x n).length = n * x.length := by
  have h : (repS x n).cps.toList.length = n * x.cps.toList.length := by
    rw [repS_list]
    simp
  show (repS x n).cps.size = n * x.cps.size
  simpa using h
def rMulA : R2 := fun x y H Q => match x, y with
  | .int i, .int j => CMul i j ∧ Q (.int (i * j)) H
  | .str a, .int n => 2 ≤ n ∧ n ≤ 1000 ∧ a.length ≠ 0 ∧ a.length ≤ 1000 ∧ Q (.str (repS a n.toNat)) H
  | .ref l, .int k => ∃ xs, H l = some (.lst xs) ∧ -(2 ^ 63) ≤ k ∧ k < 2 ^ 63 ∧ xs.length * k.toNat ≤ sizeLine ∧ ∀ p, H p = none → Q (.ref p) (upd H p (.lst (List.replicate k.toNat xs).flatten))
  | _, _ => False
theorem opMul : OpR X (binaryOp .Mult) rMulA := by
  intro pins s σ H x y v u Q I rx ry h
  match x, y, h with
  | .int i, .int j, h => exact op_mul pins s σ H _ _ v u Q I rx ry ⟨i, j, rfl, rfl, h⟩
  | .ref l, .int k, ⟨xs, h⟩ => exact op_rep pins s σ H _ _ v u Q I rx ry ⟨l, k, xs, rfl, rfl, h⟩
  | .str a, .int n, ⟨n2, n1, a0, a1, q⟩ =>
    obtain ⟨t, rfl⟩ := rx
    obtain ⟨t', rfl⟩ := ry
    have e1 : ¬ n < 1 := by omega
    have e2 : (n == 1 || a.length == 0) = false := by
      rw [Bool.or_eq_false_iff, beq_eq_false_iff_ne, beq_eq_false_iff_ne]
      exact ⟨by omega, a0⟩
    have hs : a.length * n.toNat ≤ 1000 * 1000 := Nat.mul_le_mul a1 (by omega)
    refine PySem.P.mul_str ?_ (fun _ _ => ?_) (fun _ _ => ?_) ?_
    · rw [decide_eq_false (by omega), decide_eq_false (by omega)]; rfl
    · have : (a.length : Int) ≤ (2 ^ 63 - 1) / n := by
        rw [Int.le_ediv_iff_mul_le (by omega)]
        have : ((a.length * n.toNat : Nat) : Int) ≤ 1000 * 1000 := by exact_mod_cast hs
        rw [Int.natCast_mul, Int.toNat_of_nonneg (by omega)] at this
        omega
      omega
    · have := sizeLine_eq
      unfold Builtin.Str.tooLong
      simp
      omega
    · rw [if_neg e1, e2]
      refine ⟨?_, ⟨.str (repS a n.toNat), H, I.tok _, ⟨_, rfl⟩, q⟩⟩
      have e3 := repS_len a n.toNat
      have e4 := sizeLine_eq
      have e5 : n.toNat * a.length ≤ 1000 * 1000 := by rw [Nat.mul_comm]; exact hs
      show (repS a n.toNat).length ≤ sizeLine
      omega
def rEqA (K : PySem.W.Frag) (neg : Bool) : R2 := fun x y H Q => match x, y with
  | .ref a, .ref b => ∃ d e, Dp K H (.ref a) d ∧ Dp K H (.ref b) e ∧ SeqAt.shaped d = true ∧ SeqAt.shaped e = true ∧ Q (.bl (neg ^^ PyData.eqv d e)) H
  | x, y => scal x y = true ∧ Q (.bl (neg ^^ decide (x = y))) H
theorem opEq (hu : X.A.units + 64 < cLine) : OpR X (compareOp .Eq) (rEqA X.K false) := by
  intro pins s σ H x y v u Q I rx ry h
  have sc : scal x y = true → Q (.bl (false ^^ decide (x = y))) H → wpAny (model X.prog X.w) X.A (compareOp .Eq v u) (EP X pins σ Q) X.xe s := fun h1 h2 =>
    op_eq pins s σ H x y v u Q I rx ry ⟨h1, by simpa using h2⟩
  cases x <;> cases y <;> first
    | exact sc h.1 h.2
    | (obtain ⟨d, e, hd, he, sd, se, q⟩ := h; exact op_eqD hu pins s σ H _ _ v u Q I rx ry ⟨d, e, hd, he, sd, se, by simpa using q⟩)
theorem opNe (hu : X.A.units + 64 < cLine) : OpR X (compareOp .NotEq) (rEqA X.K true) := by
  intro pins s σ H x y v u Q I rx ry h
  have sc : scal x y = true → Q (.bl (true ^^ decide (x = y))) H → wpAny (model X.prog X.w) X.A (compareOp .NotEq v u) (EP X pins σ Q) X.xe s := fun h1 h2 =>
    op_ne pins s σ H x y v u Q I rx ry ⟨h1, by simpa using h2⟩
  cases x <;> cases y <;> first
    | exact sc h.1 h.2
    | (obtain ⟨d, e, hd, he, sd, se, q⟩ := h; exact op_neD hu pins s σ H _ _ v u Q I rx ry ⟨d, e, hd, he, sd, se, by simpa using q⟩)
/-- one sign in a text; a flat thing in a list or tuple of flat things -/
def rInA (K : PySem.W.Frag) (neg : Bool) : R2 := fun x y H Q => match x, y with
  | .str c, .str z => ∃ a, c = ⟨#[a]⟩ ∧ Q (.bl (neg ^^ decide (a ∈ z.cps.toList))) H
  | x, .ref p => ∃ xs, (SqL K H p xs ∨ SqT K H p xs) ∧ flatV x = true ∧ xs.all flatV = true ∧ Q (.bl (neg ^^ inV x xs)) H
  | _, _ => False
theorem opIn : OpR X (compareOp .In) (rInA X.K false) := by
  intro pins s σ H x y v u Q I rx ry h
  have sc : ∀ p xs, y = .ref p → (SqL X.K H p xs ∨ SqT X.K H p xs) → flatV x = true → xs.all flatV = true → Q (.bl (false ^^ inV x xs)) H → wpAny (model X.prog X.w) X.A (compareOp .In v u) (EP X pins σ Q) X.xe s := fun p xs e h1 h2 h3 h4 =>
    op_in_seq pins s σ H x y v u Q I rx ry ⟨p, xs, e, h1, h2, h3, by simpa using h4⟩
  cases y with
  | ref p =>
    have h' : ∃ xs, (SqL X.K H p xs ∨ SqT X.K H p xs) ∧ flatV x = true ∧ xs.all flatV = true ∧ Q (.bl (false ^^ inV x xs)) H := by cases x <;> exact h
    obtain ⟨xs, h1, h2, h3, h4⟩ := h'
    exact sc p xs rfl h1 h2 h3 h4
  | str z =>
    cases x with
    | str c =>
      obtain ⟨a, rfl, q⟩ := h
      exact op_in_sign pins s σ H _ _ v u Q I rx ry ⟨a, z, rfl, rfl, by simpa using q⟩
    | _ => exact False.elim h
  | _ => exact False.elim (by cases x <;> exact h)
theorem opNotIn : OpR X (compareOp .NotIn) (rInA X.K true) := by
  intro pins s σ H x y v u Q I rx ry h
  have sc : ∀ p xs, y = .ref p → (SqL X.K H p xs ∨ SqT X.K H p xs) → flatV x = true → xs.all flatV = true → Q (.bl (true ^^ inV x xs)) H → wpAny (model X.prog X.w) X.A (compareOp .NotIn v u) (EP X pins σ Q) X.xe s := fun p xs e h1 h2 h3 h4 =>
    op_notIn_seq pins s σ H x y v u Q I rx ry ⟨p, xs, e, h1, h2, h3, by simpa using h4⟩
  cases y with
  | ref p =>
    have h' : ∃ xs, (SqL X.K H p xs ∨ SqT X.K H p xs) ∧ flatV x = true ∧ xs.all flatV = true ∧ Q (.bl (true ^^ inV x xs)) H := by cases x <;> exact h
    obtain ⟨xs, h1, h2, h3, h4⟩ := h'
    exact sc p xs rfl h1 h2 h3 h4
  | str z =>
    cases x with
    | str c =>
      obtain ⟨a, rfl, q⟩ := h
      exact op_notIn_sign pins s σ H _ _ v u Q I rx ry ⟨a, z, rfl, rfl, by simpa using q⟩
    | _ => exact False.elim h
  | _ => exact False.elim (by cases x <;> exact h)
/-- a cut of a text, a list, a tuple -/
def rSlAny (K : PySem.W.Frag) : V → Option Int → Option Int → Hp → VK → Prop := fun x lo hi H Q => match x with
  | .str z => z.length ≤ sizeLine ∧ Q (.str (cutS z lo hi)) H
  | .ref a => (∃ xs, SqL K H a xs ∧ ∀ p, H p = none → Q (.ref p) (upd H p (.lst (cutV xs lo hi)))) ∨ rSlA K (.ref a) lo hi H Q
  | _ => False
theorem slAny : SlR X (rSlAny X.K) := by
  intro pins s σ H x v vl vu lo hi sl Q I rx hs pl pu q
  match x, q with
  | .str z, q => exact sl_str pins s σ H _ v vl vu lo hi sl Q I rx hs pl pu ⟨z, rfl, q⟩
  | .ref a, .inl ⟨xs, q⟩ => exact sl_list pins s σ H _ v vl vu lo hi sl Q I rx hs pl pu ⟨a, xs, rfl, q⟩
  | .ref a, .inr q => exact sl_tupA pins s σ H _ v vl vu lo hi sl Q I rx hs pl pu q
/-- what a for walks: a list, a tuple, a text -/
def iAny (K : PySem.W.Frag) (te : TE) : TI := fun σ H R => te σ H fun v H1 => match v with
  | .str x => R (Its x) H1
  | .ref a => ((∃ xs, SqL K H1 a xs) ∧ R (Itl K a) H1) ∨ ((∃ xs, SqT K H1 a xs) ∧ R (Itt K a) H1)
  | _ => False
theorem piAny {tg e : Expr} {te : TE} (he : PE X e te) : PI X tg e (iAny X.K te) := by
  refine ⟨fun pins s σ H R I h => thn (he.run pins s σ H _ I h) fun v s1 ⟨x, H1, I1, rx, q⟩ => ?_⟩
  match x, q with
  | .str y, q =>
    obtain ⟨t, rfl⟩ := rx
    cases ha : y.cps.all (· < 128)
    · exact wpAny_pyIter_wide ha (pi_one (tk := s1.toks) I1 _ (turn_str _ y t _ (.inr rfl)) ⟨_, Heap.get?_push_size _ rfl, rfl, rfl⟩ q)
    · exact wpAny_pyIter_ascii ha (pi_one (tk := s1.toks) I1 _ (turn_str _ y t _ (.inl rfl)) ⟨_, Heap.get?_push_size _ rfl, rfl, rfl⟩ q)
  | .ref a, .inl ⟨⟨xs, hq⟩, q⟩ =>
    cases rx
    obtain ⟨its, rv, p, hz⟩ := I1.list hq
    exact wpAny_pyIter_list p.isList (pi_one (tk := s1.toks) I1 _ (turn_list a _) ⟨_, Heap.get?_push_size _ rfl, rfl, rfl⟩ q)
  | .ref a, .inr ⟨⟨xs, hq⟩, q⟩ =>
    cases rx
    obtain ⟨its, rv, p, hz⟩ := I1.tuple hq
    exact wpAny_pyIter_tuple (show s1.heap.IsTuple a its.toArray from p) (pi_one (tk := s1.toks) I1 _ (turn_tuple a _) ⟨_, Heap.get?_push_size _ rfl, rfl, rfl⟩ q)
/-! ### the same, the written part named -/
section
variable {K : PySem.W.Frag}
theorem aAdd (e : X.K = K) : OpR X (binaryOp .Add) (rAddA K) := e ▸ opAdd
theorem aEq (e : X.K = K) (hu : X.A.units + 64 < cLine) : OpR X (compareOp .Eq) (rEqA K false) := e ▸ opEq hu
theorem aNe (e : X.K = K) (hu : X.A.units + 64 < cLine) : OpR X (compareOp .NotEq) (rEqA K true) := e ▸ opNe hu
theorem aIn (e : X.K = K) : OpR X (compareOp .In) (rInA K false) := e ▸ opIn
theorem aNotIn (e : X.K = K) : OpR X (compareOp .NotIn) (rInA K true) := e ▸ opNotIn
theorem aIxL (e : X.K = K) : IxR X (rIxL K) := e ▸ ix_list
theorem aIxT (e : X.K = K) : IxR X (rIxT K) := e ▸ ix_tup
theorem aWalkL (e : X.K = K) {tg l : Expr} {te : TE} (he : PE X l te) : PI X tg l (iList K te) := e ▸ pi_list he
theorem aWalkT (e : X.K = K) {tg l : Expr} {te : TE} (he : PE X l te) : PI X tg l (iTup K te) := e ▸ pi_tup he
theorem aInSeq (e : X.K = K) : OpR X (compareOp .In) (rIn K false) := e ▸ op_in_seq
theorem aNotInSeq (e : X.K = K) : OpR X (compareOp .NotIn) (rIn K true) := e ▸ op_notIn_seq
theorem aEqD (e : X.K = K) (hu : X.A.units + 64 < cLine) : OpR X (compareOp .Eq) (rEqD K) := e ▸ op_eqD hu
theorem aNeD (e : X.K = K) (hu : X.A.units + 64 < cLine) : OpR X (compareOp .NotEq) (rNeD K) := e ▸ op_neD hu
theorem aCatT (e : X.K = K) : OpR X (binaryOp .Add) (rCatA K) := e ▸ op_catA
theorem aSlL (e : X.K = K) : SlR X (rSlL K) := e ▸ sl_list
theorem aSlT (e : X.K = K) : SlR X (rSlA K) := e ▸ sl_tupA
def rLenSeq (K : PySem.W.Frag) : List V → Hp → VK → Prop := fun xs H Q => ∃ p ys, xs = [.ref p] ∧ (SqL K H p ys ∨ SqT K H p ys) ∧ Q (.int ys.length) H
theorem aLenSeq (e : X.K = K) : CallR X (.builtin "len") (rLenSeq K) := e ▸ call_len_seq
def rLenS : List V → Hp → VK → Prop := fun xs H Q => ∃ z : Str, xs = [.str z] ∧ z.length ≤ sizeLine ∧ Q (.int z.length) H
theorem aLenS : CallR X (.builtin "len") rLenS := fun pins s σ H xs us Q I r ⟨z, e, h1, h2⟩ => call_len pins s σ H xs us Q I r ⟨.str z, z.length, e, ⟨h1, rfl⟩, h2⟩
def rMulS : R2 := fun x y H Q => ∃ (a : Str) (n : Int), x = .str a ∧ y = .int n ∧ 2 ≤ n ∧ n ≤ 1000 ∧ a.length ≠ 0 ∧ a.length ≤ 1000 ∧ Q (.str (repS a n.toNat)) H
theorem aMulS : OpR X (binaryOp .Mult) rMulS := fun pins s σ H x y v u Q I rx ry ⟨a, n, ex, ey, h⟩ => by
  subst ex ey
  exact opMul pins s σ H _ _ v u Q I rx ry h
theorem aRev (h : X.K = K) {e : Expr} {te : TE} {k : Nat} {p1 p2 p3 pos : Pos} (he : PE X e te) : PE X (.Subscript e (.Slice none none (some (.UnaryOp .USub (.Constant (.int 1) k p1) p2)) p3) pos) (tRevL K te) := h ▸ pe_revL he
theorem aSl (e : X.K = K) : SlR X (rSlAny K) := e ▸ slAny
theorem aIx (e : X.K = K) : IxR X (rIx K) := e ▸ ix_seq
theorem aWalk (e : X.K = K) {tg l : Expr} {te : TE} (he : PE X l te) : PI X tg l (iAny K te) := e ▸ piAny he
def rLen (K : PySem.W.Frag) : List V → Hp → VK → Prop := fun xs H Q => ∃ x n, xs = [x] ∧ LenV K x H n ∧ Q (.int n) H
theorem aLen (e : X.K = K) : CallR X (.builtin "len") (rLen K) := e ▸ call_len
theorem aIsi (e : X.K = K) : CallR X (.builtin "isinstance") (rIsi K) := e ▸ call_isi
theorem aAll (e : X.K = K) (hc : X.calm = true) : CallR X (.builtin "all") (rAll K) := e ▸ cr_all hc
theorem aAny (e : X.K = K) (hc : X.calm = true) : CallR X (.builtin "any") (rAny K) := e ▸ cr_any hc
theorem aSum (e : X.K = K) (hc : X.calm = true) : CallR X (.builtin "sum") (rSum K) := e ▸ cr_sum hc
def rList (K : PySem.W.Frag) : List V → Hp → VK → Prop := fun xs H Q => ∃ p ys, xs = [.ref p] ∧ (SqL K H p ys ∨ SqT K H p ys) ∧ ∀ l, H l = none → Q (.ref l) (upd H l (.lst ys))
theorem aList (e : X.K = K) : CallR X (.type "list") (rList K) := e ▸ call_list_of
def rTuple (K : PySem.W.Frag) : List V → Hp → VK → Prop := fun xs H Q => ∃ p ys, xs = [.ref p] ∧ ((SqL K H p ys ∧ ∀ l, H l = none → Q (.ref l) (upd H l (.tup ys))) ∨ (SqT K H p ys ∧ Q (.ref p) H))
theorem aTuple (e : X.K = K) : CallR X (.type "tuple") (rTuple K) := e ▸ call_tuple_of
end
end
end Vf
namespace Vf
open PySem L2 PyProof.Rows PySem.Spec
/-! ## the end: the law's def, called where no repr is under way -/
def spLaw (K : PySem.W.Frag) : Sp := fun vs H Q _ => ∃ (a : Addr) (ns : List Int), vs = [.ref a] ∧ SqL K H a (ns.map V.int) ∧ ns.length ≤ 63 ∧ ∀ H', Q (.bl true) H'
section
variable {P : Program} {w : World} {K : PySem.W.Frag} {mg mb : Str → Option Value} {k : Nat} {fa a : Addr} {fd : FuncData} {x : Str} {s₁ : Shared} {vs : List Value} {ns : List Int}
/-- over one abstract heap, in which the script alone may be tracked -/
theorem law_one {H : Hp} (KX : K.In s₁.heap) (glob : s₁.heap.Ns mainGlobals mg) (blt : s₁.heap.Ns builtinsNs mb) (boot : ∀ x : Str, x ≠ "__name__" → mb x = bootBuiltins x) (lim : s₁.heap.NoLimit) (gens : s₁.gens = #[])
    (here : s₁.heap.get? a = some { cls := .type "list", data := .seq vs.toArray }) (room : Room k callerA) (F : ∀ base : Heap, K.In base → base.Ns mainGlobals mg → FnG P w K mg base CX0 k fa fd [x] (spLaw K))
    (bind : ∀ (s : Shared) (u : Value), BindsTo s fd ⟨[u], []⟩ [(x, u)]) (sq : SqL K H a (ns.map V.int)) (short : ns.length ≤ 63) (hok : HOk P w H s₁.heap) (only : ∀ b u, H b = some u → b = a ∧ K.lookup a = none ∧ ∃ xs, u = .frz { cls := .type "list", data := .seq vs.toArray } (.lst xs)) :
    codeAny (model P w) callerA (.call (.ref fa) ⟨[.ref a], []⟩) (fun r s' => r = .ok (.ret (.bool true)) ∧ OldK s₁.heap s'.heap ∧ s'.os = s₁.os ∧ AllBare s'.gens) s₁ := by
  have clear : ∀ {b : Addr} {o : Obj} {es : Array DictEntry} {ep : Nat}, s₁.heap.get? b = some o → o.data = .dict es ep → H b = none := by
    intro b o es ep e d
    cases q : H b with
    | none => rfl
    | some u =>
      obtain ⟨rfl, -⟩ := only b u q
      rw [here] at e
      cases e
      cases d
  have space : ∀ {b : Addr} {m : Str → Option Value}, s₁.heap.Ns b m → (hidT s₁.heap H).Ns b m := by
    rintro b m ⟨o, es, ep, e, d, r⟩
    exact ⟨o, es, ep, hidT_get e (clear e d), d, r⟩
  have frag : K.In (hidT s₁.heap H) := by
    intro b o e
    refine hidT_get (KX b o e) ?_
    cases q : H b with
    | none => rfl
    | some u =>
      obtain ⟨rfl, no, -⟩ := only b u q
      rw [no] at e
      cases e
  obtain ⟨mc, l1, l2⟩ := lim
  have env : Env0 P w K mg (hidT s₁.heap H) callerA [] s₁ H :=
    { frames := rfl, mod := ⟨frag, space glob, ⟨mb, space blt, boot⟩, ⟨mc, space l1, l2⟩⟩, bs := fun b o e => of_hidT e, bsz := Nat.le_of_eq (hidT_size _ _), funs := trivial, frf := fun b z => (List.not_mem_nil z).elim, hok := hok, bare := .of_eq gens }
  refine codeAny_mono ((F _ frag (space glob)).go callerA [] s₁ H ⟨[.ref a], []⟩ [.ref a] [.ref a] (fun v _ => v = .bl true) E0 rfl room env (bind s₁ (.ref a)) (.cons rfl .nil) ⟨a, ns, rfl, sq, short, fun _ => rfl⟩) fun r s' h => ?_
  rcases r with _ | fl
  · exact h.elim
  · cases fl with
    | next => exact h.elim
    | brk => exact h.elim
    | cont => exact h.elim
    | ret u =>
      obtain ⟨v, H', os, bare, un, hok', rv, ev⟩ := h
      cases ev
      cases rv
      refine ⟨rfl, .of_keep fun b o e => ?_, os, bare⟩
      cases q : H b with
      | none => exact un.keep b o e q (fun z => (List.not_mem_nil z).elim) (fun z => (List.not_mem_nil z).elim)
      | some u =>
        obtain ⟨rfl, -, xs, rfl⟩ := only b u q
        rw [here] at e
        cases e
        exact (hok' b _ (un.frzs b _ _ q)).1
theorem law_callG (KX : K.In s₁.heap) (glob : s₁.heap.Ns mainGlobals mg) (blt : s₁.heap.Ns builtinsNs mb) (boot : ∀ x : Str, x ≠ "__name__" → mb x = bootBuiltins x) (lim : s₁.heap.NoLimit) (gens : s₁.gens = #[])
    (here : s₁.heap.get? a = some { cls := .type "list", data := .seq vs.toArray }) (whole : IntsAre vs ns) (short : ns.length ≤ 63) (room : Room k callerA) (F : ∀ base : Heap, K.In base → base.Ns mainGlobals mg → FnG P w K mg base CX0 k fa fd [x] (spLaw K))
    (bind : ∀ (s : Shared) (u : Value), BindsTo s fd ⟨[u], []⟩ [(x, u)]) :
    codeAny (model P w) callerA (.call (.ref fa) ⟨[.ref a], []⟩) (fun r s' => r = .ok (.ret (.bool true)) ∧ OldK s₁.heap s'.heap ∧ s'.os = s₁.os ∧ AllBare s'.gens) s₁ := by
  have small : ns.length ≤ sizeLine := by
    rw [sizeLine_eq]
    omega
  have same := whole.length
  cases q : K.lookup a with
  | some o =>
    have e := KX a o q
    rw [here] at e
    cases e
    exact law_one (H := fun _ => none) KX glob blt boot lim gens here room F bind (.inr ⟨_, vs.toArray, _, q, rfl, rfl, rfl, by rw [List.size_toArray, same]; exact small, by simpa using vals_ints whole⟩) short (fun b u z => nomatch z) (fun b u z => nomatch z)
  | none =>
    let H : Hp := upd (fun _ => none) a (.frz { cls := .type "list", data := .seq vs.toArray } (.lst (ns.map V.int)))
    have only : ∀ b u, H b = some u → b = a ∧ u = .frz { cls := .type "list", data := .seq vs.toArray } (.lst (ns.map V.int)) := by
      intro b u z
      by_cases e : b = a
      · subst e
        exact ⟨rfl, (Option.some.inj (upd_same.symm.trans z)).symm⟩
      · have z' := (upd_ne (H := fun _ => none) (o := .frz { cls := .type "list", data := .seq vs.toArray } (.lst (ns.map V.int))) e).symm.trans z
        cases z'
    refine law_one (H := H) KX glob blt boot lim gens here room F bind (.inl (.inr ⟨_, upd_same⟩)) short (fun b u z => ?_) (fun b u z => ?_)
    · obtain ⟨rfl, rfl⟩ := only b u z
      exact ⟨here, by rw [List.length_map]; exact small, vs, _, vals_ints whole, here⟩
    · obtain ⟨rfl, rfl⟩ := only b u z
      exact ⟨rfl, q, _, rfl⟩
end
theorem walk_ofG {l : PySem.W.OpenLaw} {k : Nat} {q : Program} {loose : List Str} {XP : (Str → Option Value) → Heap → Prop} {YP : World → Heap → Prop} {d : DefRec} {K : Params → PySem.W.Frag} {x : Str}
    (most : l.most = some 63) (plain : d.params.defaults = []) (room : Room k callerA) (hY : ∀ (w : World) (h : Heap), YP w h → (K w.params).In h)
    (F : ∀ (w : World) (mg : Str → Option Value) (fa : Addr) (h : Heap), (K w.params).In h → h.Ns mainGlobals mg → mg d.name = some (.ref fa) →
      ∃ fd : FuncData, (∀ (s : Shared) (u : Value), BindsTo s fd ⟨[u], []⟩ [(x, u)]) ∧ ∀ base : Heap, (K w.params).In base → base.Ns mainGlobals mg → FnG l.prog w (K w.params) mg base CX0 k fa fd [x] (spLaw (K w.params))) :
    PySem.W.WalkO q loose XP YP l.row.toRowW d [] (fun f vs => PySem.call f vs) := by
  refine Att.attach_call most plain fun w s₀ s₁ mg mb fa o pm cd doc a vs ns G Y ho hd hcd hmg here whole short gens => ?_
  obtain ⟨fd, bind, hF⟩ := F w mg fa _ (hY w _ Y) G.T.g hmg
  exact law_callG (hY w _ Y) G.T.g G.T.b G.T.builtins G.T.nolimit gens here whole short room hF bind
end Vf
namespace Vf
open PySem L2 PyProof.Rows PySem.Spec
/-! ## walks over known items -/
structure Steps (J : It) (xs : List V) (G : Hp → Prop) : Prop where
  stop : ∀ H, G H → J.stop xs.length H
  go : ∀ i H, i < xs.length → G H → J.go i H
  yld : ∀ i H x H', i < xs.length → G H → J.yld i H x H' → xs[i]? = some x ∧ H' = H
theorem steps_list (K : PySem.W.Frag) (a : Addr) (xs : List V) : Steps (Itl K a) xs (fun H => SqL K H a xs) where
  stop := fun H g => ⟨xs, g, Nat.le_refl _⟩
  go := fun i H h g => ⟨xs, xs[i], g, by simp [h]⟩
  yld := fun i H x H' h g y => by
    obtain ⟨e, f⟩ := y
    exact ⟨f xs g, e⟩
theorem steps_tup (K : PySem.W.Frag) (a : Addr) (xs : List V) : Steps (Itt K a) xs (fun H => SqT K H a xs) where
  stop := fun H g => ⟨xs, g, Nat.le_refl _⟩
  go := fun i H h g => ⟨xs, xs[i], g, by simp [h]⟩
  yld := fun i H x H' h g y => by
    obtain ⟨e, f⟩ := y
    exact ⟨f xs g, e⟩
def signs (z : Str) : List V := z.cps.toList.map fun c => .str ⟨#[c]⟩
theorem signs_len (z : Str) : (signs z).length = z.cps.size := by simp [signs]
theorem steps_str (z : Str) : Steps (Its z) (signs z) (fun _ => True) where
  stop := fun H g => by
    show z.cps.size ≤ _
    rw [signs_len]
    exact Nat.le_refl _
  go := fun i H h g => by
    rw [signs_len] at h
    exact h
  yld := fun i H x H' h g y => by
    obtain ⟨e, c, hc, rfl⟩ := y
    refine ⟨?_, e⟩
    unfold signs
    rw [List.getElem?_map, Array.getElem?_toList, hc]
    rfl
def wholes (lo : Int) (n : Nat) : List V := (List.range n).map fun i => .int (lo + (i : Nat))
theorem wholes_len (lo : Int) (n : Nat) : (wholes lo n).length = n := by simp [wholes]
theorem steps_range (lo : Int) (n : Nat) : Steps (Itr lo n) (wholes lo n) (fun _ => True) where
  stop := fun H g => by
    show n ≤ _
    rw [wholes_len]
    exact Nat.le_refl _
  go := fun i H h g => by
    rw [wholes_len] at h
    exact h
  yld := fun i H x H' h g y => by
    rw [wholes_len] at h
    obtain ⟨e, rfl⟩ := y
    refine ⟨?_, e⟩
    unfold wholes
    rw [List.getElem?_map, List.getElem?_range h]
    rfl
section
variable {J : It} {xs : List V} {G : Hp → Prop} {D : Ends} {σ : L2.St} {H : Hp} {tb : TS} {g : TG}
/-- a for over known items -/
theorem for_steps (S : Steps J xs G) (Pv : Nat → L2.St → Hp → Prop) (h0 : Pv 0 σ H) (hl : ∀ i σ H, i ≤ xs.length → Pv i σ H → G H)
    (hs : ∀ i x σ H, xs[i]? = some x → Pv i σ H → g x σ H fun σ2 H2 => tb { D with nx := Pv (i + 1), ct := Pv (i + 1), bk := D.nx } σ2 H2) (hd : ∀ σ H, Pv xs.length σ H → D.nx σ H) :
    ∃ W : Nat → Nat → L2.St → Hp → Prop, (∃ m, W 0 m σ H) ∧ ∀ i m σ H, W i m σ H → (J.stop i H ∧ D.nx σ H) ∨
      (J.go i H ∧ ∃ N : L2.St → Hp → Prop, (∀ σ' H', N σ' H' → ∃ m', m' < m ∧ W (i + 1) m' σ' H') ∧ ∀ x H', J.yld i H x H' → g x σ H' fun σ2 H2 => tb { D with nx := N, ct := N, bk := D.nx } σ2 H2) := by
  refine ⟨fun i m σ H => i + m = xs.length ∧ Pv i σ H, ⟨xs.length, Nat.zero_add _, h0⟩, ?_⟩
  rintro i m σ H ⟨em, p⟩
  have gH := hl i σ H (by omega) p
  cases m with
  | zero =>
    have e : i = xs.length := by omega
    subst e
    exact .inl ⟨S.stop H gH, hd σ H p⟩
  | succ m =>
    have hi : i < xs.length := by omega
    refine .inr ⟨S.go i H hi gH, Pv (i + 1), fun σ' H' p' => ⟨m, Nat.lt_succ_self _, by omega, p'⟩, fun x H' y => ?_⟩
    obtain ⟨ex, rfl⟩ := S.yld i H x H' hi gH y
    exact hs i x σ _ ex p
variable {j : Nat} {tt : TT} {te : TE} {vs : List Nat} {L : Addr} {Qd : Hp → Prop}
/-- a comprehension over known items -/
theorem lc_steps (S : Steps J xs G) (Pv : Nat → Hp → Prop) (h0 : Pv 0 (upd H L (.lst []))) (hl : ∀ i H, i ≤ xs.length → Pv i H → G H)
    (hs : ∀ i x H, xs[i]? = some x → Pv i H → g x (wipe σ vs) H fun σ2 H2 => wipe σ2 vs = wipe σ vs ∧ tt σ2 H2 fun b H3 =>
      if b = true then te σ2 H3 fun y H4 => ∃ acc, H4 L = some (.lst acc) ∧ acc.length < sizeLine ∧ Pv (i + 1) (upd H4 L (.lst (acc ++ [y]))) else Pv (i + 1) H3) (hd : ∀ H, Pv xs.length H → Qd H) :
    ∃ W : Nat → Nat → Hp → Prop, (∃ m, W 0 m (upd H L (.lst []))) ∧ ∀ i m H, W i m H → (J.stop i H ∧ Qd H) ∨
      (J.go i H ∧ ∃ Nx : Hp → Prop, (∀ H', Nx H' → ∃ m', m' < m ∧ W (i + 1) m' H') ∧ ∀ x H', J.yld i H x H' → g x (wipe σ vs) H' fun σ2 H2 => wipe σ2 vs = wipe σ vs ∧ tt σ2 H2 fun b H3 =>
        if b = true then te σ2 H3 fun y H4 => ∃ acc, H4 L = some (.lst acc) ∧ acc.length < sizeLine ∧ Nx (upd H4 L (.lst (acc ++ [y]))) else Nx H3) := by
  refine ⟨fun i m H => i + m = xs.length ∧ Pv i H, ⟨xs.length, Nat.zero_add _, h0⟩, ?_⟩
  rintro i m H ⟨em, p⟩
  have gH := hl i H (by omega) p
  cases m with
  | zero =>
    have e : i = xs.length := by omega
    subst e
    exact .inl ⟨S.stop H gH, hd H p⟩
  | succ m =>
    have hi : i < xs.length := by omega
    refine .inr ⟨S.go i H hi gH, Pv (i + 1), fun H' p' => ⟨m, Nat.lt_succ_self _, by omega, p'⟩, fun x H' y => ?_⟩
    obtain ⟨ex, rfl⟩ := S.yld i H x H' hi gH y
    exact hs i x _ ex p
/-- .. whose test and element change nothing -/
theorem lc_pure (S : Steps J xs G) (p : V → Bool) (f : V → V) (hG : ∀ acc, G (upd H L (.lst acc))) (hz : xs.length ≤ sizeLine) (hw : ∀ x, wipe ((wipe σ vs).set j (some x)) vs = wipe σ vs)
    (ht : ∀ x ∈ xs, ∀ (acc : List V) (R : Bool → Hp → Prop), R (p x) (upd H L (.lst acc)) → tt ((wipe σ vs).set j (some x)) (upd H L (.lst acc)) R)
    (he : ∀ x ∈ xs, p x = true → ∀ (acc : List V) (R : VK), R (f x) (upd H L (.lst acc)) → te ((wipe σ vs).set j (some x)) (upd H L (.lst acc)) R) (hd : Qd (upd H L (.lst ((xs.filter p).map f)))) :
    ∃ W : Nat → Nat → Hp → Prop, (∃ m, W 0 m (upd H L (.lst []))) ∧ ∀ i m H, W i m H → (J.stop i H ∧ Qd H) ∨
      (J.go i H ∧ ∃ Nx : Hp → Prop, (∀ H', Nx H' → ∃ m', m' < m ∧ W (i + 1) m' H') ∧ ∀ x H', J.yld i H x H' → gName j x (wipe σ vs) H' fun σ2 H2 => wipe σ2 vs = wipe σ vs ∧ tt σ2 H2 fun b H3 =>
        if b = true then te σ2 H3 fun y H4 => ∃ acc, H4 L = some (.lst acc) ∧ acc.length < sizeLine ∧ Nx (upd H4 L (.lst (acc ++ [y]))) else Nx H3) := by
  refine lc_steps S (fun i H' => H' = upd H L (.lst (((xs.take i).filter p).map f))) rfl (fun i H' _ e => e ▸ hG _) (fun i x H' hx e => ?_) (fun H' e => ?_)
  · subst e
    have hi : i < xs.length := (List.getElem?_eq_some_iff.mp hx).1
    have hm := List.mem_of_getElem? hx
    refine ⟨hw x, ht x hm _ _ ?_⟩
    have et : xs.take (i + 1) = xs.take i ++ [x] := by rw [List.take_add_one, hx]; rfl
    have hlen : (((xs.take i).filter p).map f).length < sizeLine := by
      rw [List.length_map]
      have h1 := List.length_filter_le p (xs.take i)
      rw [List.length_take] at h1
      omega
    cases hp : p x with
    | true =>
      rw [if_pos rfl]
      refine he x hm hp _ _ ⟨_, upd_same, hlen, ?_⟩
      rw [upd_upd, et, List.filter_append, List.map_append]
      simp [hp]
    | false =>
      rw [if_neg (by decide), et, List.filter_append, List.map_append]
      simp [hp]
  · subst e
    rw [List.take_length]
    exact hd
end
theorem same_upd {H : Hp} {p : Addr} {o : HO} (h : H p = none) : Same H (upd H p o) := fun b u e => by
  rw [upd_ne (ne_of_none e h)]
  exact e
theorem seqL_upd {K : PySem.W.Frag} {H : Hp} {p a : Addr} {o : HO} {xs : List V} (h : H p = none) (s : SqL K H a xs) : SqL K (upd H p o) a xs := (same_upd h).seq s
end Vf
namespace Vf
open PySem L2 PyProof.Rows PySem.Spec
/-! ## a text beside a dict; a thing of any kind in a row of texts -/
theorem str_dict_no (b : Str) (u : Tok) (l : Addr) (es : Array DictEntry) (n : Nat) (dd : Option Addr) (sl : Array (Option Value)) :
    Meets (Builtin.«str.__eq__» ⟨[.str b u, .ref l], []⟩) (fun _ R s => s.heap.get? l = some { cls := .type "dict", dict := dd, data := .dict es n, slots := sl } ∧ R (.ok (.ret .notImplemented)) s) :=
  .of_wp fun prog w A R s h => by
    obtain ⟨hp, g, d, tk, os⟩ := s
    obtain ⟨hl, h⟩ := h
    wp_walk using wpAny_load hl
    exact ⟨_, rfl, h⟩
theorem dict_str_no (b : Str) (u : Tok) (l : Addr) (es : Array DictEntry) (n : Nat) (dd : Option Addr) (sl : Array (Option Value)) :
    Meets (Builtin.«dict.__eq__» ⟨[.ref l, .str b u], []⟩) (fun _ R s => s.heap.get? l = some { cls := .type "dict", dict := dd, data := .dict es n, slots := sl } ∧ R (.ok (.ret .notImplemented)) s) :=
  .of_wp fun prog w A R s h => by
    obtain ⟨hp, g, d, tk, os⟩ := s
    obtain ⟨hl, h⟩ := h
    have f1 := F.sub_str_dict
    wp_walk using wpAny_load hl
    exact ⟨_, rfl, h⟩
theorem rc_str_dict {A : Around} {s : Shared} {l : Addr} {o : Obj} {es : Array DictEntry} {n : Nat} (b : Str) (u : Tok) (ho : s.heap.get? l = some o) (hc : o.cls = .type "dict") (hd : o.data = .dict es n) (hu : A.units < cLine) : SeqAt.RcAt A s (.str b u) (.ref l) false := fun prog w E Q h => by
  obtain ⟨cls, dd, data, sl⟩ := o
  simp only at hc hd
  subst hc hd
  exact SeqAt.rc_eq_decline_or (k := false) (typeIs_str s b u) ⟨_, ho, rfl⟩ (by decide) F.sub_dict_str F.slot_str_eq F.slot_dict_eq
    (fun _ z => call_meets F.slot_str_eq (typeIs_str s b u) F.entry_str_eq (F.args_str_eq_2 _ _) (str_dict_no b u l es n dd sl) ⟨ho, z⟩)
    (fun _ z => call_meets F.slot_dict_eq ⟨_, ho, rfl⟩ F.entry_dict_eq (F.args_dict_eq_2 _ _) (dict_str_no b u l es n dd sl) ⟨ho, z⟩)
    (fun _ z => wpAny_of_eq (rfl : isSame (.str b u) (.ref l) = pure false) z) (.inr hu) h
theorem eq_str_dict {A : Around} {s : Shared} {l : Addr} {o : Obj} {es : Array DictEntry} {n : Nat} (b : Str) (u : Tok) (ho : s.heap.get? l = some o) (hc : o.cls = .type "dict") (hd : o.data = .dict es n) (hu : A.units < cLine) : SeqAt.EqAt A s (.str b u) (.ref l) false := fun prog w E Q h => by
  unfold eqBool
  exact wpAny_holding (wpAny_ite_split (fun z => absurd (eq_of_beq z) nofun) fun _ => wpAny_bind (rc_str_dict b u ho hc hd hu prog w E _ (wpAny_truthy_bool h)))
/-- is it one of these texts -/
def among (l : List Str) (x : V) : Bool := match x with
  | .str s => decide (s ∈ l)
  | _ => false
/-- what it is: any data but a float, bytes, a class -/
def Thing (H : Hp) (x : V) : Prop := match x with
  | .non | .bl _ | .int _ | .str _ => True
  | .ref a => (∃ xs, H a = some (.lst xs)) ∨ (∃ xs, H a = some (.tup xs)) ∨ ∃ kvs, H a = some (.dK kvs)
  | _ => False
theorem Dv.thing {H : Hp} {x : V} {d : PyData} (h : Dv H x d) : Thing H x := by
  cases h with
  | lst e _ => exact .inl ⟨_, e⟩
  | tup e _ => exact .inr (.inl ⟨_, e⟩)
  | dic e _ => exact .inr (.inr ⟨_, e⟩)
  | _ => trivial
section
variable {X : Cx} {s : Shared} {H : Hp} {σ : L2.St} {pins : List (Addr × Obj)}
/-- is it this text -/
def isT (x : V) (b : Str) : Bool := match x with
  | .str y => b == y
  | _ => false
def isTv (x : V) (z : Value) : Bool := match z with
  | .str b _ => isT x b
  | _ => false
theorem eq_text (I : Inv X pins σ H s) {A : Around} (hu : A.units < cLine) {x : V} {v : Value} (rx : RelV x v) (t : Thing H x) (b : Str) (k : Tok) : SeqAt.EqAt A s (.str b k) v (isT x b) := by
  cases x with
  | non => cases rx; exact SeqAt.EqAt.str_none b k
  | bl c => cases rx; exact SeqAt.EqAt.str_bool b k c
  | int i =>
    obtain ⟨u, rfl⟩ := rx
    exact SeqAt.EqAt.str_int b k i u
  | str y =>
    obtain ⟨u, rfl⟩ := rx
    exact SeqAt.EqAt.str_str b k y u
  | ref a =>
    cases rx
    rcases t with ⟨xs, e⟩ | ⟨xs, e⟩ | ⟨kvs, e⟩
    · obtain ⟨its, r, p, z⟩ := I.list (SqL.of (K := X.K) e)
      exact SeqAt.EqAt.str_list b k p.isList hu
    · obtain ⟨its, r, p, z⟩ := I.tuple (SqT.of (K := X.K) e)
      exact SeqAt.EqAt.str_tuple b k p hu
    · obtain ⟨_, _, vs, kv, o, es, ep, ho, ⟨hc, _⟩, hd, _⟩ : ObjOk X.prog X.w H s.heap a (.dK kvs) := I.hok a _ e
      exact eq_str_dict b k ho hc hd hu
  | byt _ => exact t.elim
  | flt _ => exact t.elim
  | ty _ => exact t.elim
theorem str_of_vals : ∀ {l : List Str} {us : List Value} {z : Value}, Vals (l.map V.str) us → z ∈ us → ∃ b k, z = Value.str b k
  | [], _, _, .nil, h => absurd h List.not_mem_nil
  | b :: l, _, z, .cons r rs, h => by
    rcases List.mem_cons.mp h with e | h
    · obtain ⟨t, rfl⟩ := r
      exact ⟨b, t, e⟩
    · exact str_of_vals rs h
def rInT (K : PySem.W.Frag) (neg : Bool) : R2 := fun x y H Q => ∃ (p : Addr) (l : List Str), y = .ref p ∧ SqT K H p (l.map V.str) ∧ Thing H x ∧ Q (.bl (neg ^^ among l x)) H
theorem any_texts (x : V) (f : Value → Bool) (hf : ∀ b t, f (.str b t) = isT x b) : ∀ (l : List Str) (us : List Value), Vals (l.map V.str) us → us.any f = among l x
  | [], _, .nil => by
    unfold among
    cases x <;> simp
  | b :: l, _, .cons r rs => by
    obtain ⟨t, rfl⟩ := r
    rw [List.any_cons, any_texts x f hf l _ rs, hf]
    unfold among isT
    cases x with
    | str y =>
      by_cases e : b = y
      · subst e; simp
      · have e' : ¬ y = b := fun z => e z.symm
        simp [e, e']
    | _ => simp
theorem opInT (hu : X.A.units + 1 < cLine) : OpR X (compareOp .In) (rInT X.K false) := by
  intro pins s σ H x y v u Q I rx ry h
  obtain ⟨p, l, rfl, hs, t, q⟩ := h
  cases ry
  obtain ⟨its, r, pl, hz⟩ := I.tuple hs
  refine SeqAt.in_tupleAt (isTv x) pl (fun z hz' => ?_) ⟨.bl _, H, I, rfl, ?_⟩
  · obtain ⟨b, k, rfl⟩ : ∃ b k, z = Value.str b k := str_of_vals r (by simpa using hz')
    exact eq_text I (A := X.A.in1) hu rx t b k
  · have e : its.toArray.any (isTv x) = among l x := by
      rw [List.any_toArray]
      exact any_texts x (isTv x) (fun _ _ => rfl) l its r
    rw [e]
    simpa using q
theorem opNotInT (hu : X.A.units + 1 < cLine) : OpR X (compareOp .NotIn) (rInT X.K true) := by
  intro pins s σ H x y v u Q I rx ry h
  obtain ⟨p, l, rfl, hs, t, q⟩ := h
  cases ry
  obtain ⟨its, r, pl, hz⟩ := I.tuple hs
  refine SeqAt.notIn_tupleAt (isTv x) pl (fun z hz' => ?_) ⟨.bl _, H, I, rfl, ?_⟩
  · obtain ⟨b, k, rfl⟩ : ∃ b k, z = Value.str b k := str_of_vals r (by simpa using hz')
    exact eq_text I (A := X.A.in1) hu rx t b k
  · have e : its.toArray.any (isTv x) = among l x := by
      rw [List.any_toArray]
      exact any_texts x (isTv x) (fun _ _ => rfl) l its r
    rw [e]
    simpa using q
/-- a tuple beside an empty tuple -/
def rEqE (K : PySem.W.Frag) : R2 := fun x y H Q => ∃ (a b : Addr) (xs : List V), x = .ref a ∧ y = .ref b ∧ SqT K H a xs ∧ SqT K H b [] ∧ Q (.bl xs.isEmpty) H
theorem opEqE (hu : X.A.units < cLine) : OpR X (compareOp .Eq) (rEqE X.K) := by
  intro pins s σ H x y v u Q I rx ry h
  obtain ⟨a, b, xs, rfl, rfl, h1, h2, q⟩ := h
  cases rx
  cases ry
  obtain ⟨its, r, p, -⟩ := I.tuple h1
  obtain ⟨its2, r2, p2, -⟩ := I.tuple h2
  cases r2
  refine SeqAt.eq_tupleAt (e := fun _ => true) p p2 hu (fun j _ h2 => absurd h2 (Nat.not_lt_zero _)) ⟨.bl _, H, I, rfl, ?_⟩
  have e : ((List.range (min its.toArray.size ([] : List Value).toArray.size)).all (fun _ => true) && its.toArray.size == ([] : List Value).toArray.size) = xs.isEmpty := by
    have e0 : ((List.range (min its.toArray.size ([] : List Value).toArray.size)).all (fun _ => true)) = true := List.all_eq_true.mpr fun _ _ => rfl
    rw [e0, Bool.true_and]
    cases r with
    | nil => rfl
    | cons _ _ => rfl
  rw [e]
  exact q
variable {K : PySem.W.Frag}
theorem aInT (e : X.K = K) (hu : X.A.units + 64 < cLine) : OpR X (compareOp .In) (rInT K false) := e ▸ opInT (by omega)
theorem aNotInT (e : X.K = K) (hu : X.A.units + 64 < cLine) : OpR X (compareOp .NotIn) (rInT K true) := e ▸ opNotInT (by omega)
theorem aEqE (e : X.K = K) (hu : X.A.units + 64 < cLine) : OpR X (compareOp .Eq) (rEqE K) := e ▸ opEqE (by omega)
end
end Vf
namespace Vf
open PySem L2 PyProof.Rows PySem.Spec
/-! ## a list grown by a tuple; a written dict of the module -/
theorem extend_tuple (l : Addr) (items : Array Value) (n : Nat) (b : Addr) (items2 : Array Value) (n2 : Nat) (dd : Option Addr) (sl : Array (Option Value)) (hs0 : ¬(!items.isEmpty && Builtin.List.listTooLong (items.size + items2.size)) = true) (hs1 : items.size ≤ sizeLine) (hs2 : items.size + items2.size ≤ sizeLine + 1) :
    Meets (Builtin.«list.extend» ⟨[.ref l, .ref b], []⟩) (fun _ R s => s.heap.get? l = some { cls := .type "list", dict := none, data := .seq items n, slots := #[] } ∧ s.heap.get? b = some { cls := .type "tuple", dict := dd, data := .seq items2 n2, slots := sl } ∧ R (.ok (.ret Value.none)) { s with heap := s.heap.update l (Obj.mapSeq fun x => x ++ items2), toks := s.toks }) :=
  .of_wp fun prog w A R s h => by
    obtain ⟨hp, g, d, tk, os⟩ := s
    obtain ⟨hl, hb, h⟩ := h
    have f2 := F.sub_tuple_tuple
    have f3 := F.sub_list_list
    have f4 := F.sub_tuple_list
    have f5 := F.sub_list_tuple
    have hz' : (items ++ items2).size ≤ sizeLine + 1 := by rw [Array.size_append]; exact hs2
    wp_walk using (wpAny_updateSeq hl rfl (hz := hs1) (_hz' := hz')), wpAny_loadPart' hl, wpAny_loadPart' hb
    exact ⟨_, rfl, h⟩
section
variable {X : Cx}
def rExtendT (K : PySem.W.Frag) : V → List V → Hp → VK → Prop := fun x vs H Q => ∃ l b xs zs, x = .ref l ∧ vs = [.ref b] ∧ H l = some (.lst xs) ∧ SqT K H b zs ∧ xs.length + zs.length ≤ sizeLine ∧ Q .non (upd H l (.lst (xs ++ zs)))
theorem mt_extendT : MtM X "list.extend" (rExtendT X.K) := by
  intro pins s σ H x vs v us Q I rx rv h
  obtain ⟨l, b, xs, zs, rfl, rfl, hH, hB, hz, q⟩ := h
  cases rx
  obtain ⟨u, rfl, ru⟩ := rv.one
  cases ru
  obtain ⟨z, its, n, r, hl, e⟩ := I.lstM hH
  obtain ⟨its2, r2, p2, hz2⟩ := I.tuple hB
  obtain ⟨⟨cls, dd, data, sl⟩, e2, hc, n2, hd⟩ := p2
  simp only at hc hd
  subst hc hd
  have hl2 := r2.length
  have hsz : its.toArray.size + its2.toArray.size ≤ sizeLine := by rw [List.size_toArray, List.size_toArray]; omega
  have hlong : ¬ (!its.toArray.isEmpty && Builtin.List.listTooLong (its.toArray.size + its2.toArray.size)) = true := by
    rw [notLongL hsz, Bool.and_false]
    exact Bool.false_ne_true
  refine call_meets F.slot_list_extend ⟨_, e, rfl⟩ F.entry_list_extend (F.args_list_extend_2 _ _)
    (extend_tuple l its.toArray n b its2.toArray n2 dd sl hlong (by rw [List.size_toArray]; omega) (by omega)) ⟨e, e2, ?_⟩
  refine ⟨.non, _, I.lset (its' := its ++ its2) hH e (by simp) (r.append r2) ?_, rfl, q⟩
  rw [List.length_append]
  omega
theorem aExtendT {K : PySem.W.Frag} (e : X.K = K) : MtM X "list.extend" (rExtendT K) := e ▸ mt_extendT
/-- a text among the keys of a written dict of the module; f: what is at each -/
structure Cnt (K : PySem.W.Frag) (w : World) (d : Addr) (f : Str → Option Int) : Prop where
  ex : ∃ es n, KDict K w d es n
  at_ : ∀ z : Str, ∃ r : Option Value, PySem.W.nsIn K d z = some r ∧ RelO ((f z).map V.int) r
variable {K : PySem.W.Frag} {w : World} {d : Addr} {f : Str → Option Int}
def rInK (d : Addr) (f : Str → Option Int) (neg : Bool) : R2 := fun x y H Q => ∃ z : Str, x = .str z ∧ y = .ref d ∧ Q (.bl (neg ^^ (f z).isSome)) H
theorem relO_some {g : Option V} {r : Option Value} (h : RelO g r) : r.isSome = g.isSome := by
  cases g <;> cases r <;> first | rfl | exact h.elim
theorem aInK (D : Cnt X.K X.w d f) : OpR X (compareOp .In) (rInK d f false) := by
  obtain ⟨es, n, k⟩ := D.ex
  intro pins s σ H x y v u Q I rx ry ⟨z, ex, ey, q⟩
  obtain ⟨r, e, ro⟩ := D.at_ z
  refine op_in_kd k pins s σ H x y v u Q I rx ry ⟨z, r, ex, ey, e, ?_⟩
  rw [relO_some ro]
  simpa using q
theorem aNotInK (D : Cnt X.K X.w d f) : OpR X (compareOp .NotIn) (rInK d f true) := by
  obtain ⟨es, n, k⟩ := D.ex
  intro pins s σ H x y v u Q I rx ry ⟨z, ex, ey, q⟩
  obtain ⟨r, e, ro⟩ := D.at_ z
  refine op_notIn_kd k pins s σ H x y v u Q I rx ry ⟨z, r, ex, ey, e, ?_⟩
  rw [relO_some ro]
  simpa using q
def rIxK (d : Addr) (f : Str → Option Int) : R2 := fun x y H Q => ∃ (z : Str) (i : Int), x = .ref d ∧ y = .str z ∧ f z = some i ∧ Q (.int i) H
theorem aIxK (D : Cnt X.K X.w d f) : IxR X (rIxK d f) := by
  obtain ⟨es, n, k⟩ := D.ex
  intro value slice pins s σ H x y v u Q I rx ry ⟨z, i, ex, ey, ef, q⟩ hs
  obtain ⟨r, e, ro⟩ := D.at_ z
  rw [ef] at ro
  cases r with
  | none => exact ro.elim
  | some r => exact ix_kdict value slice pins s σ H x y v u Q I rx ry ⟨d, z, .int i, ex, ey, ⟨es, n, r, k.at_, k.lit, e, ro⟩, q⟩ hs
/-- a cut of a tuple, told in one way -/
def rSlU (K : PySem.W.Frag) : V → Option Int → Option Int → Hp → VK → Prop := fun x lo hi H Q => ∃ a xs, x = .ref a ∧ SqT K H a xs ∧ ∀ (p : Addr) (H' : Hp), Same H H' → SqT K H' p (cutV xs lo hi) → Q (.ref p) H'
theorem slU : SlR X (rSlU X.K) := by
  intro pins s σ H x v vl vu lo hi sl Q I rx hs pl pu h
  obtain ⟨a, xs, rfl, hx, q⟩ := h
  refine sl_tupA pins s σ H _ v vl vu lo hi sl Q I rx hs pl pu ⟨a, xs, rfl, hx, fun e => q a H (Same.refl H) ?_, fun _ p hp => q p _ (same_upd hp) (.of upd_same)⟩
  unfold cutV
  rw [e.1, e.2, List.drop_zero, Nat.sub_zero, List.take_of_length_le (Nat.le_refl _)]
  exact hx
theorem aSlU {K : PySem.W.Frag} (e : X.K = K) : SlR X (rSlU K) := e ▸ slU
def rCatU (K : PySem.W.Frag) : R2 := fun x y H Q => ∃ a b xs ys, x = .ref a ∧ y = .ref b ∧ SqT K H a xs ∧ SqT K H b ys ∧ xs.length + ys.length ≤ sizeLine ∧ ∀ (p : Addr) (H' : Hp), Same H H' → SqT K H' p (xs ++ ys) → Q (.ref p) H'
theorem opCatU : OpR X (binaryOp .Add) (rCatU X.K) := by
  intro pins s σ H x y v u Q I rx ry h
  obtain ⟨a, b, xs, ys, rfl, rfl, h1, h2, l, q⟩ := h
  refine op_catA pins s σ H _ _ v u Q I rx ry ⟨a, b, xs, ys, rfl, rfl, h1, h2, l, fun e => q b H (Same.refl H) ?_, fun _ e => q a H (Same.refl H) ?_, fun _ _ p hp => q p _ (same_upd hp) (.of upd_same)⟩
  · subst e
    exact h2
  · subst e
    rw [List.append_nil]
    exact h1
theorem aCatU {K : PySem.W.Frag} (e : X.K = K) : OpR X (binaryOp .Add) (rCatU K) := e ▸ opCatU
end
end Vf
namespace Vf
open PySem L2 PyProof.Rows PySem.Spec
/-! ## repr of data with dicts anywhere; the law's end, where it is known that the table of modules stands at its place -/
def SysAt (base : Heap) : Prop := ∃ o, base.get? sysModules = some o
section
variable {X : Cx} {s : Shared} {H : Hp} {σ : L2.St} {pins : List (Addr × Obj)}
def rReprS : List V → Hp → VK → Prop := fun xs H Q => ∃ x d, xs = [x] ∧ Dv H x d ∧ d.showable = true ∧ d.depth ≤ 60 ∧ d.shown.length ≤ sizeLine ∧ Q (.str d.shown) H
theorem call_reprS (hb : SysAt X.base) (hg : X.A.guards = some []) (hu : X.A.units + 64 < cLine) : CallR X (.builtin "repr") rReprS := by
  intro pins s σ H xs us Q I rr h
  obtain ⟨x, d, rfl, hd, hs, hp, hz, q⟩ := h
  obtain ⟨u, rfl, rx⟩ := vals1 rr
  have fin : ∀ (h' : Heap) (t k : Tok), (∀ b o, s.heap.get? b = some o → h'.get? b = some o) → EP X pins σ Q (.str d.shown t) { s with heap := h', toks := k } := fun h' t k kp =>
    ⟨.str d.shown, H, I.kept kp, ⟨t, rfl⟩, q⟩
  obtain ⟨as, rd, hm⟩ : ∃ as, Reads s.heap u d as ∧ (d.hasDict = true → sysModules ∉ as) := by
    obtain ⟨as, rd, h⟩ := Dv.read I hd u rx
    refine ⟨as, rd, fun _ m => h _ m ?_⟩
    obtain ⟨o, e⟩ := hb
    exact (I.bs _ _ e).2
  cases rd with
  | none =>
    simp only [PyData.shown] at fin
    exact PySem.P.repr_of_none (fin _ _ _ fun _ _ e => e)
  | bool b =>
    simp only [PyData.shown] at fin
    exact PySem.P.repr_of_bool (fin _ _ _ fun _ _ e => e)
  | int i t =>
    simp only [PyData.shown] at fin
    exact PySem.P.repr_of_int (by simpa [PyData.showable] using hs) (fin _ _ _ fun _ _ e => e)
  | str y t =>
    simp only [PyData.shown] at fin hz
    exact PySem.P.repr_of_str (fin _ _ _ fun _ _ e => e) hz
  | list h1 h2 h3 h4 => exact repr_of_reads' (.list h1 h2 h3 h4) hs hm hg (by omega) (fun _ _ e => e) fin hz
  | tuple h1 h2 h3 h4 => exact repr_of_reads' (.tuple h1 h2 h3 h4) hs hm hg (by omega) (fun _ _ e => e) fin hz
  | dict h1 h2 h3 h4 h5 => exact repr_of_reads' (.dict h1 h2 h3 h4 h5) hs hm hg (by omega) (fun _ _ e => e) fin hz
end
section
variable {P : Program} {w : World} {K : PySem.W.Frag} {mg mb : Str → Option Value} {k : Nat} {fa a : Addr} {fd : FuncData} {x : Str} {s₁ : Shared} {vs : List Value} {ns : List Int}
/-- over one abstract heap, in which the script alone may be tracked -/
theorem law_oneS {H : Hp} (KX : K.In s₁.heap) (glob : s₁.heap.Ns mainGlobals mg) (blt : s₁.heap.Ns builtinsNs mb) (boot : ∀ x : Str, x ≠ "__name__" → mb x = bootBuiltins x) (lim : s₁.heap.NoLimit) (seer : s₁.heap.NoSeer) (gens : s₁.gens = #[])
    (here : s₁.heap.get? a = some { cls := .type "list", data := .seq vs.toArray }) (room : Room k callerA) (F : ∀ base : Heap, K.In base → base.Ns mainGlobals mg → SysAt base → FnG P w K mg base CX0 k fa fd [x] (spLaw K))
    (bind : ∀ (s : Shared) (u : Value), BindsTo s fd ⟨[u], []⟩ [(x, u)]) (sq : SqL K H a (ns.map V.int)) (short : ns.length ≤ 63) (hok : HOk P w H s₁.heap) (only : ∀ b u, H b = some u → b = a ∧ K.lookup a = none ∧ ∃ xs, u = .frz { cls := .type "list", data := .seq vs.toArray } (.lst xs)) :
    codeAny (model P w) callerA (.call (.ref fa) ⟨[.ref a], []⟩) (fun r s' => r = .ok (.ret (.bool true)) ∧ OldK s₁.heap s'.heap ∧ s'.os = s₁.os ∧ AllBare s'.gens) s₁ := by
  have clear : ∀ {b : Addr} {o : Obj} {es : Array DictEntry} {ep : Nat}, s₁.heap.get? b = some o → o.data = .dict es ep → H b = none := by
    intro b o es ep e d
    cases q : H b with
    | none => rfl
    | some u =>
      obtain ⟨rfl, -⟩ := only b u q
      rw [here] at e
      cases e
      cases d
  have space : ∀ {b : Addr} {m : Str → Option Value}, s₁.heap.Ns b m → (hidT s₁.heap H).Ns b m := by
    rintro b m ⟨o, es, ep, e, d, r⟩
    exact ⟨o, es, ep, hidT_get e (clear e d), d, r⟩
  have frag : K.In (hidT s₁.heap H) := by
    intro b o e
    refine hidT_get (KX b o e) ?_
    cases q : H b with
    | none => rfl
    | some u =>
      obtain ⟨rfl, no, -⟩ := only b u q
      rw [no] at e
      cases e
  obtain ⟨mc, l1, l2⟩ := lim
  have env : Env0 P w K mg (hidT s₁.heap H) callerA [] s₁ H :=
    { frames := rfl, mod := ⟨frag, space glob, ⟨mb, space blt, boot⟩, ⟨mc, space l1, l2⟩⟩, bs := fun b o e => of_hidT e, bsz := Nat.le_of_eq (hidT_size _ _), funs := trivial, frf := fun b z => (List.not_mem_nil z).elim, hok := hok, bare := .of_eq gens }
  refine codeAny_mono ((F _ frag (space glob) (by
    obtain ⟨ms, ⟨o, es, ep, e, d, r⟩, -⟩ := seer.mods
    exact ⟨o, hidT_get e (clear e d)⟩)).go callerA [] s₁ H ⟨[.ref a], []⟩ [.ref a] [.ref a] (fun v _ => v = .bl true) E0 rfl room env (bind s₁ (.ref a)) (.cons rfl .nil) ⟨a, ns, rfl, sq, short, fun _ => rfl⟩) fun r s' h => ?_
  rcases r with _ | fl
  · exact h.elim
  · cases fl with
    | next => exact h.elim
    | brk => exact h.elim
    | cont => exact h.elim
    | ret u =>
      obtain ⟨v, H', os, bare, un, hok', rv, ev⟩ := h
      cases ev
      cases rv
      refine ⟨rfl, .of_keep fun b o e => ?_, os, bare⟩
      cases q : H b with
      | none => exact un.keep b o e q (fun z => (List.not_mem_nil z).elim) (fun z => (List.not_mem_nil z).elim)
      | some u =>
        obtain ⟨rfl, -, xs, rfl⟩ := only b u q
        rw [here] at e
        cases e
        exact (hok' b _ (un.frzs b _ _ q)).1
theorem law_callS (KX : K.In s₁.heap) (glob : s₁.heap.Ns mainGlobals mg) (blt : s₁.heap.Ns builtinsNs mb) (boot : ∀ x : Str, x ≠ "__name__" → mb x = bootBuiltins x) (lim : s₁.heap.NoLimit) (seer : s₁.heap.NoSeer) (gens : s₁.gens = #[])
    (here : s₁.heap.get? a = some { cls := .type "list", data := .seq vs.toArray }) (whole : IntsAre vs ns) (short : ns.length ≤ 63) (room : Room k callerA) (F : ∀ base : Heap, K.In base → base.Ns mainGlobals mg → SysAt base → FnG P w K mg base CX0 k fa fd [x] (spLaw K))
    (bind : ∀ (s : Shared) (u : Value), BindsTo s fd ⟨[u], []⟩ [(x, u)]) :
    codeAny (model P w) callerA (.call (.ref fa) ⟨[.ref a], []⟩) (fun r s' => r = .ok (.ret (.bool true)) ∧ OldK s₁.heap s'.heap ∧ s'.os = s₁.os ∧ AllBare s'.gens) s₁ := by
  have small : ns.length ≤ sizeLine := by
    rw [sizeLine_eq]
    omega
  have same := whole.length
  cases q : K.lookup a with
  | some o =>
    have e := KX a o q
    rw [here] at e
    cases e
    exact law_oneS (H := fun _ => none) KX glob blt boot lim seer gens here room F bind (.inr ⟨_, vs.toArray, _, q, rfl, rfl, rfl, by rw [List.size_toArray, same]; exact small, by simpa using vals_ints whole⟩) short (fun b u z => nomatch z) (fun b u z => nomatch z)
  | none =>
    let H : Hp := upd (fun _ => none) a (.frz { cls := .type "list", data := .seq vs.toArray } (.lst (ns.map V.int)))
    have only : ∀ b u, H b = some u → b = a ∧ u = .frz { cls := .type "list", data := .seq vs.toArray } (.lst (ns.map V.int)) := by
      intro b u z
      by_cases e : b = a
      · subst e
        exact ⟨rfl, (Option.some.inj (upd_same.symm.trans z)).symm⟩
      · have z' := (upd_ne (H := fun _ => none) (o := .frz { cls := .type "list", data := .seq vs.toArray } (.lst (ns.map V.int))) e).symm.trans z
        cases z'
    refine law_oneS (H := H) KX glob blt boot lim seer gens here room F bind (.inl (.inr ⟨_, upd_same⟩)) short (fun b u z => ?_) (fun b u z => ?_)
    · obtain ⟨rfl, rfl⟩ := only b u z
      exact ⟨here, by rw [List.length_map]; exact small, vs, _, vals_ints whole, here⟩
    · obtain ⟨rfl, rfl⟩ := only b u z
      exact ⟨rfl, q, _, rfl⟩
end
theorem walk_ofS {l : PySem.W.OpenLaw} {k : Nat} {q : Program} {loose : List Str} {XP : (Str → Option Value) → Heap → Prop} {YP : World → Heap → Prop} {d : DefRec} {K : Params → PySem.W.Frag} {x : Str}
    (imp : importsNone q = true) (most : l.most = some 63) (plain : d.params.defaults = []) (room : Room k callerA) (hY : ∀ (w : World) (h : Heap), YP w h → (K w.params).In h)
    (F : ∀ (w : World) (mg : Str → Option Value) (fa : Addr) (h : Heap), (K w.params).In h → h.Ns mainGlobals mg → mg d.name = some (.ref fa) →
      ∃ fd : FuncData, (∀ (s : Shared) (u : Value), BindsTo s fd ⟨[u], []⟩ [(x, u)]) ∧ ∀ base : Heap, (K w.params).In base → base.Ns mainGlobals mg → SysAt base → FnG l.prog w (K w.params) mg base CX0 k fa fd [x] (spLaw (K w.params))) :
    PySem.W.WalkO q loose XP YP l.row.toRowW d [] (fun f vs => PySem.call f vs) := by
  refine Att.attach_call most plain fun w s₀ s₁ mg mb fa o pm cd doc a vs ns G Y ho hd hcd hmg here whole short gens => ?_
  obtain ⟨fd, bind, hF⟩ := F w mg fa _ (hY w _ Y) G.T.g hmg
  exact law_callS (hY w _ Y) G.T.g G.T.b G.T.builtins G.T.nolimit (G.T.seer imp) gens here whole short room hF bind
end Vf
namespace Vf
open PySem L2 PyProof.Rows PySem.Spec
/-! ## lists and tuples as written, the heap behind them told by what stays -/
def tWide (t : TA) : TA := fun σ H R => ∃ R0 : List V → Hp → Prop, t σ H R0 ∧ ∀ vs H1, R0 vs H1 → R vs H1
def tTupU (t : TA) : TE := fun σ H Q => t σ H fun xs H1 => xs.length ≤ sizeLine ∧ ∀ p H', Same H1 H' → H1 p = none → H' p = some (.tup xs) → Q (.ref p) H'
def tLstU (t : TA) : TE := fun σ H Q => t σ H fun xs H1 => xs.length ≤ sizeLine ∧ ∀ p H', Same H1 H' → H1 p = none → H' p = some (.lst xs) → Q (.ref p) H'
section
variable {X : Cx} {es : List Expr} {t : TA} {pos : Pos}
theorem pa_wide (h : PA X es t) : PA X es (tWide t) :=
  ⟨fun pos pins s σ H R I ⟨R0, h0, m⟩ => thn (h.run pos pins s σ H R0 I h0) fun us s1 ⟨xs, H1, I1, r, z⟩ => ⟨xs, H1, I1, r, m _ _ z⟩⟩
theorem pe_tupU {x1} (h : PA X es t) : PE X (.Tuple es x1 pos) (tTupU t) :=
  ⟨fun pins s σ H Q I hq => (pe_tup (pa_wide h)).run pins s σ H Q I ⟨_, hq, fun xs H1 ⟨z, q⟩ => ⟨z, fun p hp => q p _ (same_upd hp) hp upd_same⟩⟩⟩
theorem pe_lstU (h : PA X es t) : PE X (.List es pos) (tLstU t) :=
  ⟨fun pins s σ H Q I hq => (pe_lst (pa_wide h)).run pins s σ H Q I ⟨_, hq, fun xs H1 ⟨z, q⟩ => ⟨z, fun p hp => q p _ (same_upd hp) hp upd_same⟩⟩⟩
end
end Vf
namespace Vf
open PySem L2 PyProof.Rows PySem.Spec
/-! ## how long data is when shown: a weight that adds up -/
mutual
def wt : PyData → Nat
  | .none => 10
  | .bool _ => 10
  | .int _ => 600
  | .str x => 10 * x.length + 7
  | .list l => 10 + wtL l
  | .tuple l => 10 + wtL l
  | .dict l => 10 + wtK l
def wtL : List PyData → Nat
  | [] => 0
  | d :: l => wt d + 5 + wtL l
def wtK : List (PyData × PyData) → Nat
  | [] => 0
  | (k, v) :: l => wt k + wt v + 10 + wtK l
end
theorem join_piled : ∀ ts : List Str, (Str.join ", " ts).length ≤ piled ts
  | [] => Nat.zero_le _
  | t :: ts => by
    have := join_length_add (t :: ts) (by simp)
    omega
theorem tuple_len (ts : List Str) : (tupleText ts).length ≤ 4 + piled ts := by
  have h := join_piled ts
  unfold tupleText
  rw [strLen_append, strLen_append]
  have e1 : (Str.ofString "(").length = 1 := rfl
  have e2 : (Str.ofString (if (ts.length == 1) = true then ",)" else ")" : String)).length ≤ 2 := by
    split <;> decide +kernel
  omega
theorem dict_len (ts : List Str) : (dictText ts).length ≤ 4 + piled ts := by
  have h := join_piled ts
  unfold dictText
  rw [strLen_append, strLen_append]
  have e1 : (Str.ofString "{").length = 1 := rfl
  have e2 : (Str.ofString "}").length = 1 := rfl
  omega
theorem text_from : ∀ (ts : List Str) (k : Nat) (acc : Str), (textFrom k acc ts).length ≤ acc.length + piled ts
  | [], _, _ => Nat.le_refl _
  | t :: ts, k, acc => by
    have h := text_from ts (k + 1) (acc ++ (if k > 0 then ", " else "" : String) ++ t)
    rw [strLen_append, strLen_append] at h
    have e : (Str.ofString (if k > 0 then ", " else "" : String)).length ≤ 2 := by
      split <;> decide +kernel
    rw [piled_cons]
    show (textFrom (k + 1) (acc ++ (if k > 0 then ", " else "" : String) ++ t) ts).length ≤ _
    omega
theorem list_len (ts : List Str) : (listText ts).length ≤ 4 + piled ts := by
  have h := text_from ts 0 "["
  unfold listText
  rw [strLen_append]
  have e1 : (Str.ofString "[").length = 1 := rfl
  have e2 : (Str.ofString "]").length = 1 := rfl
  omega
mutual
/-- its texts may be shown, its whole numbers are no greater -/
def okD (B : Nat) : PyData → Bool
  | .str x => PyData.strOk x
  | .int i => decide (i.natAbs ≤ B)
  | .list l => okL B l
  | .tuple l => okL B l
  | .dict l => okK B l
  | _ => true
def okL (B : Nat) : List PyData → Bool
  | [] => true
  | d :: l => okD B d && okL B l
def okK (B : Nat) : List (PyData × PyData) → Bool
  | [] => true
  | (k, v) :: l => okD B k && okD B v && okK B l
end
theorem repr_len {s : Str} (k : PyData.strOk s = true) : (reprText s).length ≤ 10 * s.length + 2 := by
  have h1 := StrLaws.reprText_len s fun c hc => by
    have := Array.all_eq_true_iff_forall_mem.mp k c (by simpa using hc)
    have : c < 0x110000 := by simpa using this
    omega
  omega
theorem int_len {i : Int} (h : i.natAbs ≤ 10 ^ 50) : (PyData.shown (.int i)).length ≤ 52 ∧ PyData.showable (.int i) = true := by
  constructor
  · have hd : (Nat.toDigits 10 i.natAbs).length ≤ 51 := digits10_le (by decide) (Nat.lt_of_le_of_lt h (by decide))
    have e : (PyData.shown (.int i)).length = (toString i).toList.length := by
      simp only [PyData.shown]
      show (Str.ofString (toString i)).length = _
      rw [Str.ofString_eq_toList]
      simp [Str.length]
    rw [e, Int.toString_eq_repr, Int.repr_eq_if]
    split
    · rw [Nat.toList_repr]
      have : i.toNat = i.natAbs := by omega
      rw [this]
      omega
    · rw [String.toList_append, List.length_append, Nat.toList_repr]
      have : (-i).toNat = i.natAbs := by omega
      have e1 : ("-" : String).toList.length = 1 := by decide
      rw [this, e1]
      omega
  · simp only [PyData.showable, decide_eq_true_eq]
    by_cases h0 : i.natAbs = 0
    · rw [h0]
      decide
    · rw [Nat.log2_lt h0]
      exact Nat.lt_of_le_of_lt h (by decide +kernel)
mutual
theorem shown_wt {B : Nat} (hB : B ≤ 10 ^ 50) : ∀ d : PyData, okD B d = true → (PyData.shown d).length ≤ wt d
  | .none, _ => by decide +kernel
  | .bool true, _ => by decide +kernel
  | .bool false, _ => by decide +kernel
  | .int i, h => by
    simp only [okD, decide_eq_true_eq] at h
    have := (int_len (i := i) (by omega)).1
    simp only [wt]
    omega
  | .str x, h => by
    simp only [okD] at h
    have := repr_len h
    simp only [wt, PyData.shown]
    omega
  | .list l, h => by
    simp only [okD] at h
    have h := shownL_wt hB l h
    have h2 := list_len (PyData.shownAll l)
    simp only [wt, PyData.shown]
    omega
  | .tuple l, h => by
    simp only [okD] at h
    have h := shownL_wt hB l h
    have h2 := tuple_len (PyData.shownAll l)
    simp only [wt, PyData.shown]
    omega
  | .dict l, h => by
    simp only [okD] at h
    have h := shownK_wt hB l h
    have h2 := dict_len (PyData.shownKv l)
    simp only [wt, PyData.shown]
    omega
theorem shownL_wt {B : Nat} (hB : B ≤ 10 ^ 50) : ∀ l : List PyData, okL B l = true → piled (PyData.shownAll l) ≤ wtL l
  | [], _ => Nat.le_refl _
  | d :: l, h => by
    simp only [okL, Bool.and_eq_true] at h
    have h1 := shown_wt hB d h.1
    have h2 := shownL_wt hB l h.2
    simp only [PyData.shownAll, piled_cons, wtL]
    omega
theorem shownK_wt {B : Nat} (hB : B ≤ 10 ^ 50) : ∀ l : List (PyData × PyData), okK B l = true → piled (PyData.shownKv l) ≤ wtK l
  | [], _ => Nat.le_refl _
  | (k, v) :: l, h => by
    simp only [okK, Bool.and_eq_true] at h
    have h0 := shown_wt hB k h.1.1
    have h1 := shown_wt hB v h.1.2
    have h2 := shownK_wt hB l h.2
    have e : (Str.ofString ": ").length = 2 := rfl
    simp only [PyData.shownKv, piled_cons, wtK, strLen_append]
    omega
end
theorem wtL_append : ∀ a b : List PyData, wtL (a ++ b) = wtL a + wtL b
  | [], b => by simp [wtL]
  | x :: a, b => by
    rw [List.cons_append, wtL, wtL, wtL_append a b]
    omega
theorem wtL_len : ∀ l : List PyData, 5 * l.length ≤ wtL l
  | [] => Nat.le_refl _
  | d :: l => by
    have h := wtL_len l
    simp only [wtL, List.length_cons]
    omega
theorem wtL_take (n : Nat) (l : List PyData) : wtL (l.take n) + wtL (l.drop n) = wtL l := by
  rw [← wtL_append, List.take_append_drop]
end Vf
namespace Vf
open PySem L2 PyProof.Rows PySem.Spec
/-! ## a def with defaults, called by places, where no repr is under way -/
/-- a def of the top's text with defaults, as it stands in the module -/
structure DfD (K : PySem.W.Frag) (mg : Str → Option Value) (x : Str) (st : Stmt) (dvs : List V) (f : Addr) (fd : FuncData) : Prop where
  fn : FunD K x x (defArgs st) (defBody st) (defScope st) dvs [] f fd
  gl : mg x = some (.ref f)
/-- a def that may be called, the last of its values left out -/
structure CalD (P : Program) (w : World) (K : PySem.W.Frag) (mg : Str → Option Value) (base : Heap) (x : Str) (ps : List Str) (k : Nat) (sp : Sp) (dvs : List V) : Prop where
  ex : ∃ f fd ds, FnG P w K mg base CX0 k f fd ps sp ∧ mg x = some (.ref f) ∧ PySem.W.keepIn K (.ref f) = true ∧ Binds K fd ps ds ∧ Vals dvs ds
section
variable {K : PySem.W.Frag} {P : Program} {w : World} {base : Heap} {mg : Str → Option Value} {x : Str} {st : Stmt} {f : Addr} {fd : FuncData} {N ps : List Str} {k : Nat} {sp : Sp} {dvs : List V}
theorem DfD.fnG (D : DfD K mg x st dvs f fd) (S : FnScope N ps (defScope st)) (many : ∀ vs H Q E, sp vs H Q E → vs.length = ps.length)
    (bd : ∀ (cdv : Value) (A : Around) (outer : List Env) (s : Shared) (H : Hp) (vs : List V) (Q : VK) (E : XK), (A.deeper (envOfC x (defScope st) s.heap.objs.size f cdv)).guards = some [] → Room k (A.deeper (envOfC x (defScope st) s.heap.objs.size f cdv)) → sp vs H Q E →
      ∃ t, PSs (cxOf CX0 P w K mg base N x (defScope st) f cdv A outer s H E).nox (defBody st) t ∧ t { nx := fun _ H' => Q .non H', rt := Q } (start N vs) H) : FnG P w K mg base CX0 (k + 1) f fd ps sp := by
  obtain ⟨oc, od, dV, kV, doc, pm, an, cdv, ct, osl, rfl, here, code, _, _⟩ := D.fn.ex
  refine fnG_of here code S many fun A outer s H vs Q E hg hr hsp => ?_
  obtain ⟨t, h1, h2⟩ := bd cdv A outer s H vs Q E hg hr hsp
  exact ⟨t, h1.nox, h2⟩
/-- called with n values, the first j defaults being given -/
theorem DfD.calD (D : DfD K mg x st dvs f fd) (F : FnG P w K mg base CX0 k f fd ps sp) (n j : Nat) (hd : dvs ≠ []) (hn : n + (dvs.length - j) = ps.length)
    (h : ∀ (T : Addr) (kV doc pm : Value) (an : Option Addr) (cdv ct : Value) (us its : List Value), us.length = n → its.length = dvs.length →
      ∃ k, bindArgs (PySem.W.fnOf x x (defArgs st) (defBody st) (defScope st) (.ref T) kV doc pm an cdv ct) ⟨us, []⟩ = seqItems? (.ref T) >>= k ∧ k (some its.toArray) = pure (ps.zip (us ++ its.drop j))) : CalD P w K mg base x ps k sp (dvs.drop j) := by
  obtain ⟨ds, r, b⟩ := D.fn.binds1 n j hd hn h
  exact ⟨f, fd, ds, F, D.gl, D.fn.kp, b, r⟩
end
section
variable {X : Cx} {k : Nat} {ps : List Str} {sp : Sp} {x : Str} {p pos : Pos} {e : Expr} {es : List Expr} {t : TA} {dvs : List V}
theorem pe_calD (c : CalD X.prog X.w X.K X.mg X.base x ps k sp dvs) (hgd : X.A.guards = some []) (hr : Room k X.A) (hg : Gl X x) (ha : PA X (e :: es) t) (hdb : (x == ("__debug__" : Str)) = false := by decide)
    (he : starEach (e :: es) X.env = (false, eval e X.env) :: starEach es X.env := by rfl) (hpl : (backTo pos (starEach es X.env)).any (·.1) = false := by rfl) : PE X (.Call (.Name x p) (e :: es) [] pos) (tCall sp dvs E0 t) := by
  obtain ⟨f, fd, ds, F, gl, kp, bi, rd⟩ := c.ex
  refine ⟨fun pins s σ H Q I h => wpAny_Call_Name_kw (ld_glob I hg gl ?_ hdb)⟩
  refine PySem.W.callWith_K (h₀ := X.base) I.ok.mod.kin kp (thn (ha.run pos pins s σ H _ I h) fun us s1 ⟨vs, H1, I1, r, q⟩ => ⟨I1.kIn, ?_⟩) he hpl
  have q : sp (vs ++ dvs) H1 Q E0 := q
  have rr := r.append rd
  exact wpAny_call (go_cal F hgd hr I1 (bi s1 us I1.kIn (by rw [← rr.length]; exact F.many _ _ _ _ q)) rr q)
end
end Vf
namespace Vf
open PySem L2 PyProof.Rows PySem.Spec
/-! ## whole numbers that may be truths; great letters -/
def numV : V → Option Int
  | .int i => some i
  | .bl b => some (if b = true then 1 else 0)
  | _ => none
def rNumL (g : Int → Int → Int) : R2 := fun x y H Q => ∃ i j, numV x = some i ∧ y = .int j ∧ Q (.int (g i j)) H
def rNumR (g : Int → Int → Int) : R2 := fun x y H Q => ∃ i j, x = .int i ∧ numV y = some j ∧ Q (.int (g i j)) H
def rEqN : R2 := fun x y H Q => ∃ i j, numV x = some i ∧ y = .int j ∧ Q (.bl (decide (i = j))) H
def rStrN : List V → Hp → VK → Prop := fun xs H Q => (∃ i, xs = [.int i] ∧ i.natAbs.log2 < 1920 ∧ Q (.str (Str.ofString (toString i))) H) ∨ ∃ b : Bool, xs = [.bl b] ∧ Q (.str (Str.ofString (if b = true then "True" else "False"))) H
section
variable {X : Cx}
theorem aAddN : OpR X (binaryOp .Add) (rNumL fun i j => i + j) := by
  intro pins s σ H x y v u Q I rx ry ⟨i, j, hx, hy, q⟩
  subst hy
  cases x with
  | int k =>
    cases hx
    exact op_add pins s σ H _ _ v u Q I rx ry ⟨_, _, rfl, rfl, q⟩
  | bl b =>
    cases hx
    cases rx
    obtain ⟨t, rfl⟩ := ry
    exact PySem.IntBool.add_bool_int ⟨.int _, H, I.tok _, ⟨_, rfl⟩, q⟩
  | _ => cases hx
theorem aSubN : OpR X (binaryOp .Sub) (rNumL fun i j => i - j) := by
  intro pins s σ H x y v u Q I rx ry ⟨i, j, hx, hy, q⟩
  subst hy
  cases x with
  | int k =>
    cases hx
    exact op_sub pins s σ H _ _ v u Q I rx ry ⟨_, _, rfl, rfl, q⟩
  | bl b =>
    cases hx
    cases rx
    obtain ⟨t, rfl⟩ := ry
    exact PySem.IntBool.sub_bool_int ⟨.int _, H, I.tok _, ⟨_, rfl⟩, q⟩
  | _ => cases hx
theorem aSubR : OpR X (binaryOp .Sub) (rNumR fun i j => i - j) := by
  intro pins s σ H x y v u Q I rx ry ⟨i, j, hx, hy, q⟩
  subst hx
  cases y with
  | int k =>
    cases hy
    exact op_sub pins s σ H _ _ v u Q I rx ry ⟨_, _, rfl, rfl, q⟩
  | bl b =>
    cases hy
    cases ry
    obtain ⟨t, rfl⟩ := rx
    exact PySem.IntBool.sub_int_bool ⟨.int _, H, I.tok _, ⟨_, rfl⟩, q⟩
  | _ => cases hy
theorem aEqN : OpR X (compareOp .Eq) rEqN := by
  intro pins s σ H x y v u Q I rx ry ⟨i, j, hx, hy, q⟩
  subst hy
  cases x with
  | int k =>
    cases hx
    have e : decide (V.int i = V.int j) = decide (i = j) := by simp
    exact op_eq pins s σ H _ _ v u Q I rx ry ⟨rfl, by rw [e]; exact q⟩
  | bl b =>
    cases hx
    cases rx
    obtain ⟨t, rfl⟩ := ry
    refine SeqAt.RcAt.bool_int b j t X.prog X.w _ _ ⟨.bl _, H, I, rfl, ?_⟩
    have e : ((if b = true then (1 : Int) else 0) == j) = decide ((if b = true then (1 : Int) else 0) = j) := rfl
    rw [e]
    exact q
  | _ => cases hx
theorem aStrN : CallR X (.type "str") rStrN := by
  intro pins s σ H xs us Q I rr h
  rcases h with h | ⟨b, rfl, q⟩
  · exact call_str_int pins s σ H xs us Q I rr h
  · obtain ⟨u, rfl, rx⟩ := vals1 rr
    cases rx
    refine PySem.P.str_of_bool ⟨.str _, H, I.tok _, ⟨_, rfl⟩, ?_⟩
    cases b <;> exact q
end
/-! great letters of any text are signs, too -/
theorem shifted_small : ∀ (l : List (Nat × Nat × Nat)) (c u : Nat), l.all (fun r => decide (r.2.2 + (r.2.1 - r.1) < 0x110000)) = true → Unicode.shifted l c = some u → u < 0x110000
  | [], _, _, _, h => by cases h
  | (a, b, t) :: r, c, u, hall, h => by
    rw [List.all_cons, Bool.and_eq_true, decide_eq_true_eq] at hall
    unfold Unicode.shifted at h
    by_cases h1 : c < a
    · rw [if_pos h1] at h
      cases h
    · rw [if_neg h1] at h
      by_cases h2 : c ≤ b
      · rw [if_pos h2] at h
        cases h
        have := hall.1
        simp only at this
        omega
      · rw [if_neg h2] at h
        exact shifted_small r c u hall.2 h
theorem upperOf_small {c : Nat} (hc : c < 0x110000) : ∀ u ∈ Unicode.upperOf c, u < 0x110000 := by
  intro u hu
  unfold Unicode.upperOf Unicode.image at hu
  split at hu
  · next cs hl =>
    have := StrLaws.lookup_all (p := fun l => l.all fun x => decide (x < 0x110000)) UnicodeData.severalUpper c cs (by decide +kernel) hl
    simpa using List.all_eq_true.mp this u hu
  · rw [List.mem_singleton] at hu
    subst hu
    cases e : Unicode.shifted UnicodeData.oneUpper c with
    | none => exact hc
    | some u => exact shifted_small _ c u (by decide +kernel) e
theorem upper_strOk {s : Str} (h : PyData.strOk s = true) : PyData.strOk (Txt.upper s) = true := by
  refine Array.all_eq_true_iff_forall_mem.mpr fun x hx' => ?_
  have hs := Array.all_eq_true_iff_forall_mem.mp h
  unfold Txt.upper placed at hx'
  obtain ⟨l, hl, hm⟩ := Array.mem_flatten.mp hx'
  obtain ⟨i, hi, rfl⟩ := Array.mem_mapIdx.mp hl
  have hc := hs s.cps[i] (by simp)
  have hc : s.cps[i] < 0x110000 := by simpa using hc
  simpa using upperOf_small hc x (by simpa using hm)
end Vf
namespace Vf
open PySem L2 PyProof.Rows PySem.Spec
/-! ## what is written out: tuples, lists, dicts of constants and of names; all of it lies in a part G of the heap, and in what is new -/
theorem lineLe {n : Nat} (h : n ≤ 1000000) : n ≤ sizeLine := by
  rw [sizeLine_eq]
  omega
def Only (H G G' : Hp) : Prop := ∀ b, H b ≠ none → G b = none → G' b = none
theorem Only.refl (H G : Hp) : Only H G G := fun _ _ h => h
theorem Only.trans {H H1 G G1 G2 : Hp} (s : Same H H1) (a : Only H G G1) (b : Only H1 G1 G2) : Only H G G2 := fun x h1 h2 => b x (fun e => h1 (s.free e)) (a x h1 h2)
/-- the state's slots hold these data, within G -/
def Has (σ : L2.St) (G : Hp) : List (Nat × PyData) → Prop
  | [] => True
  | (i, d) :: r => (∃ v, σ[i]? = some (some v) ∧ Dv G v d) ∧ Has σ G r
theorem Has.same {σ : L2.St} {G G' : Hp} (s : Same G G') : ∀ {vs : List (Nat × PyData)}, Has σ G vs → Has σ G' vs
  | [], _ => trivial
  | (_, _) :: _, ⟨⟨v, e, h⟩, t⟩ => ⟨⟨v, e, h.same s⟩, t.same s⟩
theorem Has.app {σ : L2.St} {G : Hp} : ∀ {vs ws : List (Nat × PyData)}, Has σ G (vs ++ ws) → Has σ G vs ∧ Has σ G ws
  | [], _, h => ⟨trivial, h⟩
  | (_, _) :: _, _, ⟨a, t⟩ => ⟨⟨a, t.app.1⟩, t.app.2⟩
structure Grow (H G H' G' : Hp) : Prop where
  big : Same H H'
  part : Same G G'
  sub : Same G' H'
  only : Only H G G'
theorem Grow.refl {H G : Hp} (s : Same G H) : Grow H G H G := ⟨Same.refl H, Same.refl G, s, Only.refl H G⟩
theorem Grow.trans {H G H1 G1 H2 G2 : Hp} (a : Grow H G H1 G1) (b : Grow H1 G1 H2 G2) : Grow H G H2 G2 := ⟨a.big.trans b.big, a.part.trans b.part, b.sub, a.only.trans a.big b.only⟩
/-- a new thing, in both -/
theorem Grow.new {H G : Hp} {p : Addr} {o : HO} (s : Same G H) (n : H p = none) : Grow H G (upd H p o) (upd G p o) := by
  have ng : G p = none := s.free n
  refine ⟨same_upd n, same_upd ng, fun b u e => ?_, fun b h1 h2 => ?_⟩
  · by_cases hb : b = p
    · subst hb
      rw [upd_same] at e ⊢
      exact e
    · rw [upd_ne hb] at e ⊢
      exact s b u e
  · have hb : b ≠ p := fun z => h1 (by rw [z]; exact n)
    rw [upd_ne hb]
    exact h2
def tD (vs : List (Nat × PyData)) (d : PyData) : TE := fun σ H Q => ∃ G, Same G H ∧ Has σ G vs ∧ ∀ x H' G', Grow H G H' G' → Dv G' x d → Q x H'
def tDs (vs : List (Nat × PyData)) (ds : List PyData) : TA := fun σ H Q => ∃ G, Same G H ∧ Has σ G vs ∧ ∀ xs H' G', Grow H G H' G' → DvAll G' xs ds → Q xs H'
/-- a new list of such things, its place told apart -/
def tDL (vs : List (Nat × PyData)) (ds : List PyData) : TE := fun σ H Q => ∃ G, Same G H ∧ Has σ G vs ∧ ∀ p xs H' G', Grow H G H' G' → DvAll G' xs ds → H' p = none → Q (.ref p) (upd H' p (.lst xs))
section
variable {X : Cx} {pos : Pos} {e : Expr} {es : List Expr} {vs ws : List (Nat × PyData)} {d : PyData} {ds : List PyData}
theorem peTo {t t' : TE} (h : PE X e t) (m : ∀ σ H Q, t' σ H Q → t σ H Q) : PE X e t' := ⟨fun pins s σ H Q I q => h.run pins s σ H Q I (m σ H Q q)⟩
theorem paTo {t t' : TA} (h : PA X es t) (m : ∀ σ H Q, t' σ H Q → t σ H Q) : PA X es t' := ⟨fun pos pins s σ H Q I q => h.run pos pins s σ H Q I (m σ H Q q)⟩
theorem wD_con {v : V} (h : PE X e (tC v)) (k : ∀ H, Dv H v d) : PE X e (tD [] d) := peTo h fun σ H Q ⟨G, s, _, q⟩ => q v H G (Grow.refl s) (k G)
theorem wD_var {i : Nat} (d : PyData) (h : PE X e (tVar i)) : PE X e (tD [(i, d)] d) := peTo h fun σ H Q ⟨G, s, ⟨⟨v, e, hv⟩, _⟩, q⟩ => ⟨v, e, q v H G (Grow.refl s) hv⟩
theorem wDs_nil : PA X [] (tDs [] []) := paTo pa_nil fun σ H Q ⟨G, s, _, q⟩ => q [] H G (Grow.refl s) .nil
theorem wDs_cons (h : PE X e (tD vs d)) (t : PA X es (tDs ws ds)) (hs : starEach (e :: es) X.env = (false, eval e X.env) :: starEach es X.env := by rfl) : PA X (e :: es) (tDs (vs ++ ws) (d :: ds)) :=
  paTo (pa_cons h t hs) fun σ H Q ⟨G, s, hv, q⟩ => ⟨G, s, hv.app.1, fun x H1 G1 g1 hx => ⟨G1, g1.sub, hv.app.2.same g1.part, fun xs H2 G2 g2 hxs => q (x :: xs) H2 G2 (g1.trans g2) (.cons (hx.same g2.part) hxs)⟩⟩
theorem wD_tup {x1} (t : PA X es (tDs vs ds)) (hl : ds.length ≤ 1000000 := by exact Nat.le_of_ble_eq_true rfl) : PE X (.Tuple es x1 pos) (tD vs (.tuple ds)) :=
  peTo (pe_tup t) fun σ H Q ⟨G, s, hv, q⟩ => ⟨G, s, hv, fun xs H1 G1 g1 hxs => ⟨lineLe (by rw [hxs.len]; exact hl), fun p hp => q (.ref p) _ _ (g1.trans (Grow.new g1.sub hp)) (.tup upd_same (hxs.same (same_upd (g1.sub.free hp))))⟩⟩
theorem wD_lst (t : PA X es (tDs vs ds)) (hl : ds.length ≤ 1000000 := by exact Nat.le_of_ble_eq_true rfl) : PE X (.List es pos) (tD vs (.list ds)) :=
  peTo (pe_lst t) fun σ H Q ⟨G, s, hv, q⟩ => ⟨G, s, hv, fun xs H1 G1 g1 hxs => ⟨lineLe (by rw [hxs.len]; exact hl), fun p hp => q (.ref p) _ _ (g1.trans (Grow.new g1.sub hp)) (.lst upd_same (hxs.same (same_upd (g1.sub.free hp))))⟩⟩
theorem wDL (t : PA X es (tDs vs ds)) (hl : ds.length ≤ 1000000 := by exact Nat.le_of_ble_eq_true rfl) : PE X (.List es pos) (tDL vs ds) :=
  peTo (pe_lst t) fun σ H Q ⟨G, s, hv, q⟩ => ⟨G, s, hv, fun xs H1 G1 g1 hxs => ⟨lineLe (by rw [hxs.len]; exact hl), fun p hp => q p xs H1 G1 g1 hxs hp⟩⟩
theorem wD_dic0 : PE X (.Dict [] [] pos) (tD [] (.dict [])) :=
  peTo pe_dnewK fun σ H Q ⟨G, s, _, q⟩ p hp => q (.ref p) _ _ (Grow.new s hp) (.dic upd_same .nil)
theorem wD_dic1 {k : Int} {j : Nat} {p1 : Pos} (h : PE X e (tD vs d)) : PE X (.Dict [some (.Constant (.int k) j p1)] [e] pos) (tD vs (.dict [(.int k, d)])) :=
  peTo (pe_disp (pps_cons pe_int h pps_nil) (by rfl) (by rfl) (fun z => by cases z) (by first | decide | exact Nat.succ_le_succ (Nat.zero_le _))) fun σ H Q ⟨G, s, hv, q⟩ p hp => by
    have ng : G p = none := s.free hp
    have s1 : Same G (upd H p (.dK [])) := s.trans (same_upd hp)
    refine ⟨G, s1, hv, fun y H2 G2 g2 hy => ?_⟩
    have n2 : G2 p = none := g2.only p (by rw [upd_same]; nofun) ng
    refine ⟨g2.big _ _ upd_same, [(Sum.inl k, y)], rfl, Nat.succ_le_succ (Nat.zero_le _), ?_⟩
    show Q (.ref p) (upd H2 p (.dK [(Sum.inl k, y)]))
    refine q (.ref p) _ (upd G2 p (.dK [(Sum.inl k, y)])) ⟨fun b u e => ?_, g2.part.trans (same_upd n2), fun b u e => ?_, fun b h1 h2 => ?_⟩ (.dic (ds := [d]) upd_same (.cons (hy.same (same_upd n2)) .nil))
    · have hb : b ≠ p := fun z => by rw [z, hp] at e; cases e
      rw [upd_ne hb]
      exact g2.big _ _ (same_upd hp _ _ e)
    · by_cases hb : b = p
      · subst hb
        rw [upd_same] at e ⊢
        exact e
      · rw [upd_ne hb] at e ⊢
        exact g2.sub b u e
    · have hb : b ≠ p := fun z => h1 (by rw [z]; exact hp)
      rw [upd_ne hb]
      exact g2.only b (fun z => h1 ((same_upd hp).free z)) h2
theorem wD_neg {i : Int} {j : Nat} {p1 : Pos} : PE X (.UnaryOp .USub (.Constant (.int i) j p1) pos) (tD [] (.int (-i))) :=
  peTo (pe_un un_neg pe_int) fun σ H Q ⟨G, s, _, q⟩ => ⟨i, rfl, q _ H G (Grow.refl s) (.int _)⟩
theorem wD_pow {i n : Int} {j j2 : Nat} {p1 p2 : Pos} (h : CPow i n) : PE X (.BinOp (.Constant (.int i) j p1) .Pow (.Constant (.int n) j2 p2) pos) (tD [] (.int (i ^ n.toNat))) :=
  peTo (pe_op op_pow pe_int pe_int) fun σ H Q ⟨G, s, _, q⟩ => ⟨i, n, rfl, rfl, h, q _ H G (Grow.refl s) (.int _)⟩
end
/-- the heap without one thing -/
def offp (p : Addr) (H : Hp) : Hp := fun b => if b = p then none else H b
theorem offp_sub (p : Addr) (H : Hp) : Same (offp p H) H := fun b o e => by
  unfold offp at e
  split at e
  · cases e
  · exact e
theorem offp_self (p : Addr) (H : Hp) : offp p H p = none := by simp [offp]
theorem offp_ne {p b : Addr} {H : Hp} (h : b ≠ p) : offp p H b = H b := by simp [offp, h]
/-- what lies in a part without p lies in the heap without p -/
theorem into_offp {p : Addr} {G H : Hp} (s : Same G H) (n : G p = none) : Same G (offp p H) := fun b u e => by
  have hb : b ≠ p := fun z => by rw [z, n] at e; cases e
  rw [offp_ne hb]
  exact s b u e
theorem offp_upd (p : Addr) (H : Hp) (o : HO) : offp p (upd H p o) = offp p H := by
  funext b
  by_cases hb : b = p
  · simp [offp, hb]
  · rw [offp_ne hb, offp_ne hb, upd_ne hb]
theorem offp_same {p : Addr} {H H' : Hp} (s : Same H H') : Same (offp p H) (offp p H') := fun b u e => by
  by_cases hb : b = p
  · subst hb
    rw [offp_self] at e
    cases e
  · rw [offp_ne hb] at e ⊢
    exact s b u e
end Vf
namespace Vf
open PySem L2 PyProof.Rows PySem.Spec HT
/-! ## a tuple turned about; cuts and sums of tuples that lie in a part of the heap -/
theorem adjust_rev (n : Nat) : Builtin.Slice.sliceAdjust none none (-1) (n : Int) = ((n : Int) - 1, -1) := rfl
theorem places_rev (n : Nat) : Builtin.Slice.slicePlaces ((n : Int) - 1) (-1) (-1) = n := by
  unfold Builtin.Slice.slicePlaces
  rw [if_neg (by decide)]
  cases n with
  | zero => rfl
  | succ n =>
    rw [if_pos (by omega)]
    have : ((n + 1 : Nat) : Int) - 1 - -1 - 1 = (n : Nat) := by omega
    rw [this, show -(-1 : Int) = 1 by decide, Int.ediv_one]
    omega
theorem pick_rev (xs : Array Value) : ((List.range xs.size).filterMap fun (m : Nat) => xs[(((xs.size : Int) - 1) + (m : Int) * (-1)).toNat]?) = xs.toList.reverse := by
  apply List.ext_getElem?
  intro i
  have e : ∀ m ∈ List.range xs.size, xs[(((xs.size : Int) - 1) + (m : Int) * (-1)).toNat]? = some (xs.toList.reverse.getD m .none) := by
    intro m hm
    have hm := List.mem_range.mp hm
    have e1 : (((xs.size : Int) - 1) + (m : Int) * (-1)).toNat = xs.size - 1 - m := by omega
    rw [e1, List.getD_eq_getElem?_getD, List.getElem?_reverse (by simpa using hm)]
    simp only [Array.length_toList, Array.getElem?_toList]
    rw [Array.getElem?_eq_getElem (by omega)]
    rfl
  have e2 : ((List.range xs.size).filterMap fun (m : Nat) => xs[(((xs.size : Int) - 1) + (m : Int) * (-1)).toNat]?) = (List.range xs.size).map fun m => xs.toList.reverse.getD m .none := by
    have : ∀ l : List Nat, (∀ m ∈ l, m ∈ List.range xs.size) → (l.filterMap fun (m : Nat) => xs[(((xs.size : Int) - 1) + (m : Int) * (-1)).toNat]?) = l.map fun m => xs.toList.reverse.getD m .none := by
      intro l
      induction l with
      | nil => intro _; rfl
      | cons a l ih =>
        intro h
        rw [List.filterMap_cons, e a (h a List.mem_cons_self), List.map_cons, ih fun m hm => h m (List.mem_cons_of_mem _ hm)]
    exact this _ fun _ h => h
  rw [e2, List.getElem?_map]
  by_cases hi : i < xs.size
  · rw [List.getElem?_range hi]
    simp only [Option.map_some]
    rw [List.getD_eq_getElem?_getD, List.getElem?_eq_getElem (by simpa using hi)]
    rfl
  · rw [List.getElem?_eq_none (by simpa using Nat.le_of_not_lt hi), List.getElem?_eq_none (by simpa using Nat.le_of_not_lt hi)]
    rfl
section
variable {prog : Program} {w : World} {A : Around} {E : Value → Shared → Prop} {s : Shared}
theorem getItem_tuple_rev {t sl : Addr} {items : Array Value} {vs : Value} {Q : Value → Shared → Prop} (ht : IsTup s.heap t items) (hs : s.heap.IsSliceOf sl .none .none vs) (ps : IsPart vs (some (-1)))
    (h : Q (.ref s.heap.objs.size) { s with heap := s.heap.push { cls := .type "tuple", data := .seq items.toList.reverse.toArray } }) (hsz : items.size ≤ sizeLine) : wpAny (model prog w) A (getItem (.ref t) (.ref sl)) Q E s := by
  have htake : sizeOk (.seq items.toList.reverse.toArray) := by
    show items.toList.reverse.toArray.size ≤ sizeLine
    rw [List.size_toArray, List.length_reverse, Array.length_toList]
    exact hsz
  obtain ⟨os, hos, hcs, hds⟩ := id hs
  have hTs : s.TypeIs (.ref sl) "slice" := ⟨os, hos, hcs⟩
  unfold getItem
  try with_reducible refine wpAny_holding ?_
  first | refine wpAny_bind (wpAny_pure ?_) | skip
  refine wpAny_bind (wpAny_sequenceKey ht.typeIs (by decide) ?_)
  refine wpAny_bind (wpAny_callSpecial?_slot (name := Str.ofString "__getitem__") ht.typeIs PyProof.Rows.slot_tuple_getitem
    (wpAny_call_entry PyProof.Rows.slot_tuple_getitem ht.typeIs entry_tuple_getitem ?_ (args_tuple_getitem _ _)))
  show wpAny _ _ (Builtin.Tuple.tupleItemsOf (.ref t) >>= _) _ _ s
  refine wpAny_bind (tupleItemsOf_ ht ?_)
  refine wpAny_bind (wpAny_typeOf hTs ?_)
  rw [if_pos (by decide)]
  refine wpAny_bind (m := Builtin.Slice.sliceApplied (.ref sl) (pure (items.size : Int))) ?_
  · unfold Builtin.Slice.sliceApplied Builtin.Slice.sliceFields
    refine wpAny_bind (wpAny_bind (wpAny_field hos hds (x := .none) rfl (wpAny_bind (wpAny_field hos hds (x := .none) rfl (wpAny_bind (wpAny_field hos hds (x := vs) rfl (wpAny_pure ?_)))))))
    refine wpAny_bind (slicePart_ ps ?_)
    show wpAny _ _ (if ((-1 : Int) == 0) = true then _ else _) _ _ s
    rw [if_neg (by decide)]
    refine wpAny_bind (slicePart_none (wpAny_bind (slicePart_none (wpAny_bind (wpAny_pure ?_)))))
    show wpAny _ _ (match Builtin.Slice.sliceAdjust none none (-1) (items.size : Int) with | (lo, hi) => pure (lo, (-1 : Int), Builtin.Slice.slicePlaces lo hi (-1))) _ _ s
    rw [adjust_rev]
    show wpAny _ _ (pure (((items.size : Int) - 1), (-1 : Int), Builtin.Slice.slicePlaces ((items.size : Int) - 1) (-1) (-1))) _ _ s
    rw [places_rev]
    refine wpAny_pure ?_
    have hno : ¬ ((((items.size : Int) - 1) == 0 && (-1 : Int) == 1 && items.size == items.size) = true) := by
      rw [show ((-1 : Int) == 1) = false from rfl, Bool.and_false, Bool.false_and]
      exact Bool.false_ne_true
    show wpAny _ _ (if (((items.size : Int) - 1) == 0 && (-1 : Int) == 1 && items.size == items.size) = true then _ else _) _ _ s
    rw [if_neg hno, pick_rev]
    first
      | exact wpAny_bind (m := Builtin.Tuple.tupleExact _) (wpAny_newObj_type (wpAny_pure ⟨_, rfl, wpAny_pure h⟩) htake)
      | exact wpAny_bind (m := Builtin.Tuple.tupleExact _) (wpAny_newObj_type (wpAny_bind (wpAny_pure (wpAny_pure ⟨_, rfl, wpAny_pure h⟩))) htake)
      | exact wpAny_bind (wpAny_bind (m := Builtin.Tuple.tupleExact _) (wpAny_newObj_type (wpAny_pure (wpAny_pure ⟨_, rfl, wpAny_pure h⟩)) htake))
      | exact wpAny_bind (wpAny_bind (m := Builtin.Tuple.tupleExact _) (wpAny_newObj_type (wpAny_pure ⟨_, rfl, wpAny_pure h⟩) htake))
end
section
variable {X : Cx}
def tRevT (K : PySem.W.Frag) (te : TE) : TE := fun σ H Q => te σ H fun x H1 => ∃ a xs, x = .ref a ∧ SqT K H1 a xs ∧ ∀ p, H1 p = none → Q (.ref p) (upd H1 p (.tup xs.reverse))
theorem pe_revT {e : Expr} {te : TE} {k : Nat} {p1 p2 p3 pos : Pos} (he : PE X e te) : PE X (.Subscript e (.Slice none none (some (.UnaryOp .USub (.Constant (.int 1) k p1) p2)) p3) pos) (tRevT X.K te) := by
  refine ⟨fun pins s σ H Q I h => ?_⟩
  refine Subscript_ (thn (he.run pins s σ H _ I h) fun v s1 ⟨x, H1, I1, r1, q1⟩ => ?_)
  obtain ⟨a, xs, ex, hx, q⟩ := q1
  subst ex
  cases r1
  have hst : PO X (some (.UnaryOp .USub (.Constant (.int 1) k p1) p2)) (tPart (tUn (rU fun i => .int (-i)) (tC (.int 1)))) := po_some (pe_un un_neg pe_int)
  refine wpAny_Slice (thn (po_none.run pins s1 σ H1 (fun o H2 => o = none ∧ H2 = H1) I1 ⟨rfl, rfl⟩) fun vl s2 ⟨l, H2, I2, pl, el, e2⟩ => ?_)
  subst el e2
  refine thn (po_none.run pins s2 σ H2 (fun o H3 => o = none ∧ H3 = H2) I2 ⟨rfl, rfl⟩) fun vu s3 ⟨u, H3, I3, pu, eu, e3⟩ => ?_
  subst eu e3
  refine thn (hst.run pins s3 σ H3 (fun o H4 => o = some (-1) ∧ H4 = H3) I3 ⟨1, rfl, -1, rfl, rfl, rfl⟩) fun vs s4 ⟨o, H4, I4, ps, eo, e4⟩ => ?_
  subst eo e4
  have I5 : Inv X pins σ H4 { s4 with heap := s4.heap.push { cls := .type "slice", data := .fields #[vl, vu, vs] } } := I4.kept (t' := s4.toks) fun b ob q => Heap.get?_push_of_some _ q
  obtain ⟨its, r, ht, hz⟩ := I5.tuple hx
  have hlen := r.length
  cases pl
  cases pu
  show wpAny (model X.prog X.w) X.A (subscriptTail e (.Slice none none (some (.UnaryOp .USub (.Constant (.int 1) k p1) p2)) p3) (.ref a) (.ref s4.heap.objs.size)) (EP X pins σ Q) X.xe { s4 with heap := s4.heap.push { cls := .type "slice", data := .fields #[.none, .none, vs] } }
  refine tail_any (ops := [.ref a, .ref s4.heap.objs.size]) ht.typeIs (PyProof.Rows.slot_tuple_getitem.lookup) ?_ (by with_unfolding_all rfl)
  refine getItem_tuple_rev ht (Heap.IsSliceOf.new _ .none .none vs) ps ?_ (by rw [List.size_toArray]; omega)
  refine ⟨.ref _, _, I5.laid (t' := s4.toks) (o := .tup xs.reverse) (fun b ob q => Heap.get?_push_of_some _ q) (Nat.le_refl _) ?_, rfl, q _ (I5.hok.fresh (Nat.le_refl _))⟩
  refine ⟨by rw [List.length_reverse]; exact hz, _, r.reverse, ?_⟩
  exact IsTup.new _ _
theorem aRevT {K : PySem.W.Frag} (h : X.K = K) {e : Expr} {te : TE} {k : Nat} {p1 p2 p3 pos : Pos} (he : PE X e te) : PE X (.Subscript e (.Slice none none (some (.UnaryOp .USub (.Constant (.int 1) k p1) p2)) p3) pos) (tRevT K te) := h ▸ pe_revT he
/-! within a part -/
def rSlD : V → Option Int → Option Int → Hp → VK → Prop := fun x lo hi H Q => ∃ G a xs, x = .ref a ∧ Same G H ∧ G a = some (.tup xs) ∧ ∀ p H' G', Grow H G H' G' → G' p = some (.tup (cutV xs lo hi)) → Q (.ref p) H'
theorem aSlD : SlR X rSlD := by
  intro pins s σ H x v vl vu lo hi sl Q I rx hs pl pu h
  obtain ⟨G, a, xs, rfl, sG, hx, q⟩ := h
  refine sl_tupA pins s σ H _ v vl vu lo hi sl Q I rx hs pl pu ⟨a, xs, rfl, .of (sG _ _ hx), fun e => q a H G (Grow.refl sG) ?_, fun _ p hp => q p _ _ (Grow.new sG hp) upd_same⟩
  unfold cutV
  rw [e.1, e.2, List.drop_zero, Nat.sub_zero, List.take_of_length_le (Nat.le_refl _)]
  exact hx
def rCatD : R2 := fun x y H Q => ∃ G a b xs ys, x = .ref a ∧ y = .ref b ∧ Same G H ∧ G a = some (.tup xs) ∧ G b = some (.tup ys) ∧ xs.length + ys.length ≤ sizeLine ∧ ∀ p H' G', Grow H G H' G' → G' p = some (.tup (xs ++ ys)) → Q (.ref p) H'
theorem aCatD : OpR X (binaryOp .Add) rCatD := by
  intro pins s σ H x y v u Q I rx ry h
  obtain ⟨G, a, b, xs, ys, rfl, rfl, sG, h1, h2, l, q⟩ := h
  refine op_catA pins s σ H _ _ v u Q I rx ry ⟨a, b, xs, ys, rfl, rfl, .of (sG _ _ h1), .of (sG _ _ h2), l, fun e => q b H G (Grow.refl sG) ?_, fun _ e => q a H G (Grow.refl sG) ?_, fun _ _ p hp => q p _ _ (Grow.new sG hp) upd_same⟩
  · subst e
    exact h2
  · subst e
    rw [List.append_nil]
    exact h1
def tRevD (te : TE) : TE := fun σ H Q => te σ H fun x H1 => ∃ G a xs, x = .ref a ∧ Same G H1 ∧ G a = some (.tup xs) ∧ ∀ p H' G', Grow H1 G H' G' → G' p = some (.tup xs.reverse) → Q (.ref p) H'
end
end Vf
namespace Vf
open PySem L2 PyProof.Rows PySem.Spec
/-! ## lists that are grown step by step, beside a part -/
theorem Grow.at_ {H G H' : Hp} {p : Addr} {o : HO} (s0 : Same G H) (s : Same H H') (n : H p = none) (e : H' p = some o) : Grow H G H' (upd G p o) := by
  refine ⟨s, same_upd (s0.free n), fun b u eb => ?_, fun b h1 h2 => ?_⟩
  · by_cases hb : b = p
    · subst hb
      rw [upd_same] at eb
      rw [e]
      exact eb
    · rw [upd_ne hb] at eb
      exact s _ _ (s0 _ _ eb)
  · rw [upd_ne fun z => h1 (by rw [z]; exact n)]
    exact h2
theorem Grow.same {H G H' : Hp} (s0 : Same G H) (s : Same H H') : Grow H G H' G := ⟨s, Same.refl G, s0.trans s, Only.refl H G⟩
theorem Grow.setp {H G H1 G1 : Hp} {p : Addr} {o : HO} (g : Grow H G H1 G1) (n : H p = none) (ng : G1 p = none) : Grow H G (upd H1 p o) G1 :=
  ⟨fun b u e => by
    rw [upd_ne fun z => by rw [z, n] at e; cases e]
    exact g.big b u e, g.part, fun b u e => by
    rw [upd_ne fun z => by rw [z, ng] at e; cases e]
    exact g.sub b u e, g.only⟩
def noHp : Hp := fun _ => none
theorem noHp_sub (H : Hp) : Same noHp H := fun _ _ e => by cases e
/-- a new list of things that lie in a part and in what is new -/
def GotL (H G : Hp) (ds : List PyData) (Q : VK) : Prop := ∀ (p : Addr) (xs : List V) (H1 H2 G' : Hp), Grow H G H1 G' → DvAll G' xs ds → H1 p = none → Same H1 H2 → H2 p = some (.lst xs) → Q (.ref p) H2
/-- a list under way: at p, apart from the part -/
structure Lst (H H1 G1 : Hp) (p : Addr) (ds : List PyData) : Prop where
  new : H p = none
  grow : Grow H noHp H1 G1
  out : G1 p = none
  has : ∃ xs, H1 p = some (.lst xs) ∧ DvAll G1 xs ds
theorem Lst.more {H H1 G1 H2 G2 : Hp} {p : Addr} {ds : List PyData} (l : Lst H H1 G1 p ds) (g : Grow H1 G1 H2 G2) : Lst H H2 G2 p ds := by
  obtain ⟨xs, e, h⟩ := l.has
  exact ⟨l.new, l.grow.trans g, g.only p (by rw [e]; nofun) l.out, xs, g.big _ _ e, h.same g.part⟩
end Vf
namespace Vf
open PySem L2 PyProof.Rows PySem.Spec
/-! ## what is written out, the data of its names told where it is run -/
def HasE (σ : L2.St) (G : Hp) (env : Nat → PyData) : List Nat → Prop
  | [] => True
  | i :: r => (∃ v, σ[i]? = some (some v) ∧ Dv G v (env i)) ∧ HasE σ G env r
theorem HasE.same {σ : L2.St} {G G' : Hp} {env : Nat → PyData} (s : Same G G') : ∀ {vs : List Nat}, HasE σ G env vs → HasE σ G' env vs
  | [], _ => trivial
  | _ :: _, ⟨⟨v, e, h⟩, t⟩ => ⟨⟨v, e, h.same s⟩, t.same s⟩
theorem HasE.app {σ : L2.St} {G : Hp} {env : Nat → PyData} : ∀ {vs ws : List Nat}, HasE σ G env (vs ++ ws) → HasE σ G env vs ∧ HasE σ G env ws
  | [], _, h => ⟨trivial, h⟩
  | _ :: _, _, ⟨a, t⟩ => ⟨⟨a, t.app.1⟩, t.app.2⟩
abbrev Fd := (Nat → PyData) → PyData
abbrev Fds := (Nat → PyData) → List PyData
def tE (vs : List Nat) (F : Fd) : TE := fun σ H Q => ∃ (env : Nat → PyData) (G : Hp), Same G H ∧ HasE σ G env vs ∧ ∀ x H' G', Grow H G H' G' → Dv G' x (F env) → Q x H'
def tEs (vs : List Nat) (F : Fds) : TA := fun σ H Q => ∃ (env : Nat → PyData) (G : Hp), Same G H ∧ HasE σ G env vs ∧ ∀ xs H' G', Grow H G H' G' → DvAll G' xs (F env) → Q xs H'
def tEL (vs : List Nat) (F : Fds) : TE := fun σ H Q => ∃ (env : Nat → PyData) (G : Hp), Same G H ∧ HasE σ G env vs ∧ ∀ p xs H' G', Grow H G H' G' → DvAll G' xs (F env) → H' p = none → Q (.ref p) (upd H' p (.lst xs))
section
variable {X : Cx} {pos : Pos} {e : Expr} {es : List Expr} {vs ws : List Nat} {F : Fd} {Fs : Fds}
theorem wE_con {v : V} {d : PyData} (h : PE X e (tC v)) (k : ∀ H, Dv H v d) : PE X e (tE [] fun _ => d) := peTo h fun σ H Q ⟨env, G, s, _, q⟩ => q v H G (Grow.refl s) (k G)
theorem wE_var {i : Nat} (h : PE X e (tVar i)) : PE X e (tE [i] fun env => env i) := peTo h fun σ H Q ⟨env, G, s, ⟨⟨v, e, hv⟩, _⟩, q⟩ => ⟨v, e, q v H G (Grow.refl s) hv⟩
theorem wEs_nil : PA X [] (tEs [] fun _ => []) := paTo pa_nil fun σ H Q ⟨env, G, s, _, q⟩ => q [] H G (Grow.refl s) .nil
theorem wEs_cons (h : PE X e (tE vs F)) (t : PA X es (tEs ws Fs)) (hs : starEach (e :: es) X.env = (false, eval e X.env) :: starEach es X.env := by rfl) : PA X (e :: es) (tEs (vs ++ ws) fun env => F env :: Fs env) :=
  paTo (pa_cons h t hs) fun σ H Q ⟨env, G, s, hv, q⟩ => ⟨env, G, s, hv.app.1, fun x H1 G1 g1 hx => ⟨env, G1, g1.sub, hv.app.2.same g1.part, fun xs H2 G2 g2 hxs => q (x :: xs) H2 G2 (g1.trans g2) (.cons (hx.same g2.part) hxs)⟩⟩
theorem wE_tup {x1} (t : PA X es (tEs vs Fs)) (hl : ∀ env, (Fs env).length ≤ 1000000 := by exact fun _ => Nat.le_of_ble_eq_true rfl) : PE X (.Tuple es x1 pos) (tE vs fun env => .tuple (Fs env)) :=
  peTo (pe_tup t) fun σ H Q ⟨env, G, s, hv, q⟩ => ⟨env, G, s, hv, fun xs H1 G1 g1 hxs => ⟨lineLe (by rw [hxs.len]; exact hl env), fun p hp => q (.ref p) _ _ (g1.trans (Grow.new g1.sub hp)) (.tup upd_same (hxs.same (same_upd (g1.sub.free hp))))⟩⟩
theorem wE_lst (t : PA X es (tEs vs Fs)) (hl : ∀ env, (Fs env).length ≤ 1000000 := by exact fun _ => Nat.le_of_ble_eq_true rfl) : PE X (.List es pos) (tE vs fun env => .list (Fs env)) :=
  peTo (pe_lst t) fun σ H Q ⟨env, G, s, hv, q⟩ => ⟨env, G, s, hv, fun xs H1 G1 g1 hxs => ⟨lineLe (by rw [hxs.len]; exact hl env), fun p hp => q (.ref p) _ _ (g1.trans (Grow.new g1.sub hp)) (.lst upd_same (hxs.same (same_upd (g1.sub.free hp))))⟩⟩
theorem wEL (t : PA X es (tEs vs Fs)) (hl : ∀ env, (Fs env).length ≤ 1000000 := by exact fun _ => Nat.le_of_ble_eq_true rfl) : PE X (.List es pos) (tEL vs Fs) :=
  peTo (pe_lst t) fun σ H Q ⟨env, G, s, hv, q⟩ => ⟨env, G, s, hv, fun xs H1 G1 g1 hxs => ⟨lineLe (by rw [hxs.len]; exact hl env), fun p hp => q p xs H1 G1 g1 hxs hp⟩⟩
theorem wE_of {d : PyData} (h : PE X e (tD [] d)) : PE X e (tE [] fun _ => d) := peTo h fun σ H Q ⟨env, G, s, _, q⟩ => ⟨G, s, trivial, q⟩
theorem wE_dic1 {k : Int} {j : Nat} {p1 : Pos} (h : PE X e (tE vs F)) : PE X (.Dict [some (.Constant (.int k) j p1)] [e] pos) (tE vs fun env => .dict [(.int k, F env)]) := by
  refine peTo (pe_disp (pps_cons pe_int h pps_nil) (by rfl) (by rfl) (fun z => by cases z) (Nat.succ_le_succ (Nat.zero_le _))) fun σ H Q ⟨env, G, s, hv, q⟩ p hp => ?_
  have ng : G p = none := s.free hp
  have s1 : Same G (upd H p (.dK [])) := s.trans (same_upd hp)
  refine ⟨env, G, s1, hv, fun y H2 G2 g2 hy => ?_⟩
  have n2 : G2 p = none := g2.only p (by rw [upd_same]; nofun) ng
  refine ⟨g2.big _ _ upd_same, [(Sum.inl k, y)], rfl, Nat.succ_le_succ (Nat.zero_le _), ?_⟩
  show Q (.ref p) (upd H2 p (.dK [(Sum.inl k, y)]))
  refine q (.ref p) _ (upd G2 p (.dK [(Sum.inl k, y)])) ⟨fun b u e => ?_, g2.part.trans (same_upd n2), fun b u e => ?_, fun b h1 h2 => ?_⟩ (.dic (ds := [F env]) upd_same (.cons (hy.same (same_upd n2)) .nil))
  · have hb : b ≠ p := fun z => by rw [z, hp] at e; cases e
    rw [upd_ne hb]
    exact g2.big _ _ (same_upd hp _ _ e)
  · by_cases hb : b = p
    · subst hb
      rw [upd_same] at e ⊢
      exact e
    · rw [upd_ne hb] at e ⊢
      exact g2.sub b u e
  · have hb : b ≠ p := fun z => h1 (by rw [z]; exact hp)
    rw [upd_ne hb]
    exact g2.only b (fun z => h1 ((same_upd hp).free z)) h2
end
end Vf
namespace Vf
open PySem L2 PyProof.Rows PySem.Spec PySem.Froz
/-! ## sets of texts, grown text by text -/
def ins (l : List Str) (k : Str) : List Str := if k ∈ l then l else k :: l
theorem ins_len (l : List Str) (k : Str) : (ins l k).length ≤ l.length + 1 := by
  unfold ins
  split
  · omega
  · simp
theorem ins_nodup {l : List Str} (h : l.Nodup) (k : Str) : (ins l k).Nodup := by
  unfold ins
  split
  · exact h
  · next n => exact List.nodup_cons.mpr ⟨n, h⟩
theorem ins_mem {l : List Str} {k x : Str} : x ∈ ins l k ↔ x = k ∨ x ∈ l := by
  unfold ins
  split
  · next m => exact ⟨.inr, fun h => h.elim (fun e => e ▸ m) id⟩
  · exact List.mem_cons
/-- a table whose places rise, of a maker that is known where the order is not the world's -/
def Led (w : World) (t : SetTable) : Prop := Ris t.place.toList ∧ (w.params.followText "set-order" = true ∨ t.led = true)
theorem led_tail {w : World} {ep : Nat} {es : Array (Int × Value)} {t : SetTable} {was : Bool} (r : Led w t) : Led w (tailTx ep es t was).2.2 := by
  unfold tailTx
  split
  · refine ⟨relayAll_ris _ _ _, r.2.imp id fun z => ?_⟩
    show (relayAll t es (SetTable.grown es.size)).2.1.led = true
    rw [relayAll_led, z]
  · exact r
theorem led_plain {w : World} {t : SetTable} (r : Led w t) : Led w (if t.plain = true then { t with plain := false } else t) := by
  split
  · exact ⟨r.1, r.2⟩
  · exact r
theorem led_add {w : World} {D : SD} (h : Int) (v : Value) (r : Led w D.2.2) : Led w (addTx h v D).2.2 :=
  led_tail (led_plain ⟨layNew_ris D.2.2 D.1 h v r.1, r.2.imp id fun z => by rw [layNew_led, z]⟩)
structure Txs (P : Program) (w : World) (h : Heap) (a : Addr) (l : List Str) : Prop where
  ex : ∃ D : SD, h.get? a = some (sObj "set" D) ∧ TxOk P w D l ∧ Led w D.2.2
  nd : l.Nodup
section
variable {P : Program} {w : World} {A : Around} {E : Value → Shared → Prop} {s : Shared} {a : Addr} {l : List Str}
theorem Txs.at_ {h h' : Heap} (R : Txs P w h a l) (k : ∀ o, h.get? a = some o → h'.get? a = some o) : Txs P w h' a l := by
  obtain ⟨⟨D, e, r⟩, n⟩ := R
  exact ⟨⟨D, k _ e, r⟩, n⟩
theorem Txs.type {R : Txs P w s.heap a l} : s.TypeIs (.ref a) "set" := by
  obtain ⟨⟨D, e, _⟩, _⟩ := R
  exact ⟨_, e, rfl⟩
/-- what is there already -/
theorem had_x {T : String} {D : SD} {k : Str} {u : Tok} {Q : Bool → Shared → Prop} (ho : s.heap.get? a = some (sObj T D)) (F : TxOk P w D l) (hk : k ∈ l) (hb : l.length < scanBound) (h : Q false s) :
    wpAny (model P w) A (setAddHashed a (.str k u) (hashStr w k)) Q E s := by
  obtain ⟨es, ep, t⟩ := D
  have sz : es.size = l.length := F.sz
  have el : ElemsOf (strKind P w) es.toList := F.el
  have dd : (sObj T (es, ep, t)).data = .set es ep t := rfl
  obtain ⟨e, he, q⟩ := (F.mem k).mp hk
  obtain ⟨j, hj⟩ : ∃ j, List.findIdx? (fun e => (strKind P w).is k e.2) es.toList = some j := by
    cases f : List.findIdx? (fun e => (strKind P w).is k e.2) es.toList with
    | some j => exact ⟨j, rfl⟩
    | none =>
      have := List.findIdx?_eq_none_iff.mp f e he
      rw [q] at this
      cases this
  unfold setAddHashed
  refine wpAny_holding ?_
  unfold setAddHashedIn
  refine wpAny_bind (wpAny_setState_of ho dd F.fit ?_)
  dsimp only
  rw [byScan_of (knd := strKind P w) (x := Value.str k u) rfl (by rw [sz]; exact hb) el, if_pos rfl]
  unfold setAddByScan
  refine wpAny_bind (wpAny_bind (wpAny_rule (wpAny_bind (wpAny_setScan_of (knd := strKind P w) (k := k) (is_str k u) ho dd F.fit el ?_))))
  rw [hj]
  exact wpAny_pure (wpAny_pure h)
theorem grow_x {k : Str} {u : Tok} {Q : Bool → Shared → Prop} (R : Txs P w s.heap a l) (hb : l.length + 1 < scanBound) (h : ∀ b h', Heap.SameBut a s.heap h' → Txs P w h' a (ins l k) → Q b { s with heap := h' }) :
    wpAny (model P w) A (setAddHashed a (.str k u) (hashStr w k)) Q E s := by
  obtain ⟨⟨D, e, F, r⟩, n⟩ := R
  by_cases hk : k ∈ l
  · refine had_x e F hk (by omega) (h false s.heap (Heap.SameBut.refl a s.heap) ?_)
    rw [ins, if_pos hk]
    exact ⟨⟨D, e, F, r⟩, n⟩
  · refine add_x e F hk hb (h true _ (Heap.SameBut.update ..) ?_)
    rw [ins, if_neg hk]
    exact ⟨⟨_, get_upd _ e rfl, add_ok u F, led_add _ _ r⟩, List.nodup_cons.mpr ⟨hk, n⟩⟩
theorem grow_add {k : Str} {u : Tok} {Q : Bool → Shared → Prop} (R : Txs P w s.heap a l) (hb : l.length + 1 < scanBound) (h : ∀ b h', Heap.SameBut a s.heap h' → Txs P w h' a (ins l k) → Q b { s with heap := h', toks := s.toks + 1 }) :
    wpAny (model P w) A (setAdd a (.str k u)) Q E s := by
  unfold setAdd
  refine wpAny_holding (wpAny_bind ((strKind P w).pyHash (is_str k u) ?_))
  exact grow_x (s := { s with toks := s.toks + 1 }) R hb h
/-- D.add(k) -/
theorem grow_call {k : Str} {u : Tok} {Q : Value → Shared → Prop} (R : Txs P w s.heap a l) (hb : l.length + 1 < scanBound) (h : ∀ h', Heap.SameBut a s.heap h' → Txs P w h' a (ins l k) → Q .none { s with heap := h', toks := s.toks + 1 }) :
    wpAny (model P w) A (call (.builtin "set.add") [.ref a, .str k u]) Q E s := by
  refine wpAny_call_entry PySem.F.slot_set_add (Txs.type (R := R)) PySem.F.entry_set_add ?_ (PySem.F.args_set_add_2 _ _)
  unfold Builtin.«set.add»
  unfold Builtin.Frozenset.oneOther Builtin.Frozenset.addrOf
  simp only [List.isEmpty_nil, bind_assoc]
  refine wpAny_bind (wpAny_pure ?_)
  try dsimp only
  refine wpAny_bind (wpAny_pure ?_)
  try dsimp only
  refine wpAny_bind (grow_add R hb fun b h' sb r => ?_)
  show wpAny _ _ (ret Value.none) _ _ _
  exact wpAny_pure ⟨_, rfl, h h' sb r⟩
theorem Txs.fresh {h : Heap} (e : h.get? a = some { cls := .type "set", dict := none, data := .set #[] 0 (.fresh 0 0 (!w.params.followText "set-order")) }) : Txs P w h a [] := by
  refine ⟨⟨(#[], 0, .fresh 0 0 (!w.params.followText "set-order")), e, TxOk.nil (by rfl), List.Pairwise.nil, ?_⟩, List.nodup_nil⟩
  show w.params.followText "set-order" = true ∨ (!w.params.followText "set-order") = true
  cases w.params.followText "set-order"
  · exact .inr rfl
  · exact .inl rfl
end
end Vf
namespace Vf
open PySem L2 PyProof.Rows PySem.Spec PySem.Froz
/-! ## set(texts), sorted(set of texts) -/
def inss (xs : List Str) : List Str := xs.foldl ins []
theorem inss_end (xs : List Str) (x : Str) : inss (xs ++ [x]) = ins (inss xs) x := by simp [inss, List.foldl_append]
theorem inss_mem : ∀ {xs : List Str} {x : Str}, x ∈ inss xs ↔ x ∈ xs := by
  intro xs x
  have h : ∀ (ys acc : List Str), x ∈ ys.foldl ins acc ↔ x ∈ acc ∨ x ∈ ys := by
    intro ys
    induction ys with
    | nil => simp
    | cons y ys ih =>
      intro acc
      rw [List.foldl_cons, ih, ins_mem, List.mem_cons]
      constructor
      · rintro ((h | h) | h)
        · exact .inr (.inl h)
        · exact .inl h
        · exact .inr (.inr h)
      · rintro (h | h | h)
        · exact .inl (.inr h)
        · exact .inl (.inl h)
        · exact .inr h
  simpa [inss] using h xs []
theorem inss_nodup (xs : List Str) : (inss xs).Nodup := by
  have h : ∀ (ys acc : List Str), acc.Nodup → (ys.foldl ins acc).Nodup := by
    intro ys
    induction ys with
    | nil => exact fun _ h => h
    | cons y ys ih => exact fun acc h => ih _ (ins_nodup h y)
  exact h xs [] List.nodup_nil
theorem inss_len (xs : List Str) : (inss xs).length ≤ xs.length := by
  have h : ∀ (ys acc : List Str), (ys.foldl ins acc).length ≤ acc.length + ys.length := by
    intro ys
    induction ys with
    | nil => exact fun acc => Nat.le_refl _
    | cons y ys ih =>
      intro acc
      have h1 := ih (ins acc y)
      have h2 := ins_len acc y
      rw [List.foldl_cons, List.length_cons]
      omega
  simpa [inss] using h xs []
/-- the set of texts at a -/
def TxO (P : Program) (w : World) (a : Addr) (l : List Str) : HO := .ext fun h => Txs P w h a l
theorem txo_ok {P : Program} {w : World} {H : Hp} {h : Heap} {a : Addr} {l : List Str} (R : Txs P w h a l) : ObjOk P w H h a (TxO P w a l) := by
  obtain ⟨D, e, _⟩ := R.ex
  exact ⟨R, ⟨_, e⟩, fun h1 h2 p k => Txs.at_ p k⟩
section
variable {P : Program} {w : World} {A : Around} {E : Value → Shared → Prop} {s : Shared} {I : Addr} {fp wr : List Addr} {G : Array GenState → Array GenState → Prop} {n : Nat} {Pv : Nat → Value → Prop} {St : Nat → Shared → Prop} {R : Result → Shared → Prop}
/-- the rest of a row of texts, taken into the set at S -/
theorem into_set (W : WalksS P w A.in1 I fp wr G n Pv St) (S : Addr) (hS : S ∉ fp) (xs : List Str) (hn : xs.length = n) (hb : n + 1 < scanBound) (hv : ∀ i v, Pv i v → ∃ t, v = .str (xs.getD i Str.empty) t) :
    ∀ (k i : Nat) (s : Shared), i + k = n → St i s → Txs P w s.heap S (inss (xs.take i)) → (∀ s', Moved (S :: wr) G s s' → Txs P w s'.heap S (inss xs) → R (.ok (.ret .none)) s') →
      codeAny (model P w) A (.builtin "set.update.loop" ⟨[.ref S, .ref I], []⟩) R s := by
  have nw : S ∉ wr := fun z => hS (W.sub _ z)
  have up : ∀ b ∈ wr, b ∈ S :: wr := fun b z => .tail _ z
  intro k
  induction k with
  | zero =>
    intro i s e st hs q
    refine codeAny_builtin PyProof.Rows.F.entry_set_update_loop ?_
    rw [Around.under_plainId PyProof.Rows.F.plain_set_update_loop _]
    have ei : i = n := e
    subst ei
    rw [← hn, List.take_length] at hs
    refine wpAny_bind (W.done s _ _ st fun s' hm => ?_)
    exact wpAny_pure (q s' (hm.mono up) (hs.at_ fun o e => hm.heap S o nw e))
  | succ k ih =>
    intro i s e st hs q
    have hi : i < n := by omega
    refine codeAny_builtin PyProof.Rows.F.entry_set_update_loop ?_
    rw [Around.under_plainId PyProof.Rows.F.plain_set_update_loop _]
    refine wpAny_bind (W.item i s _ _ hi st fun v s' hp st' hm => ?_)
    obtain ⟨t, rfl⟩ := hv i v hp
    have hs' : Txs P w s'.heap S (inss (xs.take i)) := hs.at_ fun o e => hm.heap S o nw e
    have et : xs.take (i + 1) = xs.take i ++ [xs.getD i Str.empty] := by
      have hx : i < xs.length := by omega
      rw [List.take_add_one, List.getD_eq_getElem?_getD, List.getElem?_eq_getElem hx]
      rfl
    have hl := inss_len (xs.take i)
    rw [List.length_take] at hl
    refine wpAny_bind (wpAny_holding (grow_add hs' (by omega) fun b h' sb r => ?_))
    rw [← inss_end, ← et] at r
    refine wpAny_pure ⟨plainId_quiet PyProof.Rows.F.plain_set_update_loop _, ih (i + 1) _ (by omega) (W.frame _ s' _ _ st' (Nat.le_succ _) fun c hc o e => ?_) r fun s2 hm2 hs2 => ?_⟩
    · exact (sb.2 c fun z => hS (z ▸ hc)).trans e
    · exact q s2 (Moved.trans W.gtrans ((hm.mono up).then_heap (Nat.le_succ _) fun c o hc e => (sb.2 c fun z => hc (z ▸ List.mem_cons_self)).trans e) hm2) hs2

set_option maxHeartbeats 4000000 in
/-- set(l), l a list of texts -/
theorem set_of_texts {E : Value → Shared → Prop} {s : Shared} {l : Addr} {items : Array Value} {xs : List Str} {Q : Value → Shared → Prop} (hh : A.handled = none) (hl : s.heap.IsList l items) (hx : StrsAre items.toList xs) (hb : xs.length + 1 < scanBound)
    (h : ∀ (h' : Heap) (tk : Nat), Txs P w h' s.heap.objs.size (inss xs) → (∀ b o, s.heap.get? b = some o → h'.get? b = some o) → Q (.ref s.heap.objs.size) { s with heap := h', toks := tk }) :
    wpAny (model P w) A (call (.type "set") [.ref l]) Q E s := by
  obtain ⟨c, tl, mro⟩ := PySem.F.called_set.mro
  have made := PySem.F.called_set.made
  have sub := PySem.F.called_set.sub
  refine wpAny_call (codeAny_of_tree ?_)
  show wpAny (model P w) _ (callAny (.type "set") _) _ _ s
  refine wpAny_pure ⟨Code.quiet_builtin _ (by decide +kernel), codeAny_builtin PySem.F.entry_type_call ?_⟩
  rw [Around.under_plain (weight_type_call_type "set" [.ref l] []) rfl]
  have no1 := PySem.F.called_set.notType
  have no2 := PySem.F.called_set.canCreate
  have ok := PySem.F.typeCall_set_1 (.ref l)
  repeat any_goals first | assumption | wp_step
  generalize hO : ({ cls := .type "set", dict := none, data := .set #[] 0 (.fresh 0 0 (!w.params.followText "set-order")) } : Obj) = O
  refine codeAny_mono (code_set_led1 (.ref l) (E := E) (Q₁ := fun obj s1 => obj = .ref s.heap.objs.size ∧ s1 = { s with heap := s.heap.push O }) ⟨rfl, by rw [hO]⟩) fun r s1 hr => ?_
  rcases r with e | fl
  · exact hr
  match fl, hr with
  | .ret obj, hr =>
    obtain ⟨rfl, rfl⟩ := hr
    have hc : O.cls = .type "set" := by rw [← hO]
    have hf : O.isFreed = false := by rw [← hO]; rfl
    have hS : (s.heap.push O).get? s.heap.objs.size = some O := Heap.get?_push_size _ hf
    have hT : Shared.TypeIs { s with heap := s.heap.push O } (.ref s.heap.objs.size) "set" := ⟨O, hS, hc⟩
    have li := PySem.F.called_set.init.lookup
    have bi := PySem.F.called_set.init.bind (.ref s.heap.objs.size)
    repeat any_goals first | assumption | wp_step
    refine codeAny_mono (codeAny_call_builtin (R := wants (fun r s2 => r = .none ∧ ∃ h' tk, s2 = { s with heap := h', toks := tk } ∧ Txs P w h' s.heap.objs.size (inss xs) ∧ ∀ b o, s.heap.get? b = some o → h'.get? b = some o) E)
      PySem.F.called_set.init.plain PySem.F.entry_set_init (check_set_init_1 hT ?_)) fun r2 s2 hr2 => ?_
    · have hl1 : (s.heap.push O).IsList l items := hl.push _
      obtain ⟨⟨lc, ld, lD, ls⟩, ho, c1, nl, d1⟩ := id hl
      simp only at c1 d1
      subst c1 d1
      have ho1 := Heap.get?_push_of_some O ho
      have b1 := PySem.F.sub_list_set
      have b2 := PySem.F.sub_list_frozenset
      have b3 : (Value.type "list" == Value.type "dict") = false := by decide
      subst hO
      unfold Builtin.«set.__init__»
      unfold noKeywords Builtin.Frozenset.updateFrom
      generalize hp : pyIter = PI
      wp_walk
      subst hp
      generalize hO : ({ cls := .type "set", dict := none, data := .set #[] 0 (.fresh 0 0 (!w.params.followText "set-order")) } : Obj) = O at *
      refine wpAny_pyIter_list (items := items) hl1 ?_
      refine wpAny_bind (wpAny_runValue ?_)
      have ll : l < s.heap.objs.size := Heap.lt_size ho
      have zs : (s.heap.push O).objs.size = s.heap.objs.size + 1 := Heap.size_push ..
      have n1 : l ≠ (s.heap.push O).objs.size := Nat.ne_of_lt (by rw [zs]; exact Nat.lt_succ_of_lt ll)
      have n2 : s.heap.objs.size ∉ [(s.heap.push O).objs.size, l] := by
        simp only [List.mem_cons, List.not_mem_nil, or_false, not_or]
        exact ⟨Nat.ne_of_lt (by rw [zs]; exact Nat.lt_succ_self _), Nat.ne_of_gt ll⟩
      have len : xs.length = items.size := by rw [← StrsAre.len_eq hx, Array.length_toList]
      refine into_set ((Walks.list (show A.in1.in1.in1.handled = none by simp [hh]) _ l n1 items).toS) s.heap.objs.size n2 xs len (by omega) (fun i v hv => SS.strs_at hx i v (by rw [Array.getElem?_toList]; exact hv)) items.size 0 _ (Nat.zero_add _)
        ⟨⟨_, Heap.get?_push_size _ rfl, rfl, rfl⟩, hl1.push _⟩ (Txs.fresh (by rw [Heap.get?_push_of_some _ hS, hO])) fun s' hm r => ?_
      obtain ⟨h', g', d', tk', os'⟩ := s'
      obtain rfl : g' = s.gens := hm.gens
      obtain rfl : d' = s.drawn := hm.drawn
      obtain rfl : os' = s.os := hm.os
      show wpAny _ _ _ _ _ _
      refine wpAny_pure ?_
      show wpAny _ _ (ret Value.none) _ _ _
      refine wpAny_pure ⟨rfl, h', tk', rfl, r, fun b o e => ?_⟩
      have lb := Heap.lt_size e
      refine hm.heap b o ?_ (Heap.get?_push_of_some _ (Heap.get?_push_of_some _ e))
      simp only [List.mem_cons, List.not_mem_nil, or_false, not_or]
      exact ⟨Nat.ne_of_lt lb, Nat.ne_of_lt (by rw [zs]; exact Nat.lt_succ_of_lt lb)⟩
    · rcases r2 with e | fl2
      · exact hr2
      · match fl2, hr2 with
        | .ret r3, hr2 =>
          obtain ⟨rfl, h', tk, rfl, q1, q2⟩ := hr2
          repeat any_goals first | assumption | wp_step
          exact h _ _ q1 q2
        | .next, hr2 => exact hr2.elim
        | .brk, hr2 => exact hr2.elim
        | .cont, hr2 => exact hr2.elim
  | .next, hr => exact hr.elim
  | .brk, hr => exact hr.elim
  | .cont, hr => exact hr.elim
end
end Vf
namespace Vf
open PySem L2 PyProof.Rows PySem.Spec PySem.Froz
/-! ## sets of texts over the hand layer -/
def rSetS (K : PySem.W.Frag) (P : Program) (w : World) : List V → Hp → VK → Prop := fun vs H Q => ∃ (a : Addr) (xs : List Str), vs = [V.ref a] ∧ SqL K H a (xs.map V.str) ∧ xs.length + 1 < scanBound ∧ ∀ p, H p = none → Q (.ref p) (upd H p (TxO P w p (inss xs)))
def rSortedTx (P : Program) (w : World) : List V → Hp → VK → Prop := fun vs H Q => ∃ (a : Addr) (l : List Str), vs = [V.ref a] ∧ H a = some (TxO P w a l) ∧ l.length < 64 ∧ ∀ (ys : List Str) (p : Addr), ys.Perm l → sortedS ys = true → H p = none → Q (.ref p) (upd H p (.lst (ys.map V.str)))
theorem shared_same {s s' : Shared} (o : s'.os = s.os) : s' = { s with heap := s'.heap, gens := s'.gens, drawn := s'.drawn, toks := s'.toks } := by
  obtain ⟨h', g', d', t', o'⟩ := s'
  obtain rfl : o' = s.os := o
  rfl
theorem perm_of {α : Type} [DecidableEq α] : ∀ {l ks : List α}, l.Nodup → (∀ x ∈ l, x ∈ ks) → ks.length ≤ l.length → ks.Perm l
  | [], ks, _, _, h => by
    have : ks = [] := List.length_eq_zero_iff.mp (Nat.le_zero.mp h)
    rw [this]
  | x :: l, ks, n, m, h => by
    obtain ⟨n1, n2⟩ := List.nodup_cons.mp n
    have hx := m x List.mem_cons_self
    have p1 := List.perm_cons_erase hx
    refine p1.trans ((perm_of (ks := ks.erase x) n2 (fun y hy => ?_) ?_).cons x)
    · have : y ≠ x := fun e => n1 (e ▸ hy)
      exact (List.mem_erase_of_ne this).mpr (m y (List.mem_cons_of_mem _ hy))
    · have := p1.length_eq
      simp only [List.length_cons] at this h
      omega
section
variable {X : Cx}
theorem cr_setS (hc : X.calm = true) : CallR X (.type "set") (rSetS X.K X.prog X.w) := by
  intro pins s σ H xs us Q I r h
  obtain ⟨a, xs, rfl, hl, hb, q⟩ := h
  rw [Vals.ref1 r]
  obtain ⟨its, rv, pl, hz⟩ := I.list hl
  refine set_of_texts (P := X.prog) (w := X.w) (I.ok.hd hc) pl.isList (by simpa using rv.strs) hb fun h' tk R k => ?_
  exact ⟨.ref _, _, I.laid (t' := tk) k (Nat.le_refl _) (txo_ok R), rfl, q _ (I.hok.fresh (Nat.le_refl _))⟩
/-- sorted(a set of texts) -/
theorem cr_sortedTx (hc : X.calm = true) : CallR X (.builtin "sorted") (rSortedTx X.prog X.w) := by
  intro pins s σ H xs us Q I r h
  obtain ⟨a, l, rfl, ha, h64, q⟩ := h
  rw [Vals.ref1 r]
  obtain ⟨⟨D, e, F, led⟩, nd⟩ : Txs X.prog X.w s.heap a l := (I.hok a _ ha).1
  obtain ⟨es, ep, t⟩ := D
  have el : ElemsOf (strKind X.prog X.w) es.toList := F.el
  have sz : es.size = l.length := F.sz
  refine Calls.call_function_entry kind_sorted plain_sorted entry_sorted (args_sorted1 _) ?_
  unfold Builtin.«sorted»
  refine wpAny_bind (m := checkCount "sorted" 1 1 _) (wpAny_pure ?_)
  refine wpAny_bind (collect_set (A := X.A.in1) (I.ok.hd hc) ⟨_, e, rfl, rfl⟩ F.fit (by rw [sz]; exact Nat.lt_trans h64 (by decide)) led.1 led.2 fun s1 out k1 z1 g1 o1 pm => ?_)
  obtain ⟨ss, hS, hp⟩ : ∃ ss, StrsAre out ss ∧ ss.Perm l := by
    refine ⟨out.map strOf, strsAre_map out fun v hv => ?_, ?_⟩
    · obtain ⟨x, hx, rfl⟩ := List.mem_map.mp (pm.mem_iff.mp hv)
      obtain ⟨⟨k, hk, _⟩, _⟩ := el x hx
      obtain ⟨u, eu⟩ := Value.isStrOf_shape (x := k) (v := x.2) hk
      exact ⟨k, u, eu⟩
    · refine perm_of nd (fun k hk => ?_) ?_
      · obtain ⟨x, hx, hi⟩ := (F.mem k).mp hk
        obtain ⟨u, eu⟩ := Value.isStrOf_shape (x := k) (v := x.2) hi
        refine List.mem_map.mpr ⟨x.2, pm.mem_iff.mpr (List.mem_map.mpr ⟨x, hx, rfl⟩), ?_⟩
        rw [eu]
        rfl
      · rw [List.length_map, pm.length_eq, List.length_map, Array.length_toList, sz]
        exact Nat.le_refl _
  have ol : out.length = l.length := by rw [pm.length_eq, List.length_map, Array.length_toList, sz]
  rw [shared_same o1]
  refine wpAny_bind (wpAny_newList ?_ (by rw [ol, sizeLine_eq]; omega))
  have hL : (s1.heap.push (seqObj "list" out.toArray 0)).get? s1.heap.objs.size = some (seqObj "list" out.toArray 0) := Heap.get?_push_size _ rfl
  refine wpAny_bind (wpAny_holding (wpAny_call_entry slot_list_sort ⟨_, hL, rfl⟩ entry_list_sort (list_sort_treeK strKind_oneLt (s := { s with heap := s1.heap.push (seqObj "list" out.toArray 0), gens := s1.gens, drawn := s1.drawn, toks := s1.toks }) hL hS.keysOf
    (fun v1 v2 rest e => keyKind_strs (by rw [← e]; exact hS)) (by rw [ol]; exact h64) fun st hp' hs => ⟨_, rfl, ?_⟩) (args_list_sort _)))
  obtain ⟨ys, y1, y2, y3⟩ := sorted_out_str hS hp' hs
  obtain ⟨ep', hat⟩ := sortedHeap_at (vs := out) (out := (arrOf st).map (·.2)) hL
  have len : (ys.map V.str).length ≤ sizeLine := by
    rw [List.length_map, y2.length_eq, hp.length_eq, sizeLine_eq]
    omega
  have np : H s1.heap.objs.size = none := I.hok.fresh z1
  have kp : ∀ b o, s.heap.get? b = some o → (sortedHeap (s1.heap.push (seqObj "list" out.toArray 0)) s1.heap.objs.size out ((arrOf st).map (·.2))).get? b = some o := fun b o e => by
    have e1 := k1 b o e
    have lt := Heap.lt_size e1
    rw [sortedHeap_old (Nat.ne_of_lt lt) (by rw [size_push']; exact Nat.lt_succ_of_lt lt)]
    exact Heap.get?_push_of_some _ e1
  have J : L2.Inv X pins σ (upd H s1.heap.objs.size (.lst (ys.map V.str))) { s with heap := sortedHeap (s1.heap.push (seqObj "list" out.toArray 0)) s1.heap.objs.size out ((arrOf st).map (·.2)), gens := s1.gens, drawn := s1.drawn, toks := s1.toks } :=
    I.call (ch := []) (Un.laid kp z1 np) (I.hok.laid kp z1 (show ObjOk X.prog X.w _ _ _ (.lst (ys.map V.str)) from ⟨len, ((arrOf st).map (·.2)).toList, ep', vals_of_strs y1, by rw [Array.toArray_toList]; exact hat⟩)) (by rw [g1]; exact I.bare) (fun _ z => nomatch z)
  exact wpAny_pure ⟨_, rfl, .ref s1.heap.objs.size, _, J, rfl, q ys _ (y2.trans hp) y3 np⟩
end
end Vf
namespace Vf
open PySem L2 PyProof.Rows PySem.Spec PySem.Froz
/-! ## {a text for .. in .. if ..} -/
def tScT (P : Program) (w : World) (wi : TI) (g : TG) (tt : TT) (te : TE) (vs : List Nat) : TE := fun σ H Q => wi σ H fun J H1 => ∀ D, H1 D = none → ∃ W : Nat → Nat → Hp → Prop, (∃ m, W 0 m (upd H1 D (TxO P w D []))) ∧ ∀ i m H, W i m H →
  (J.stop i H ∧ Q (.ref D) H) ∨ (J.go i H ∧ ∃ N : Hp → Prop, (∀ H', N H' → ∃ m', m' < m ∧ W (i + 1) m' H') ∧ ∀ x H', J.yld i H x H' → g x (wipe σ vs) H' fun σ2 H2 => wipe σ2 vs = wipe σ vs ∧ tt σ2 H2 fun b H3 =>
    if b = true then te σ2 H3 fun y H4 => ∃ (k : Str) (l : List Str), y = .str k ∧ H4 D = some (TxO P w D l) ∧ l.length + 1 < scanBound ∧ N (upd H4 D (TxO P w D (ins l k))) else N H3)
section
variable {X : Cx}
theorem grow_inv {pins : List (Addr × Obj)} {σ : L2.St} {H : Hp} {s : Shared} {E : Value → Shared → Prop} {D : Addr} {l : List Str} {k : Str} {u : Tok} {Q : Value → Shared → Prop} (I : Inv X pins σ H s) (hD : H D = some (TxO X.prog X.w D l)) (hb : l.length + 1 < scanBound)
    (h : ∀ s', Inv X pins σ (upd H D (TxO X.prog X.w D (ins l k))) s' → Q .none s') : wpAny (model X.prog X.w) X.A (call (.builtin "set.add") [.ref D, .str k u]) Q E s := by
  have R : Txs X.prog X.w s.heap D l := (I.hok D _ hD).1
  refine grow_call R hb fun h' sb new => h _ ?_
  have he : ∃ o, h'.get? D = some o := by
    obtain ⟨B, e, _⟩ := new.ex
    exact ⟨_, e⟩
  exact I.write (e := D) (t' := s.toks + 1) (by rw [hD]; trivial) (.inl rfl) (fun b o nb e => (sb.2 b nb).trans e) he (txo_ok new)
theorem pe_scT {elt tg iter : Expr} {ifs : List Expr} {scope : Scope} {own : List (PySem.Str × Nat)} {pos : Pos} {wi : TI} {g : TG} {tt : TT} {te : TE} (hc : X.calm = true) (hN : X.N.Nodup) (hi : PI X tg iter wi) (ok : BlkOk X.N X.env.scope scope own)
    (hg : ∀ (s : Shared) (H : Hp) (C : Addr) (cl : List (PySem.Str × Addr)) (fp : List Addr), PG (X.blk s H scope (compEnvC scope cl C X.env) fp) tg g) (ht : ∀ (s : Shared) (H : Hp) (C : Addr) (cl : List (PySem.Str × Addr)) (fp : List Addr), PTs (X.blk s H scope (compEnvC scope cl C X.env) fp) ifs tt)
    (he : ∀ (s : Shared) (H : Hp) (C : Addr) (cl : List (PySem.Str × Addr)) (fp : List Addr), PE (X.blk s H scope (compEnvC scope cl C X.env) fp) elt te) (hs : ∀ x, foldedSetIterable iter X.env x = pure x := by intro _; rfl) :
    PE X (.SetComp elt [⟨tg, iter, ifs, 0⟩] scope pos) (tScT X.prog X.w wi g tt te (own.map (·.2))) := by
  refine ⟨fun pins s σ H Q I h => ?_⟩
  rw [PpSet.eval_SetComp]
  refine wpAny_comprehension_free (use := none) rfl hs (closure_ok fun y hy e => ?_) ok.kind (fun y hy e => by rw [ok.uniq y hy, e]) (thn (hi.run pins s σ H _ I h) fun _ s1 h1 => thn h1 fun _ s2 h2 => ?_)
  · exact (ok.free y hy e).elim (fun k => I.ok.has _ (.inl k)) fun k => I.ok.has _ (.inr k)
  obtain ⟨it, fp, tn, J, H2, rfl, I2, T, st2, f2, q⟩ := h2
  refine PpSet.newSet_ok (newEnv_comp ?_)
  obtain ⟨D, hD⟩ : ∃ D, s2.heap.objs.size = D := ⟨_, rfl⟩
  rw [hD]
  obtain ⟨W, ⟨m0, w0⟩, turn⟩ := q D (I2.hok.fresh (Nat.le_of_eq hD))
  generalize hO : ({ cls := .type "set", dict := none, data := .set #[] 0 (.fresh 0 0 (!X.w.params.followText "set-order")) } : Obj) = O
  have fO : O.isFreed = false := by rw [← hO]; rfl
  obtain ⟨s3, hs3⟩ : ∃ s3 : Shared, s3 = { s2 with heap := s2.heap.push O } := ⟨_, rfl⟩
  have hh3 : s3.heap = s2.heap.push O := by rw [hs3]
  have up3 : ∀ b o, s2.heap.get? b = some o → s3.heap.get? b = some o := fun b o e => by rw [hh3]; exact Heap.get?_push_of_some _ e
  have I3 : Inv X pins σ (upd H2 D (TxO X.prog X.w D [])) s3 := by
    rw [hs3]
    refine I2.laid (t' := s2.toks) (fun b o e => Heap.get?_push_of_some _ e) (Nat.le_of_eq hD) (txo_ok (.fresh ?_))
    rw [← hD, Heap.get?_push_size _ fO, hO]
  generalize hH3 : upd H2 D (TxO X.prog X.w D []) = H3 at I3 w0
  have f3 : ∀ b ∈ fp, FpOk X pins H3 b ∧ b < s3.heap.objs.size := fun b hb => by
    obtain ⟨o, e, _⟩ := T.obj _ _ st2 b hb
    have lt := Heap.lt_size e
    refine ⟨⟨?_, (f2 b hb).2⟩, by rw [hh3, Heap.size_push]; exact Nat.lt_succ_of_lt lt⟩
    rw [← hH3, upd_ne (by rw [← hD]; exact Nat.ne_of_lt lt)]
    exact (f2 b hb).1
  have st3 : tn 0 s3.heap := T.keep _ _ _ st2 fun b _ o e => up3 b o e
  have I4 := block_start I3 ok hN f3
  have pg := hg s3 H3 s3.heap.objs.size (cellsFrom (s3.heap.objs.size + 1) scope.names (cloFrom X.env.cells scope.names [])) fp
  have pt := ht s3 H3 s3.heap.objs.size (cellsFrom (s3.heap.objs.size + 1) scope.names (cloFrom X.env.cells scope.names [])) fp
  have pe := he s3 H3 s3.heap.objs.size (cellsFrom (s3.heap.objs.size + 1) scope.names (cloFrom X.env.cells scope.names [])) fp
  rw [← hs3]
  show codeAny (model X.prog X.w) X.A (.compStart (.SetComp elt [⟨tg, iter, ifs, 0⟩] scope pos) 0 (.ref it) (.ref D) (compEnvC scope (cellsFrom (s3.heap.objs.size + 1) scope.names (cloFrom X.env.cells scope.names [])) s3.heap.objs.size X.env))
    (compPost (model X.prog X.w) X.A X.xe none (EP X pins σ Q) (.ref D) s3.heap.objs.size) { s3 with heap := pushCells (s3.heap.push { cls := .type "dict", data := .dict #[] }) scope.names }
  obtain ⟨ce, hce⟩ : ∃ ce, ce = compEnvC scope (cellsFrom (s3.heap.objs.size + 1) scope.names (cloFrom X.env.cells scope.names [])) s3.heap.objs.size X.env := ⟨_, rfl⟩
  have loc : ce.locals = s3.heap.objs.size := by rw [hce]; rfl
  rw [← hce] at I4 pg pt pe ⊢
  obtain ⟨s4, hs4⟩ : ∃ s4 : Shared, s4 = { s3 with heap := pushCells (s3.heap.push { cls := .type "dict", data := .dict #[] }) scope.names } := ⟨_, rfl⟩
  rw [← hs4] at I4 ⊢
  have st4 : tn 0 s4.heap := T.keep _ _ _ st3 fun b _ o e => by
    rw [hs4]
    exact pushCells_keeps _ _ _ _ (Heap.get?_push_of_some _ e)
  have pinned : ∀ {σ' : L2.St} {H' : Hp} {s' : Shared}, Inv (X.blk s3 H3 scope ce fp) [] σ' H' s' → (∀ b ∈ fp, H' b = none) → ∀ b ∈ fp, FpOk (X.blk s3 H3 scope ce fp) [] H' b := fun J' n b hb =>
    ⟨n b hb, (J'.ok.exf b hb).1, J'.ok.exfs b hb, .inl hb, fun x c e => (J'.ok.exf b hb).2 x c e, fun p hp => by cases hp⟩
  have loop : codeAny (model X.prog X.w) X.A (.compLoop (.SetComp elt [⟨tg, iter, ifs, 0⟩] scope pos) 0 (.ref it) (.ref D) ce) (compPost (model X.prog X.w) X.A X.xe none (EP X pins σ Q) (.ref D) s3.heap.objs.size) s4 := by
    refine PpSet.compLoopS_any (fun n s' => ∃ i H', Inv (X.blk s3 H3 scope ce fp) [] (wipe σ (own.map (·.2))) H' s' ∧ tn i s'.heap ∧ (∀ b ∈ fp, H' b = none) ∧ W i n H') ?_ m0 ⟨0, H3, I4, st4, fun b hb => (f3 b hb).1.1, w0⟩
    rintro n s5 ⟨i, H5, I5, st5, n5, w5⟩
    rcases turn i n H5 w5 with ⟨stop, fin⟩ | ⟨go, N, hN', step⟩
    · refine thnF (T.done (X.blk s3 H3 scope ce fp) rfl rfl rfl hc i [] s5 _ H5 (fun _ _ => False) I5 (pinned I5 n5) st5 stop) fun r s6 ⟨hr, I6⟩ => ?_
      subst hr
      have I7 : Inv X pins σ H5 s6 := I3.call' (ch := fp) I6.os I6.base I6.hok I6.bare fun b hb => ⟨(f3 b hb).1.2.2.2.1, (f3 b hb).1.2.1, (f3 b hb).1.2.2.2.2.1, (f3 b hb).1.2.2.2.2.2⟩
      have nC : H5 s3.heap.objs.size = none := loc ▸ (I6.free : H5 ce.locals = none)
      obtain ⟨m, hn, _⟩ := I6.loc
      have hn : s6.heap.Ns s3.heap.objs.size m := loc ▸ (hn : s6.heap.Ns ce.locals m)
      refine ⟨m, hn, fun h7 sb => ?_⟩
      obtain ⟨a0, a1, a2, a3, a4, a5⟩ := I3.fpOk (Nat.le_refl _) nC
      exact ⟨.ref D, H5, I7.turned (t' := s6.toks) (fun b o nb e => (sb.2 b nb).trans e) a0 a1 a3 a4 a5, rfl, fin⟩
    · refine thnF (T.item (X.blk s3 H3 scope ce fp) rfl rfl rfl hc i [] s5 _ H5 (fun _ _ => False) I5 (pinned I5 n5) st5 go) fun r s6 ⟨u, hr, h6⟩ => ?_
      subst hr
      refine thnF h6 fun _ s7 ⟨x, H7, I7, r7, y7, st7, n7⟩ => ?_
      have I8 := I7.pinned (pinned I7 n7) (T.obj _ _ st7)
      refine thnF (pg.run _ s7 _ H7 x u _ I8 r7 (step x H7 y7)) fun _ s8 ⟨σ8, H8, I9, hw, q8⟩ => ?_
      refine thnF (pt.run _ s8 σ8 H8 _ I9 q8) fun b s9 ⟨H9, I10, q9⟩ => ?_
      have back : ∀ {s' : Shared} {H' : Hp}, Inv (X.blk s3 H3 scope ce fp) ([] ++ pinsAt fp s7.heap) σ8 H' s' → N H' → ∃ m, m < n ∧ ∃ i H', Inv (X.blk s3 H3 scope ce fp) [] (wipe σ (own.map (·.2))) H' s' ∧ tn i s'.heap ∧ (∀ b ∈ fp, H' b = none) ∧ W i m H' := fun {s' H'} J' nx => by
        obtain ⟨m', lt, w'⟩ := hN' H' nx
        have kept : ∀ b ∈ fp, ∀ o, s7.heap.get? b = some o → s'.heap.get? b = some o ∧ H' b = none := fun b hb o e => by
          have z := J'.pin (b, o) (List.mem_append_right _ (List.mem_append_right _ (mem_pinsAt hb e)))
          exact ⟨z.1, z.2.1⟩
        refine ⟨m', lt, i + 1, H', (J'.unpinned (pins := [])).weak (by rw [← hw, wipe_length]) (fun j v e => ?_), T.keep _ _ _ st7 fun b hb o e => (kept b hb o e).1, fun b hb => ?_, w'⟩
        · rw [← hw] at e
          exact (wipe_some e).1
        · obtain ⟨o, e, _⟩ := T.obj _ _ st7 b hb
          exact (kept b hb o e).2
      cases b with
      | false =>
        rw [if_neg (by decide)] at q9 ⊢
        exact back I10 q9
      | true =>
        rw [if_pos rfl] at q9 ⊢
        refine thnF (pe.run _ s9 σ8 H9 _ I10 q9) fun z s10 ⟨yv, H10, I11, r10, k, l, ey, hD10, hz, nx⟩ => ?_
        subst ey
        obtain ⟨t, rfl⟩ := r10
        exact grow_inv (X := X.blk s3 H3 scope ce fp) I11 hD10 hz fun s11 I12 => back I12 nx
  exact PpSet.codeAny_compStart_set loop (T.self X.A 0 _ _ _ st4 loop)
end
end Vf
namespace Vf
open PySem L2 PyProof.Rows PySem.Spec HT
/-! ## t[:k:-1]: a tuple from its end down to what stands behind k -/
theorem adjust_to {n k : Nat} (h : k < n) : Builtin.Slice.sliceAdjust none (some (k : Int)) (-1) (n : Int) = ((n : Int) - 1, (k : Int)) := by
  unfold Builtin.Slice.sliceAdjust
  simp only [show ((-1 : Int) < 0) = True from eq_true (by decide), if_true]
  rw [if_neg (by omega), Int.min_def, if_pos (by omega)]
theorem places_to {n k : Nat} (h : k < n) : Builtin.Slice.slicePlaces ((n : Int) - 1) (k : Int) (-1) = n - (k + 1) := by
  unfold Builtin.Slice.slicePlaces
  rw [if_neg (by decide)]
  by_cases e : (n : Int) - 1 > k
  · rw [if_pos e, show -(-1 : Int) = 1 by decide, Int.ediv_one]
    omega
  · rw [if_neg e]
    omega
theorem pick_to (xs : Array Value) {k : Nat} (h : k < xs.size) : ((List.range (xs.size - (k + 1))).filterMap fun (m : Nat) => xs[(((xs.size : Int) - 1) + (m : Int) * (-1)).toNat]?) = (xs.toList.drop (k + 1)).reverse := by
  have e1 : ∀ m, m < xs.size - (k + 1) → xs[(((xs.size : Int) - 1) + (m : Int) * (-1)).toNat]? = some (xs.toList.reverse.getD m .none) := by
    intro m hm
    rw [show (((xs.size : Int) - 1) + (m : Int) * (-1)).toNat = xs.size - 1 - m by omega, List.getD_eq_getElem?_getD, List.getElem?_reverse (by rw [Array.length_toList]; omega)]
    simp only [Array.length_toList, Array.getElem?_toList]
    rw [Array.getElem?_eq_getElem (by omega)]
    rfl
  have e2 : ((List.range (xs.size - (k + 1))).filterMap fun (m : Nat) => xs[(((xs.size : Int) - 1) + (m : Int) * (-1)).toNat]?) = (List.range (xs.size - (k + 1))).map fun m => xs.toList.reverse.getD m .none := by
    have all : ∀ l : List Nat, (∀ m ∈ l, m < xs.size - (k + 1)) → (l.filterMap fun (m : Nat) => xs[(((xs.size : Int) - 1) + (m : Int) * (-1)).toNat]?) = l.map fun m => xs.toList.reverse.getD m .none := by
      intro l
      induction l with
      | nil => exact fun _ => rfl
      | cons b l ih => exact fun hl => by rw [List.filterMap_cons, e1 b (hl b List.mem_cons_self), List.map_cons, ih fun m hm => hl m (List.mem_cons_of_mem _ hm)]
    exact all _ fun m hm => List.mem_range.mp hm
  have e3 : (xs.toList.drop (k + 1)).reverse = xs.toList.reverse.take (xs.size - (k + 1)) := by
    rw [List.take_reverse, Array.length_toList, show xs.size - (xs.size - (k + 1)) = k + 1 by omega]
  rw [e2, e3]
  apply List.ext_getElem?
  intro i
  rw [List.getElem?_map]
  by_cases hi : i < xs.size - (k + 1)
  · rw [List.getElem?_range hi, List.getElem?_take, if_pos hi]
    simp only [Option.map_some]
    rw [List.getD_eq_getElem?_getD, List.getElem?_eq_getElem (by rw [List.length_reverse, Array.length_toList]; omega)]
    rfl
  · rw [List.getElem?_eq_none (by rw [List.length_range]; omega), List.getElem?_eq_none (by rw [List.length_take, Array.length_toList]; omega)]
    rfl
section
variable {prog : Program} {w : World} {A : Around} {E : Value → Shared → Prop} {s : Shared}
theorem getItem_tuple_to {t sl : Addr} {items : Array Value} {vu vs : Value} {k : Nat} {Q : Value → Shared → Prop} (ht : IsTup s.heap t items) (hs : s.heap.IsSliceOf sl .none vu vs) (pu : IsPart vu (some (k : Int))) (ps : IsPart vs (some (-1))) (hk : k < items.size)
    (h : Q (.ref s.heap.objs.size) { s with heap := s.heap.push { cls := .type "tuple", data := .seq (items.toList.drop (k + 1)).reverse.toArray } }) (hsz : items.size ≤ sizeLine) : wpAny (model prog w) A (getItem (.ref t) (.ref sl)) Q E s := by
  have fits : sizeOk (.seq (items.toList.drop (k + 1)).reverse.toArray) := by
    show (items.toList.drop (k + 1)).reverse.toArray.size ≤ sizeLine
    rw [List.size_toArray, List.length_reverse, List.length_drop, Array.length_toList]
    omega
  obtain ⟨o, ho, hc, hd⟩ := id hs
  unfold getItem
  try with_reducible refine wpAny_holding ?_
  first | refine wpAny_bind (wpAny_pure ?_) | skip
  refine wpAny_bind (wpAny_sequenceKey ht.typeIs (by decide) (wpAny_bind (wpAny_callSpecial?_slot (name := Str.ofString "__getitem__") ht.typeIs PyProof.Rows.slot_tuple_getitem
    (wpAny_call_entry PyProof.Rows.slot_tuple_getitem ht.typeIs entry_tuple_getitem ?_ (args_tuple_getitem _ _)))))
  show wpAny _ _ (Builtin.Tuple.tupleItemsOf (.ref t) >>= _) _ _ s
  refine wpAny_bind (tupleItemsOf_ ht (wpAny_bind (wpAny_typeOf (T := "slice") ⟨o, ho, hc⟩ ?_)))
  rw [if_pos (by decide)]
  refine wpAny_bind (m := Builtin.Slice.sliceApplied (.ref sl) (pure (items.size : Int))) ?_
  unfold Builtin.Slice.sliceApplied Builtin.Slice.sliceFields
  refine wpAny_bind (wpAny_bind (wpAny_field ho hd (x := .none) rfl (wpAny_bind (wpAny_field ho hd (x := vu) rfl (wpAny_bind (wpAny_field ho hd (x := vs) rfl (wpAny_pure ?_)))))))
  refine wpAny_bind (slicePart_ ps ?_)
  show wpAny _ _ (if ((-1 : Int) == 0) = true then _ else _) _ _ s
  rw [if_neg (by decide)]
  refine wpAny_bind (slicePart_none (wpAny_bind (slicePart_ pu (wpAny_bind (wpAny_pure ?_)))))
  show wpAny _ _ (match Builtin.Slice.sliceAdjust none (some (k : Int)) (-1) (items.size : Int) with | (lo, hi) => pure (lo, (-1 : Int), Builtin.Slice.slicePlaces lo hi (-1))) _ _ s
  rw [adjust_to hk]
  show wpAny _ _ (pure (((items.size : Int) - 1), (-1 : Int), Builtin.Slice.slicePlaces ((items.size : Int) - 1) (k : Int) (-1))) _ _ s
  rw [places_to hk]
  refine wpAny_pure ?_
  have hno : ¬ ((((items.size : Int) - 1) == 0 && (-1 : Int) == 1 && items.size - (k + 1) == items.size) = true) := by
    rw [show ((-1 : Int) == 1) = false from rfl, Bool.and_false, Bool.false_and]
    exact Bool.false_ne_true
  show wpAny _ _ (if (((items.size : Int) - 1) == 0 && (-1 : Int) == 1 && items.size - (k + 1) == items.size) = true then _ else _) _ _ s
  rw [if_neg hno, pick_to items hk]
  first
    | exact wpAny_bind (m := Builtin.Tuple.tupleExact _) (wpAny_newObj_type (wpAny_pure ⟨_, rfl, wpAny_pure h⟩) fits)
    | exact wpAny_bind (m := Builtin.Tuple.tupleExact _) (wpAny_newObj_type (wpAny_bind (wpAny_pure (wpAny_pure ⟨_, rfl, wpAny_pure h⟩))) fits)
    | exact wpAny_bind (wpAny_bind (m := Builtin.Tuple.tupleExact _) (wpAny_newObj_type (wpAny_pure (wpAny_pure ⟨_, rfl, wpAny_pure h⟩)) fits))
    | exact wpAny_bind (wpAny_bind (m := Builtin.Tuple.tupleExact _) (wpAny_newObj_type (wpAny_pure ⟨_, rfl, wpAny_pure h⟩) fits))
end
section
variable {X : Cx}
def tToT (K : PySem.W.Frag) (te tu : TE) : TE := fun σ H Q => te σ H fun x H1 => tPart tu σ H1 fun o H2 => ∃ (a : Addr) (xs : List V) (k : Nat), x = .ref a ∧ o = some ((k : Nat) : Int) ∧ SqT K H2 a xs ∧ k < xs.length ∧ ∀ p, H2 p = none → Q (.ref p) (upd H2 p (.tup (xs.drop (k + 1)).reverse))
theorem pe_toT {e u : Expr} {te tu : TE} {j : Nat} {p1 p2 p3 pos : Pos} (he : PE X e te) (hu : PE X u tu) : PE X (.Subscript e (.Slice none (some u) (some (.UnaryOp .USub (.Constant (.int 1) j p1) p2)) p3) pos) (tToT X.K te tu) := by
  refine ⟨fun pins s σ H Q I h => ?_⟩
  refine Subscript_ (thn (he.run pins s σ H _ I h) fun v s1 ⟨x, H1, I1, r1, q1⟩ => ?_)
  have hst : PO X (some (.UnaryOp .USub (.Constant (.int 1) j p1) p2)) (tPart (tUn (rU fun i => .int (-i)) (tC (.int 1)))) := po_some (pe_un un_neg pe_int)
  refine wpAny_Slice (thn (po_none.run pins s1 σ H1 (fun o H2 => o = none ∧ H2 = H1) I1 ⟨rfl, rfl⟩) fun vl s2 ⟨l, H2, I2, pl, el, e2⟩ => ?_)
  subst el e2
  refine thn ((po_some hu).run pins s2 σ H2 _ I2 q1) fun vu s3 ⟨o, H3, I3, pu, a, xs, k, ex, eo, hx, hk, q⟩ => ?_
  subst ex eo
  cases r1
  refine thn (hst.run pins s3 σ H3 (fun o H4 => o = some (-1) ∧ H4 = H3) I3 ⟨1, rfl, -1, rfl, rfl, rfl⟩) fun vs s4 ⟨o, H4, I4, ps, eo, e4⟩ => ?_
  subst eo e4
  have I5 : L2.Inv X pins σ H4 { s4 with heap := s4.heap.push { cls := .type "slice", data := .fields #[vl, vu, vs] } } := I4.kept (t' := s4.toks) fun b ob q => Heap.get?_push_of_some _ q
  obtain ⟨its, r, ht, hz⟩ := I5.tuple hx
  have hlen := r.length
  cases pl
  show wpAny (model X.prog X.w) X.A (subscriptTail e (.Slice none (some u) (some (.UnaryOp .USub (.Constant (.int 1) j p1) p2)) p3) (.ref a) (.ref s4.heap.objs.size)) (EP X pins σ Q) X.xe { s4 with heap := s4.heap.push { cls := .type "slice", data := .fields #[.none, vu, vs] } }
  refine tail_any (ops := [.ref a, .ref s4.heap.objs.size]) ht.typeIs (PyProof.Rows.slot_tuple_getitem.lookup) ?_ (by with_unfolding_all rfl)
  refine getItem_tuple_to ht (Heap.IsSliceOf.new _ .none vu vs) pu ps (by rw [List.size_toArray]; omega) ?_ (by rw [List.size_toArray]; omega)
  refine ⟨.ref _, _, I5.laid (t' := s4.toks) (o := .tup (xs.drop (k + 1)).reverse) (fun b ob q => Heap.get?_push_of_some _ q) (Nat.le_refl _) ?_, rfl, q _ (I5.hok.fresh (Nat.le_refl _))⟩
  refine ⟨by rw [List.length_reverse, List.length_drop]; omega, _, (r.drop (k + 1)).reverse, ?_⟩
  exact IsTup.new _ _
theorem aToT {K : PySem.W.Frag} (h : X.K = K) {e u : Expr} {te tu : TE} {j : Nat} {p1 p2 p3 pos : Pos} (he : PE X e te) (hu : PE X u tu) : PE X (.Subscript e (.Slice none (some u) (some (.UnaryOp .USub (.Constant (.int 1) j p1) p2)) p3) pos) (tToT K te tu) := h ▸ pe_toT he hu
theorem aSetS {K : PySem.W.Frag} {P : Program} {w : World} (e : X.K = K) (e1 : X.prog = P) (e2 : X.w = w) (hc : X.calm = true) : CallR X (.type "set") (rSetS K P w) := e ▸ e1 ▸ e2 ▸ cr_setS hc
theorem aSortedTx {P : Program} {w : World} (e1 : X.prog = P) (e2 : X.w = w) (hc : X.calm = true) : CallR X (.builtin "sorted") (rSortedTx P w) := e1 ▸ e2 ▸ cr_sortedTx hc
end
section
variable {J : It} {xs : List V} {G : Hp → Prop} {σ : L2.St} {H : Hp} {g : TG} {tt : TT} {te : TE} {vs : List Nat} {L : Addr} {Qd : Hp → Prop} {P : Program} {w : World}
/-- a set of texts made over known items -/
theorem sc_steps (S : Steps J xs G) (Pv : Nat → Hp → Prop) (h0 : Pv 0 (upd H L (TxO P w L []))) (hl : ∀ i H, i ≤ xs.length → Pv i H → G H)
    (hs : ∀ i x H, xs[i]? = some x → Pv i H → g x (wipe σ vs) H fun σ2 H2 => wipe σ2 vs = wipe σ vs ∧ tt σ2 H2 fun b H3 =>
      if b = true then te σ2 H3 fun y H4 => ∃ (k : Str) (l : List Str), y = .str k ∧ H4 L = some (TxO P w L l) ∧ l.length + 1 < scanBound ∧ Pv (i + 1) (upd H4 L (TxO P w L (ins l k))) else Pv (i + 1) H3) (hd : ∀ H, Pv xs.length H → Qd H) :
    ∃ W : Nat → Nat → Hp → Prop, (∃ m, W 0 m (upd H L (TxO P w L []))) ∧ ∀ i m H, W i m H → (J.stop i H ∧ Qd H) ∨
      (J.go i H ∧ ∃ N : Hp → Prop, (∀ H', N H' → ∃ m', m' < m ∧ W (i + 1) m' H') ∧ ∀ x H', J.yld i H x H' → g x (wipe σ vs) H' fun σ2 H2 => wipe σ2 vs = wipe σ vs ∧ tt σ2 H2 fun b H3 =>
        if b = true then te σ2 H3 fun y H4 => ∃ (k : Str) (l : List Str), y = .str k ∧ H4 L = some (TxO P w L l) ∧ l.length + 1 < scanBound ∧ N (upd H4 L (TxO P w L (ins l k))) else N H3) := by
  refine ⟨fun i m H => i + m = xs.length ∧ Pv i H, ⟨xs.length, Nat.zero_add _, h0⟩, fun i m H w => ?_⟩
  obtain ⟨em, p⟩ := w
  have gH := hl i H (by omega) p
  rcases Nat.eq_zero_or_pos m with rfl | hm
  · obtain rfl : i = xs.length := em
    exact .inl ⟨S.stop H gH, hd H p⟩
  · have hi : i < xs.length := by omega
    refine .inr ⟨S.go i H hi gH, Pv (i + 1), fun H' p' => ⟨m - 1, by omega, by omega, p'⟩, fun x H' y => ?_⟩
    obtain ⟨ex, rfl⟩ := S.yld i H x H' hi gH y
    exact hs i x _ ex p
end
end Vf
namespace Vf
open PySem L2 PyProof.Rows PySem.Spec PyProof.Rows.G
/-! ## sorted(a list of rows of whole numbers) that rise already -/
def rowLt (a b : List Int) : Bool := lexLt itemOrd (a.map Sum.inl) (b.map Sum.inl)
theorem rowLt_cons (x y : Int) (r t : List Int) : rowLt (x :: r) (y :: t) = (decide (x < y) || (!decide (y < x) && rowLt r t)) := lex_cons (O := itemOrd) (Sum.inl x) (Sum.inl y) (r.map Sum.inl) (t.map Sum.inl)
theorem rowLt_end {x y : Int} (h : x < y) : ∀ o : List Int, rowLt (o ++ [x]) (o ++ [y]) = true
  | [] => by
    rw [List.nil_append, List.nil_append, rowLt_cons, decide_eq_true h]
    rfl
  | z :: o => by
    rw [List.cons_append, List.cons_append, rowLt_cons, rowLt_end h o, decide_eq_false (Int.lt_irrefl z)]
    rfl
theorem rowLt_more {x y : Int} : ∀ {o p : List Int}, o.length = p.length → rowLt o p = true → rowLt (o ++ [x]) (p ++ [y]) = true
  | [], [], _, h => absurd h Bool.false_ne_true
  | a :: o, b :: p, l, h => by
    rw [rowLt_cons] at h
    rw [List.cons_append, List.cons_append, rowLt_cons]
    cases h1 : decide (a < b) with
    | true => rfl
    | false =>
      rw [h1] at h
      cases h2 : decide (b < a) with
      | true => rw [h2] at h; exact absurd h Bool.false_ne_true
      | false =>
        rw [h2] at h
        rw [rowLt_more (Nat.succ.inj l) h]
        rfl
/-- rows of whole numbers at their places -/
def RowsAt (H : Hp) : List Addr → List (List Int) → Prop
  | [], [] => True
  | a :: as, r :: rs => H a = some (.tup (r.map V.int)) ∧ RowsAt H as rs
  | _, _ => False
def rSortedRows (K : PySem.W.Frag) : List V → Hp → VK → Prop := fun vs H Q => ∃ (a : Addr) (as : List Addr) (rows : List (List Int)), vs = [V.ref a] ∧ SqL K H a (as.map V.ref) ∧ RowsAt H as rows ∧ rows.Pairwise (fun x y => rowLt x y = true) ∧ (2 ≤ rows.length → ∀ r ∈ rows, r ≠ []) ∧ rows.length ≤ 100000 ∧
  ∀ p, H p = none → Q (.ref p) (upd H p (.lst (as.map V.ref)))
theorem vals_refs : ∀ {as : List Addr} {us : List Value}, Vals (as.map V.ref) us → us = as.map Value.ref
  | [], _, .nil => rfl
  | a :: as, _, .cons h t => by
    rw [vals_refs t]
    exact congrArg (· :: _) h
theorem zip_refs : ∀ as : List Addr, (as.map Value.ref).zip (as.map Value.ref) = as.map fun a => ((Value.ref a, Value.ref a) : Keyed)
  | [] => rfl
  | a :: as => congrArg (List.cons ((Value.ref a, Value.ref a) : Keyed)) (zip_refs as)
theorem items_ints : ∀ {r : List Int} {us : List Value} {i : Nat}, Vals (r.map V.int) us → tupItems (fun _ => false) i us = some (r.map Sum.inl)
  | [], _, _, .nil => by simp [tupItems]
  | n :: r, _, i, .cons h t => by
    obtain ⟨k, rfl⟩ := h
    simp only [tupItems, Bool.false_eq_true, if_false, items_ints t, Option.map_some, List.map_cons]
theorem rows_len {H : Hp} : ∀ {as : List Addr} {rs : List (List Int)}, RowsAt H as rs → as.length = rs.length
  | [], [], _ => rfl
  | a :: as, r :: rs, h => congrArg Nat.succ (rows_len h.2)
  | [], _ :: _, h => False.elim h
  | _ :: _, [], h => False.elim h
def kf (h : Heap) (p : Keyed) : List (Int ⊕ List Nat) := (tupKeyC h (fun _ => false) p.1).getD []
theorem pair_tri {α : Type} {R : α → α → Prop} : ∀ {l : List α}, l.Pairwise R → ∀ {p q : α}, p ∈ l → q ∈ l → p = q ∨ R p q ∨ R q p
  | _, .cons h t, p, q, hp, hq => by
    rcases List.mem_cons.mp hp with rfl | hp'
    · rcases List.mem_cons.mp hq with rfl | hq'
      · exact .inl rfl
      · exact .inr (.inl (h _ hq'))
    · rcases List.mem_cons.mp hq with rfl | hq'
      · exact .inr (.inr (h _ hp'))
      · exact pair_tri t hp' hq'
section
variable {X : Cx}
theorem row_key {pins : List (Addr × Obj)} {σ : L2.St} {H : Hp} {s : Shared} (I : L2.Inv X pins σ H s) {a : Addr} {r : List Int} (h : H a = some (.tup (r.map V.int))) : tupKeyC s.heap (fun _ => false) (.ref a) = some (r.map Sum.inl) ∧ ∀ n t, r = n :: t → ∃ f, TupOf s.heap (fun _ => false) (.ref a) f := by
  obtain ⟨_, its, rv, o, ho, hc, m, hd⟩ := I.hok a _ h
  have e1 : isTupObj s.heap (.ref a) = true := by simp [isTupObj, ho, hc]
  refine ⟨?_, fun n t e => ?_⟩
  · unfold tupKeyC
    rw [if_pos e1]
    simp only [tupKey, ho, hd]
    exact items_ints rv
  · subst e
    cases rv with
    | cons hf ht =>
      obtain ⟨k, rfl⟩ := hf
      exact ⟨_, a, o, _, m, rfl, ho, hc, hd, rfl, fun _ => ⟨n, k, rfl⟩, fun z => absurd z Bool.false_ne_true⟩
theorem rows_keys {pins : List (Addr × Obj)} {σ : L2.St} {H : Hp} {s : Shared} (I : L2.Inv X pins σ H s) : ∀ {as : List Addr} {rs : List (List Int)}, RowsAt H as rs → (as.map fun a => ((Value.ref a, Value.ref a) : Keyed)).map (kf s.heap) = rs.map (·.map Sum.inl)
  | [], [], _ => rfl
  | a :: as, r :: rs, h => by
    rw [List.map_cons, List.map_cons, List.map_cons, rows_keys I h.2]
    unfold kf
    rw [(row_key I h.1).1]
    rfl
  | [], _ :: _, h => False.elim h
  | _ :: _, [], h => False.elim h
theorem rows_mem {pins : List (Addr × Obj)} {σ : L2.St} {H : Hp} {s : Shared} (I : L2.Inv X pins σ H s) : ∀ {as : List Addr} {rs : List (List Int)}, RowsAt H as rs → ∀ v ∈ as.map Value.ref, ∃ l, tupKeyC s.heap (fun _ => false) v = some l
  | [], [], _, v, hv => absurd hv List.not_mem_nil
  | a :: as, r :: rs, h, v, hv => by
    rcases List.mem_cons.mp hv with rfl | hv
    · exact ⟨_, (row_key I h.1).1⟩
    · exact rows_mem I h.2 v hv
  | [], _ :: _, h, _, _ => False.elim h
  | _ :: _, [], h, _, _ => False.elim h
theorem rows_tups {pins : List (Addr × Obj)} {σ : L2.St} {H : Hp} {s : Shared} (I : L2.Inv X pins σ H s) : ∀ {as : List Addr} {rs : List (List Int)}, RowsAt H as rs → (∀ r ∈ rs, r ≠ []) → ∃ fs, TupsOf s.heap (fun _ => false) (as.map Value.ref) fs
  | [], [], _, _ => ⟨[], .nil⟩
  | a :: as, r :: rs, h, hn => by
    obtain ⟨fs, t⟩ := rows_tups I h.2 fun x hx => hn x (List.mem_cons_of_mem _ hx)
    obtain ⟨n, t', rfl⟩ := List.exists_cons_of_ne_nil (hn r List.mem_cons_self)
    obtain ⟨f, hf⟩ := (row_key I h.1).2 n t' rfl
    exact ⟨f :: fs, .cons hf t⟩
  | [], _ :: _, h, _ => False.elim h
  | _ :: _, [], h, _ => False.elim h
theorem cr_sortedRows : CallR X (.builtin "sorted") (rSortedRows X.K) := by
  intro pins s σ H vs us Q I r h
  obtain ⟨a, as, rows, rfl, hs, hr, hp, hne, hL, q⟩ := h
  obtain ⟨its, rv, hl, _⟩ := I.list hs
  rw [Vals.ref1 r]
  obtain rfl := vals_refs rv
  have ln := rows_len hr
  have lsz : (as.map Value.ref).length ≤ sizeLine := by rw [List.length_map, ln, sizeLine_eq]; omega
  have fs : 2 ≤ (as.map Value.ref).length → ∃ fs, TupsOf s.heap (fun _ => false) (as.map Value.ref) fs := fun h2 => rows_tups I hr (hne (by rw [List.length_map, ln] at h2; exact h2))
  refine sortedG (κ := tupKindC s.heap fun _ => false) (kd := tuples' true) hl.isList (tupKeys (rows_mem I hr)) (fun s2 k => tupC_ltAt (s := s2) true k) (fun h2 A' E' s2 Q' k hq => ?_) lsz fun st hp' hs' _ => ?_
  · obtain ⟨gs, t⟩ := fs h2
    exact tup_kind (s := s2) (by rw [TupsOf.length t]; omega) (TupsOf.keep k t) hq
  have pl : (pairsOf (as.map Value.ref)).toList = as.map fun a => ((Value.ref a, Value.ref a) : Keyed) := by
    rw [pairsOf_toList]
    exact zip_refs as
  have p1 : (as.map fun a => ((Value.ref a, Value.ref a) : Keyed)).Pairwise fun p q => lexLt itemOrd (kf s.heap p) (kf s.heap q) = true := by
    rw [← List.pairwise_map (f := kf s.heap) (R := fun x y => lexLt itemOrd x y = true), rows_keys I hr, List.pairwise_map]
    exact hp
  have asym : ∀ x y : List (Int ⊕ List Nat), lexLt itemOrd x y = true → lexLt itemOrd y x = false := fun x y h => by
    cases h2 : lexLt itemOrd y x with
    | false => rfl
    | true => exact absurd ((lex_irrefl (O := itemOrd) x).symm.trans (lex_trans (O := itemOrd) x y x h h2)) Bool.false_ne_true
  have hpl : (arrOf st).toList.Perm (as.map fun a => ((Value.ref a, Value.ref a) : Keyed)) := pl ▸ Array.perm_iff_toList_perm.mp hp'
  have sz : (arrOf st).size = (pairsOf (as.map Value.ref)).size := hp'.size_eq
  have e : (arrOf st).toList = as.map fun a => ((Value.ref a, Value.ref a) : Keyed) := by
    refine List.Perm.eq_of_pairwise (le := fun p q => lexLt itemOrd (kf s.heap q) (kf s.heap p) = false) (fun x y hx hy h1 h2 => ?_) ?_ (p1.imp fun {p q} h => asym _ _ h) hpl
    · rcases pair_tri p1 (hpl.mem_iff.mp hx) hy with z | z | z
      · exact z
      · rw [z] at h2; cases h2
      · rw [z] at h1; cases h1
    · rw [List.pairwise_iff_getElem]
      intro i j hi hj hij
      have k := hs' i j (by omega) (by rw [← sz]; exact hj)
      rw [Array.length_toList] at hi hj
      have ki : KK (tupKindC s.heap fun _ => false) (arrOf st) i = kf s.heap (arrOf st).toList[i] := by
        unfold KK
        rw [Array.getElem?_eq_getElem hi]
        rfl
      have kj : KK (tupKindC s.heap fun _ => false) (arrOf st) j = kf s.heap (arrOf st).toList[j] := by
        unfold KK
        rw [Array.getElem?_eq_getElem hj]
        rfl
      rw [ki, kj] at k
      exact k
  have eo : (arrOf st).map (·.2) = (as.map Value.ref).toArray := by
    apply Array.ext'
    rw [Array.toList_map, e, List.map_map, List.toList_toArray]
    rfl
  rw [eo]
  obtain ⟨ep, he'⟩ := PyProof.Rows.sortedAll_at s.heap (as.map Value.ref) (as.map Value.ref).toArray
  refine ⟨.ref _, upd H (s.heap.objs.size + 1) (.lst (as.map V.ref)), I.laid (t' := s.toks) (fun _ _ => PyProof.Rows.sortedAll_old) (Nat.le_succ _) ⟨by rw [List.length_map, ln, sizeLine_eq]; omega, as.map Value.ref, ep, rv, he'⟩, rfl, q _ (I.hok.fresh (Nat.le_succ _))⟩
theorem aSortedRows {K : PySem.W.Frag} (e : X.K = K) : CallR X (.builtin "sorted") (rSortedRows K) := e ▸ cr_sortedRows
end
end Vf
namespace Vf
open PySem L2 PyProof.Rows PySem.Spec StX
section
variable {X : Cx} {e : Expr} {es : List Expr} {te : TE} {t : TA} {p : Pos}
theorem aStar {K : PySem.W.Frag} (h : X.K = K) (he : PE X e te) (hr : PA X es t) (hs : starEach (.Starred e p :: es) X.env = (true, eval e X.env) :: starEach es X.env := by rfl) : PA X (.Starred e p :: es) (tStar K te t) := h ▸ pa_star he hr hs
end
section
variable {X : Cx}
/-- t + u, both of the heap: a tuple of it -/
def rCatM (K : PySem.W.Frag) : R2 := fun x y H Q => ∃ a b xs ys, x = .ref a ∧ y = .ref b ∧ H a = some (.tup xs) ∧ H b = some (.tup ys) ∧ xs.length + ys.length ≤ sizeLine ∧ ∀ (p : Addr) (H' : Hp), Same H H' → H' p = some (.tup (xs ++ ys)) → Q (.ref p) H'
theorem opCatM : OpR X (binaryOp .Add) (rCatM X.K) := by
  intro pins s σ H x y v u Q I rx ry h
  obtain ⟨a, b, xs, ys, rfl, rfl, h1, h2, l, q⟩ := h
  refine op_catA pins s σ H _ _ v u Q I rx ry ⟨a, b, xs, ys, rfl, rfl, .of h1, .of h2, l, fun e => q b H (Same.refl H) ?_, fun _ e => q a H (Same.refl H) ?_, fun _ _ p hp => q p _ (same_upd hp) upd_same⟩
  · subst e
    exact h2
  · subst e
    rw [List.append_nil]
    exact h1
theorem aCatM {K : PySem.W.Frag} (e : X.K = K) : OpR X (binaryOp .Add) (rCatM K) := e ▸ opCatM
end
section
variable {J J1 : It} {xs ys : List V} {G G1 : Hp → Prop} {σ σ2 : L2.St} {H H4 : Hp} {g g1 : TG} {tt tt1 : TT} {te : TE} {wi1 : TI} {vs vs1 : List Nat} {L : Addr} {Qd Nx : Hp → Prop}
/-- a comprehension of two clauses: the first one's walk over known items -/
theorem lc2_steps (S : Steps J xs G) (Pv : Nat → Hp → Prop) (h0 : Pv 0 (upd H L (.lst []))) (hl : ∀ i H, i ≤ xs.length → Pv i H → G H)
    (hs : ∀ i x H, xs[i]? = some x → Pv i H → g x (wipe σ vs) H fun σ2 H2 => wipe σ2 vs = wipe σ vs ∧ tt σ2 H2 fun b H3 =>
      if b = true then wi1 σ2 H3 fun J1 H4 => ∃ W1 : Nat → Nat → Hp → Prop, (∃ m, W1 0 m H4) ∧ ∀ j k H, W1 j k H →
        (J1.stop j H ∧ Pv (i + 1) H) ∨ (J1.go j H ∧ ∃ Nx1 : Hp → Prop, (∀ H', Nx1 H' → ∃ k', k' < k ∧ W1 (j + 1) k' H') ∧ ∀ x H', J1.yld j H x H' → g1 x (wipe σ2 vs1) H' fun σ3 H5 => wipe σ3 vs1 = wipe σ2 vs1 ∧ tt1 σ3 H5 fun b H6 =>
          if b = true then te σ3 H6 fun y H7 => ∃ acc, H7 L = some (.lst acc) ∧ acc.length < sizeLine ∧ Nx1 (upd H7 L (.lst (acc ++ [y]))) else Nx1 H6)
      else Pv (i + 1) H3) (hd : ∀ H, Pv xs.length H → Qd H) :
    ∃ W : Nat → Nat → Hp → Prop, (∃ m, W 0 m (upd H L (.lst []))) ∧ ∀ i m H, W i m H → (J.stop i H ∧ Qd H) ∨
      (J.go i H ∧ ∃ Nx : Hp → Prop, (∀ H', Nx H' → ∃ m', m' < m ∧ W (i + 1) m' H') ∧ ∀ x H', J.yld i H x H' → g x (wipe σ vs) H' fun σ2 H2 => wipe σ2 vs = wipe σ vs ∧ tt σ2 H2 fun b H3 =>
        if b = true then wi1 σ2 H3 fun J1 H4 => ∃ W1 : Nat → Nat → Hp → Prop, (∃ m, W1 0 m H4) ∧ ∀ j k H, W1 j k H →
          (J1.stop j H ∧ Nx H) ∨ (J1.go j H ∧ ∃ Nx1 : Hp → Prop, (∀ H', Nx1 H' → ∃ k', k' < k ∧ W1 (j + 1) k' H') ∧ ∀ x H', J1.yld j H x H' → g1 x (wipe σ2 vs1) H' fun σ3 H5 => wipe σ3 vs1 = wipe σ2 vs1 ∧ tt1 σ3 H5 fun b H6 =>
            if b = true then te σ3 H6 fun y H7 => ∃ acc, H7 L = some (.lst acc) ∧ acc.length < sizeLine ∧ Nx1 (upd H7 L (.lst (acc ++ [y]))) else Nx1 H6)
        else Nx H3) := by
  refine ⟨fun i m H => i + m = xs.length ∧ Pv i H, ⟨xs.length, Nat.zero_add _, h0⟩, ?_⟩
  rintro i m H ⟨em, p⟩
  have gH := hl i H (by omega) p
  cases m with
  | zero =>
    have e : i = xs.length := by omega
    subst e
    exact .inl ⟨S.stop H gH, hd H p⟩
  | succ m =>
    have hi : i < xs.length := by omega
    refine .inr ⟨S.go i H hi gH, Pv (i + 1), fun H' p' => ⟨m, Nat.lt_succ_self _, by omega, p'⟩, fun x H' y => ?_⟩
    obtain ⟨ex, rfl⟩ := S.yld i H x H' hi gH y
    exact hs i x _ ex p
/-- .. the second one's -/
theorem lc2_in (S : Steps J1 ys G1) (Pv : Nat → Hp → Prop) (h0 : Pv 0 H4) (hl : ∀ i H, i ≤ ys.length → Pv i H → G1 H)
    (hs : ∀ i x H, ys[i]? = some x → Pv i H → g1 x (wipe σ2 vs1) H fun σ3 H5 => wipe σ3 vs1 = wipe σ2 vs1 ∧ tt1 σ3 H5 fun b H6 =>
      if b = true then te σ3 H6 fun y H7 => ∃ acc, H7 L = some (.lst acc) ∧ acc.length < sizeLine ∧ Pv (i + 1) (upd H7 L (.lst (acc ++ [y]))) else Pv (i + 1) H6) (hd : ∀ H, Pv ys.length H → Nx H) :
    ∃ W1 : Nat → Nat → Hp → Prop, (∃ m, W1 0 m H4) ∧ ∀ j k H, W1 j k H →
      (J1.stop j H ∧ Nx H) ∨ (J1.go j H ∧ ∃ Nx1 : Hp → Prop, (∀ H', Nx1 H' → ∃ k', k' < k ∧ W1 (j + 1) k' H') ∧ ∀ x H', J1.yld j H x H' → g1 x (wipe σ2 vs1) H' fun σ3 H5 => wipe σ3 vs1 = wipe σ2 vs1 ∧ tt1 σ3 H5 fun b H6 =>
        if b = true then te σ3 H6 fun y H7 => ∃ acc, H7 L = some (.lst acc) ∧ acc.length < sizeLine ∧ Nx1 (upd H7 L (.lst (acc ++ [y]))) else Nx1 H6) := by
  refine ⟨fun i m H => i + m = ys.length ∧ Pv i H, ⟨ys.length, Nat.zero_add _, h0⟩, ?_⟩
  rintro i m H ⟨em, p⟩
  have gH := hl i H (by omega) p
  cases m with
  | zero =>
    have e : i = ys.length := by omega
    subst e
    exact .inl ⟨S.stop H gH, hd H p⟩
  | succ m =>
    have hi : i < ys.length := by omega
    refine .inr ⟨S.go i H hi gH, Pv (i + 1), fun H' p' => ⟨m, Nat.lt_succ_self _, by omega, p'⟩, fun x H' y => ?_⟩
    obtain ⟨ex, rfl⟩ := S.yld i H x H' hi gH y
    exact hs i x _ ex p
end
end Vf
namespace Vf
open PySem L2 PyProof.Rows PySem.Spec
/-! ## max(a list of whole numbers, default = ..) -/
def bst (b : Option Int) (x : Int) : Option Int := some (match b with
  | none => x
  | some m => if m < x then x else m)
def HeldB (b : Option Int) (xs : Array Value) : Prop := match b with
  | none => xs = #[]
  | some m => ∃ t, xs = #[.int m t, .int m t]
def EndB (d v : Value) : Option Int → Prop
  | none => v = d
  | some m => ∃ t, v = .int m t
section
variable {prog : Program} {w : World} {A : Around} {R : Result → Shared → Prop} {I l S : Addr} {its : Array Value} {d : Value}
theorem cmp_gt {x y : Int} {t u : Tok} {s : Shared} {Q E : Value → Shared → Prop} (h : Q (.bool (decide (x > y))) s) : wpAny (model prog w) A (richCompare .Gt (.int x t) (.int y u)) Q E s := by
  have c : CmpOf prog w A .Gt (fun i v => ∃ t, v = .int (if i = 0 then x else y) t) _ := CmpOf.ints_gt (fun i => if i = 0 then x else y) (fun _ _ h => h)
  exact c 0 1 _ _ s Q E ⟨t, rfl⟩ ⟨u, rfl⟩ h
theorem maxd_loop (hh : A.in1.handled = none) (hI : I ≠ S) (hl : l ≠ S) (hne : l ≠ I) : ∀ (r : List Int) (j : Nat) (s : Shared) (b : Option Int) (xs : Array Value) (c : Nat), IntsAre (its.toList.drop j) r → j ≤ its.size →
    s.heap.IsListIter I l j ∧ s.heap.IsList l its → s.heap.get? S = some { cls := .type "list", dict := none, data := .seq xs c, slots := #[] } → HeldB b xs →
    (∀ v h' tk, EndB d v (r.foldl bst b) → (∀ b o, b ≠ I → b ≠ S → s.heap.get? b = some o → h'.get? b = some o) → R (.ok (.ret v)) { s with heap := h', toks := tk }) →
    codeAny (model prog w) A (.builtin "max.loop" ⟨[.ref I, .none, .ref S], [("default", d)]⟩) R s := by
  intro r
  have W := Walks.list (prog := prog) (w := w) (A := A.in1) hh I l hne its
  have nm : (toString "max" ++ toString ".loop" : String) = "max.loop" := by decide
  have off : ∀ {b : Addr}, b ≠ I → b ∉ [I] := fun h m => h (by simpa using m)
  induction r with
  | nil =>
    intro j s b xs c hr hj st hS hb fin
    have ej : j = its.size := by
      cases e : its.toList.drop j with
      | nil =>
        have := List.drop_eq_nil_iff.mp e
        rw [Array.length_toList] at this
        omega
      | cons v vs => rw [e] at hr; cases hr
    subst ej
    refine codeAny_builtin F.entry_max_loop ?_
    rw [Around.under_plainId F.plain_max_loop _]
    show wpAny _ A.in1 (seqItems? (.ref S) >>= _) _ _ s
    refine wpAny_bind (wpAny_seqItems hS rfl ?_)
    show wpAny _ A.in1 (tryCatch (pyNext (.ref I)) _ >>= _) _ _ s
    refine wpAny_bind (wpAny_tryCatch (W.done s _ _ st fun h' tk k => ?_))
    have hS' := k S _ (off hI.symm) hS
    cases b with
    | none =>
      obtain rfl : xs = #[] := hb
      exact wpAny_bind (wpAny_rule (wpAny_pure (fin d h' tk rfl fun b o n1 _ e => k b o (off n1) e)))
    | some m =>
      obtain ⟨t, rfl⟩ : ∃ t, xs = #[.int m t, .int m t] := hb
      show wpAny _ A.in1 (updateSeq S (fun _ => #[]) >>= _) _ _ _
      refine wpAny_bind (wpAny_updateSeq hS' rfl (wpAny_bind (wpAny_letGo (wpAny_pure ?_))))
      exact fin _ _ tk ⟨t, rfl⟩ fun b o n1 n2 e => (Heap.get?_update_other _ _ n2.symm).trans (k b o (off n1) e)
  | cons x r ih =>
    intro j s b xs c hr hj st hS hb fin
    obtain ⟨v0, vs, e0, t0, rfl, hr'⟩ : ∃ v0 vs, its.toList.drop j = v0 :: vs ∧ ∃ t0, v0 = .int x t0 ∧ IntsAre vs r := by
      cases e : its.toList.drop j with
      | nil => rw [e] at hr; cases hr
      | cons v vs =>
        rw [e] at hr
        cases hr
        exact ⟨_, _, rfl, _, rfl, by assumption⟩
    have lt : j < its.size := by
      have := congrArg List.length e0
      rw [List.length_drop, Array.length_toList, List.length_cons] at this
      omega
    have at_ : its[j]? = some (.int x t0) := by
      have := congrArg List.head? e0
      rw [List.head?_drop, List.head?_cons, Array.getElem?_toList] at this
      exact this
    have dr : its.toList.drop (j + 1) = vs := by rw [← List.drop_drop, e0]; rfl
    refine codeAny_builtin F.entry_max_loop ?_
    rw [Around.under_plainId F.plain_max_loop _]
    show wpAny _ A.in1 (seqItems? (.ref S) >>= _) _ _ s
    refine wpAny_bind (wpAny_seqItems hS rfl ?_)
    show wpAny _ A.in1 (tryCatch (pyNext (.ref I)) _ >>= _) _ _ s
    refine wpAny_bind (wpAny_tryCatch (W.item j s _ _ lt st fun v h' tk hP st' k => ?_))
    rw [at_] at hP
    cases hP
    have hS' := k S _ (off hI.symm) hS
    have again_ : ∀ (b2 : Option Int) (ys : Array Value) (c2 : Nat) (h2 : Heap) (tk2 : Nat), bst b x = b2 → HeldB b2 ys → h2.get? S = some { cls := .type "list", dict := none, data := .seq ys c2, slots := #[] } → (∀ b o, b ≠ S → h'.get? b = some o → h2.get? b = some o) →
        codeAny (model prog w) A (.builtin "max.loop" ⟨[.ref I, .none, .ref S], [("default", d)]⟩) R { s with heap := h2, toks := tk2 } := by
      intro b2 ys c2 h2 tk2 eb hb2 hS2 k2
      refine ih (j + 1) { s with heap := h2, toks := tk2 } b2 ys c2 (by rw [dr]; exact hr') lt (W.frame _ _ _ st' fun b hbf o e => k2 b o ?_ e) hS2 hb2 fun v' h3 tk3 hv k3 => fin v' h3 tk3 ?_ fun b o n1 n2 e => k3 b o n1 n2 (k2 b o n2 (k b o (off n1) e))
      · simp only [List.mem_cons, List.not_mem_nil, or_false] at hbf
        rcases hbf with rfl | rfl
        · exact hI
        · exact hl
      · rw [List.foldl_cons, eb]
        exact hv
    cases b with
    | none =>
      obtain rfl : xs = #[] := hb
      show wpAny _ A.in1 (updateSeq S (fun _ => #[.int x t0, .int x t0]) >>= _) _ _ _
      refine wpAny_bind (wpAny_updateSeq hS' rfl ?_)
      rw [nm]
      exact wpAny_pure ⟨plainId_quiet F.plain_max_loop _, again_ _ _ _ _ _ rfl ⟨t0, rfl⟩ (Heap.get?_update_self _ hS' rfl) fun b o n e => (Heap.get?_update_other _ _ n.symm).trans e⟩
    | some m =>
      obtain ⟨t, rfl⟩ : ∃ t, xs = #[.int m t, .int m t] := hb
      show wpAny _ A.in1 (tryCatch (holding [.int x t0, .int x t0] (richCompare .Gt (.int x t0) (.int m t) >>= _)) _ >>= _) _ _ _
      refine wpAny_bind (wpAny_tryCatch (wpAny_holding (wpAny_bind (cmp_gt ?_))))
      refine wpAny_bind (wpAny_holding (wpAny_truthy_bool (wpAny_bind (wpAny_letGo (wpAny_pure ?_)))))
      by_cases g : m < x
      · rw [show decide (x > m) = true from decide_eq_true g]
        simp only [if_true]
        refine wpAny_bind (wpAny_updateSeq hS' rfl (wpAny_bind (wpAny_letGo ?_)))
        rw [nm]
        exact wpAny_pure ⟨plainId_quiet F.plain_max_loop _, again_ (some x) _ _ _ _ (by simp only [bst, if_pos g]) ⟨t0, rfl⟩ (Heap.get?_update_self _ hS' rfl) fun b o n e => (Heap.get?_update_other _ _ n.symm).trans e⟩
      · rw [show decide (x > m) = false from decide_eq_false g]
        simp only [Bool.false_eq_true, if_false]
        refine wpAny_bind (wpAny_letGo ?_)
        rw [nm]
        exact wpAny_pure ⟨plainId_quiet F.plain_max_loop _, again_ (some m) _ _ _ _ (by simp only [bst, if_neg g]) ⟨t, rfl⟩ hS' fun b o n e => e⟩
end
theorem args_maxd (a v : Value) : argsOk "max" ⟨[a], [(Str.ofString "default", v)]⟩ := by unfold argsOk; kernel_rfl
section
variable {X : Cx}
def rMaxDf (K : PySem.W.Frag) : List V → List V → Hp → VK → Prop := fun vs zs H Q => ∃ (a : Addr) (ns : List Int) (d : Int), vs = [V.ref a] ∧ zs = [V.int d] ∧ SqL K H a (ns.map V.int) ∧ Q (.int ((ns.foldl bst none).getD d)) H
theorem cr_maxDf (hc : X.calm = true) : CallRK X (.builtin "max") [Str.ofString "default"] (rMaxDf X.K) := by
  intro pins s σ H vs zs us ws Q I r rz h
  obtain ⟨a, ns, d, rfl, rfl, hs, q⟩ := h
  obtain ⟨its, rv, hl, _⟩ := I.list hs
  obtain rfl := Vals.ref1 r
  obtain ⟨w1, rfl, t, rfl⟩ := vals1 rz
  have hL := hl.isList
  have hlt : a < s.heap.objs.size := by obtain ⟨_, e, _⟩ := hL; exact Heap.lt_size e
  refine wpAny_call (codeAny_call_builtin F.plain_max F.entry_max ?_)
  have go : wpAny (model X.prog X.w) X.A.in1 (Builtin.«max» ⟨[.ref a], [(Str.ofString "default", .int d t)]⟩) (fun fin s' => match fin with
      | .done f => (match (Except.ok f : Result) with | .ok (.ret v) => EP X pins σ Q v s' | .ok _ => False | .error e => X.xe e s')
      | .again c' => c'.quiet = true ∧ codeAny (model X.prog X.w) X.A c' (fun r s' => match r with | .ok (.ret v) => EP X pins σ Q v s' | .ok _ => False | .error e => X.xe e s') s') X.xe s := by
    show wpAny _ X.A.in1 (Builtin.Builtins.bindParams "max" ["key", "default"] 0 ⟨[], [(Str.ofString "default", .int d t)]⟩ >>= _) _ _ s
    refine wpAny_bind (wpAny_of_eq (show Builtin.Builtins.bindParams "max" ["key", "default"] 0 ⟨[], [(Str.ofString "default", .int d t)]⟩ = pure [none, some (.int d t)] from rfl) ?_)
    refine wpAny_bind (wpAny_pure ?_)
    refine wpAny_bind (wpAny_pyIter_list hL ?_)
    refine wpAny_bind (wpAny_newObj_type ?_)
    have nm : (toString "max" ++ toString ".loop" : String) = "max.loop" := by decide
    rw [nm]
    have ps : ∀ (o : Obj), (s.heap.push o).objs.size = s.heap.objs.size + 1 := fun o => size_push' _ _
    refine wpAny_pure ⟨plainId_quiet F.plain_max_loop _, maxd_loop (l := a) (its := its.toArray) (b := none) (xs := #[]) (d := .int d t) (I.ok.hd hc) ?_ ?_ ?_ ns 0 _ _ ?_ (Nat.zero_le _) ?_ (Heap.get?_push_size _ rfl) rfl fun v h' tk hv k => ?_⟩
    · rw [ps]
      exact Nat.ne_of_lt (Nat.lt_succ_self _)
    · rw [ps]
      exact Nat.ne_of_lt (Nat.lt_succ_of_lt hlt)
    · exact Nat.ne_of_lt hlt
    · simpa using rv.ints
    · exact ⟨⟨_, Heap.get?_push_of_some _ (Heap.get?_push_size _ rfl), rfl, rfl⟩, (hL.push _).push _⟩
    · refine ⟨.int ((ns.foldl bst none).getD d), H, I.kept (t' := tk) fun b o e => ?_, ?_, q⟩
      · have lt := Heap.lt_size e
        exact k b o (Nat.ne_of_lt lt) (by rw [ps]; exact Nat.ne_of_lt (Nat.lt_succ_of_lt lt)) (Heap.get?_push_of_some _ (Heap.get?_push_of_some _ e))
      · cases e : ns.foldl bst none with
        | none =>
          rw [e] at hv
          exact ⟨t, hv⟩
        | some m =>
          rw [e] at hv
          exact hv
  simp only [checkBuiltinCall, F.kind_max]
  have ha := args_maxd (.ref a) (.int d t)
  cases hsig : Manifest.signature? "max" with
  | none => exact wpAny_pure go
  | some sig =>
    simp only [argsOk, hsig] at ha
    show wpAny _ X.A.in1 (Bind.checkArgs "max" sig ⟨[.ref a], [(Str.ofString "default", .int d t)]⟩) _ _ s
    rw [ha]
    exact wpAny_pure go
theorem aMaxDf {K : PySem.W.Frag} (e : X.K = K) (hc : X.calm = true) : CallRK X (.builtin "max") [Str.ofString "default"] (rMaxDf K) := e ▸ cr_maxDf hc
end
end Vf
namespace Vf
open PySem L2 PyProof.Rows PySem.Spec
/-! ## signs in words -/
theorem tl_ext {a b : Str} (h : a.cps.toList = b.cps.toList) : a = b := by
  obtain ⟨a⟩ := a
  obtain ⟨b⟩ := b
  have : a = b := Array.toList_inj.mp h
  rw [this]
theorem tl_app2 (a b : Str) : (a ++ b).cps.toList = a.cps.toList ++ b.cps.toList := by
  show (a.cps ++ b.cps).toList = _
  rw [Array.toList_append]
def blank : Str := " "
theorem join_eqS (y : Str) (l : List Str) : Txt.join y l = Str.join y l := TL.join_eq y l
theorem join_cons (y x : Str) {l : List Str} (h : l ≠ []) : Str.join y (x :: l) = x ++ y ++ Str.join y l := by
  cases l with
  | nil => exact absurd rfl h
  | cons z r => rfl
theorem str_assoc (a b c : Str) : a ++ b ++ c = a ++ (b ++ c) := tl_ext (by rw [tl_app2, tl_app2, tl_app2, tl_app2, List.append_assoc])
theorem join_append (y : Str) : ∀ {l m : List Str}, l ≠ [] → m ≠ [] → Str.join y (l ++ m) = Str.join y l ++ y ++ Str.join y m
  | [], _, h, _ => absurd rfl h
  | [x], m, _, h => join_cons y x h
  | x :: z :: r, m, _, h => by
    rw [List.cons_append, join_cons y x (by simp), join_append y (l := z :: r) (by simp) h, join_cons y x (by simp)]
    simp only [str_assoc]
theorem join_flat {α : Type} (y : Str) (f : α → List Str) (hf : ∀ x, f x ≠ []) : ∀ l : List α, Str.join y (l.map fun x => Str.join y (f x)) = Str.join y (l.flatMap f)
  | [] => rfl
  | [x] => by
    rw [List.flatMap_cons, List.flatMap_nil, List.append_nil]
    rfl
  | x :: z :: r => by
    rw [List.map_cons, join_cons y _ (by simp), join_flat y f hf (z :: r), List.flatMap_cons (x := x), join_append y (hf x) (by
      rw [List.flatMap_cons]
      exact fun e => hf z (List.append_eq_nil_iff.mp e).1)]
/-- a text of a word: signs that are no blanks -/
def Word (z : Str) : Prop := 32 ∉ z.cps.toList
theorem split_words {l : List Str} (h : l ≠ []) (hw : ∀ z ∈ l, Word z) : Txt.split (Str.join " " l) " " = l := by
  rw [← join_eqS]
  exact TL.split_join (y := " ") (s := 32) (S := []) (by decide +kernel) (by decide +kernel) h hw
end Vf
namespace Vf
open PySem L2 PyProof.Rows PySem.Spec RT
section
variable {X : Cx} {tg : Expr}
theorem aRevW {K : PySem.W.Frag} (h : X.K = K) {e : Expr} {te : TE} {p pos : Pos} (hg : Gl X "reversed") (hm : X.mg "reversed" = none) (he : PE X e te) (hs : starEach [e] X.env = (false, eval e X.env) :: starEach [] X.env := by rfl) : PI X tg (.Call (.Name "reversed" p) [e] [] pos) (iRevA K te) := h ▸ pi_revA hg hm he hs
end
theorem aBm0 {X : Cx} {K : PySem.W.Frag} {T name id : String} {r : V → List V → Hp → VK → Prop} {o : Expr} {to : TE} {apos cpos : Pos} (e : X.K = K) (pa : PlainAttrs T) (slot : Slot T name id) (hty : typeOf (.builtin id) = pure (.type "method_descriptor")) (hm : MtR X id r) (ho : PE X o to)
    (hbase : attributeBase o name X.env (eval o X.env) = eval o X.env := by rfl) (hline : (apos.endLine == cpos.line) = true := by rfl) : PE X (.Call (.Attribute o name apos) [] [] cpos) (tBM0 K T r to) := e ▸ pe_bm0 pa slot hty hm ho hbase hline
theorem steps_rev (K : PySem.W.Frag) (a : Addr) (xs : List V) : Steps (Itv K a xs.length) xs.reverse (fun H => SqL K H a xs) where
  stop := fun H g => by
    show xs.length ≤ xs.reverse.length
    rw [List.length_reverse]
    exact Nat.le_refl _
  go := fun i H h g => by
    rw [List.length_reverse] at h
    refine ⟨h, xs, xs[xs.length - 1 - i]'(by omega), g, List.getElem?_eq_getElem _⟩
  yld := fun i H x H' h g y => by
    rw [List.length_reverse] at h
    obtain ⟨e, f⟩ := y
    refine ⟨?_, e⟩
    rw [List.getElem?_reverse h]
    exact f xs g
end Vf
namespace Vf
open PySem L2 PyProof.Rows PySem.Spec
def top (i : Nat) : Stmt := PySem.Challenge.pw_poisonrules_k05_terms_there_and_back.main.body.getD i (.Pass ⟨0, 0, 0, 0⟩)
structure Tx (K : PySem.W.Frag) (mg : Str → Option Value) : Prop where
  isinstance : mg "isinstance" = none
  str : mg "str" = none
  int : mg "int" = none
  bool : mg "bool" = none
  tuple : mg "tuple" = none
  len : mg "len" = none
  all : mg "all" = none
  any : mg "any" = none
  sum : mg "sum" = none
  list : mg "list" = none
  range : mg "range" = none
  repr : mg "repr" = none
  set : mg "set" = none
  sorted : mg "sorted" = none
  dict : mg "dict" = none
  max : mg "max" = none
  min : mg "min" = none
  zip : mg "zip" = none
  enumerate : mg "enumerate" = none
  reversed : mg "reversed" = none
local macro_rules | `(tactic| walk_at "rd") => `(tactic| simp only [tSeq, tIfS, tOr, tAnd, tNot, tB, tTest, tChain, tCB, tCons, tNil, tVar, tC, tRet, tAndV, tOrV, tNotV, tOp, tNext, tDrop, tAsg, tPar, tYes, tIf, tCall, tCalK, tTup, tLst, tSl, tNoPart, tPart, tM0, tM1, tRevL, tBM0, tBM, gName, rI0, rI, rU, rInA, rEqA, rAddA, rMulA, rSlAny, iAny, rIsi, rAll, rAny, rSum, rList, rTuple, rLen, rLenS, rLenSeq, rMulS, CDiv, rIn, rEqD, rNeD, iList, iTup, iStr, rCat, rCatA, rSlL, rSlA, rSlS, gSub, rPop, rAppend, rSetL, rIx, rIxL, rIxT, rIxS, LenV,
  L2.start, List.map_cons, List.map_nil, List.length_cons, List.length_nil, List.cons_append, List.nil_append, List.append_nil, Nat.zero_add, Nat.add_sub_cancel, Nat.sub_self, List.replicate_succ, List.replicate_zero, List.getElem?_cons_zero, List.getElem?_cons_succ, List.set_cons_zero, List.set_cons_succ,
  Option.some.injEq, V.int.injEq, V.str.injEq, V.bl.injEq, V.ref.injEq, List.cons.injEq, and_true, true_and, exists_eq_left', exists_eq_left, exists_eq_right, exists_and_left, exists_and_right, false_or, or_false, reduceCtorEq, false_and, and_false, exists_false, Bool.not_true, Bool.not_false, if_true, if_false, Bool.false_eq_true, ite_true, ite_false])
def kept : List Str := ["and", "below", "choice", "copy", "froze", "if", "in", "left", "less", "not", "or", "out", "quot", "rest", "right", "rule", "same", "sum", "times", "to", "twice", "under", "unlike", "width", "xor"]
def abc : Str := "abcdefghijklmnopqrstuvwxyz"
/-- is it a name: by the program's words -/
def isName (x : V) : Bool := match x with
  | .str s => decide (1 ≤ s.length) && decide (s.length ≤ 8) && !inV x (kept.map V.str) && s.cps.toList.all fun c => decide (c ∈ abc.cps.toList)
  | _ => false
def inAbc (x : V) : V := match x with
  | .str s => .bl (decide (s.cps.toList.headD 0 ∈ abc.cps.toList))
  | _ => .non
theorem inAbc_sign (c : Nat) : inAbc (.str ⟨#[c]⟩) = .bl (decide (c ∈ abc.cps.toList)) := rfl
theorem inAbc_all (z : Str) : ((signs z).filter fun _ => true).map inAbc = (z.cps.toList.map fun c => decide (c ∈ abc.cps.toList)).map V.bl := by
  rw [List.filter_eq_self.mpr fun _ _ => rfl]
  unfold signs
  rw [List.map_map, List.map_map]
  rfl
end Vf
namespace Vf
open PySem L2 PyProof.Rows PySem.Spec
local macro_rules | `(tactic| walk_at "rd") => `(tactic| simp only [tSeq, tIfS, tOr, tAnd, tNot, tB, tTest, tChain, tCB, tCons, tNil, tVar, tC, tRet, tAndV, tOrV, tNotV, tOp, tNext, tDrop, tAsg, tPar, tYes, tIf, tCall, tCalK, tTup, tLst, tSl, tNoPart, tPart, tM0, tM1, tRevL, tBM0, tBM, gName, rI0, rI, rU, rInA, rEqA, rAddA, rMulA, rSlAny, iAny, rIsi, rAll, rAny, rSum, rList, rTuple, rLen, rLenS, rLenSeq, rMulS, CDiv, rIn, rEqD, rNeD, iList, iTup, iStr, rCat, rCatA, rSlL, rSlA, rSlS, gSub, rPop, rAppend, rSetL, rIx, rIxL, rIxT, rIxS, LenV,
  L2.start, List.map_cons, List.map_nil, List.length_cons, List.length_nil, List.cons_append, List.nil_append, List.append_nil, Nat.zero_add, Nat.add_sub_cancel, Nat.sub_self, List.replicate_succ, List.replicate_zero, List.getElem?_cons_zero, List.getElem?_cons_succ, List.set_cons_zero, List.set_cons_succ,
  Option.some.injEq, V.int.injEq, V.str.injEq, V.bl.injEq, V.ref.injEq, List.cons.injEq, and_true, true_and, exists_eq_left', exists_eq_left, exists_eq_right, exists_and_left, exists_and_right, false_or, or_false, reduceCtorEq, false_and, and_false, exists_false, Bool.not_true, Bool.not_false, if_true, if_false, Bool.false_eq_true, ite_true, ite_false])
theorem rEq_int {i j : Int} {H : Hp} {Q : VK} : rEq (.int i) (.int j) H Q = Q (.bl (decide (i = j))) H := by
  have e : decide (V.int i = V.int j) = decide (i = j) := by simp
  unfold rEq
  rw [e]
  exact propext ⟨fun h => h.2, fun h => ⟨rfl, h⟩⟩
theorem rEq_str {i j : Str} {H : Hp} {Q : VK} : rEq (.str i) (.str j) H Q = Q (.bl (decide (i = j))) H := by
  have e : decide (V.str i = V.str j) = decide (i = j) := by simp
  unfold rEq
  rw [e]
  exact propext ⟨fun h => h.2, fun h => ⟨rfl, h⟩⟩
local macro_rules | `(tactic| walk_at "rq") => `(tactic| (walk_at "rd"; (try simp only [rEq_int, rEq_str, tUn, rU, tC, rInT, rInK, rIxK, rExtendT, rSlU, rCatU, V.int.injEq, V.str.injEq, V.bl.injEq, V.ref.injEq, exists_eq_left', exists_eq_left, Bool.false_bne, Bool.false_xor, Bool.true_xor]); (try walk_at "rd")))
theorem iteY {c : Bool} {A B : Prop} (h : c = true) (a : A) : if c = true then A else B := by rw [if_pos h]; exact a
theorem iteN {c : Bool} {A B : Prop} (h : c = false) (b : B) : if c = true then A else B := by rw [if_neg (by rw [h]; exact Bool.false_ne_true)]; exact b
theorem line_le' {n : Nat} (h : n ≤ 1000000) : n ≤ sizeLine := by
  rw [sizeLine_eq]
  omega
/-! ## terms, on data -/
def leavesL : List Str := ["look", "const", "num"]
def flaggedL : List Str := ["sum", "less", "twice"]
def flagsL : List Str := ["", "u", "s", "us"]
def compL : List Str := ["same", "below", "under"]
def cntL : List (Str × Int) := [("look", 0), ("const", 0), ("num", 0), ("sum", 2), ("less", 2), ("twice", 1), ("and", 2), ("or", 2), ("xor", 2), ("not", 1), ("times", 2), ("quot", 2), ("rest", 2), ("left", 2), ("right", 2), ("froze", 1), ("choice", 4)]
def cnt (z : Str) : Option Int := (cntL.find? fun p => p.1 == z).map (·.2)
def nameD : PyData → Bool
  | .str s => isName (.str s)
  | _ => false
def wholeD : PyData → Bool
  | .int _ => true
  | _ => false
def numD : PyData → Bool
  | .int i => decide (-99 ≤ i) && decide (i ≤ 99)
  | _ => false
def amongD (l : List Str) : PyData → Bool
  | .str s => decide (s ∈ l)
  | _ => false
def leafD (h : Str) (d : PyData) : Bool := if h = "num" then numD d else nameD d
def triD (l : List Str) : PyData → Bool
  | .tuple [h, _, _] => amongD l h
  | _ => false
def shapeT (h : Str) (r : List PyData) : Bool := match cnt h with
  | none => false
  | some c =>
    if h ∈ leavesL then decide (r.length = 1) && leafD h (r.headD .none)
    else if h = "choice" then decide (r.length = 3) && triD compL (r.headD .none)
    else if h ∈ flaggedL then decide ((r.length : Int) = 1 + c) && amongD flagsL (r.headD .none)
    else decide ((r.length : Int) = c)
def shapeD : PyData → Bool
  | .tuple (.str h :: r) => shapeT h r
  | _ => false
def behind : PyData → List PyData
  | .tuple ts => ts.drop 1
  | _ => []
def partsT (h : Str) (r : List PyData) : List PyData :=
  if h ∈ leavesL then [] else if h = "choice" then behind (r.headD .none) ++ r.drop 1 else if h ∈ flaggedL then r.drop 1 else r
def partsD : PyData → List PyData
  | .tuple (.str h :: r) => partsT h r
  | _ => []
mutual
def sz : PyData → Nat
  | .tuple l => 1 + szL l
  | _ => 1
def szL : List PyData → Nat
  | [] => 0
  | d :: l => sz d + szL l
end
mutual
/-- its texts are such as may be asked -/
def fine : PyData → Bool
  | .str s => decide (s.length ≤ 100000) && PyData.strOk s
  | .tuple l => decide (l.length ≤ 100000) && fineL l
  | _ => true
def fineL : List PyData → Bool
  | [] => true
  | d :: l => fine d && fineL l
end
theorem sz_pos : ∀ d : PyData, 1 ≤ sz d := by
  intro d
  cases d <;> simp [sz]
theorem szL_append : ∀ a b : List PyData, szL (a ++ b) = szL a + szL b
  | [], b => by simp [szL]
  | x :: a, b => by
    rw [List.cons_append, szL, szL, szL_append a b]
    omega
theorem szL_drop (a : List PyData) : szL (a.drop 1) ≤ szL a := by
  cases a with
  | nil => exact Nat.le_refl _
  | cons x a => simp [szL]
theorem szL_len : ∀ a : List PyData, a.length ≤ szL a
  | [] => Nat.le_refl _
  | x :: a => by
    have h := szL_len a
    have h1 := sz_pos x
    simp only [List.length_cons, szL]
    omega
theorem sz_behind (d : PyData) : szL (behind d) ≤ sz d := by
  cases d with
  | tuple ts =>
    have h := szL_drop ts
    simp only [behind, sz]
    omega
  | _ => simp [behind, szL]
theorem sz_parts (d : PyData) : szL (partsD d) < sz d := by
  have hp := sz_pos d
  unfold partsD
  split
  · next h r =>
    simp only [sz, szL]
    have e : szL (partsT h r) ≤ szL r := by
      unfold partsT
      split
      · exact Nat.zero_le _
      · split
        · rw [szL_append]
          cases r with
          | nil => simp [behind, szL]
          | cons x r =>
            have := sz_behind x
            simp only [List.headD_cons, szL, List.drop_succ_cons, List.drop_zero]
            omega
        · split
          · exact szL_drop r
          · exact Nat.le_refl _
    omega
  · simp only [szL]
    omega
def isTf : Nat → PyData → Bool
  | 0, _ => false
  | n + 1, d => shapeD d && (partsD d).all (isTf n)
def isTD (d : PyData) : Bool := isTf (sz d) d
theorem sz_mem : ∀ {l : List PyData} {p : PyData}, p ∈ l → sz p ≤ szL l
  | x :: l, p, h => by
    rcases List.mem_cons.mp h with rfl | h
    · simp [szL]
    · have := sz_mem h
      simp only [szL]
      omega
theorem isTf_more : ∀ (n : Nat) (d : PyData), sz d ≤ n → ∀ m, sz d ≤ m → isTf n d = isTf m d
  | 0, d, h, _, _ => absurd (sz_pos d) (by omega)
  | n + 1, d, h, 0, h' => absurd (sz_pos d) (by omega)
  | n + 1, d, h, m + 1, h' => by
    unfold isTf
    congr 1
    have hp := sz_parts d
    have e : ∀ l : List PyData, szL l ≤ n → szL l ≤ m → l.all (isTf n) = l.all (isTf m) := by
      intro l
      induction l with
      | nil => intro _ _; rfl
      | cons x l ih =>
        intro h1 h2
        simp only [szL] at h1 h2
        have hx := sz_pos x
        rw [List.all_cons, List.all_cons, ih (by omega) (by omega), isTf_more n x (by omega) m (by omega)]
    exact e _ (by omega) (by omega)
theorem isTD_eq (d : PyData) : isTD d = (shapeD d && (partsD d).all isTD) := by
  have hp := sz_parts d
  have h1 := sz_pos d
  obtain ⟨n, e⟩ : ∃ n, sz d = n + 1 := ⟨sz d - 1, by omega⟩
  show isTf (sz d) d = _
  rw [e, isTf]
  congr 1
  have e : ∀ l : List PyData, szL l ≤ n → l.all (isTf n) = l.all isTD := by
    intro l
    induction l with
    | nil => intro _; rfl
    | cons x l ih =>
      intro h2
      simp only [szL] at h2
      rw [List.all_cons, List.all_cons, ih (by omega), isTf_more n x (by omega) (sz x) (Nat.le_refl _)]
      rfl
  exact e _ (by omega)
theorem fineL_mem : ∀ {l : List PyData} {p : PyData}, fineL l = true → p ∈ l → fine p = true
  | x :: l, p, h, m => by
    simp only [fineL, Bool.and_eq_true] at h
    rcases List.mem_cons.mp m with rfl | m
    · exact h.1
    · exact fineL_mem h.2 m
theorem fineL_of : ∀ {l : List PyData}, (∀ p ∈ l, fine p = true) → fineL l = true
  | [], _ => rfl
  | x :: l, h => by
    simp only [fineL, Bool.and_eq_true]
    exact ⟨h x List.mem_cons_self, fineL_of fun p hp => h p (List.mem_cons_of_mem _ hp)⟩
theorem fine_behind {d p : PyData} (h : fine d = true) (m : p ∈ behind d) : fine p = true := by
  cases d with
  | tuple ts =>
    simp only [fine, Bool.and_eq_true] at h
    exact fineL_mem h.2 (List.mem_of_mem_drop m)
  | _ => exact absurd m List.not_mem_nil
theorem fine_parts {d p : PyData} (h : fine d = true) (m : p ∈ partsD d) : fine p = true := by
  unfold partsD at m
  split at m
  · next z r =>
    simp only [fine, fineL, Bool.and_eq_true] at h
    obtain ⟨h1, h2, h3⟩ := h
    unfold partsT at m
    split at m
    · exact absurd m List.not_mem_nil
    · split at m
      · rcases List.mem_append.mp m with m | m
        · cases r with
          | nil => exact absurd m List.not_mem_nil
          | cons x r => exact fine_behind (fineL_mem h3 List.mem_cons_self) m
        · exact fineL_mem h3 (List.mem_of_mem_drop m)
      · split at m
        · exact fineL_mem h3 (List.mem_of_mem_drop m)
        · exact fineL_mem h3 m
  · exact absurd m List.not_mem_nil
def clsD : PyData → String
  | .bool _ => "bool"
  | .int _ => "int"
  | .str _ => "str"
  | .list _ => "list"
  | .tuple _ => "tuple"
  | .dict _ => "dict"
  | _ => "NoneType"
def isIntD : PyData → Bool
  | .int _ => true
  | _ => false
def isBoolD : PyData → Bool
  | .bool _ => true
  | _ => false
def isStrD : PyData → Bool
  | .str _ => true
  | _ => false
def isTupD : PyData → Bool
  | .tuple _ => true
  | _ => false
theorem Dv.ty {K : PySem.W.Frag} {H : Hp} {x : V} {d : PyData} (h1 : Dv H x d) : TyX K H x (.type (clsD d)) := by
  cases h1 with
  | non => exact .base .non
  | bl b => exact .base (.bl b)
  | int n => exact .base (.int n)
  | str s => exact .base (.str s)
  | lst e _ => exact .base (.lst e)
  | tup e _ => exact .base (.tup e)
  | dic e _ => exact .base (.dK e)
theorem kit_int {H : Hp} {x : V} {d : PyData} (h1 : Dv H x d) : kitB (clsD d) "int" = some (isIntD d || isBoolD d) := by
  cases h1 <;> (simp only [clsD, isIntD, isBoolD, isStrD, isTupD]; decide +kernel)
theorem kit_bool {H : Hp} {x : V} {d : PyData} (h1 : Dv H x d) : kitB (clsD d) "bool" = some (isBoolD d) := by
  cases h1 <;> (simp only [clsD, isIntD, isBoolD, isStrD, isTupD]; decide +kernel)
theorem kit_str {H : Hp} {x : V} {d : PyData} (h1 : Dv H x d) : kitB (clsD d) "str" = some (isStrD d) := by
  cases h1 <;> (simp only [clsD, isIntD, isBoolD, isStrD, isTupD]; decide +kernel)
theorem kit_tup {H : Hp} {x : V} {d : PyData} (h1 : Dv H x d) : kitB (clsD d) "tuple" = some (isTupD d) := by
  cases h1 <;> (simp only [clsD, isIntD, isBoolD, isStrD, isTupD]; decide +kernel)
theorem Dv.name {H : Hp} {x : V} {d : PyData} (h : Dv H x d) : isName x = nameD d := by
  cases h <;> rfl
theorem Dv.among {H : Hp} {x : V} {d : PyData} (h : Dv H x d) (l : List Str) : among l x = amongD l d := by
  cases h <;> rfl
theorem DvAll.drop {H : Hp} : ∀ {n : Nat} {vs : List V} {ds : List PyData}, DvAll H vs ds → DvAll H (vs.drop n) (ds.drop n)
  | 0, _, _, h => h
  | n + 1, _, _, .nil => .nil
  | n + 1, _, _, .cons _ t => DvAll.drop (n := n) t
theorem DvAll.append {H : Hp} : ∀ {vs ws : List V} {ds es : List PyData}, DvAll H vs ds → DvAll H ws es → DvAll H (vs ++ ws) (ds ++ es)
  | _, _, _, _, .nil, h => h
  | _, _, _, _, .cons a t, h => .cons a (t.append h)
theorem cutV_from (xs : List V) (n : Nat) : cutV xs (some (n : Int)) none = xs.drop n := by
  unfold cutV
  rw [HT.sIx_none, HT.sIx_nat]
  by_cases h : n ≤ xs.length
  · rw [Nat.min_eq_left h, List.take_of_length_le (by rw [List.length_drop]; exact Nat.le_refl _)]
  · rw [Nat.min_eq_right (by omega), List.drop_of_length_le (by omega : xs.length ≤ xs.length), List.drop_of_length_le (by omega : xs.length ≤ n)]
    simp
theorem all1 {H : Hp} {xs : List V} {ds : List PyData} (h : DvAll H xs ds) (l : ds.length = 1) : ∃ x d, xs = [x] ∧ ds = [d] ∧ Dv H x d := by
  cases h with
  | nil => cases l
  | cons h0 t =>
    cases t with
    | nil => exact ⟨_, _, rfl, rfl, h0⟩
    | cons _ _ => simp at l
theorem all3 {H : Hp} {xs : List V} {ds : List PyData} (h : DvAll H xs ds) (l : ds.length = 3) : ∃ x y z d e f, xs = [x, y, z] ∧ ds = [d, e, f] ∧ Dv H x d ∧ Dv H y e ∧ Dv H z f := by
  cases h with
  | nil => cases l
  | cons h0 t =>
    cases t with
    | nil => simp at l
    | cons h1 t =>
      cases t with
      | nil => simp at l
      | cons h2 t =>
        cases t with
        | nil => exact ⟨_, _, _, _, _, _, rfl, rfl, h0, h1, h2⟩
        | cons _ _ => simp at l
theorem cnt_nn {h : Str} {c : Int} (e : cnt h = some c) : 0 ≤ c := by
  unfold cnt at e
  obtain ⟨p, e1, rfl⟩ := Option.map_eq_some_iff.mp e
  have := List.mem_of_find?_eq_some e1
  exact (show ∀ p ∈ cntL, 0 ≤ p.2 by decide +kernel) p this
theorem Same.seqT {K : PySem.W.Frag} {H H' : Hp} {a : Addr} {xs : List V} (e : Same H H') (h : SqT K H a xs) : SqT K H' a xs := by
  rcases h with (h | ⟨o, h⟩) | h
  · exact .inl (.inl (e _ _ h))
  · exact .inl (.inr ⟨o, e _ _ h⟩)
  · exact .inr h
theorem at0 {x : V} {xs : List V} : atI (x :: xs) 0 = some x := by
  unfold atI ixN
  rw [if_pos (Int.le_refl 0), if_pos (by simp only [List.length_cons]; omega)]
  rfl
theorem at1 {x y : V} {xs : List V} : atI (x :: y :: xs) 1 = some y := by
  unfold atI ixN
  rw [if_pos (by decide), if_pos (by simp only [List.length_cons]; omega)]
  rfl
theorem cutV1 (xs : List V) : cutV xs (some 1) none = xs.drop 1 := cutV_from xs 1
theorem cutV2 (xs : List V) : cutV xs (some 2) none = xs.drop 2 := cutV_from xs 2
end Vf
namespace Vf
open PySem L2 PyProof.Rows PySem.Spec

local macro_rules | `(tactic| walk_at "rd") => `(tactic| simp only [tSeq, tIfS, tOr, tAnd, tNot, tB, tTest, tChain, tCB, tCons, tNil, tVar, tC, tRet, tAndV, tOrV, tNotV, tOp, tNext, tDrop, tAsg, tPar, tYes, tIf, tCall, tCalK, tTup, tLst, tSl, tNoPart, tPart, tM0, tM1, tRevL, tBM0, tBM, gName, rI0, rI, rU, rInA, rEqA, rAddA, rMulA, rSlAny, iAny, rIsi, rAll, rAny, rSum, rList, rTuple, rLen, rLenS, rLenSeq, rMulS, CDiv, rIn, rEqD, rNeD, iList, iTup, iStr, rCat, rCatA, rSlL, rSlA, rSlS, gSub, rPop, rAppend, rSetL, rIx, rIxL, rIxT, rIxS, LenV,
  L2.start, List.map_cons, List.map_nil, List.length_cons, List.length_nil, List.cons_append, List.nil_append, List.append_nil, Nat.zero_add, Nat.add_sub_cancel, Nat.sub_self, List.replicate_succ, List.replicate_zero, List.getElem?_cons_zero, List.getElem?_cons_succ, List.set_cons_zero, List.set_cons_succ,
  Option.some.injEq, V.int.injEq, V.str.injEq, V.bl.injEq, V.ref.injEq, List.cons.injEq, and_true, true_and, exists_eq_left', exists_eq_left, exists_eq_right, exists_and_left, exists_and_right, false_or, or_false, reduceCtorEq, false_and, and_false, exists_false, Bool.not_true, Bool.not_false, if_true, if_false, Bool.false_eq_true, ite_true, ite_false])
/-- a deck: its own list of what is left, its sum, its turn -/
structure Deck (H : Hp) (d c : Addr) : Prop where
  ne : c ≠ d
  own : ∃ t n : Int, H d = some (.lst [.ref c, .int t, .int n])
  cells : ∃ ns : List Int, H c = some (.lst (ns.map V.int)) ∧ ns.length ≤ 63
/-- all but the deck stays -/
def Sv (d c : Addr) (H H' : Hp) : Prop := ∀ b o, H b = some o → b ≠ d → b ≠ c → H' b = some o
theorem ne_upd {H : Hp} {p a : Addr} {o u : HO} (h : H p = none) (e : H a = some o) : (upd H p u) a = some o := same_upd h _ _ e
theorem dp_ints {K : PySem.W.Frag} {H : Hp} : ∀ ns : List Int, DpAll K H (ns.map V.int) (ns.map PyData.int)
  | [] => .nil
  | n :: ns => .cons (.int n) (dp_ints ns)
theorem list_end {α : Type} (l : List α) : l = [] ∨ ∃ r z, l = r ++ [z] := by
  rcases List.eq_nil_or_concat l with e | ⟨r, z, e⟩
  · exact .inl e
  · exact .inr ⟨r, z, by rw [e, List.concat_eq_append]⟩
theorem lay_ints : ∀ ns : List Int, PyData.canLayAll0 (ns.map PyData.int) = true ∧ PyData.depthAll (ns.map PyData.int) = 0
  | [] => ⟨rfl, rfl⟩
  | n :: ns => by
    obtain ⟨h1, h2⟩ := lay_ints ns
    simp [PyData.canLayAll0, PyData.canLay0, PyData.depthAll, PyData.depth, h1, h2]
theorem shaped_ints (ns : List Int) : SeqAt.shaped (.list (ns.map PyData.int)) = true := by
  obtain ⟨h1, h2⟩ := lay_ints ns
  simp [SeqAt.shaped, PyData.canLay0, PyData.depth, h1, h2]
theorem Sv.refl (d c : Addr) (H : Hp) : Sv d c H H := fun _ _ e _ _ => e
theorem Sv.trans {d c : Addr} {H H1 H2 : Hp} (a : Sv d c H H1) (b : Sv d c H1 H2) : Sv d c H H2 := fun x o e n1 n2 => b x o (a x o e n1 n2) n1 n2
theorem Sv.new {d c p : Addr} {H H1 : Hp} {o : HO} (a : Sv d c H H1) (n : H1 p = none) : Sv d c H (upd H1 p o) := fun x u e n1 n2 => same_upd n _ _ (a x u e n1 n2)
theorem Sv.deck {d c : Addr} {H H1 : Hp} {o : HO} (a : Sv d c H H1) : Sv d c H (upd H1 d o) := fun x u e n1 n2 => by
  rw [upd_ne n1]
  exact a x u e n1 n2
theorem Sv.cell {d c : Addr} {H H1 : Hp} {o : HO} (a : Sv d c H H1) : Sv d c H (upd H1 c o) := fun x u e n1 n2 => by
  rw [upd_ne n2]
  exact a x u e n1 n2
theorem Same.sv {d c : Addr} {H H1 : Hp} (a : Same H H1) : Sv d c H H1 := fun x u e _ _ => a x u e
section
variable {P : Program} {w : World} {K : PySem.W.Frag} {mg : Str → Option Value} {base : Heap}
def spDraw : Sp := fun vs H Q _ => ∃ (d c : Addr) (m : Int), vs = [.ref d, .int m] ∧ Deck H d c ∧ 0 < m ∧ m < 1073741824 ∧ ∀ (r : Int) (H' : Hp), 0 ≤ r → r < m → Deck H' d c → Sv d c H H' → Q (.int r) H'
abbrev s__law_draw : Stmt := top 27
theorem sc__law_draw : FnScope ["_law_deck_here", "_law_many", "_law_cell", "_law_mixed"] ["_law_deck_here", "_law_many"] (defScope s__law_draw) := ⟨rfl, rfl, rfl, by decide +kernel, rfl, by decide +kernel, by decide +kernel⟩
theorem ok__law_draw {f : Addr} {fd : FuncData} (D : Df K mg "_law_draw" s__law_draw f fd) (T : Tx K mg) : Cal P w K mg base "_law_draw" ["_law_deck_here", "_law_many"] 1 spDraw := by
  refine D.cal sc__law_draw (fun vs H Q E h => ?_) (fun _ _ _ _ _ _ us hl => match us, hl with | [_, _], _ => rfl) (fun cdv A outer s H vs Q E hgu hr h => ?_)
  · obtain ⟨d, c, m, rfl, _⟩ := h
    rfl
  · obtain ⟨d, c, m, rfl, ⟨ne, ⟨t, n, hd⟩, ⟨ns, hc, hn⟩⟩, m0, m1, q⟩ := h
    refine ⟨_, (pss_cons (ps_asg (pe_op op_add (pe_ix (aIxL (K := K) rfl) (pv 0) pe_int (fun _ _ => rfl)) pe_int) (pg_sub (pv 0) pe_int set_list)) (pss_cons (ps_set (i := 2) sc__law_draw.nd rfl (by first | exact Or.inl rfl | exact Or.inr rfl) (pe_ix (aIxL (K := K) rfl) (pv 0) pe_int (fun _ _ => rfl))) (pss_cons (ps_if (pt_cmpR (aNeD (K := K) rfl hr.units) (pe_ix (aIxL (K := K) rfl) (pv 0) pe_int (fun _ _ => rfl)) (pe_lst pa_nil) (by rfl)) (pss_cons (ps_set (i := 2) sc__law_draw.nd rfl (by first | exact Or.inl rfl | exact Or.inr rfl) (pe_bm0 PySem.F.plainAttrs_list PySem.F.slot_list_pop PySem.F.type_list_pop mt_pop (pe_ix (aIxL (K := K) rfl) (pv 0) pe_int (fun _ _ => rfl)))) (pss_one (ps_if (pt_cmpR op_ge (pv 2) (pe_op op_pow pe_int pe_int) (by rfl)) (pss_cons (ps_expr (pe_bm PySem.F.plainAttrs_list PySem.F.slot_list_append PySem.F.type_list_append mt_append (pe_ix (aIxL (K := K) rfl) (pv 0) pe_int (fun _ _ => rfl)) (pa_cons (pe_op op_fdiv (pv 2) (pv 1)) pa_nil))) (pss_one (ps_ret (pe_op op_mod (pv 2) (pv 1))))) pss_nil))) pss_nil) (pss_cons (ps_set (i := 3) sc__law_draw.nd rfl (by first | exact Or.inl rfl | exact Or.inr rfl) (pe_op op_mod (pe_op op_mul (pe_op op_add (pe_op op_add (pe_op op_mod (pv 2) pe_int) (pe_op op_mul pe_int (pe_ix (aIxL (K := K) rfl) (pv 0) pe_int (fun _ _ => rfl)))) pe_int) pe_int) pe_int)) (pss_cons (ps_set (i := 3) sc__law_draw.nd rfl (by first | exact Or.inl rfl | exact Or.inr rfl) (pe_op op_mod (pe_op op_add (pe_op op_add (pe_op op_mul (pv 3) (pv 3)) (pe_op op_mul pe_int (pe_ix (aIxL (K := K) rfl) (pv 0) pe_int (fun _ _ => rfl)))) pe_int) pe_int)) (pss_one (ps_ret (pe_op op_mod (pe_op op_fdiv (pe_op op_mod (pe_op op_add (pe_op op_mul (pv 3) (pv 3)) (pe_op op_mul pe_int (pv 3))) pe_int) pe_int) (pv 1))))))))), ?_⟩
    walk_at "rd"
    refine ⟨_, .of hd, .int n, rfl, n, rfl, _, hd, 2, rfl, _, .of upd_same, .int t, rfl, _, .of upd_same, .ref c, rfl, Nat.zero_le _, fun p hp => ?_⟩
    change upd H d (.lst [V.ref c, .int t, .int (n + 1)]) p = none at hp
    have hc1 : (upd H d (.lst [V.ref c, .int t, .int (n + 1)])) c = some (.lst (ns.map V.int)) := by rw [upd_ne ne]; exact hc
    have hc2 := ne_upd (u := .lst []) hp hc1
    have hd2 := ne_upd (u := .lst []) hp (upd_same (H := H) (a := d) (o := .lst [V.ref c, .int t, .int (n + 1)]))
    have npc : p ≠ c := fun e => by rw [e, hc1] at hp; cases hp
    have npd : p ≠ d := fun e => by rw [e, upd_same] at hp; cases hp
    have sv : Sv d c H (upd (upd H d (.lst [V.ref c, .int t, .int (n + 1)])) p (.lst [])) := (Sv.refl d c H).deck.new hp
    refine ⟨_, .lst (.of hc2) (dp_ints ns), _, .lst (.of upd_same) .nil, shaped_ints ns, rfl, ?_⟩
    have hm : ∀ a b : Int, 0 < b → b < 2 ^ 64 → CMul (a % b) (a % b) := fun a b b0 b1 => .inl ⟨by have := Int.emod_nonneg a (show b ≠ 0 by omega); omega, by have := Int.emod_lt_of_pos a b0; omega⟩
    have hq : ∀ (r : Int) (H3 : Hp) (ms : List Int), H3 d = some (.lst [V.ref c, .int t, .int (n + 1)]) → H3 c = some (.lst (ms.map V.int)) → ms.length ≤ 63 → Sv d c H H3 → Q (.int (r % m)) H3 := fun r H3 ms e1 e2 l s =>
      q _ H3 (Int.emod_nonneg r (by omega)) (Int.emod_lt_of_pos r m0) ⟨ne, ⟨_, _, e1⟩, ⟨ms, e2, l⟩⟩ s
    rcases list_end ns with rfl | ⟨ns', z, rfl⟩
    · rw [if_neg (by decide)]
      refine ⟨_, rfl, by decide, _, .of hd2, _, rfl, n + 1, rfl, .inl (by decide), .inr (by decide), by decide, hm _ _ (by decide) (by decide), _, .of hd2, _, rfl, n + 1, rfl, .inl (by decide), by decide, hm _ _ (by decide) (by decide), .inl (by decide), by decide, by decide, m0, ?_⟩
      exact hq _ _ [] hd2 hc2 (by decide) sv
    · rw [if_pos (by cases ns' <;> rfl)]
      have e1 : (ns' ++ [z]).map V.int = ns'.map V.int ++ [V.int z] := by simp
      rw [List.length_append] at hn
      have hn' : ns'.length + 1 ≤ 63 := hn
      refine ⟨_, .of hd2, _, rfl, .inl ⟨rfl, _, .of hc2⟩, c, rfl, _, hc2, .int z, by rw [e1]; simp, ⟨by decide, by decide, by decide⟩, z, rfl, ?_⟩
      have e2 : ((ns' ++ [z]).map V.int).dropLast = ns'.map V.int := by rw [e1]; simp
      rw [e2]
      have sv2 := sv.cell (o := .lst (ns'.map V.int))
      have hd3 : (upd (upd (upd H d (.lst [V.ref c, .int t, .int (n + 1)])) p (.lst [])) c (.lst (ns'.map V.int))) d = some (.lst [V.ref c, .int t, .int (n + 1)]) := by
        rw [upd_ne ne.symm]
        exact hd2
      by_cases hz : (10 : Int) ^ (18 : Int).toNat ≤ z
      · rw [if_pos (decide_eq_true hz)]
        refine ⟨_, .of hd3, _, rfl, .inl ⟨rfl, _, .of upd_same⟩, z, rfl, ⟨m0, m1⟩, c, rfl, _, upd_same, by rw [List.length_map]; exact small1000 (by omega), z, rfl, m0, ?_⟩
        refine hq _ _ (ns' ++ [z / m]) ?_ ?_ (by rw [List.length_append]; exact hn') sv2.cell
        · rw [upd_ne ne.symm]
          exact hd3
        · rw [upd_same]
          simp
      · rw [if_neg (by rw [decide_eq_false hz]; decide)]
        refine ⟨_, rfl, by decide, _, .of hd3, _, rfl, n + 1, rfl, .inl (by decide), .inr (by decide), by decide, hm _ _ (by decide) (by decide), _, .of hd3, _, rfl, n + 1, rfl, .inl (by decide), by decide, hm _ _ (by decide) (by decide), .inl (by decide), by decide, by decide, m0, ?_⟩
        exact hq _ _ ns' hd3 upd_same (by omega) sv2
end
end Vf
namespace Vf
open PySem L2 PyProof.Rows PySem.Spec

local macro_rules | `(tactic| walk_at "rd") => `(tactic| simp only [tSeq, tIfS, tOr, tAnd, tNot, tB, tTest, tChain, tCB, tCons, tNil, tVar, tC, tRet, tAndV, tOrV, tNotV, tOp, tNext, tDrop, tAsg, tPar, tYes, tIf, tCall, tCalK, tTup, tLst, tSl, tNoPart, tPart, tM0, tM1, tRevL, tBM0, tBM, gName, rI0, rI, rU, rInA, rEqA, rAddA, rMulA, rSlAny, iAny, rIsi, rAll, rAny, rSum, rList, rTuple, rLen, rLenS, rLenSeq, rMulS, CDiv, rIn, rEqD, rNeD, iList, iTup, iStr, rCat, rCatA, rSlL, rSlA, rSlS, gSub, rPop, rAppend, rSetL, rIx, rIxL, rIxT, rIxS, LenV,
  L2.start, List.map_cons, List.map_nil, List.length_cons, List.length_nil, List.cons_append, List.nil_append, List.append_nil, Nat.zero_add, Nat.add_sub_cancel, Nat.sub_self, List.replicate_succ, List.replicate_zero, List.getElem?_cons_zero, List.getElem?_cons_succ, List.set_cons_zero, List.set_cons_succ,
  Option.some.injEq, V.int.injEq, V.str.injEq, V.bl.injEq, V.ref.injEq, List.cons.injEq, and_true, true_and, exists_eq_left', exists_eq_left, exists_eq_right, exists_and_left, exists_and_right, false_or, or_false, reduceCtorEq, false_and, and_false, exists_false, Bool.not_true, Bool.not_false, if_true, if_false, Bool.false_eq_true, ite_true, ite_false])
theorem line_le {n : Nat} (h : n ≤ 1000000) : n ≤ sizeLine := by
  rw [sizeLine_eq]
  omega
theorem atI_in {α : Type} {xs : List α} {i : Int} (h0 : 0 ≤ i) (h1 : i < xs.length) : ∃ x, atI xs i = some x ∧ x ∈ xs := by
  have h2 : i.toNat < xs.length := by omega
  refine ⟨xs[i.toNat], ?_, List.getElem_mem h2⟩
  unfold atI ixN
  rw [if_pos h0, if_pos h1]
  exact List.getElem?_eq_getElem h2
theorem cutV_to (xs : List V) (n : Nat) : cutV xs none (some (n : Int)) = xs.take n := by
  unfold cutV
  rw [HT.sIx_none, HT.sIx_nat, List.drop_zero, Nat.sub_zero]
  by_cases h : n ≤ xs.length
  · rw [Nat.min_eq_left h]
  · rw [Nat.min_eq_right (by omega), List.take_of_length_le (by omega), List.take_of_length_le (by omega)]
def modV (x : V) : V := match x with
  | .int i => .int (i % 1000003)
  | _ => .non
theorem dp_strs {K : PySem.W.Frag} {H : Hp} : ∀ l : List Str, DpAll K H (l.map V.str) (l.map PyData.str)
  | [] => .nil
  | x :: l => .cons (.str x) (dp_strs l)
theorem lay_strs : ∀ l : List Str, (∀ x ∈ l, PyData.strOk x = true) → PyData.canLayAll0 (l.map PyData.str) = true ∧ PyData.depthAll (l.map PyData.str) = 0
  | [], _ => ⟨rfl, rfl⟩
  | x :: l, h => by
    obtain ⟨h1, h2⟩ := lay_strs l fun y hy => h y (List.mem_cons_of_mem _ hy)
    have h0 := h x List.mem_cons_self
    simp [PyData.canLayAll0, PyData.canLay0, PyData.depthAll, PyData.depth, h1, h2, h0]
theorem shaped_strs (l : List Str) (h : ∀ x ∈ l, PyData.strOk x = true) : SeqAt.shaped (.list (l.map PyData.str)) = true := by
  obtain ⟨h1, h2⟩ := lay_strs l h
  simp [SeqAt.shaped, PyData.canLay0, PyData.depth, h1, h2]
theorem eqv_nil (l : List Str) : PyData.eqv (.list (l.map PyData.str)) (.list []) = l.isEmpty := by
  cases l <;> rfl
section
variable {P : Program} {w : World} {K : PySem.W.Frag} {mg : Str → Option Value} {base : Heap}
def spDeck (K : PySem.W.Frag) : Sp := fun vs H Q _ => ∃ (a : Addr) (ns : List Int), vs = [.ref a] ∧ SqL K H a (ns.map V.int) ∧ ns.length ≤ 63 ∧ ∀ (d c : Addr) (H' : Hp), Same H H' → H d = none → H c = none → Deck H' d c → Q (.ref d) H'
abbrev s__law_deck : Stmt := top 26
theorem sc__law_deck : FnScope ["_law_script", "_law_cells", "_law_cell"] ["_law_script"] (defScope s__law_deck) := ⟨rfl, rfl, rfl, by decide +kernel, rfl, by decide +kernel, by decide +kernel⟩
theorem ok__law_deck {f : Addr} {fd : FuncData} (D : Df K mg "_law_deck" s__law_deck f fd) (T : Tx K mg) : Cal P w K mg base "_law_deck" ["_law_script"] 1 (spDeck K) := by
  refine D.cal sc__law_deck (fun vs H Q E h => ?_) (fun _ _ _ _ _ _ us hl => match us, hl with | [_], _ => rfl) (fun cdv A outer s H vs Q E hgu hr h => ?_)
  · obtain ⟨a, ns, rfl, _⟩ := h
    rfl
  · obtain ⟨a, ns, rfl, ha, hn, q⟩ := h
    refine ⟨_, (pss_cons (ps_set (i := 1) sc__law_deck.nd rfl (by first | exact Or.inl rfl | exact Or.inr rfl) (pe_callTy (aList (K := K) rfl) (by rfl) T.list (by decide +kernel) (pa_cons (pe_slice (aSlL (K := K) rfl) (pv 0) po_none (po_some pe_int)) pa_nil))) (pss_one (ps_ret (pe_lst (pa_cons (aRev (K := K) rfl (pv 1)) (pa_cons (pe_op op_add (pe_callB (aSum (K := K) rfl rfl) (by rfl) T.sum (by decide +kernel) (pa_cons (pe_lc (own := [("_law_cell", 2)]) (g := gName 2) (tt := tYes) (by rfl) sc__law_deck.nd (aWalkL (K := K) rfl (pv 1)) (blkOk_by (own := [("_law_cell", 2)]) (N := ["_law_script", "_law_cells", "_law_cell"]) (sc := defScope s__law_deck) (by decide +kernel)) (fun _ _ _ _ _ => (pg_name (i := 2) sc__law_deck.nd rfl (Or.inl rfl))) (fun _ _ _ _ _ => pts_nil) (fun _ _ _ _ _ => (pe_op op_mod (pv 2) pe_int))) pa_nil)) (pe_op op_mul pe_int (pe_callB (aLenSeq (K := K) rfl) (by rfl) T.len (by decide +kernel) (pa_cons (pv 1) pa_nil)))) (pa_cons pe_int pa_nil))))))), ?_⟩
    walk_at "rd"
    have ec : cutV (ns.map V.int) none (some 63) = ns.map V.int := by
      rw [show (63 : Int) = ((63 : Nat) : Int) from rfl, cutV_to, List.take_of_length_le (by rw [List.length_map]; exact hn)]
    refine ⟨_, ha, fun p hp => ⟨_, .inl (.of upd_same), fun l hl => ⟨_, .of upd_same, fun r hr => ?_⟩⟩⟩
    rw [ec] at hl hr ⊢
    have s1 := same_upd (o := .lst (ns.map V.int)) hp
    have s2 := s1.trans (same_upd (o := .lst (ns.map V.int)) hl)
    have s3 := s2.trans (same_upd (o := .lst (ns.map V.int).reverse) hr)
    have hl3 := ne_upd (u := .lst (ns.map V.int).reverse) hr (upd_same (H := upd H p (.lst (ns.map V.int))) (a := l) (o := .lst (ns.map V.int)))
    refine ⟨.ref l, rfl, l, rfl, ⟨_, .of hl3⟩, fun L hL => lc_pure (steps_list K l (ns.map V.int)) (fun _ => true) modV (fun acc => seqL_upd hL (.of hl3)) (line_le (by rw [List.length_map]; omega)) ?_ ?_ ?_ ?_⟩
    · exact fun _ => rfl
    · exact fun x _ acc R r => r
    · intro x hm _ acc R r
      obtain ⟨i, _, rfl⟩ := List.mem_map.mp hm
      exact ⟨_, rfl, _, _, rfl, rfl, show (0 : Int) < 1000003 by decide, r⟩
    · have em : (((ns.map V.int).filter fun _ => true).map modV) = (ns.map (· % 1000003)).map V.int := by
        rw [List.filter_eq_self.mpr fun _ _ => rfl, List.map_map, List.map_map]
        rfl
      have hl4 := ne_upd (u := .lst (((ns.map V.int).filter fun _ => true).map modV)) hL hl3
      refine ⟨L, rfl, ns.map (· % 1000003), .of (by rw [upd_same, em]), _, .inl (.of hl4), .inl (by decide), line_le (by decide), fun z hz => ?_⟩
      have s4 := s3.trans (same_upd (o := .lst (((ns.map V.int).filter fun _ => true).map modV)) hL)
      have hr4 := ne_upd (u := .lst (((ns.map V.int).filter fun _ => true).map modV)) hL (upd_same (H := upd (upd H p (.lst (ns.map V.int))) l (.lst (ns.map V.int))) (a := r) (o := .lst (ns.map V.int).reverse))
      refine q z r _ (s4.trans (same_upd hz)) (s4.free hz) (s2.free hr) ⟨fun e => ?_, ⟨_, _, upd_same⟩, ⟨ns.reverse, ?_, by rw [List.length_reverse]; exact hn⟩⟩
      · rw [← e, hr4] at hz
        cases hz
      · rw [List.map_reverse]
        exact ne_upd hz hr4
abbrev s__law_pick : Stmt := top 28
theorem sc__law_pick : FnScope ["_law_deck_here", "_law_some"] ["_law_deck_here", "_law_some"] (defScope s__law_pick) := ⟨rfl, rfl, rfl, by decide +kernel, rfl, by decide +kernel, by decide +kernel⟩
end
end Vf
namespace Vf
open PySem L2 PyProof.Rows PySem.Spec

local macro_rules | `(tactic| walk_at "rd") => `(tactic| simp only [tSeq, tIfS, tOr, tAnd, tNot, tB, tTest, tChain, tCB, tCons, tNil, tVar, tC, tRet, tAndV, tOrV, tNotV, tOp, tNext, tDrop, tAsg, tPar, tYes, tIf, tCall, tCalK, tTup, tLst, tSl, tNoPart, tPart, tM0, tM1, tRevL, tBM0, tBM, gName, rI0, rI, rU, rInA, rEqA, rAddA, rMulA, rSlAny, iAny, rIsi, rAll, rAny, rSum, rList, rTuple, rLen, rLenS, rLenSeq, rMulS, CDiv, rIn, rEqD, rNeD, iList, iTup, iStr, rCat, rCatA, rSlL, rSlA, rSlS, gSub, rPop, rAppend, rSetL, rIx, rIxL, rIxT, rIxS, LenV,
  L2.start, List.map_cons, List.map_nil, List.length_cons, List.length_nil, List.cons_append, List.nil_append, List.append_nil, Nat.zero_add, Nat.add_sub_cancel, Nat.sub_self, List.replicate_succ, List.replicate_zero, List.getElem?_cons_zero, List.getElem?_cons_succ, List.set_cons_zero, List.set_cons_succ,
  Option.some.injEq, V.int.injEq, V.str.injEq, V.bl.injEq, V.ref.injEq, List.cons.injEq, and_true, true_and, exists_eq_left', exists_eq_left, exists_eq_right, exists_and_left, exists_and_right, false_or, or_false, reduceCtorEq, false_and, and_false, exists_false, Bool.not_true, Bool.not_false, if_true, if_false, Bool.false_eq_true, ite_true, ite_false])
/-! ### texts by their signs -/
def cs (s : Str) : List Nat := s.cps.toList
theorem cs_len (s : Str) : (cs s).length = s.length := Array.length_toList
theorem cs_ext {a b : Str} (h : cs a = cs b) : a = b := by
  obtain ⟨a⟩ := a
  obtain ⟨b⟩ := b
  have : a = b := Array.toList_inj.mp h
  rw [this]
theorem cs_app (a b : Str) : cs (a ++ b) = cs a ++ cs b := Array.toList_append
theorem cs_to (z : Str) (n : Nat) : cs (cutS z none (some (n : Int))) = (cs z).take n := by
  unfold cutS
  rw [HT.sIx_none, HT.sIx_nat, Nat.sub_zero, List.drop_zero]
  show (cs z).take (min n z.length) = _
  rw [← cs_len, List.take_eq_take_iff, Nat.min_assoc, Nat.min_self]
theorem cs_from (z : Str) (n : Nat) : cs (cutS z (some (n : Int)) none) = (cs z).drop n := by
  unfold cutS
  rw [HT.sIx_none, HT.sIx_nat]
  show ((cs z).drop (min n z.length)).take (z.length - min n z.length) = _
  rw [← cs_len, List.take_of_length_le (by rw [List.length_drop]; exact Nat.le_refl _)]
  by_cases h : n ≤ (cs z).length
  · rw [Nat.min_eq_left h]
  · rw [Nat.min_eq_right (by omega), List.drop_of_length_le (by omega), List.drop_of_length_le (by omega)]
def sgn (c : Nat) : Str := ⟨#[c]⟩
theorem join_sgn : ∀ l : List Nat, cs (Str.join "" (l.map sgn)) = l
  | [] => rfl
  | [c] => rfl
  | c :: e :: l => by
    have h := join_sgn (e :: l)
    show cs (sgn c ++ "" ++ Str.join "" ((e :: l).map sgn)) = _
    rw [cs_app, cs_app, h]
    rfl
/-- letters alone -/
def Lets (s : Str) : Prop := ∀ c ∈ cs s, c ∈ cs abc
def Cand (s : Str) : Prop := 1 ≤ s.length ∧ s.length ≤ 8 ∧ Lets s
theorem inV_strs (s : Str) : ∀ l : List Str, inV (.str s) (l.map V.str) = decide (s ∈ l)
  | [] => by simp [inV]
  | x :: l => by
    have h := inV_strs s l
    unfold inV at h ⊢
    rw [List.map_cons, List.any_cons, h]
    show ((x == s) || _) = _
    by_cases e : x = s
    · subst e; simp
    · have e' : ¬ s = x := fun q => e q.symm
      simp [e, e']
theorem name_of {s : Str} (h : Cand s) (k : s ∉ kept) : isName (.str s) = true := by
  obtain ⟨h1, h2, h3⟩ := h
  have h4 : (s.cps.toList.all fun c => decide (c ∈ abc.cps.toList)) = true := List.all_eq_true.mpr fun c hc => decide_eq_true (h3 c hc)
  show (decide (1 ≤ s.length) && decide (s.length ≤ 8) && !inV (.str s) (kept.map V.str) && s.cps.toList.all fun c => decide (c ∈ abc.cps.toList)) = true
  rw [h4, inV_strs, decide_eq_true h1, decide_eq_true h2, decide_eq_false k]
  rfl
/-! ### each once -/
def once (l : List Str) (x : Str) : List Str := if x ∈ l then l else l ++ [x]
def onces (l : List Str) : List Str := l.foldl once []
theorem onces_end (l : List Str) (x : Str) : onces (l ++ [x]) = once (onces l) x := by simp [onces, List.foldl_append]
theorem onces_ind {p : List Str → List Str → Prop} (h0 : p [] []) (hs : ∀ l x, p l (onces l) → p (l ++ [x]) (once (onces l) x)) (l : List Str) : p l (onces l) := by
  rw [← List.reverse_reverse l]
  induction l.reverse with
  | nil => exact h0
  | cons x r ih =>
    rw [List.reverse_cons, onces_end]
    exact hs _ _ ih
theorem onces_mem (l : List Str) : ∀ x, x ∈ onces l ↔ x ∈ l := by
  refine onces_ind (p := fun l r => ∀ x, x ∈ r ↔ x ∈ l) (fun _ => Iff.rfl) (fun l x ih y => ?_) l
  unfold once
  split
  · rename_i h
    rw [ih y, List.mem_append, List.mem_singleton]
    refine ⟨.inl, fun z => z.elim id fun e => ?_⟩
    rw [e]
    exact (ih x).mp h
  · rw [List.mem_append, List.mem_append, ih y]
theorem onces_nodup (l : List Str) : (onces l).Nodup := by
  refine onces_ind (p := fun _ r => r.Nodup) List.nodup_nil (fun l x ih => ?_) l
  unfold once
  split
  · exact ih
  · rename_i h
    rw [List.nodup_append]
    exact ⟨ih, List.pairwise_singleton _ _, fun a ha b hb => by
      rw [List.mem_singleton.mp hb]
      exact fun e => h (e ▸ ha)⟩
theorem sub_len : ∀ {q l : List Str}, q.Nodup → (∀ x ∈ q, x ∈ l) → q.length ≤ l.length
  | [], _, _, _ => Nat.zero_le _
  | x :: q, l, n, h => by
    have hx := h x List.mem_cons_self
    obtain ⟨nx, nq⟩ := List.nodup_cons.mp n
    have ih := sub_len (l := l.erase x) nq fun y hy => (List.mem_erase_of_ne fun e => nx (by rw [← e]; exact hy)).mpr (h y (List.mem_cons_of_mem _ hy))
    have e := List.length_erase_of_mem hx
    have : 0 < l.length := List.length_pos_of_mem hx
    rw [List.length_cons]
    omega
def qqs : List Str := ["qqa", "qqb", "qqc", "qqd", "qqe", "qqf", "qqg", "qqh"]
theorem qqs_good : ∀ s ∈ qqs, Cand s ∧ s ∉ kept := by
  unfold Cand Lets
  decide +kernel
/-- what is told: the first m of each once -/
theorem names_good {l : List Str} (h : ∀ s ∈ l, Cand s ∧ s ∉ kept) {m : Nat} (hm : m ≤ 8) :
    ((onces (l ++ qqs)).take m).length = m ∧ ((onces (l ++ qqs)).take m).Nodup ∧ ∀ s ∈ (onces (l ++ qqs)).take m, isName (.str s) = true := by
  have h8 : qqs.length ≤ (onces (l ++ qqs)).length := sub_len (by decide +kernel) fun x hx => (onces_mem _ x).mpr (List.mem_append_right _ hx)
  have e8 : qqs.length = 8 := rfl
  refine ⟨by rw [List.length_take]; omega, (onces_nodup _).sublist (List.take_sublist _ _), fun s hs => ?_⟩
  have hs' := (onces_mem _ s).mp (List.mem_of_mem_take hs)
  rcases List.mem_append.mp hs' with z | z
  · exact name_of (h s z).1 (h s z).2
  · exact name_of (qqs_good s z).1 (qqs_good s z).2
theorem Sv.free {d c p : Addr} {H H' : Hp} (v : Sv d c H H') (k : Deck H' d c) (h : H' p = none) : H p = none := by
  cases e : H p with
  | none => rfl
  | some o =>
    obtain ⟨_, ⟨t, n, hd⟩, ⟨ns, hc, _⟩⟩ := k
    have n1 : p ≠ d := fun z => by rw [z, hd] at h; cases h
    have n2 : p ≠ c := fun z => by rw [z, hc] at h; cases h
    rw [v p o e n1 n2] at h
    cases h
theorem Sv.put {d c p : Addr} {H H1 : Hp} {o : HO} (a : Sv d c H H1) (n : H p = none) : Sv d c H (upd H1 p o) := fun x u e n1 n2 => by
  rw [upd_ne (ne_of_none e n)]
  exact a x u e n1 n2
theorem Lets.app {a b : Str} (h : Lets a) (k : Lets b) : Lets (a ++ b) := fun c hc => by
  rw [cs_app] at hc
  exact (List.mem_append.mp hc).elim (h c) (k c)
theorem Lets.to {z : Str} (h : Lets z) (n : Nat) : Lets (cutS z none (some (n : Int))) := fun c hc => by
  rw [cs_to] at hc
  exact h c (List.mem_of_mem_take hc)
theorem Lets.from_ {z : Str} (h : Lets z) (n : Nat) : Lets (cutS z (some (n : Int)) none) := fun c hc => by
  rw [cs_from] at hc
  exact h c (List.mem_of_mem_drop hc)
theorem Lets.rep {z : Str} (h : Lets z) (n : Nat) : Lets (repS z n) := fun c hc => by
  have hc' : c ∈ (List.replicate n (cs z)).flatten := by
    rw [show cs (repS z n) = (List.replicate n (cs z)).flatten from repS_list z n] at hc
    exact hc
  obtain ⟨l, hl, hm⟩ := List.mem_flatten.mp hc'
  rw [(List.mem_replicate.mp hl).2] at hm
  exact h c hm
theorem Lets.sgn {c : Nat} (h : c ∈ cs abc) : Lets (sgn c) := fun x hx => by
  have : x = c := by simpa [cs, Vf.sgn] using hx
  rw [this]
  exact h
theorem wholes_at {lo : Int} {n i : Nat} {x : V} (h : (wholes lo n)[i]? = some x) : i < n ∧ x = .int (lo + (i : Nat)) := by
  have hi := (List.getElem?_eq_some_iff.mp h).1
  rw [wholes_len] at hi
  refine ⟨hi, ?_⟩
  unfold wholes at h
  rw [List.getElem?_map, List.getElem?_range hi] at h
  exact (Option.some.inj h).symm
theorem filt_names (f : List Str) : ((f.map V.str).filter fun x => !inV x (kept.map V.str)).map id = (f.filter fun s => !decide (s ∈ kept)).map V.str := by
  rw [List.map_id, List.filter_map]
  congr 1
  refine List.filter_congr fun s _ => ?_
  show (!inV (.str s) (kept.map V.str)) = _
  rw [inV_strs]
theorem flat_strs (l : List Str) : (l.map V.str).all flatV = true := by
  rw [List.all_map]
  exact List.all_eq_true.mpr fun _ _ => rfl
theorem sum_sgn : ∀ l : List Nat, ((l.map sgn).map (·.length)).sum = l.length
  | [] => rfl
  | c :: l => by
    rw [List.map_cons, List.map_cons, List.sum_cons, sum_sgn l, List.length_cons]
    show 1 + l.length = _
    omega
theorem Deck.same {d c : Addr} {H H' : Hp} (k : Deck H d c) (s : Same H H') : Deck H' d c := by
  obtain ⟨ne, ⟨t, n, hd⟩, ⟨ns, hc, hn⟩⟩ := k
  exact ⟨ne, ⟨t, n, s _ _ hd⟩, ⟨ns, s _ _ hc, hn⟩⟩
theorem Deck.off {d c p : Addr} {H : Hp} {o : HO} (k : Deck H d c) (n1 : p ≠ d) (n2 : p ≠ c) : Deck (upd H p o) d c := by
  obtain ⟨ne, ⟨t, n, hd⟩, ⟨ns, hc, hn⟩⟩ := k
  exact ⟨ne, ⟨t, n, by rw [upd_ne n1.symm]; exact hd⟩, ⟨ns, by rw [upd_ne n2.symm]; exact hc, hn⟩⟩
theorem Deck.fresh {d c p : Addr} {H : Hp} (k : Deck H d c) (h : H p = none) : p ≠ d ∧ p ≠ c := by
  obtain ⟨ne, ⟨t, n, hd⟩, ⟨ns, hc, hn⟩⟩ := k
  exact ⟨fun z => (by rw [z, hd] at h; cases h), fun z => (by rw [z, hc] at h; cases h)⟩
section
variable {P : Program} {w : World} {K : PySem.W.Frag} {mg : Str → Option Value} {base : Heap}
def spNames : Sp := fun vs H Q _ => ∃ (d c : Addr) (m : Nat), vs = [.ref d, .int m] ∧ Deck H d c ∧ m ≤ 8 ∧
  ∀ (l : List Str) (p : Addr) (H' : Hp), l.length = m → l.Nodup → (∀ s ∈ l, isName (.str s) = true) → Deck H' d c → Sv d c H H' → H p = none → H' p = some (.lst (l.map V.str)) → Q (.ref p) H'
abbrev s__law_names : Stmt := top 30
theorem sc__law_names : FnScope ["_law_deck_here", "_law_many", "_law_kept", "_law_letters", "_law_way", "_law_first", "_law_word", "_law_k", "_law_at", "_law_found", "_law_sign", "_law_some", "_law_naming", "_law_good"] ["_law_deck_here", "_law_many"] (defScope s__law_names) := ⟨rfl, rfl, rfl, by decide +kernel, rfl, by decide +kernel, by decide +kernel⟩
theorem ok__law_names {f : Addr} {fd : FuncData} (D : Df K mg "_law_names" s__law_names f fd) (T : Tx K mg) (c__law_draw : Cal P w K mg base "_law_draw" ["_law_deck_here", "_law_many"] 1 spDraw) : Cal P w K mg base "_law_names" ["_law_deck_here", "_law_many"] 2 spNames := by
  refine D.cal sc__law_names (fun vs H Q E h => ?_) (fun _ _ _ _ _ _ us hl => match us, hl with | [_, _], _ => rfl) (fun cdv A outer s H vs Q E hgu hr h => ?_)
  · obtain ⟨d, c, m, rfl, _⟩ := h
    rfl
  · obtain ⟨d, c, m, rfl, hd, hm, q⟩ := h
    refine ⟨_, (pss_cons (ps_set (i := 2) sc__law_names.nd rfl (by first | exact Or.inl rfl | exact Or.inr rfl) (pe_lst (pa_cons pe_str (pa_cons pe_str (pa_cons pe_str (pa_cons pe_str (pa_cons pe_str (pa_cons pe_str (pa_cons pe_str (pa_cons pe_str (pa_cons pe_str (pa_cons pe_str (pa_cons pe_str (pa_cons pe_str (pa_cons pe_str (pa_cons pe_str pa_nil)))))))))))))))) (pss_cons (ps_set (i := 2) sc__law_names.nd rfl (by first | exact Or.inl rfl | exact Or.inr rfl) (pe_op op_cat (pv 2) (pe_lst (pa_cons pe_str (pa_cons pe_str (pa_cons pe_str (pa_cons pe_str (pa_cons pe_str (pa_cons pe_str (pa_cons pe_str (pa_cons pe_str (pa_cons pe_str (pa_cons pe_str (pa_cons pe_str pa_nil)))))))))))))) (pss_cons (ps_set (i := 3) sc__law_names.nd rfl (by first | exact Or.inl rfl | exact Or.inr rfl) pe_str) (pss_cons (ps_par (i := 4) (j := 5) (by rfl) sc__law_names.nd rfl rfl (by decide) rfl rfl (pa_cons (pe_cal c__law_draw hgu (hr.mono (by omega)) (by rfl) (pa_cons (pv 0) (pa_cons pe_int pa_nil))) (pa_cons (pe_cal c__law_draw hgu (hr.mono (by omega)) (by rfl) (pa_cons (pv 0) (pa_cons pe_int pa_nil))) pa_nil)) (by rfl)) (pss_cons (ps_set (i := 6) sc__law_names.nd rfl (by first | exact Or.inl rfl | exact Or.inr rfl) (pe_join pe_str (pe_lc (own := [("_law_k", 7)]) (g := gName 7) (tt := tYes) (by rfl) sc__law_names.nd (pi_range1 rfl T.range (pa_cons pe_int pa_nil)) (blkOk_by (own := [("_law_k", 7)]) (N := ["_law_deck_here", "_law_many", "_law_kept", "_law_letters", "_law_way", "_law_first", "_law_word", "_law_k", "_law_at", "_law_found", "_law_sign", "_law_some", "_law_naming", "_law_good"]) (sc := defScope s__law_names) (by decide +kernel)) (fun _ _ _ _ _ => (pg_name (i := 7) sc__law_names.nd rfl (Or.inl rfl))) (fun _ _ _ _ _ => pts_nil) (fun _ _ _ _ _ => (pe_ix ix_str (pv 3) (pe_cal c__law_draw hgu (hr.mono (by omega)) (by rfl) (pa_cons (pv 0) (pa_cons pe_int pa_nil))) (fun _ _ => rfl)))))) (pss_cons (ps_set (i := 8) sc__law_names.nd rfl (by first | exact Or.inl rfl | exact Or.inr rfl) (pe_cal c__law_draw hgu (hr.mono (by omega)) (by rfl) (pa_cons (pv 0) (pa_cons pe_int pa_nil)))) (pss_cons (ps_set (i := 9) sc__law_names.nd rfl (by first | exact Or.inl rfl | exact Or.inr rfl) (pe_lst pa_nil)) (pss_cons (ps_for PassesOwn.never rfl (pi_range1 rfl T.range (pa_cons pe_int pa_nil)) (pg_name (i := 7) sc__law_names.nd rfl (by first | exact Or.inl rfl | exact Or.inr rfl)) (pss_cons (ps_set (i := 10) sc__law_names.nd rfl (by first | exact Or.inl rfl | exact Or.inr rfl) (pe_ix ix_str (pv 3) (pe_op op_mod (pe_op op_add (pv 5) (pv 7)) pe_int) (fun _ _ => rfl))) (pss_one (ps_expr (pe_bm PySem.F.plainAttrs_list PySem.F.slot_list_append PySem.F.type_list_append mt_append (pv 9) (pa_cons (pe_ix (aIxL (K := K) rfl) (pe_lst (pa_cons (pv 10) (pa_cons (pe_op op_add_str (pe_op op_add_str (pe_slice sl_str (pv 6) po_none (po_some (pv 8))) (pv 10)) (pe_slice sl_str (pv 6) (po_some (pv 8)) po_none)) (pa_cons (pe_slice sl_str (pe_op aMulS (pv 6) pe_int) po_none (po_some (pe_op op_add (pe_op op_mod (pv 7) pe_int) pe_int))) pa_nil)))) (pv 4) (fun _ _ => rfl)) pa_nil)))))) (pss_cons (ps_setLc (i := 11) (own := [("_law_naming", 12)]) (g := gName 12) (tt := _) (by rfl) sc__law_names.nd rfl rfl (sw_true rfl rfl rfl (by decide +kernel)) (aWalkL (K := K) rfl (pe_op op_cat (pe_slice (aSlL (K := K) rfl) (pv 9) po_none (po_some pe_int)) (pe_slice (aSlL (K := K) rfl) (pv 9) (po_some pe_int) po_none))) (blkOk_by (own := [("_law_naming", 12)]) (N := ["_law_deck_here", "_law_many", "_law_kept", "_law_letters", "_law_way", "_law_first", "_law_word", "_law_k", "_law_at", "_law_found", "_law_sign", "_law_some", "_law_naming", "_law_good"]) (sc := defScope s__law_names) (by decide +kernel)) (fun _ _ _ _ _ => (pg_name (i := 12) sc__law_names.nd rfl (Or.inl rfl))) (fun _ _ _ _ _ => (pts_one (pt_cmpR (aNotInSeq (K := K) rfl) (pv 12) (pv 2) (by rfl)))) (fun _ _ _ _ _ => (pv 12))) (pss_cons (ps_set (i := 13) sc__law_names.nd rfl (by first | exact Or.inl rfl | exact Or.inr rfl) (pe_lst pa_nil)) (pss_cons (ps_for PassesOwn.never rfl (aWalkL (K := K) rfl (pe_op op_cat (pv 11) (pe_lst (pa_cons pe_str (pa_cons pe_str (pa_cons pe_str (pa_cons pe_str (pa_cons pe_str (pa_cons pe_str (pa_cons pe_str (pa_cons pe_str pa_nil))))))))))) (pg_name (i := 12) sc__law_names.nd rfl (by first | exact Or.inl rfl | exact Or.inr rfl)) (pss_one (ps_if (pt_cmpR (aNotInSeq (K := K) rfl) (pv 12) (pv 13) (by rfl)) (pss_one (ps_expr (pe_bm PySem.F.plainAttrs_list PySem.F.slot_list_append PySem.F.type_list_append mt_append (pv 13) (pa_cons (pv 12) pa_nil)))) pss_nil))) (pss_one (ps_ret (pe_slice (aSlL (K := K) rfl) (pv 13) po_none (po_some (pv 1)))))))))))))))), ?_⟩
    walk_at "rd"
    refine ⟨line_le (by decide), fun p hp => ⟨line_le (by decide), fun p1 hp1 => ⟨_, ne_upd hp1 upd_same, _, upd_same, line_le (by decide), fun pk hpk => ?_⟩⟩⟩
    obtain ⟨nkd, nkc⟩ := hd.fresh (((same_upd hp).trans (same_upd hp1)).free hpk)
    refine (show ∀ H0 : Hp, Same H H0 → H0 pk = some (.lst (kept.map V.str)) → spDraw [V.ref d, V.int 3] H0 ?k E0 from ?h) _ (((same_upd hp).trans (same_upd hp1)).trans (same_upd hpk)) upd_same
    clear hpk hp1 hp
    intro H0 s0 hk0
    have d0 := hd.same s0
    refine ⟨d, c, 3, rfl, d0, by decide, by decide, fun way H1 w0 w1 d1 v1 => ⟨d, c, 26, rfl, d1, by decide, by decide, fun first H2 f0 f1 d2 v2 => ⟨_, _, ⟨rfl, rfl⟩, ⟨_, rfl⟩, ?_⟩⟩⟩
    have v02 := v1.trans v2
    -- the word
    refine ⟨7, rfl, by decide, by decide, fun L hL => ?_⟩
    obtain ⟨nLd, nLc⟩ := d2.fresh hL
    refine lc_steps (steps_range 0 7) (fun i Hc => ∃ l : List Nat, l.length = i ∧ (∀ x ∈ l, x ∈ cs abc) ∧ Hc L = some (.lst ((l.map sgn).map V.str)) ∧ Deck Hc d c ∧ Sv d c H2 Hc) ⟨[], rfl, nofun, upd_same, d2.off nLd nLc, (Sv.refl d c H2).new hL⟩ (fun _ _ _ _ => trivial) ?_ ?_
    · rintro i x Hc hx ⟨l, hl, ha, e, dk, sv⟩
      refine ⟨rfl, ?_⟩
      walk_at "rd"
      refine ⟨_, rfl, _, rfl, d, c, 26, rfl, dk, by decide, by decide, fun r H3 r0 r1 d3 v3 => ?_⟩
      obtain ⟨x', ex, hx'⟩ := atI_in (xs := cs abc) r0 (by rw [show (cs abc).length = 26 from rfl]; exact r1)
      have hi : i < 7 := by
        have := (List.getElem?_eq_some_iff.mp hx).1
        rw [wholes_len] at this
        exact this
      refine ⟨_, rfl, _, rfl, line_le (by decide +kernel), x', ex, (l.map sgn).map V.str, v3 _ _ e nLd nLc, small1000 (by simp; omega), l ++ [x'], by simp [hl], fun y hy => ?_, by rw [upd_same]; simp [sgn], d3.off nLd nLc, (sv.trans v3).put hL⟩
      rcases List.mem_append.mp hy with z | z
      · exact ha y z
      · rw [List.mem_singleton.mp z]
        exact hx'
    · rintro Hc ⟨l, hl, ha, e, dk, sv⟩
      have v0c := v02.trans sv
      rw [wholes_len] at hl
      refine ⟨L, rfl, l.map sgn, .inl (.of e), by rw [sum_sgn, List.length_map, hl]; decide +kernel, ?_⟩
      generalize hw : Txt.join "" (l.map sgn) = word
      have cw : cs word = l := by rw [← hw, TL.join_eq, join_sgn]
      clear hw
      -- the place, the found ones
      refine ⟨d, c, 7, rfl, dk, by decide, by decide, fun plc H4 a0 a1 d4 v4 => ⟨Nat.zero_le _, fun pf hpf => ⟨24, rfl, by decide, by decide, ?_⟩⟩⟩
      have v04 := v0c.trans v4
      obtain ⟨nfd, nfc⟩ := d4.fresh hpf
      refine for_steps (steps_range 0 24) (fun i σ Hc => ∃ (f : List Str) (v7 v10 : Option V), f.length = i ∧ (∀ s ∈ f, Cand s) ∧ σ = [some (.ref d), some (.int m), some (.ref pk), some (.str abc), some (.int way), some (.int first), some (.str word), v7, some (.int plc), some (.ref pf), v10, none, none, none] ∧
        Hc pf = some (.lst (f.map V.str)) ∧ Deck Hc d c ∧ Sv d c H4 Hc) ⟨[], _, _, rfl, nofun, rfl, upd_same, d4.off nfd nfc, (Sv.refl d c H4).new hpf⟩ (fun _ _ _ _ _ => trivial) ?_ ?_
      · rintro i x σ H5 hx ⟨f, v7, v10, hf, hc, rfl, ef, d5, v5⟩
        walk_at "rd"
        obtain ⟨hi, rfl⟩ := wholes_at hx
        obtain ⟨pn, rfl⟩ : ∃ n : Nat, plc = n := ⟨plc.toNat, by omega⟩
        obtain ⟨x2, e2, m2⟩ := atI_in (xs := cs abc) (i := (first + (0 + (i : Int))) % 26) (Int.emod_nonneg _ (by decide)) (by rw [show (cs abc).length = 26 from rfl]; exact Int.emod_lt_of_pos _ (by decide))
        have wl : word.length = 7 := by rw [← cs_len, cw, hl]
        have lw : Lets word := fun y hy => ha y (by rw [← cw]; exact hy)
        have l1 : (cutS word none (some (pn : Int))).length + (cutS word (some (pn : Int)) none).length = 7 := by
          rw [← cs_len, ← cs_len, cs_to, cs_from, List.length_take, List.length_drop, cs_len]
          omega
        obtain ⟨kn, ek, k1, k8⟩ : ∃ n : Nat, (0 + (i : Int)) % 8 + 1 = n ∧ 1 ≤ n ∧ n ≤ 8 := ⟨((0 + (i : Int)) % 8 + 1).toNat, by omega, by omega, by omega⟩
        have rl : (repS word 4).length = 28 := by rw [repS_len, wl]
        have c1 : Cand (sgn x2) := ⟨Nat.le_refl 1, by show 1 ≤ 8; decide, .sgn m2⟩
        have c2 : Cand (cutS word none (some (pn : Int)) ++ sgn x2 ++ cutS word (some (pn : Int)) none) := by
          have e : (sgn x2).length = 1 := rfl
          refine ⟨?_, ?_, ((lw.to pn).app (.sgn m2)).app (lw.from_ pn)⟩
          · rw [strLen_append, strLen_append]; omega
          · rw [strLen_append, strLen_append]; omega
        have c3 : Cand (cutS (repS word 4) none (some (kn : Int))) := by
          have e : (cutS (repS word 4) none (some (kn : Int))).length = kn := by
            rw [← cs_len, cs_to, List.length_take, cs_len, rl]
            omega
          exact ⟨by omega, by omega, (lw.rep 4).to kn⟩
        obtain ⟨sv, e3, hs⟩ : ∃ s, atI [V.str (sgn x2), V.str (cutS word none (some (pn : Int)) ++ sgn x2 ++ cutS word (some (pn : Int)) none), V.str (cutS (repS word 4) none (some (kn : Int)))] way = some (.str s) ∧ Cand s := by
          rcases (by omega : way = 0 ∨ way = 1 ∨ way = 2) with rfl | rfl | rfl
          · exact ⟨_, rfl, c1⟩
          · exact ⟨_, rfl, c2⟩
          · exact ⟨_, rfl, c3⟩
        refine ⟨_, rfl, by decide, line_le (by decide +kernel), x2, e2, .inl ⟨rfl, _, .of ef⟩, line_le (by omega), line_le (by show _ + 1 ≤ _; omega), line_le (by omega), line_le (by rw [strLen_append]; show _ + 1 + _ ≤ _; omega), by decide, by decide, by omega, by omega, _, rfl, by decide, line_le (by show (repS word 4).length ≤ _; omega), line_le (by decide), fun p hp => ?_⟩
        rw [ek]
        obtain ⟨npd, npc⟩ := d5.fresh hp
        refine ⟨_, .of upd_same, .str sv, e3, _, ne_upd hp ef, small1000 (by rw [List.length_map]; omega), f ++ [sv], by simp [hf], fun y hy => ?_, ⟨_, rfl⟩, by rw [upd_same]; simp, (d5.off npd npc).off nfd nfc, (v5.new hp).put hpf⟩
        rcases List.mem_append.mp hy with z | z
        · exact hc y z
        · rw [List.mem_singleton.mp z]
          exact hs
      · rintro σ H5 ⟨f, v7, v10, hf, hc, rfl, ef, d5, v5⟩
        walk_at "rd"
        have v05 := v04.trans v5
        have hk5 := v05 _ _ hk0 nkd nkc
        rw [wholes_len] at hf
        -- those that are no kept words
        refine ⟨_, rfl, 8, rfl, pf, _, rfl, .of ef, fun pa hpa => ⟨_, rfl, 8, rfl, pf, _, rfl, .of (ne_upd hpa ef), fun pb hpb => ⟨pa, pb, _, _, rfl, rfl, ne_upd hpb upd_same, upd_same, line_le ?_, fun pc hpc => ?_⟩⟩⟩
        · have e1 := cutV_length (f.map V.str) none (some 8)
          have e2 := cutV_length (f.map V.str) (some 8) none
          rw [List.length_map] at e1 e2
          omega
        have ex : cutV (f.map V.str) none (some 8) ++ cutV (f.map V.str) (some 8) none = f.map V.str := by
          rw [show (8 : Int) = ((8 : Nat) : Int) from rfl, cutV_to, cutV_from, List.take_append_drop]
        rw [ex]
        obtain ⟨nad, nac⟩ := d5.fresh hpa
        have d6 := d5.off (o := .lst (cutV (f.map V.str) none (some 8))) nad nac
        obtain ⟨nbd, nbc⟩ := d6.fresh hpb
        have d7 := d6.off (o := .lst (cutV (f.map V.str) (some 8) none)) nbd nbc
        obtain ⟨ncd, ncc⟩ := d7.fresh hpc
        have d8 := d7.off (o := .lst (f.map V.str)) ncd ncc
        have v8 := ((v05.new (o := .lst (cutV (f.map V.str) none (some 8))) hpa).new (o := .lst (cutV (f.map V.str) (some 8) none)) hpb).new (o := .lst (f.map V.str)) hpc
        have hk8 := ne_upd (u := .lst (f.map V.str)) hpc (ne_upd (u := .lst (cutV (f.map V.str) (some 8) none)) hpb (ne_upd (u := .lst (cutV (f.map V.str) none (some 8))) hpa hk5))
        have hc8 := upd_same (H := upd (upd H5 pa (.lst (cutV (f.map V.str) none (some 8)))) pb (.lst (cutV (f.map V.str) (some 8) none))) (a := pc) (o := .lst (f.map V.str))
        clear hpa hpb hpc d6 d7
        revert d8 v8 hk8 hc8
        generalize upd (upd (upd H5 pa (.lst (cutV (f.map V.str) none (some 8)))) pb (.lst (cutV (f.map V.str) (some 8) none))) pc (.lst (f.map V.str)) = H8
        intro d8 v8 hk8 hc8
        refine ⟨pc, rfl, ⟨_, .of hc8⟩, fun L2 hL2 => lc_pure (steps_list K pc (f.map V.str)) (fun x => !inV x (kept.map V.str)) id (fun acc => seqL_upd hL2 (.of hc8)) (line_le (by rw [List.length_map]; omega)) ?_ ?_ ?_ ?_⟩
        · exact fun _ => rfl
        · intro x hm acc R r
          obtain ⟨s, _, rfl⟩ := List.mem_map.mp hm
          exact ⟨_, rfl, _, rfl, pk, _, rfl, .inl (.of (ne_upd hL2 hk8)), rfl, by decide +kernel, _, rfl, r⟩
        · intro x hm _ acc R r
          exact ⟨_, rfl, r⟩
        · rw [filt_names]
          generalize hg : f.filter (fun s => !decide (s ∈ kept)) = g
          have gg : ∀ s ∈ g, Cand s ∧ s ∉ kept := fun s hs => by
            rw [← hg] at hs
            obtain ⟨h1, h2⟩ := List.mem_filter.mp hs
            exact ⟨hc s h1, by simpa using h2⟩
          have gl : g.length ≤ 24 := by
            rw [← hg, ← hf]
            exact List.length_filter_le _ _
          obtain ⟨n2d, n2c⟩ := d8.fresh hL2
          have d9 := d8.off (o := .lst (g.map V.str)) n2d n2c
          have v9 := v8.new (o := .lst (g.map V.str)) hL2
          have hg9 := upd_same (H := H8) (a := L2) (o := .lst (g.map V.str))
          revert d9 v9 hg9
          generalize upd H8 L2 (.lst (g.map V.str)) = H9
          intro d9 v9 hg9
          -- each once
          refine ⟨Nat.zero_le _, fun pg hpg => ?_⟩
          obtain ⟨ngd, ngc⟩ := d9.fresh hpg
          refine ⟨_, rfl, line_le (by decide), fun pq hpq => ⟨L2, pq, _, _, rfl, rfl, ne_upd hpq (ne_upd hpg hg9), upd_same, line_le (by rw [List.length_map]; show g.length + 8 ≤ _; omega), fun pr hpr => ⟨pr, rfl, ⟨_, .of upd_same⟩, ?_⟩⟩⟩
          obtain ⟨nqd, nqc⟩ := (d9.off (o := .lst []) ngd ngc).fresh hpq
          obtain ⟨nrd, nrc⟩ := ((d9.off (o := .lst []) ngd ngc).off (o := .lst (qqs.map V.str)) nqd nqc).fresh hpr
          have dA := ((d9.off (o := .lst []) ngd ngc).off (o := .lst (qqs.map V.str)) nqd nqc).off (o := .lst ((g ++ qqs).map V.str)) nrd nrc
          have vA := ((v9.new (o := .lst []) hpg).new (o := .lst (qqs.map V.str)) hpq).new (o := .lst ((g ++ qqs).map V.str)) hpr
          have hgA := ne_upd (u := .lst ((g ++ qqs).map V.str)) hpr (ne_upd (u := .lst (qqs.map V.str)) hpq (upd_same (H := H9) (a := pg) (o := .lst [])))
          have hrA := upd_same (H := upd (upd H9 pg (.lst [])) pq (.lst (qqs.map V.str))) (a := pr) (o := .lst ((g ++ qqs).map V.str))
          have ngr : pg ≠ pr := fun e => by
            rw [← e] at hpr
            have z := ne_upd (u := .lst (qqs.map V.str)) hpq (upd_same (H := H9) (a := pg) (o := .lst []))
            exact absurd (hpr.symm.trans z) (by intro y; cases y)
          have exs : g.map V.str ++ [V.str "qqa", V.str "qqb", V.str "qqc", V.str "qqd", V.str "qqe", V.str "qqf", V.str "qqg", V.str "qqh"] = (g ++ qqs).map V.str := by
            rw [List.map_append]
            rfl
          rw [exs]
          refine for_steps (steps_list K pr ((g ++ qqs).map V.str)) (fun i σ Hc => ∃ v12 : Option V, σ = [some (.ref d), some (.int m), some (.ref pk), some (.str abc), some (.int way), some (.int first), some (.str word), v7, some (.int plc), some (.ref pf), v10, some (.ref L2), v12, some (.ref pg)] ∧
            Hc pr = some (.lst ((g ++ qqs).map V.str)) ∧ Hc pg = some (.lst ((onces ((g ++ qqs).take i)).map V.str)) ∧ Deck Hc d c ∧ Sv d c H0 Hc) ⟨none, rfl, hrA, hgA, dA, vA⟩ ?_ ?_ ?_
          · rintro i σ Hc _ ⟨_, _, hr, _⟩
            exact .of hr
          · rintro i x σ Hc hx ⟨v12, rfl, hr, hgd, dk, sv⟩
            obtain ⟨s, rfl, hs⟩ : ∃ s, x = V.str s ∧ (g ++ qqs)[i]? = some s := by
              rw [List.getElem?_map] at hx
              cases e : (g ++ qqs)[i]? with
              | none => rw [e] at hx; cases hx
              | some s => rw [e] at hx; exact ⟨s, (Option.some.inj hx).symm, rfl⟩
            have et : onces ((g ++ qqs).take (i + 1)) = once (onces ((g ++ qqs).take i)) s := by
              rw [List.take_add_one, hs]
              exact onces_end _ s
            have hlen : (onces ((g ++ qqs).take i)).length ≤ 32 := by
              have h1 := sub_len (onces_nodup ((g ++ qqs).take i)) fun x hx => (onces_mem _ x).mp hx
              rw [List.length_take, List.length_append, show qqs.length = 8 from rfl] at h1
              omega
            walk_at "rd"
            refine ⟨_, .inl (.of hgd), rfl, flat_strs _, ?_⟩
            rw [inV_strs]
            by_cases hm : s ∈ onces ((g ++ qqs).take i)
            · rw [if_neg (by simp [hm])]
              refine ⟨hr, ?_, dk, sv⟩
              rw [et, hgd]
              unfold once
              rw [if_pos hm]
            · rw [if_pos (by simp [hm])]
              refine ⟨.inl ⟨rfl, _, .of hgd⟩, _, hgd, small1000 (by rw [List.length_map]; omega), ?_, ?_, dk.off ngd ngc, fun b o e n1 n2 => ?_⟩
              · rw [upd_ne ngr.symm]
                exact hr
              · rw [et, upd_same]
                unfold once
                rw [if_neg hm, List.map_append]
                rfl
              · rw [upd_ne (fun z => by rw [z] at e; exact absurd (v9 _ _ e ngd ngc) (by rw [hpg]; intro y; cases y))]
                exact sv b o e n1 n2
          · rintro σ Hc ⟨v12, rfl, hr, hgd, dk, sv⟩
            rw [List.length_map, List.take_length] at hgd
            walk_at "rd"
            refine ⟨_, .of hgd, fun p hp => ?_⟩
            obtain ⟨n1, n2, n3⟩ := names_good gg hm
            obtain ⟨npd, npc⟩ := dk.fresh hp
            rw [cutV_to, ← List.map_take]
            exact q _ p _ n1 n2 n3 (dk.off npd npc) (((Same.sv s0).trans sv).new hp) (Same.free s0 (sv.free dk hp)) upd_same
end
end Vf
namespace Vf
open PySem L2 PyProof.Rows PySem.Spec

local macro_rules | `(tactic| walk_at "rd") => `(tactic| simp only [tSeq, tIfS, tOr, tAnd, tNot, tB, tTest, tChain, tCB, tCons, tNil, tVar, tC, tRet, tAndV, tOrV, tNotV, tOp, tNext, tDrop, tAsg, tPar, tYes, tIf, tCall, tCalK, tTup, tLst, tSl, tNoPart, tPart, tM0, tM1, tRevL, tBM0, tBM, gName, rI0, rI, rU, rInA, rEqA, rAddA, rMulA, rSlAny, iAny, rIsi, rAll, rAny, rSum, rList, rTuple, rLen, rLenS, rLenSeq, rMulS, CDiv, rIn, rEqD, rNeD, iList, iTup, iStr, rCat, rCatA, rSlL, rSlA, rSlS, gSub, rPop, rAppend, rSetL, rIx, rIxL, rIxT, rIxS, LenV,
  L2.start, List.map_cons, List.map_nil, List.length_cons, List.length_nil, List.cons_append, List.nil_append, List.append_nil, Nat.zero_add, Nat.add_sub_cancel, Nat.sub_self, List.replicate_succ, List.replicate_zero, List.getElem?_cons_zero, List.getElem?_cons_succ, List.set_cons_zero, List.set_cons_succ,
  Option.some.injEq, V.int.injEq, V.str.injEq, V.bl.injEq, V.ref.injEq, List.cons.injEq, and_true, true_and, exists_eq_left', exists_eq_left, exists_eq_right, exists_and_left, exists_and_right, false_or, or_false, reduceCtorEq, false_and, and_false, exists_false, Bool.not_true, Bool.not_false, if_true, if_false, Bool.false_eq_true, ite_true, ite_false])
/-! ## things that may be asked and shown -/
/-- the heap without the deck -/
def off (d c : Addr) (H : Hp) : Hp := fun b => if b = d ∨ b = c then none else H b
theorem off_same {d c : Addr} {H H' : Hp} (v : Sv d c H H') : Same (off d c H) (off d c H') := fun b o e => by
  unfold off at e ⊢
  split at e
  · cases e
  · rename_i h
    rw [if_neg h]
    exact v b o e (fun z => h (.inl z)) fun z => h (.inr z)
theorem off_get {d c b : Addr} {H : Hp} {o : HO} (e : H b = some o) (n1 : b ≠ d) (n2 : b ≠ c) : off d c H b = some o := by
  unfold off
  rw [if_neg fun z => z.elim n1 n2]
  exact e
theorem off_sub (d c : Addr) (H : Hp) : Same (off d c H) H := fun b o e => by
  unfold off at e
  split at e
  · cases e
  · exact e
theorem strOk_of {s : Str} (h : ∀ x ∈ cs s, x < 0x110000) : PyData.strOk s = true := by
  refine Array.all_eq_true_iff_forall_mem.mpr fun c hc => decide_eq_true (h c ?_)
  simpa [cs] using hc
theorem abc_small : ∀ x ∈ cs abc, x < 0x110000 := by decide +kernel
theorem Lets.ok {s : Str} (h : Lets s) : ∀ x ∈ cs s, x < 0x110000 := fun x hx => abc_small x (h x hx)
theorem name_lets {s : Str} (h : isName (.str s) = true) : 1 ≤ s.length ∧ s.length ≤ 8 ∧ Lets s := by
  have h' : (decide (1 ≤ s.length) && decide (s.length ≤ 8) && !inV (.str s) (kept.map V.str) && s.cps.toList.all fun c => decide (c ∈ abc.cps.toList)) = true := h
  simp only [Bool.and_eq_true, decide_eq_true_eq] at h'
  exact ⟨h'.1.1.1, h'.1.1.2, fun c hc => of_decide_eq_true (List.all_eq_true.mp h'.2 c hc)⟩
theorem up_small : ∀ c ∈ cs abc, ∀ u ∈ Unicode.upperOf c, u < 0x110000 := by decide +kernel
theorem up_ok {s : Str} (h : Lets s) : ∀ x ∈ cs (Txt.upper s), x < 0x110000 := by
  intro x hx
  have hx' : x ∈ (Txt.upper s).cps := by simpa [cs] using hx
  unfold Txt.upper placed at hx'
  obtain ⟨l, hl, hm⟩ := Array.mem_flatten.mp hx'
  obtain ⟨i, hi, rfl⟩ := Array.mem_mapIdx.mp hl
  refine up_small _ (h _ ?_) x (by simpa using hm)
  unfold cs
  simp
/-- a text of at most n signs, all of them signs -/
structure Fine (n : Nat) (s : Str) : Prop where
  len : s.length ≤ n
  ok : ∀ x ∈ cs s, x < 0x110000
theorem Fine.app {m n : Nat} {a b : Str} (h : Fine m a) (k : Fine n b) : Fine (m + n) (a ++ b) :=
  ⟨by rw [strLen_append]; exact Nat.add_le_add h.len k.len, fun x hx => by
    rw [cs_app] at hx
    exact (List.mem_append.mp hx).elim (h.ok x) (k.ok x)⟩
theorem Fine.cut {n : Nat} {a : Str} (h : Fine n a) (lo hi : Option Int) : Fine n (cutS a lo hi) :=
  ⟨Nat.le_trans (cutS_length a lo hi) h.len, fun x hx => h.ok x (by
    unfold cutS at hx
    exact List.mem_of_mem_drop (List.mem_of_mem_take hx))⟩
theorem Fine.mono {m n : Nat} {a : Str} (h : Fine m a) (k : m ≤ n) : Fine n a := ⟨Nat.le_trans h.len k, h.ok⟩
theorem Fine.line {n : Nat} {a : Str} (h : Fine n a) (k : n ≤ 1000 := by decide) : a.length ≤ sizeLine := line_le (Nat.le_trans h.len (by omega))
theorem fine_two {m n : Nat} {a b : Str} (h : Fine m a) (k : Fine n b) (z : m + n ≤ 1000 := by decide) : a.length + b.length ≤ sizeLine := line_le (by have := h.len; have := k.len; omega)
end Vf
namespace Vf
open PySem L2 PyProof.Rows PySem.Spec
/-! ## data that may be asked and shown -/
mutual
theorem ok_shows {B : Nat} (hB : B ≤ 10 ^ 50) : ∀ d : PyData, okD B d = true → d.showable = true
  | .none, _ => rfl
  | .bool _, _ => rfl
  | .int i, h => by
    simp only [okD, decide_eq_true_eq] at h
    exact (int_len (i := i) (by omega)).2
  | .str x, _ => rfl
  | .list l, h => by
    simp only [okD] at h
    simp only [PyData.showable]
    exact okL_shows hB l h
  | .tuple l, h => by
    simp only [okD] at h
    simp only [PyData.showable]
    exact okL_shows hB l h
  | .dict l, h => by
    simp only [okD] at h
    simp only [PyData.showable]
    exact okK_shows hB l h
theorem okL_shows {B : Nat} (hB : B ≤ 10 ^ 50) : ∀ l : List PyData, okL B l = true → PyData.showableAll l = true
  | [], _ => rfl
  | d :: l, h => by
    simp only [okL, Bool.and_eq_true] at h
    simp only [PyData.showableAll, Bool.and_eq_true]
    exact ⟨ok_shows hB d h.1, okL_shows hB l h.2⟩
theorem okK_shows {B : Nat} (hB : B ≤ 10 ^ 50) : ∀ l : List (PyData × PyData), okK B l = true → PyData.showableKv l = true
  | [], _ => rfl
  | (k, v) :: l, h => by
    simp only [okK, Bool.and_eq_true] at h
    simp only [PyData.showableKv, Bool.and_eq_true]
    exact ⟨⟨ok_shows hB k h.1.1, ok_shows hB v h.1.2⟩, okK_shows hB l h.2⟩
end
mutual
theorem ok_fine {B : Nat} : ∀ d : PyData, okD B d = true → wt d ≤ 500000 → fine d = true
  | .none, _, _ => by simp [fine]
  | .bool _, _, _ => by simp [fine]
  | .int _, _, _ => by simp [fine]
  | .str x, h, w => by
    simp only [okD] at h
    simp only [wt] at w
    simp only [fine, Bool.and_eq_true, decide_eq_true_eq]
    exact ⟨by omega, h⟩
  | .list _, _, _ => by simp [fine]
  | .tuple l, h, w => by
    simp only [okD] at h
    simp only [wt] at w
    have := wtL_len l
    simp only [fine, Bool.and_eq_true, decide_eq_true_eq]
    exact ⟨by omega, okL_fine l h (by omega)⟩
  | .dict _, _, _ => by simp [fine]
theorem okL_fine {B : Nat} : ∀ l : List PyData, okL B l = true → wtL l ≤ 500000 → fineL l = true
  | [], _, _ => rfl
  | d :: l, h, w => by
    simp only [okL, Bool.and_eq_true] at h
    simp only [wtL] at w
    simp only [fineL, Bool.and_eq_true]
    exact ⟨ok_fine d h.1 (by omega), okL_fine l h.2 (by omega)⟩
end
mutual
theorem sz_wt : ∀ d : PyData, sz d ≤ wt d
  | .none => by simp [sz, wt]
  | .bool _ => by simp [sz, wt]
  | .int _ => by simp [sz, wt]
  | .str _ => by simp [sz, wt]
  | .list _ => by simp only [sz, wt]; omega
  | .tuple l => by
    have := szL_wt l
    simp only [sz, wt]
    omega
  | .dict _ => by simp only [sz, wt]; omega
theorem szL_wt : ∀ l : List PyData, szL l ≤ wtL l
  | [] => Nat.le_refl _
  | d :: l => by
    have := sz_wt d
    have := szL_wt l
    simp only [szL, wtL]
    omega
end
theorem okL_append {B : Nat} : ∀ a b : List PyData, okL B (a ++ b) = (okL B a && okL B b)
  | [], b => rfl
  | x :: a, b => by
    simp only [List.cons_append, okL, okL_append a b, Bool.and_assoc]
theorem okL_iff {B : Nat} : ∀ {l : List PyData}, okL B l = true ↔ ∀ d ∈ l, okD B d = true
  | [] => by simp [okL]
  | d :: l => by
    simp only [okL, Bool.and_eq_true, List.forall_mem_cons, okL_iff (l := l)]
mutual
theorem okD_mono {B C : Nat} (hB : B ≤ C) : ∀ d : PyData, okD B d = true → okD C d = true
  | .none, _ => rfl
  | .bool _, _ => rfl
  | .int i, h => by
    simp only [okD, decide_eq_true_eq] at h ⊢
    omega
  | .str x, h => by
    simp only [okD] at h ⊢
    exact h
  | .list l, h => by
    simp only [okD] at h ⊢
    exact okL_mono hB l h
  | .tuple l, h => by
    simp only [okD] at h ⊢
    exact okL_mono hB l h
  | .dict l, h => by
    simp only [okD] at h ⊢
    exact okK_mono hB l h
theorem okL_mono {B C : Nat} (hB : B ≤ C) : ∀ l : List PyData, okL B l = true → okL C l = true
  | [], _ => rfl
  | d :: l, h => by
    simp only [okL, Bool.and_eq_true] at h ⊢
    exact ⟨okD_mono hB d h.1, okL_mono hB l h.2⟩
theorem okK_mono {B C : Nat} (hB : B ≤ C) : ∀ l : List (PyData × PyData), okK B l = true → okK C l = true
  | [], _ => rfl
  | (k, v) :: l, h => by
    simp only [okK, Bool.and_eq_true] at h ⊢
    exact ⟨⟨okD_mono hB k h.1.1, okD_mono hB v h.1.2⟩, okK_mono hB l h.2⟩
end
/-- data of a weight and a depth -/
structure Gd (B W D : Nat) (d : PyData) : Prop where
  ok : okD B d = true
  wt : wt d ≤ W
  depth : d.depth ≤ D
theorem Gd.mono {B W D B' W' D' : Nat} {d : PyData} (g : Gd B W D d) (h1 : B ≤ B') (h2 : W ≤ W') (h3 : D ≤ D') : Gd B' W' D' d :=
  ⟨okD_mono h1 d g.ok, Nat.le_trans g.wt h2, Nat.le_trans g.depth h3⟩
theorem Gd.shows {B W D : Nat} {d : PyData} (g : Gd B W D d) (hB : B ≤ 10 ^ 50) (hW : W ≤ 500000) (hD : D ≤ 60) : fine d = true ∧ sz d ≤ 500000 ∧ d.showable = true ∧ d.depth ≤ 60 ∧ d.shown.length ≤ sizeLine := by
  have h1 := g.wt
  have h2 := sz_wt d
  have h3 := shown_wt hB d g.ok
  exact ⟨ok_fine d g.ok (by omega), by omega, ok_shows hB d g.ok, Nat.le_trans g.depth hD, line_le' (by omega)⟩
end Vf
namespace Vf
open PySem L2 PyProof.Rows PySem.Spec
local macro_rules | `(tactic| walk_at "rd") => `(tactic| simp only [tSeq, tIfS, tOr, tAnd, tNot, tB, tTest, tChain, tCB, tCons, tNil, tVar, tC, tRet, tAndV, tOrV, tNotV, tOp, tNext, tDrop, tAsg, tPar, tYes, tIf, tCall, tCalK, tTup, tLst, tSl, tNoPart, tPart, tM0, tM1, tRevL, tBM0, tBM, gName, rI0, rI, rU, rInA, rEqA, rAddA, rMulA, rSlAny, iAny, rIsi, rAll, rAny, rSum, rList, rTuple, rLen, rLenS, rLenSeq, rMulS, CDiv, rIn, rEqD, rNeD, iList, iTup, iStr, rCat, rCatA, rSlL, rSlA, rSlS, gSub, rPop, rAppend, rSetL, rIx, rIxL, rIxT, rIxS, LenV,
  L2.start, List.map_cons, List.map_nil, List.length_cons, List.length_nil, List.cons_append, List.nil_append, List.append_nil, Nat.zero_add, Nat.add_sub_cancel, Nat.sub_self, List.replicate_succ, List.replicate_zero, List.getElem?_cons_zero, List.getElem?_cons_succ, List.set_cons_zero, List.set_cons_succ,
  Option.some.injEq, V.int.injEq, V.str.injEq, V.bl.injEq, V.ref.injEq, List.cons.injEq, and_true, true_and, exists_eq_left', exists_eq_left, exists_eq_right, exists_and_left, exists_and_right, false_or, or_false, reduceCtorEq, false_and, and_false, exists_false, Bool.not_true, Bool.not_false, if_true, if_false, Bool.false_eq_true, ite_true, ite_false])
def rIntB : List V → Hp → VK → Prop := fun xs H Q => ∃ k : Bool, xs = [.bl k] ∧ Q (.int (if k then 1 else 0)) H
theorem aIntB {X : Cx} : CallR X (.type "int") rIntB := fun pins s σ H xs us Q I r h => call_int1 pins s σ H xs us Q I r (.inr h)
theorem rNe_int {i j : Int} {H : Hp} {Q : VK} : rNe (.int i) (.int j) H Q = Q (.bl (!decide (i = j))) H := by
  have e : decide (V.int i = V.int j) = decide (i = j) := by simp
  unfold rNe
  rw [e]
  exact propext ⟨fun h => h.2, fun h => ⟨rfl, h⟩⟩
theorem at2 {x y z : V} {xs : List V} : atI (x :: y :: z :: xs) 2 = some z := by
  unfold atI ixN
  rw [if_pos (by decide), if_pos (by simp only [List.length_cons]; omega)]
  rfl
theorem at3 {x y z u : V} {xs : List V} : atI (x :: y :: z :: u :: xs) 3 = some u := by
  unfold atI ixN
  rw [if_pos (by decide), if_pos (by simp only [List.length_cons]; omega)]
  rfl
theorem not_among {l : List Str} {d : PyData} (h : isStrD d = false) : amongD l d = false := by
  cases d <;> first | rfl | cases h
def relD : PyData → Bool
  | .tuple [h, a, b] => amongD compL h && (isTD a && isTD b)
  | _ => false
theorem dv_at {H : Hp} : ∀ {ys : List V} {ds : List PyData} {i : Nat} {x : V}, DvAll H ys ds → ys[i]? = some x → ∃ d, ds[i]? = some d ∧ Dv H x d
  | _, _, i, x, .nil, e => by simp at e
  | _, _, 0, x, .cons h _, e => ⟨_, rfl, by simp at e; exact e ▸ h⟩
  | _, _, i + 1, x, .cons _ t, e => by
    obtain ⟨d, e1, h⟩ := dv_at (i := i) t (by simpa using e)
    exact ⟨d, by simpa using e1, h⟩
def pairsL : List Str := ["and", "or", "xor", "times", "quot", "rest", "left", "right"]
def singlesL : List Str := ["not", "froze"]
theorem cnt_leaf {h : Str} (m : h ∈ leavesL) : cnt h = some 0 :=
  (show ∀ h ∈ leavesL, cnt h = some 0 by decide +kernel) h m
theorem cnt_flag {h : Str} (m : h ∈ flaggedL) : cnt h = some (if h = "twice" then 1 else 2) :=
  (show ∀ h ∈ flaggedL, cnt h = some (if h = "twice" then 1 else 2) by decide +kernel) h m
theorem cnt_pair {h : Str} (m : h ∈ pairsL) : cnt h = some 2 ∧ h ∉ singlesL :=
  (show ∀ h ∈ pairsL, cnt h = some 2 ∧ h ∉ singlesL by decide +kernel) h m
theorem cnt_single {h : Str} (m : h ∈ singlesL) : cnt h = some 1 :=
  (show ∀ h ∈ singlesL, cnt h = some 1 by decide +kernel) h m
theorem cnt_none {h : Str} (h1 : h ∉ leavesL) (h2 : ¬ h = "choice") (h3 : h ∉ flaggedL) (h4 : h ∉ pairsL) (h5 : h ∉ singlesL) : cnt h = none := by
  unfold cnt
  rw [Option.map_eq_none_iff, List.find?_eq_none]
  intro p hp e
  have e' : p.1 = h := by simpa using e
  have all := (show ∀ p ∈ cntL, p.1 ∈ leavesL ∨ p.1 = "choice" ∨ p.1 ∈ flaggedL ∨ p.1 ∈ pairsL ∨ p.1 ∈ singlesL by decide +kernel) p hp
  rw [e'] at all
  rcases all with z | z | z | z | z
  · exact h1 z
  · exact h2 z
  · exact h3 z
  · exact h4 z
  · exact h5 z
theorem eq_leaf {h : Str} {ds : List PyData} (h1 : h ∈ leavesL) : isTD (.tuple (.str h :: ds)) = (decide (ds.length = 1) && leafD h (ds.headD .none)) := by
  rw [isTD_eq, show shapeD (.tuple (.str h :: ds)) = shapeT h ds from rfl, show partsD (.tuple (.str h :: ds)) = partsT h ds from rfl]
  unfold shapeT partsT
  rw [cnt_leaf h1]
  simp only [h1, if_true, List.all_nil, Bool.and_true]
theorem eq_choice {ds : List PyData} : isTD (.tuple (.str "choice" :: ds)) = (decide (ds.length = 3) && (triD compL (ds.headD .none) && (behind (ds.headD .none) ++ ds.drop 1).all isTD)) := by
  rw [isTD_eq, show shapeD (.tuple (.str "choice" :: ds)) = shapeT "choice" ds from rfl, show partsD (.tuple (.str "choice" :: ds)) = partsT "choice" ds from rfl]
  unfold shapeT partsT
  rw [show cnt "choice" = some 4 by decide +kernel]
  simp only [show ¬ (Str.ofString "choice") ∈ leavesL by decide +kernel, if_false, if_true, Bool.and_assoc]
theorem eq_flag {h : Str} {ds : List PyData} (h1 : h ∉ leavesL) (h2 : ¬ h = "choice") (h3 : h ∈ flaggedL) : isTD (.tuple (.str h :: ds)) = (decide ((ds.length : Int) = 1 + (if h = "twice" then 1 else 2)) && (amongD flagsL (ds.headD .none) && (ds.drop 1).all isTD)) := by
  rw [isTD_eq, show shapeD (.tuple (.str h :: ds)) = shapeT h ds from rfl, show partsD (.tuple (.str h :: ds)) = partsT h ds from rfl]
  unfold shapeT partsT
  rw [cnt_flag h3]
  simp only [h1, h2, h3, if_false, if_true, Bool.and_assoc]
theorem eq_other {h : Str} {ds : List PyData} (h1 : h ∉ leavesL) (h2 : ¬ h = "choice") (h3 : h ∉ flaggedL) :
    isTD (.tuple (.str h :: ds)) = (decide (0 < (2 * (if decide (h ∈ pairsL) = true then (1 : Int) else 0) + if decide (h ∈ singlesL) = true then 1 else 0)) && (decide (((ds.length : Int) + 1) = (2 * (if decide (h ∈ pairsL) = true then (1 : Int) else 0) + if decide (h ∈ singlesL) = true then 1 else 0) + 1) && ds.all isTD)) := by
  rw [isTD_eq, show shapeD (.tuple (.str h :: ds)) = shapeT h ds from rfl, show partsD (.tuple (.str h :: ds)) = partsT h ds from rfl]
  unfold shapeT partsT
  simp only [h1, h2, h3, if_false]
  by_cases h4 : h ∈ pairsL
  · obtain ⟨e, h5⟩ := cnt_pair h4
    simp [e, h4, h5]
    rw [show decide ((ds.length : Int) = 2) = decide ((ds.length : Int) + 1 = 3) by rw [Bool.eq_iff_iff, decide_eq_true_eq, decide_eq_true_eq]; omega]
  · by_cases h5 : h ∈ singlesL
    · simp [cnt_single h5, h4, h5]
      rw [show decide ((ds.length : Int) = 1) = decide ((ds.length : Int) + 1 = 2) by rw [Bool.eq_iff_iff, decide_eq_true_eq, decide_eq_true_eq]; omega]
    · simp [cnt_none h1 h2 h3 h4 h5, h4, h5]
theorem rel_eq (d1 d2 d3 : PyData) : (triD compL d1 && (behind d1 ++ [d2, d3]).all isTD) = (relD d1 && (isTD d2 && isTD d3)) := by
  unfold triD relD
  split
  · next h a b => simp [behind, Bool.and_assoc]
  · next ne =>
    rw [Bool.false_and]
    first
      | rfl
      | (split <;> first | rfl | exact absurd rfl (ne _ _ _))
theorem depth_mem : ∀ {l : List PyData} {p : PyData}, p ∈ l → p.depth ≤ PyData.depthAll l
  | x :: l, p, h => by
    simp only [PyData.depthAll]
    rcases List.mem_cons.mp h with rfl | h
    · omega
    · have := depth_mem h
      omega
end Vf
namespace Vf
open PySem L2 PyProof.Rows PySem.Spec
/-! ## the things of a term -/
def thF : Nat → PyData → List PyData
  | 0, _ => []
  | n + 1, d => d :: (partsD d).flatMap (thF n)
def thingsD (d : PyData) : List PyData := thF (sz d) d
theorem flatMap_same {α β : Type} {f g : α → List β} : ∀ {l : List α}, (∀ x ∈ l, f x = g x) → l.flatMap f = l.flatMap g
  | [], _ => rfl
  | x :: l, h => by rw [List.flatMap_cons, List.flatMap_cons, h x List.mem_cons_self, flatMap_same fun y hy => h y (List.mem_cons_of_mem _ hy)]
theorem thF_more : ∀ (n : Nat) (d : PyData) (m : Nat), sz d ≤ n → sz d ≤ m → thF n d = thF m d
  | 0, d, _, h, _ => absurd (sz_pos d) (by omega)
  | _, d, 0, _, h => absurd (sz_pos d) (by omega)
  | n + 1, d, m + 1, h1, h2 => by
    have hp := sz_parts d
    rw [thF, thF, flatMap_same fun x hx => thF_more n x m (by have := sz_mem hx; omega) (by have := sz_mem hx; omega)]
theorem things_eq (d : PyData) : thingsD d = d :: (partsD d).flatMap thingsD := by
  obtain ⟨n, hn⟩ : ∃ n, sz d = n + 1 := ⟨sz d - 1, by have := sz_pos d; omega⟩
  have hp := sz_parts d
  rw [thingsD, hn, thF, flatMap_same fun x hx => thF_more n x (sz x) (by have := sz_mem hx; omega) (Nat.le_refl _)]
  rfl
theorem things_ind {p : PyData → Prop} (h : ∀ d, (∀ x ∈ partsD d, p x) → p d) : ∀ (n : Nat) (d : PyData), sz d ≤ n → p d
  | 0, d, hn => absurd (sz_pos d) (by omega)
  | n + 1, d, hn => h d fun x hx => things_ind h n x (by have := sz_parts d; have := sz_mem hx; omega)
theorem flat_len {n : PyData → Nat} {f : PyData → List PyData} : ∀ {l : List PyData}, (∀ x ∈ l, (f x).length ≤ sz x) → (l.flatMap f).length ≤ szL l
  | [], _ => Nat.le_refl _
  | x :: l, h => by
    have h1 := h x List.mem_cons_self
    have h2 := flat_len (n := n) (f := f) (l := l) fun y hy => h y (List.mem_cons_of_mem _ hy)
    rw [List.flatMap_cons, List.length_append]
    simp only [szL]
    omega
theorem things_len (d : PyData) : (thingsD d).length ≤ sz d :=
  things_ind (p := fun d => (thingsD d).length ≤ sz d) (fun d ih => by
    have h := flat_len (n := sz) (f := thingsD) ih
    have hp := sz_parts d
    rw [things_eq, List.length_cons]
    omega) (sz d) d (Nat.le_refl _)
theorem things_terms (d : PyData) (h : isTD d = true) : ∀ x ∈ thingsD d, isTD x = true := by
  refine things_ind (p := fun d => isTD d = true → ∀ x ∈ thingsD d, isTD x = true) (fun d ih h => ?_) (sz d) d (Nat.le_refl _) h
  intro x hx
  rw [things_eq] at hx
  rcases List.mem_cons.mp hx with rfl | hx
  · exact h
  · obtain ⟨y, hy, hxy⟩ := List.mem_flatMap.mp hx
    rw [isTD_eq, Bool.and_eq_true] at h
    exact ih y hy (List.all_eq_true.mp h.2 y hy) x hxy
theorem szL_reverse : ∀ l : List PyData, szL l.reverse = szL l
  | [] => rfl
  | x :: l => by
    rw [List.reverse_cons, szL_append, szL_reverse l]
    simp only [szL]
    omega
theorem DvAll.reverse {H : Hp} : ∀ {xs : List V} {ds : List PyData}, DvAll H xs ds → DvAll H xs.reverse ds.reverse
  | _, _, .nil => .nil
  | _, _, .cons h t => by
    rw [List.reverse_cons, List.reverse_cons]
    exact t.reverse.append (.cons h .nil)
theorem DvAll.last {H : Hp} : ∀ {r : List V} {z : V} {ds : List PyData}, DvAll H (r ++ [z]) ds → ∃ ds' d, ds = ds' ++ [d] ∧ DvAll H r ds' ∧ Dv H z d
  | [], z, _, .cons h .nil => ⟨[], _, rfl, .nil, h⟩
  | x :: r, z, _, .cons h t => by
    obtain ⟨ds', d, rfl, h1, h2⟩ := DvAll.last (r := r) t
    exact ⟨_ :: ds', d, rfl, .cons h h1, h2⟩
/-- what kind of term it is -/
inductive TForm : PyData → Prop
  | leaf (h : Str) (d : PyData) : h ∈ leavesL → leafD h d = true → TForm (.tuple [.str h, d])
  | choice (r : Str) (t v p q : PyData) : r ∈ compL → (∀ x ∈ [t, v, p, q], isTD x = true) → TForm (.tuple [.str "choice", .tuple [.str r, t, v], p, q])
  | flag (h f : Str) (ps : List PyData) : h ∈ flaggedL → f ∈ flagsL → ps.length = (if h = "twice" then 1 else 2) → (∀ x ∈ ps, isTD x = true) → TForm (.tuple (.str h :: .str f :: ps))
  | other (h : Str) (ps : List PyData) : (h ∈ pairsL ∧ ps.length = 2) ∨ (h ∈ singlesL ∧ ps.length = 1) → (∀ x ∈ ps, isTD x = true) → TForm (.tuple (.str h :: ps))
theorem tform {d : PyData} (h : isTD d = true) : TForm d := by
  obtain ⟨hh, r, rfl⟩ : ∃ hh r, d = .tuple (.str hh :: r) := by
    have hs : shapeD d = true := by
      rw [isTD_eq, Bool.and_eq_true] at h
      exact h.1
    unfold shapeD at hs
    split at hs
    · exact ⟨_, _, rfl⟩
    · exact absurd hs Bool.false_ne_true
  by_cases h1 : hh ∈ leavesL
  · rw [eq_leaf h1, Bool.and_eq_true, decide_eq_true_eq] at h
    match r, h with
    | [d], ⟨_, h⟩ => exact .leaf hh d h1 h
  by_cases h2 : hh = "choice"
  · subst h2
    rw [eq_choice, Bool.and_eq_true, decide_eq_true_eq] at h
    match r, h with
    | [a, p, q], ⟨_, h⟩ =>
      rw [Bool.and_eq_true] at h
      obtain ⟨h3, h4⟩ := h
      have h3 : triD compL a = true := h3
      obtain ⟨s, t, v, rfl, hs⟩ : ∃ s t v, a = .tuple [.str s, t, v] ∧ s ∈ compL := by
        unfold triD amongD at h3
        split at h3
        · split at h3
          · exact ⟨_, _, _, rfl, of_decide_eq_true h3⟩
          · exact absurd h3 Bool.false_ne_true
        · exact absurd h3 Bool.false_ne_true
      exact .choice s t v p q hs fun x hx => List.all_eq_true.mp h4 x (by simpa [behind] using hx)
  by_cases h3 : hh ∈ flaggedL
  · rw [eq_flag h1 h2 h3, Bool.and_eq_true, decide_eq_true_eq, Bool.and_eq_true] at h
    obtain ⟨l, h4, h5⟩ := h
    match r, h4, h5, l with
    | f :: ps, h4, h5, l =>
      have h4 : amongD flagsL f = true := h4
      obtain ⟨s, rfl, hs⟩ : ∃ s, f = .str s ∧ s ∈ flagsL := by
        unfold amongD at h4
        split at h4
        · exact ⟨_, rfl, of_decide_eq_true h4⟩
        · exact absurd h4 Bool.false_ne_true
      refine .flag hh s ps h3 hs ?_ fun x hx => List.all_eq_true.mp h5 x hx
      simp only [List.length_cons] at l
      split
      · next e => rw [if_pos e] at l; omega
      · next e => rw [if_neg e] at l; omega
    | [], h4, _, _ => exact absurd h4 Bool.false_ne_true
  · rw [eq_other h1 h2 h3] at h
    simp only [Bool.and_eq_true, decide_eq_true_eq] at h
    refine .other hh r ?_ fun x hx => List.all_eq_true.mp h.2.2 x hx
    by_cases h4 : hh ∈ pairsL
    · have := (cnt_pair h4).2
      simp [h4, this] at h
      exact .inl ⟨h4, by omega⟩
    · by_cases h5 : hh ∈ singlesL
      · simp [h4, h5] at h
        exact .inr ⟨h5, by omega⟩
      · simp [h4, h5] at h
theorem parts_leaf {h : Str} {r : List PyData} (m : h ∈ leavesL) : partsD (.tuple (.str h :: r)) = [] := by
  show partsT h r = []
  rw [partsT, if_pos m]
theorem parts_choice {r : Str} {t v p q : PyData} : partsD (.tuple [.str "choice", .tuple [.str r, t, v], p, q]) = [t, v, p, q] := by
  show partsT "choice" _ = _
  rw [partsT, if_neg (by decide +kernel), if_pos rfl]
  rfl
theorem flag_not {h : Str} (m : h ∈ flaggedL) : h ∉ leavesL ∧ ¬ h = "choice" := (show ∀ h ∈ flaggedL, h ∉ leavesL ∧ ¬ h = "choice" by decide +kernel) h m
theorem other_not {h : Str} {ps : List PyData} (m : (h ∈ pairsL ∧ ps.length = 2) ∨ (h ∈ singlesL ∧ ps.length = 1)) : h ∉ leavesL ∧ ¬ h = "choice" ∧ h ∉ flaggedL := by
  rcases m with ⟨m, _⟩ | ⟨m, _⟩
  · exact (show ∀ h ∈ pairsL, h ∉ leavesL ∧ ¬ h = "choice" ∧ h ∉ flaggedL by decide +kernel) h m
  · exact (show ∀ h ∈ singlesL, h ∉ leavesL ∧ ¬ h = "choice" ∧ h ∉ flaggedL by decide +kernel) h m
theorem parts_flag {h f : Str} {ps : List PyData} (m : h ∈ flaggedL) : partsD (.tuple (.str h :: .str f :: ps)) = ps := by
  show partsT h _ = _
  rw [partsT, if_neg (flag_not m).1, if_neg (flag_not m).2, if_pos m]
  rfl
theorem parts_other {h : Str} {ps : List PyData} (m : (h ∈ pairsL ∧ ps.length = 2) ∨ (h ∈ singlesL ∧ ps.length = 1)) : partsD (.tuple (.str h :: ps)) = ps := by
  obtain ⟨h1, h2, h3⟩ := other_not m
  show partsT h _ = _
  rw [partsT, if_neg h1, if_neg h2, if_neg h3]
theorem list_end' {α : Type} (l : List α) : l = [] ∨ ∃ r z, l = r ++ [z] := by
  rcases List.eq_nil_or_concat l with e | ⟨r, z, e⟩
  · exact .inl e
  · exact .inr ⟨r, z, by rw [e, List.concat_eq_append]⟩
theorem DvAll.tups {H : Hp} {a : Addr} {ds : List PyData} (h : Dv H (.ref a) (.tuple ds)) : ∃ xs, H a = some (.tup xs) ∧ DvAll H xs ds := by
  cases h with
  | tup e t => exact ⟨_, e, t⟩
theorem Dv.tupR {H : Hp} {x : V} {ds : List PyData} (h : Dv H x (.tuple ds)) : ∃ a xs, x = .ref a ∧ H a = some (.tup xs) ∧ DvAll H xs ds := by
  cases h with
  | tup e t => exact ⟨_, _, rfl, e, t⟩
theorem Dv.strR {H : Hp} {x : V} {s : Str} (h : Dv H x (.str s)) : x = .str s := by
  cases h
  rfl
theorem Dv.intR {H : Hp} {x : V} {i : Int} (h : Dv H x (.int i)) : x = .int i := by
  cases h
  rfl
theorem DvAll.consR {H : Hp} {xs : List V} {d : PyData} {ds : List PyData} (h : DvAll H xs (d :: ds)) : ∃ x ys, xs = x :: ys ∧ Dv H x d ∧ DvAll H ys ds := by
  cases h with
  | cons a b => exact ⟨_, _, rfl, a, b⟩
theorem DvAll.nilR {H : Hp} {xs : List V} (h : DvAll H xs []) : xs = [] := by
  cases h
  rfl
def shortL : List Str := ["not", "twice", "froze"]
/-- made of such names and such words -/
def from1 (n1 n2 ws : List Str) : PyData → Prop
  | .tuple (.str g :: r) => (g = "look" → ∃ z ∈ n1, r = [.str z]) ∧ (g = "const" → ∃ z ∈ n2, r = [.str z]) ∧ (g ∉ leavesL → g ∈ ws ∨ g ∈ shortL)
  | _ => False
def From (n1 n2 ws : List Str) (d : PyData) : Prop := ∀ t ∈ thingsD d, from1 n1 n2 ws t
theorem from_of {n1 n2 ws : List Str} {d : PyData} (h : from1 n1 n2 ws d) (k : ∀ p ∈ partsD d, From n1 n2 ws p) : From n1 n2 ws d := by
  intro t ht
  rw [things_eq] at ht
  rcases List.mem_cons.mp ht with rfl | ht
  · exact h
  · obtain ⟨y, hy, hyt⟩ := List.mem_flatMap.mp ht
    exact k y hy t hyt
theorem from_leaf {n1 n2 ws : List Str} {h : Str} {r : List PyData} (m : h ∈ leavesL) (h1 : h = "look" → ∃ z ∈ n1, r = [.str z]) (h2 : h = "const" → ∃ z ∈ n2, r = [.str z]) : From n1 n2 ws (.tuple (.str h :: r)) :=
  from_of ⟨h1, h2, fun n => absurd m n⟩ fun p hp => by
    rw [parts_leaf m] at hp
    exact absurd hp List.not_mem_nil
theorem from_node {n1 n2 ws : List Str} {g : Str} {r ps : List PyData} (ng : g ∉ leavesL) (hg : g ∈ ws ∨ g ∈ shortL) (e : partsD (.tuple (.str g :: r)) = ps) (k : ∀ p ∈ ps, From n1 n2 ws p) : From n1 n2 ws (.tuple (.str g :: r)) := by
  refine from_of ⟨fun z => absurd (by rw [z]; decide +kernel) ng, fun z => absurd (by rw [z]; decide +kernel) ng, fun _ => hg⟩ ?_
  rw [e]
  exact k
theorem from_mono {n1 n2 ws : List Str} {d : PyData} (h : From n1 n2 [] d) : From n1 n2 ws d := fun t ht => by
  have := h t ht
  unfold from1 at this ⊢
  split at this
  · exact ⟨this.1, this.2.1, fun z => .inr ((this.2.2 z).elim (fun m => absurd m List.not_mem_nil) id)⟩
  · exact this
theorem cnt_leaf1 {h : Str} {r : List PyData} (m : h ∈ leavesL) : (thingsD (.tuple (.str h :: r))).length = 1 := by
  rw [things_eq, parts_leaf m]
  rfl
theorem cnt_of {d : PyData} {ps : List PyData} (e : partsD d = ps) : (thingsD d).length = (ps.flatMap thingsD).length + 1 := by
  rw [things_eq, e, List.length_cons]
end Vf
namespace Vf
open PySem L2 PyProof.Rows PySem.Spec
/-! ## a part of the heap, without the deck; what grows beside draws -/
structure Pt (d c : Addr) (H G : Hp) : Prop where
  deck : Deck H d c
  sub : Same G H
  nd : G d = none
  nc : G c = none
structure GD (d c : Addr) (H G H' G' : Hp) : Prop where
  to : Pt d c H' G'
  big : Sv d c H H'
  part : Same G G'
  only : Only H G G'
theorem Deck.has {d c : Addr} {H : Hp} (k : Deck H d c) : H d ≠ none ∧ H c ≠ none := by
  obtain ⟨_, ⟨t, n, hd⟩, ⟨ns, hc, _⟩⟩ := k
  rw [hd, hc]
  exact ⟨nofun, nofun⟩
theorem Pt.keep {d c : Addr} {H G H' : Hp} (P : Pt d c H G) (v : Sv d c H H') (k : Deck H' d c) : GD d c H G H' G :=
  ⟨⟨k, fun b o e => v b o (P.sub b o e) (fun z => by rw [z, P.nd] at e; cases e) (fun z => by rw [z, P.nc] at e; cases e), P.nd, P.nc⟩, v, Same.refl G, Only.refl H G⟩
theorem Pt.refl {d c : Addr} {H G : Hp} (P : Pt d c H G) : GD d c H G H G := P.keep (Sv.refl d c H) P.deck
theorem Pt.same {d c : Addr} {H G H' : Hp} (P : Pt d c H G) (s : Same H H') : GD d c H G H' G := P.keep (Same.sv s) (P.deck.same s)
theorem Pt.grow {d c : Addr} {H G H' G' : Hp} (P : Pt d c H G) (g : Grow H G H' G') : GD d c H G H' G' :=
  ⟨⟨P.deck.same g.big, g.sub, g.only d P.deck.has.1 P.nd, g.only c P.deck.has.2 P.nc⟩, Same.sv g.big, g.part, g.only⟩
theorem GD.trans {d c : Addr} {H G H1 G1 H2 G2 : Hp} (a : GD d c H G H1 G1) (b : GD d c H1 G1 H2 G2) : GD d c H G H2 G2 := by
  refine ⟨b.to, a.big.trans b.big, a.part.trans b.part, fun x h1 h2 => b.only x (fun z => ?_) (a.only x h1 h2)⟩
  exact h1 (a.big.free a.to.deck z)
/-- a new thing, in the part -/
theorem Pt.at_ {d c p : Addr} {H G H' : Hp} {o : HO} (P : Pt d c H G) (s : Same H H') (n : H p = none) (e : H' p = some o) : GD d c H G H' (upd G p o) := by
  refine P.grow ⟨s, same_upd (P.sub.free n), fun b u eb => ?_, fun b h1 h2 => ?_⟩
  · by_cases hb : b = p
    · subst hb
      rw [upd_same] at eb
      rw [e]
      exact eb
    · rw [upd_ne hb] at eb
      exact s _ _ (P.sub _ _ eb)
  · rw [upd_ne fun z => h1 (by rw [z]; exact n)]
    exact h2
/-- a thing outside of the part is set -/
theorem Pt.set {d c p : Addr} {H G : Hp} {o : HO} (P : Pt d c H G) (n : G p = none) (n1 : p ≠ d) (n2 : p ≠ c) : Pt d c (upd H p o) G :=
  ⟨P.deck.off n1 n2, fun b u e => by
    rw [upd_ne fun z => by rw [z, n] at e; cases e]
    exact P.sub b u e, P.nd, P.nc⟩
theorem GD.setp {d c p : Addr} {H G H1 G1 : Hp} {o : HO} (a : GD d c H G H1 G1) (n : H p = none) (ng : G1 p = none) (n1 : p ≠ d) (n2 : p ≠ c) : GD d c H G (upd H1 p o) G1 :=
  ⟨a.to.set ng n1 n2, fun b u e nb nc => by
    rw [upd_ne fun z => by rw [z, n] at e; cases e]
    exact a.big b u e nb nc, a.part, a.only⟩
/-- a new thing is taken into the part -/
theorem GD.inc {d c p : Addr} {H G H' G' : Hp} {o : HO} (g : GD d c H G H' G') (n : H p = none) (ng : G' p = none) (e : H' p = some o) (n1 : p ≠ d) (n2 : p ≠ c) : GD d c H G H' (upd G' p o) := by
  refine ⟨⟨g.to.deck, fun b u eb => ?_, by rw [upd_ne n1.symm]; exact g.to.nd, by rw [upd_ne n2.symm]; exact g.to.nc⟩, g.big, g.part.trans (same_upd ng), fun b h1 h2 => ?_⟩
  · by_cases hb : b = p
    · subst hb
      rw [upd_same] at eb
      rw [e]
      exact eb
    · rw [upd_ne hb] at eb
      exact g.to.sub _ _ eb
  · rw [upd_ne fun z => h1 (by rw [z]; exact n)]
    exact g.only b h1 h2
/-- data that was made -/
def Gen (Wt Dp M : Nat) (R : PyData → Prop) (d c : Addr) (H G : Hp) (Q : VK) : Prop := ∀ (x : V) (dd : PyData) (H' G' : Hp), GD d c H G H' G' → Dv G' x dd → Gd 99 Wt Dp dd → isTD dd = true → (thingsD dd).length ≤ M → R dd → Q x H'
theorem Dv.off {d c : Addr} {H G : Hp} {x : V} {dd : PyData} (P : Pt d c H G) (h : Dv G x dd) : Dv H x dd := h.same P.sub
theorem SqL.off {K : PySem.W.Frag} {d c l : Addr} {H G : Hp} {xs : List V} (P : Pt d c H G) (h : SqL K G l xs) : SqL K H l xs := P.sub.seq h
/-- a row of statements, the rest held back -/
theorem seq_cut {t u : TS} {D : Ends} {σ : L2.St} {H : Hp} (h : ∀ u', u' = u → tSeq t u' D σ H) : tSeq t u D σ H := h u rfl
end Vf
namespace Vf
open PySem L2 PyProof.Rows PySem.Spec

local macro_rules | `(tactic| walk_at "rd") => `(tactic| simp only [tSeq, tIfS, tOr, tAnd, tNot, tB, tTest, tChain, tCB, tCons, tNil, tVar, tC, tRet, tAndV, tOrV, tNotV, tOp, tNext, tDrop, tAsg, tPar, tYes, tIf, tCall, tCalK, tTup, tLst, tSl, tNoPart, tPart, tM0, tM1, tRevL, tBM0, tBM, gName, rI0, rI, rU, rInA, rEqA, rAddA, rMulA, rSlAny, iAny, rIsi, rAll, rAny, rSum, rList, rTuple, rLen, rLenS, rLenSeq, rMulS, CDiv, rIn, rEqD, rNeD, iList, iTup, iStr, rCat, rCatA, rSlL, rSlA, rSlS, gSub, rPop, rAppend, rSetL, rIx, rIxL, rIxT, rIxS, LenV,
  L2.start, List.map_cons, List.map_nil, List.length_cons, List.length_nil, List.cons_append, List.nil_append, List.append_nil, Nat.zero_add, Nat.add_sub_cancel, Nat.sub_self, List.replicate_succ, List.replicate_zero, List.getElem?_cons_zero, List.getElem?_cons_succ, List.set_cons_zero, List.set_cons_succ,
  Option.some.injEq, V.int.injEq, V.str.injEq, V.bl.injEq, V.ref.injEq, List.cons.injEq, and_true, true_and, exists_eq_left', exists_eq_left, exists_eq_right, exists_and_left, exists_and_right, false_or, or_false, reduceCtorEq, false_and, and_false, exists_false, Bool.not_true, Bool.not_false, if_true, if_false, Bool.false_eq_true, ite_true, ite_false])
local macro_rules | `(tactic| walk_at "rq") => `(tactic| (walk_at "rd"; (try simp only [rEq_int, rEq_str, rNe_int, tUn, rU, tC, rInT, rInK, rIxK, rExtendT, rSlU, rCatU, rEqE, rIntB, tTupU, tLstU, V.int.injEq, V.str.injEq, V.bl.injEq, V.ref.injEq, exists_eq_left', exists_eq_left, Bool.false_bne, Bool.false_xor, Bool.true_xor]); (try walk_at "rd")))
section
variable {P : Program} {w : World} {K : PySem.W.Frag} {mg : Str → Option Value} {base : Heap}
def spPickL (K : PySem.W.Frag) : Sp := fun vs H Q _ => ∃ (d c l : Addr) (G : Hp) (xs : List V), vs = [.ref d, .ref l] ∧ Pt d c H G ∧ SqL K G l xs ∧ 0 < xs.length ∧ xs.length ≤ 1000 ∧ ∀ (x : V) (H' : Hp), x ∈ xs → GD d c H G H' G → Q x H'
theorem ok__law_pickL {f : Addr} {fd : FuncData} (D : Df K mg "_law_pick" s__law_pick f fd) (T : Tx K mg) (c__law_draw : Cal P w K mg base "_law_draw" ["_law_deck_here", "_law_many"] 1 spDraw) : Cal P w K mg base "_law_pick" ["_law_deck_here", "_law_some"] 2 (spPickL K) := by
  refine D.cal sc__law_pick (fun vs H Q E h => ?_) (fun _ _ _ _ _ _ us hl => match us, hl with | [_, _], _ => rfl) (fun cdv A outer s H vs Q E hgu hr h => ?_)
  · obtain ⟨d, c, l, G, xs, rfl, _⟩ := h
    rfl
  · obtain ⟨d, c, l, G, xs, rfl, pt, hl, x0, x1, q⟩ := h
    refine ⟨_, (pss_one (ps_ret (pe_ix (aIxL (K := K) rfl) (pv 1) (pe_cal c__law_draw hgu (hr.mono (by omega)) (by rfl) (pa_cons (pv 0) (pa_cons (pe_callB (aLenSeq (K := K) rfl) (by rfl) T.len (by decide +kernel) (pa_cons (pv 1) pa_nil)) pa_nil))) (fun _ _ => rfl)))), ?_⟩
    walk_at "rq"
    refine ⟨xs, .inl (pt.sub.seq hl), d, c, _, rfl, pt.deck, by omega, by omega, fun r H1 r0 r1 hd' sv => ?_⟩
    obtain ⟨x, e, hx⟩ := atI_in (xs := xs) r0 r1
    have g := pt.keep sv hd'
    exact ⟨xs, r, rfl, g.to.sub.seq hl, x, e, q x H1 hx g⟩
def spNumG : Sp := fun vs H Q _ => ∃ (d c : Addr) (G : Hp), vs = [.ref d] ∧ Pt d c H G ∧ ∀ (x : V) (i : Int) (H' G' : Hp), -99 ≤ i → i ≤ 99 → GD d c H G H' G' → Dv G' x (.tuple [.str "num", .int i]) → Q x H'
abbrev s__law_num : Stmt := top 31
theorem sc__law_num : FnScope ["_law_deck_here"] ["_law_deck_here"] (defScope s__law_num) := ⟨rfl, rfl, rfl, by decide +kernel, rfl, by decide +kernel, by decide +kernel⟩
theorem ok__law_num {f : Addr} {fd : FuncData} (D : Df K mg "_law_num" s__law_num f fd) (T : Tx K mg) (c__law_draw : Cal P w K mg base "_law_draw" ["_law_deck_here", "_law_many"] 1 spDraw) : Cal P w K mg base "_law_num" ["_law_deck_here"] 2 spNumG := by
  refine D.cal sc__law_num (fun vs H Q E h => ?_) (fun _ _ _ _ _ _ us hl => match us, hl with | [_], _ => rfl) (fun cdv A outer s H vs Q E hgu hr h => ?_)
  · obtain ⟨d, c, G, rfl, _⟩ := h
    rfl
  · obtain ⟨d, c, G, rfl, pt, q⟩ := h
    refine ⟨_, (pss_one (ps_ret (pe_tupU (pa_cons pe_str (pa_cons (pe_ix (aIxL (K := K) rfl) (pe_lstU (pa_cons pe_int (pa_cons pe_int (pa_cons (pe_un un_neg pe_int) (pa_cons pe_int (pa_cons (pe_un un_neg pe_int) (pa_cons (pe_op op_sub (pe_cal c__law_draw hgu (hr.mono (by omega)) (by rfl) (pa_cons (pv 0) (pa_cons pe_int pa_nil))) pe_int) pa_nil))))))) (pe_cal c__law_draw hgu (hr.mono (by omega)) (by rfl) (pa_cons (pv 0) (pa_cons pe_int pa_nil))) (fun _ _ => rfl)) pa_nil))))), ?_⟩
    refine ⟨1, rfl, 2, rfl, .ref d, rfl, d, c, 199, rfl, pt.deck, by decide, by decide, fun r H1 r0 r1 hd1 sv1 => ⟨r, 99, rfl, rfl, line_le' (show 6 ≤ 1000000 by decide), fun p H2 s2 n2 hp2 => ?_⟩⟩
    have hd2 := hd1.same s2
    refine ⟨.ref d, rfl, d, c, 6, rfl, hd2, by decide, by decide, fun r2 H3 a0 a1 hd3 sv3 => ?_⟩
    have hp3 : H3 p = some (.lst [.int 0, .int 1, .int (-1), .int 2, .int (-2), .int (r - 99)]) := sv3 _ _ hp2 (hd1.fresh n2).1 (hd1.fresh n2).2
    obtain ⟨x, ex, hx⟩ := atI_in (xs := [V.int 0, .int 1, .int (-1), .int 2, .int (-2), .int (r - 99)]) a0 a1
    obtain ⟨i, rfl, i0, i1⟩ : ∃ i : Int, x = .int i ∧ -99 ≤ i ∧ i ≤ 99 := by
      simp only [List.mem_cons, List.not_mem_nil, or_false] at hx
      rcases hx with rfl | rfl | rfl | rfl | rfl | rfl
      · exact ⟨_, rfl, by decide, by decide⟩
      · exact ⟨_, rfl, by decide, by decide⟩
      · exact ⟨_, rfl, by decide, by decide⟩
      · exact ⟨_, rfl, by decide, by decide⟩
      · exact ⟨_, rfl, by decide, by decide⟩
      · exact ⟨_, rfl, by omega, by omega⟩
    walk_at "rq"
    refine ⟨_, .of hp3, .int i, ex, line_le' (by decide), fun p4 H4 s4 n4 hp4 => ?_⟩
    have g3 := pt.keep ((sv1.trans (Same.sv s2)).trans sv3) hd3
    have g4 := g3.to.at_ s4 n4 hp4
    exact q _ i H4 _ i0 i1 (g3.trans g4) (.tup upd_same (.cons (.str _) (.cons (.int i) .nil)))
theorem eqv_ne {n : List Str} (h : n ≠ []) : PyData.eqv (.list (n.map PyData.str)) (.list []) = false := by
  rw [eqv_nil]
  cases n with
  | nil => exact absurd rfl h
  | cons _ _ => rfl
theorem name_fine {z : Str} (h : isName (.str z) = true) : z.length ≤ 8 ∧ PyData.strOk z = true := by
  obtain ⟨_, h2, h3⟩ := name_lets h
  exact ⟨h2, strOk_of h3.ok⟩
theorem names_ok {n : List Str} (h : ∀ x ∈ n, isName (.str x) = true) : ∀ x ∈ n, PyData.strOk x = true := fun x m => (name_fine (h x m)).2
theorem gd_name {h z : Str} (hh : h = "look" ∨ h = "const") (hz : isName (.str z) = true) : Gd 99 700 1 (.tuple [.str h, .str z]) ∧ isTD (.tuple [.str h, .str z]) = true := by
  obtain ⟨z1, z2⟩ := name_fine hz
  have hk : h.length ≤ 10 ∧ PyData.strOk h = true ∧ h ∈ leavesL ∧ ¬ h = "num" := by
    rcases hh with rfl | rfl <;> decide +kernel
  obtain ⟨k1, k2, k4, k5⟩ := hk
  refine ⟨⟨?_, ?_, ?_⟩, ?_⟩
  · simp only [okD, okL, k2, z2, Bool.and_true]
  · simp only [wt, wtL]
    omega
  · simp [PyData.depth, PyData.depthAll]
  · rw [eq_leaf k4]
    show (decide (1 = 1) && leafD h (.str z)) = true
    rw [leafD, if_neg k5]
    exact hz
theorem gd_num {i : Int} (h0 : -99 ≤ i) (h1 : i ≤ 99) : Gd 99 700 1 (.tuple [.str "num", .int i]) ∧ isTD (.tuple [.str "num", .int i]) = true := by
  have k3 : (Str.ofString "num").length ≤ 5 := by decide +kernel
  refine ⟨⟨?_, ?_, ?_⟩, ?_⟩
  · have e : okD 99 (.int i) = true := by
      simp only [okD, decide_eq_true_eq]
      omega
    have e2 : okD 99 (.str "num") = true := by decide +kernel
    simp only [okD, okL] at e e2 ⊢
    rw [e, e2]
    rfl
  · simp only [wt, wtL]
    omega
  · simp [PyData.depth, PyData.depthAll]
  · rw [eq_leaf (by decide +kernel)]
    show (decide (1 = 1) && (decide (-99 ≤ i) && decide (i ≤ 99))) = true
    simp [h0, h1]
def spLeafG (K : PySem.W.Frag) : Sp := fun vs H Q _ => ∃ (d c l1 l2 : Addr) (G : Hp) (n1 n2 : List Str), vs = [.ref d, .ref l1, .ref l2] ∧ Pt d c H G ∧ SqL K G l1 (n1.map V.str) ∧ SqL K G l2 (n2.map V.str) ∧ n1.length ≤ 100 ∧ n2.length ≤ 100 ∧
  (∀ x ∈ n1, isName (.str x) = true) ∧ (∀ x ∈ n2, isName (.str x) = true) ∧ Gen 700 1 1 (From n1 n2 []) d c H G Q
abbrev s__law_leaf : Stmt := top 32
theorem sc__law_leaf : FnScope ["_law_deck_here", "_law_inputs", "_law_names_here", "_law_way"] ["_law_deck_here", "_law_inputs", "_law_names_here"] (defScope s__law_leaf) := ⟨rfl, rfl, rfl, by decide +kernel, rfl, by decide +kernel, by decide +kernel⟩
set_option format.width 500 in
set_option format.indent 0 in
set_option pp.deepTerms true in
set_option pp.maxSteps 200000 in
theorem ok__law_leaf {f : Addr} {fd : FuncData} (D : Df K mg "_law_leaf" s__law_leaf f fd) (T : Tx K mg) (c__law_draw : Cal P w K mg base "_law_draw" ["_law_deck_here", "_law_many"] 1 spDraw) (c__law_num : Cal P w K mg base "_law_num" ["_law_deck_here"] 2 spNumG) (c__law_pick : Cal P w K mg base "_law_pick" ["_law_deck_here", "_law_some"] 2 (spPickL K)) : Cal P w K mg base "_law_leaf" ["_law_deck_here", "_law_inputs", "_law_names_here"] 3 (spLeafG K) := by
  refine D.cal sc__law_leaf (fun vs H Q E h => ?_) (fun _ _ _ _ _ _ us hl => match us, hl with | [_, _, _], _ => rfl) (fun cdv A outer s H vs Q E hgu hr h => ?_)
  · obtain ⟨d, c, l1, l2, G, n1, n2, rfl, _⟩ := h
    rfl
  · obtain ⟨d, c, l1, l2, G, n1, n2, rfl, pt, h1, h2, z1, z2, m1, m2, q⟩ := h
    refine ⟨_, (pss_cons (ps_set (i := 3) sc__law_leaf.nd rfl (by first | exact Or.inl rfl | exact Or.inr rfl) (pe_cal c__law_draw hgu (hr.mono (by omega)) (by rfl) (pa_cons (pv 0) (pa_cons pe_int pa_nil)))) (pss_cons (ps_if (PW.pt (pw_or (pt_cmpR op_eq (pv 3) pe_int (by rfl)) (pw_or1 (PW.pt (pw_and (pt_cmpR (aEqD (K := K) rfl hr.units) (pv 1) (pe_lstU pa_nil) (by rfl)) (pw_and1 (pt_cmpR (aEqD (K := K) rfl hr.units) (pv 2) (pe_lstU pa_nil) (by rfl)))))))) (pss_one (ps_ret (pe_cal c__law_num hgu (hr.mono (by omega)) (by rfl) (pa_cons (pv 0) pa_nil)))) pss_nil) (pss_cons (ps_if (PW.pt (pw_and (pt_cmpR (aNeD (K := K) rfl hr.units) (pv 2) (pe_lstU pa_nil) (by rfl)) (pw_and1 (PW.pt (pw_or (pt_cmpR op_eq (pv 3) pe_int (by rfl)) (pw_or1 (pt_cmpR (aEqD (K := K) rfl hr.units) (pv 1) (pe_lstU pa_nil) (by rfl)))))))) (pss_one (ps_ret (pe_tupU (pa_cons pe_str (pa_cons (pe_cal c__law_pick hgu (hr.mono (by omega)) (by rfl) (pa_cons (pv 0) (pa_cons (pv 2) pa_nil))) pa_nil))))) pss_nil) (pss_one (ps_ret (pe_tupU (pa_cons pe_str (pa_cons (pe_cal c__law_pick hgu (hr.mono (by omega)) (by rfl) (pa_cons (pv 0) (pa_cons (pv 1) pa_nil))) pa_nil)))))))), ?_⟩
    have ok1 := names_ok m1
    have ok2 := names_ok m2
    have fin : ∀ (h : Str) (n : List Str) (l : Addr), (h = "look" ∨ h = "const") → n ≠ [] → n.length ≤ 100 → (∀ x ∈ n, isName (.str x) = true) → SqL K G l (n.map V.str) → (∀ z ∈ n, From n1 n2 [] (.tuple [.str h, .str z])) → ∀ H2, GD d c H G H2 G →
        spPickL K [.ref d, .ref l] H2 (fun x H1 => 1 + 1 ≤ sizeLine ∧ ∀ (p : Addr) (H' : Hp), Same H1 H' → H1 p = none → H' p = some (.tup [.str h, x]) → Q (.ref p) H') E0 := by
      intro h n l hh ne nl nm hl hfr H2 g2
      refine ⟨d, c, l, G, n.map V.str, rfl, g2.to, hl, ?_, by rw [List.length_map]; omega, fun x H3 hx g3 => ⟨line_le' (by decide), fun p H4 s4 n4 hp4 => ?_⟩⟩
      · rw [List.length_map]
        exact List.length_pos_iff.mpr ne
      · obtain ⟨z, hz, rfl⟩ := List.mem_map.mp hx
        obtain ⟨t1, t2⟩ := gd_name hh (nm z hz)
        exact q _ _ H4 _ ((g2.trans g3).trans (g3.to.at_ s4 n4 hp4)) (.tup upd_same (.cons (.str h) (.cons (.str z) .nil))) t1 t2 (by rw [cnt_leaf1 (by rcases hh with rfl | rfl <;> decide +kernel)]; exact Nat.le_refl _) (hfr z hz)
    have fr1 : ∀ z ∈ n1, From n1 n2 [] (.tuple [.str "look", .str z]) := fun z hz => from_leaf (by decide +kernel) (fun _ => ⟨z, hz, rfl⟩) fun e => absurd e (by decide +kernel)
    have fr2 : ∀ z ∈ n2, From n1 n2 [] (.tuple [.str "const", .str z]) := fun z hz => from_leaf (by decide +kernel) (fun e => absurd e (by decide +kernel)) fun _ => ⟨z, hz, rfl⟩
    have num : ∀ H2, GD d c H G H2 G → spNumG [.ref d] H2 Q E0 := by
      intro H2 g2
      refine ⟨d, c, G, rfl, g2.to, fun x i H3 G3 i0 i1 g3 hx => ?_⟩
      obtain ⟨t1, t2⟩ := gd_num i0 i1
      exact q _ _ H3 _ (g2.trans g3) hx t1 t2 (by rw [cnt_leaf1 (by decide +kernel)]; exact Nat.le_refl _) (from_leaf (by decide +kernel) (fun e => absurd e (by decide +kernel)) fun e => absurd e (by decide +kernel))
    refine seq_cut fun u hu => ?_
    walk_at "rq"
    refine ⟨d, c, 5, rfl, pt.deck, by decide, by decide, fun r H1 r0 r1 hd1 sv1 => ?_⟩
    have g1 := pt.keep sv1 hd1
    clear sv1 hd1
    show u _ _ _
    subst hu
    refine seq_cut fun u hu => ?_
    have eqv0 : ∀ n : List Str, n = [] → PyData.eqv (.list (n.map PyData.str)) (.list []) = true := fun n e => by rw [e]; rfl
    -- behind the first test
    have nxt : ∀ H2, GD d c H G H2 G → ¬ (n1 = [] ∧ n2 = []) → u { nx := fun x H' => Q V.non H', rt := Q } [some (.ref d), some (.ref l1), some (.ref l2), some (.int r)] H2 := by
      intro H2 g2 nn
      subst hu
      walk_at "rq"
      refine ⟨Nat.zero_le _, fun p3 H3 s3 n3' hp3 => ⟨_, .lst ((g2.to.same s3).to.sub.seq h2) (dp_strs n2), _, .lst (.of hp3) .nil, shaped_strs _ ok2, rfl, ?_⟩⟩
      have g3 := g2.trans (g2.to.same s3)
      have look : ∀ H4, GD d c H G H4 G → n1 ≠ [] → _ := fun H4 g4 e1 => fin "look" n1 l1 (.inl rfl) e1 z1 m1 h1 fr1 H4 g4
      by_cases e2 : n2 = []
      · have e1 : n1 ≠ [] := fun z => nn ⟨z, e2⟩
        exact iteN (by rw [eqv0 n2 e2]; rfl) (look H3 g3 e1)
      refine iteY (by rw [eqv_ne e2]; rfl) ?_
      cases w1 : decide (r = 1) with
      | true => exact iteY rfl (fin "const" n2 l2 (.inr rfl) e2 z2 m2 h2 fr2 H3 g3)
      | false =>
        refine iteN rfl ⟨Nat.zero_le _, fun p4 H4 s4 n4' hp4 => ⟨_, .lst ((g3.to.same s4).to.sub.seq h1) (dp_strs n1), _, .lst (.of hp4) .nil, shaped_strs _ ok1, rfl, ?_⟩⟩
        have g4 := g3.trans (g3.to.same s4)
        by_cases e1 : n1 = []
        · exact iteY (eqv0 n1 e1) (fin "const" n2 l2 (.inr rfl) e2 z2 m2 h2 fr2 H4 g4)
        · exact iteN (eqv_ne e1) (look H4 g4 e1)
    walk_at "rq"
    cases w0 : decide (r = 0) with
    | true => exact iteY rfl (num H1 g1)
    | false =>
      refine iteN rfl ⟨Nat.zero_le _, fun p2 H2 s2 n2' hp2 => ⟨_, .lst ((g1.to.same s2).to.sub.seq h1) (dp_strs n1), _, .lst (.of hp2) .nil, shaped_strs _ ok1, rfl, ?_⟩⟩
      have g2 := g1.trans (g1.to.same s2)
      by_cases e1 : n1 = []
      · refine iteY (eqv0 n1 e1) ⟨Nat.zero_le _, fun p3 H3 s3 n3' hp3 => ⟨_, .lst ((g2.to.same s3).to.sub.seq h2) (dp_strs n2), _, .lst (.of hp3) .nil, shaped_strs _ ok2, rfl, ?_⟩⟩
        have g3 := g2.trans (g2.to.same s3)
        by_cases e2 : n2 = []
        · exact iteY (eqv0 n2 e2) (num H3 g3)
        · exact iteN (eqv_ne e2) (nxt H3 g3 fun z => e2 z.2)
      · exact iteN (eqv_ne e1) (nxt H2 g2 fun z => e1 z.1)
end
end Vf
namespace Vf
open PySem L2 PyProof.Rows PySem.Spec
/-! ## what is put together of good parts -/
theorem depthAll_le {n : Nat} : ∀ {l : List PyData}, (∀ d ∈ l, d.depth ≤ n) → PyData.depthAll l ≤ n
  | [], _ => Nat.zero_le _
  | d :: l, h => by
    have h1 := h d List.mem_cons_self
    have h2 := depthAll_le (l := l) fun y m => h y (List.mem_cons_of_mem _ m)
    simp only [PyData.depthAll]
    omega
theorem okL_of {B : Nat} {l : List PyData} (h : ∀ d ∈ l, okD B d = true) : okL B l = true := okL_iff.mpr h
/-- parts of a thing: good, terms, of so much weight together -/
structure Parts (S D C : Nat) (ds : List PyData) : Prop where
  ok : ∀ d ∈ ds, okD 99 d = true
  depth : ∀ d ∈ ds, d.depth ≤ D
  term : ∀ d ∈ ds, isTD d = true
  wt : wtL ds ≤ S
  cnt : (ds.flatMap thingsD).length ≤ C
theorem word_ok : ∀ h ∈ flaggedL ++ pairsL ++ singlesL ++ flagsL ++ compL ++ [Str.ofString "choice"], okD 99 (.str h) = true ∧ wt (.str h) ≤ 70 ∧ (PyData.str h).depth = 0 := by decide +kernel
theorem all_terms {ds : List PyData} (h : ∀ d ∈ ds, isTD d = true) : ds.all isTD = true := List.all_eq_true.mpr h
theorem gd_flag {S D C : Nat} {h f : Str} {ds : List PyData} (hh : h ∈ flaggedL) (hf : f ∈ flagsL) (hl : ds.length = if h = "twice" then 1 else 2) (g : Parts S D C ds) : Gd 99 (S + 300) (D + 2) (.tuple (.str h :: .str f :: ds)) ∧ isTD (.tuple (.str h :: .str f :: ds)) = true := by
  obtain ⟨a1, a2, a3⟩ := word_ok h (by simp [hh])
  obtain ⟨b1, b2, b3⟩ := word_ok f (by simp [hf])
  have hd := depthAll_le g.depth
  have hw := g.wt
  have hn : h ∉ leavesL ∧ ¬ h = "choice" := (show ∀ h ∈ flaggedL, h ∉ leavesL ∧ ¬ h = "choice" by decide +kernel) h hh
  refine ⟨⟨?_, ?_, ?_⟩, ?_⟩
  · simp only [okD, okL] at a1 b1 ⊢
    rw [a1, b1, okL_of g.ok]
    rfl
  · simp only [wt, wtL] at a2 b2 ⊢
    omega
  · simp only [PyData.depth, PyData.depthAll] at a3 b3 ⊢
    omega
  · rw [eq_flag hn.1 hn.2 hh]
    show (decide ((((PyData.str f :: ds).length : Nat) : Int) = 1 + (if h = "twice" then 1 else 2)) && (decide (f ∈ flagsL) && ds.all isTD)) = true
    rw [all_terms g.term, decide_eq_true hf, List.length_cons, hl]
    by_cases ht : h = "twice" <;> simp [ht]
theorem gd_other {S D C : Nat} {h : Str} {ds : List PyData} (hh : (h ∈ pairsL ∧ ds.length = 2) ∨ (h ∈ singlesL ∧ ds.length = 1)) (g : Parts S D C ds) : Gd 99 (S + 300) (D + 2) (.tuple (.str h :: ds)) ∧ isTD (.tuple (.str h :: ds)) = true := by
  obtain ⟨a1, a2, a3⟩ := word_ok h (by rcases hh with ⟨m, _⟩ | ⟨m, _⟩ <;> simp [m])
  have hd := depthAll_le g.depth
  have hw := g.wt
  have hn : h ∉ leavesL ∧ ¬ h = "choice" ∧ h ∉ flaggedL := by
    rcases hh with ⟨m, _⟩ | ⟨m, _⟩
    · exact (show ∀ h ∈ pairsL, h ∉ leavesL ∧ ¬ h = "choice" ∧ h ∉ flaggedL by decide +kernel) h m
    · exact (show ∀ h ∈ singlesL, h ∉ leavesL ∧ ¬ h = "choice" ∧ h ∉ flaggedL by decide +kernel) h m
  refine ⟨⟨?_, ?_, ?_⟩, ?_⟩
  · simp only [okD, okL] at a1 ⊢
    rw [a1, okL_of g.ok]
    rfl
  · simp only [wt, wtL] at a2 ⊢
    omega
  · simp only [PyData.depth, PyData.depthAll] at a3 ⊢
    omega
  · rw [eq_other hn.1 hn.2.1 hn.2.2, all_terms g.term]
    rcases hh with ⟨m, l⟩ | ⟨m, l⟩
    · simp [m, (cnt_pair m).2, l]
    · have np : h ∉ pairsL := fun z => (cnt_pair z).2 m
      simp [m, np, l]
theorem gd_choice {S D C : Nat} {r : Str} {a b p q : PyData} (hr : r ∈ compL) (g : Parts S D C [a, b, p, q]) : Gd 99 (S + 300) (D + 2) (.tuple [.str "choice", .tuple [.str r, a, b], p, q]) ∧ isTD (.tuple [.str "choice", .tuple [.str r, a, b], p, q]) = true := by
  obtain ⟨a1, a2, a3⟩ := word_ok "choice" (by simp)
  obtain ⟨b1, b2, b3⟩ := word_ok r (by simp [hr])
  have hd := depthAll_le g.depth
  have hw := g.wt
  have ta := g.term a (by simp)
  have tb := g.term b (by simp)
  have tp := g.term p (by simp)
  have tq := g.term q (by simp)
  refine ⟨⟨?_, ?_, ?_⟩, ?_⟩
  · have oa := g.ok a (by simp)
    have ob := g.ok b (by simp)
    have op := g.ok p (by simp)
    have oq := g.ok q (by simp)
    simp only [okD, okL] at a1 b1 ⊢
    rw [a1, b1, oa, ob, op, oq]
    rfl
  · simp only [wt, wtL] at a2 b2 hw ⊢
    omega
  · simp only [PyData.depth, PyData.depthAll] at a3 b3 hd ⊢
    omega
  · rw [eq_choice]
    show (decide (3 = 3) && (decide (r ∈ compL) && ([a, b] ++ [p, q]).all isTD)) = true
    simp [hr, ta, tb, tp, tq]
end Vf
namespace Vf
open PySem L2 PyProof.Rows PySem.Spec

local macro_rules | `(tactic| walk_at "rd") => `(tactic| simp only [tSeq, tIfS, tOr, tAnd, tNot, tB, tTest, tChain, tCB, tCons, tNil, tVar, tC, tRet, tAndV, tOrV, tNotV, tOp, tNext, tDrop, tAsg, tPar, tYes, tIf, tCall, tCalK, tTup, tLst, tSl, tNoPart, tPart, tM0, tM1, tRevL, tBM0, tBM, gName, rI0, rI, rU, rInA, rEqA, rAddA, rMulA, rSlAny, iAny, rIsi, rAll, rAny, rSum, rList, rTuple, rLen, rLenS, rLenSeq, rMulS, CDiv, rIn, rEqD, rNeD, iList, iTup, iStr, rCat, rCatA, rSlL, rSlA, rSlS, gSub, rPop, rAppend, rSetL, rIx, rIxL, rIxT, rIxS, LenV,
  L2.start, List.map_cons, List.map_nil, List.length_cons, List.length_nil, List.cons_append, List.nil_append, List.append_nil, Nat.zero_add, Nat.add_sub_cancel, Nat.sub_self, List.replicate_succ, List.replicate_zero, List.getElem?_cons_zero, List.getElem?_cons_succ, List.set_cons_zero, List.set_cons_succ,
  Option.some.injEq, V.int.injEq, V.str.injEq, V.bl.injEq, V.ref.injEq, List.cons.injEq, and_true, true_and, exists_eq_left', exists_eq_left, exists_eq_right, exists_and_left, exists_and_right, false_or, or_false, reduceCtorEq, false_and, and_false, exists_false, Bool.not_true, Bool.not_false, if_true, if_false, Bool.false_eq_true, ite_true, ite_false])
local macro_rules | `(tactic| walk_at "rq") => `(tactic| (walk_at "rd"; (try simp only [rEq_int, rEq_str, rNe_int, tUn, rU, tC, rInT, rInK, rIxK, rExtendT, rSlU, rCatU, rEqE, rIntB, tTupU, tLstU, tDGet2, V.int.injEq, V.str.injEq, V.bl.injEq, V.ref.injEq, exists_eq_left', exists_eq_left, Bool.false_bne, Bool.false_xor, Bool.true_xor]); (try walk_at "rd")))
section
variable {P : Program} {w : World} {K : PySem.W.Frag} {mg : Str → Option Value} {base : Heap}
def goodWords : List Str := flaggedL ++ pairsL ++ singlesL ++ [Str.ofString "choice"]
def spTermG (K : PySem.W.Frag) (n : Nat) : Sp := fun vs H Q _ => ∃ (d c l1 l2 l3 : Addr) (G : Hp) (n1 n2 ws : List Str) (m deep : Nat), vs = [.ref d, .ref l1, .ref l2, .int m, .ref l3, .int deep] ∧ Pt d c H G ∧ SqL K G l1 (n1.map V.str) ∧ SqL K G l2 (n2.map V.str) ∧ SqL K G l3 (ws.map V.str) ∧
  ws ≠ [] ∧ n1.length ≤ 100 ∧ n2.length ≤ 100 ∧ ws.length ≤ 100 ∧ (∀ x ∈ n1, isName (.str x) = true) ∧ (∀ x ∈ n2, isName (.str x) = true) ∧ (∀ x ∈ ws, x ∈ goodWords) ∧ deep < n ∧ 1 ≤ m ∧ m ≤ 1000 ∧ Gen (700 * m) (2 * n) m (From n1 n2 ws) d c H G Q
def cw (w : Str) : Nat := if w ∈ shortL then 1 else if w = "choice" then 4 else 2
theorem cw_dict : ∀ w ∈ goodWords, (valV (mergeK [] [((Sum.inr (Str.ofString "not") : Key), V.int 1), (Sum.inr (Str.ofString "twice"), .int 1), (Sum.inr (Str.ofString "froze"), .int 1), (Sum.inr (Str.ofString "choice"), .int 4)]) (Sum.inr w)).getD (V.int 2) = V.int ((cw w : Nat) : Int) := by decide +kernel
abbrev s__law_term : Stmt := top 33
theorem sc__law_term : FnScope ["_law_deck_here", "_law_inputs", "_law_names_here", "_law_many", "_law_words_here", "_law_deep", "_law_word", "_law_count", "_law_left", "_law_parts_here", "_law_k", "_law_more", "_law_flags"] ["_law_deck_here", "_law_inputs", "_law_names_here", "_law_many", "_law_words_here", "_law_deep"] (defScope s__law_term) := ⟨rfl, rfl, rfl, by decide +kernel, rfl, by decide +kernel, by decide +kernel⟩
set_option format.width 500 in
set_option format.indent 0 in
set_option pp.deepTerms true in
set_option pp.maxSteps 200000 in
theorem st__law_term {f : Addr} {fd : FuncData} {n k : Nat} (hk : 4 ≤ k) (D : DfD K mg "_law_term" s__law_term [.int 6] f fd) (T : Tx K mg) (tuple : mg "tuple" = none) (c__law_draw : Cal P w K mg base "_law_draw" ["_law_deck_here", "_law_many"] 1 spDraw) (c__law_pick : Cal P w K mg base "_law_pick" ["_law_deck_here", "_law_some"] 2 (spPickL K))
    (c__law_leaf : Cal P w K mg base "_law_leaf" ["_law_deck_here", "_law_inputs", "_law_names_here"] 3 (spLeafG K)) (c6__law_term : CalD P w K mg base "_law_term" ["_law_deck_here", "_law_inputs", "_law_names_here", "_law_many", "_law_words_here", "_law_deep"] k (spTermG K n) []) :
    FnG P w K mg base CX0 (k + 1) f fd ["_law_deck_here", "_law_inputs", "_law_names_here", "_law_many", "_law_words_here", "_law_deep"] (spTermG K (n + 1)) := by
  refine D.fnG sc__law_term (fun vs H Q E h => ?_) (fun cdv A outer s H vs Q E hgu hr h => ?_)
  · obtain ⟨d, c, l1, l2, l3, G, n1, n2, ws, m, deep, rfl, _⟩ := h
    rfl
  · obtain ⟨d, c, l1, l2, l3, G, n1, n2, ws, m, deep, rfl, pt, h1, h2, h3, e3, z1, z2, z3, m1, m2, m3, hn, hm1, hm2, q⟩ := h
    refine ⟨_, (pss_cons (ps_if (PW.pt (pw_or (pt_cmpR op_lt (pv 3) pe_int (by rfl)) (pw_or (pt_cmpR op_lt (pv 5) pe_int (by rfl)) (pw_or1 (pt_cmpR op_eq (pe_cal c__law_draw hgu (hr.mono (by omega)) (by rfl) (pa_cons (pv 0) (pa_cons pe_int pa_nil))) pe_int (by rfl)))))) (pss_one (ps_ret (pe_cal c__law_leaf hgu (hr.mono (by omega)) (by rfl) (pa_cons (pv 0) (pa_cons (pv 1) (pa_cons (pv 2) pa_nil)))))) pss_nil) (pss_cons (ps_set (i := 6) sc__law_term.nd rfl (by first | exact Or.inl rfl | exact Or.inr rfl) (pe_cal c__law_pick hgu (hr.mono (by omega)) (by rfl) (pa_cons (pv 0) (pa_cons (pv 4) pa_nil)))) (pss_cons (ps_if (PW.pt (pw_or (PW.pt (pw_and (pt_cmpR op_eq (pv 6) pe_str (by rfl)) (pw_and1 (pt_cmpR op_lt (pv 3) pe_int (by rfl))))) (pw_or1 (pt_cmpR op_lt (pv 3) pe_int (by rfl))))) (pss_one (ps_set (i := 6) sc__law_term.nd rfl (by first | exact Or.inl rfl | exact Or.inr rfl) (pe_ix (aIxL (K := K) rfl) (pe_lstU (pa_cons pe_str (pa_cons pe_str (pa_cons pe_str pa_nil)))) (pe_cal c__law_draw hgu (hr.mono (by omega)) (by rfl) (pa_cons (pv 0) (pa_cons pe_int pa_nil))) (fun _ _ => rfl)))) pss_nil) (pss_cons (ps_set (i := 7) sc__law_term.nd rfl (by first | exact Or.inl rfl | exact Or.inr rfl) (pe_dget2 (Nat.lt_trans (Nat.add_lt_add_left (by decide) _) hr.units) (pe_disp (pps_cons pe_str pe_int (pps_cons pe_str pe_int (pps_cons pe_str pe_int (pps_cons pe_str pe_int pps_nil)))) (by rfl) (by rfl) (fun z => by cases z) (by decide)) (pv 6) pe_int ⟨rfl, rfl, rfl, rfl⟩)) (pss_cons (ps_set (i := 8) sc__law_term.nd rfl (by first | exact Or.inl rfl | exact Or.inr rfl) (pe_op op_sub (pe_op op_sub (pv 3) pe_int) (pv 7))) (pss_cons (ps_set (i := 9) sc__law_term.nd rfl (by first | exact Or.inl rfl | exact Or.inr rfl) (pe_lstU pa_nil)) (pss_cons (ps_for PassesOwn.never rfl (pi_range1 rfl T.range (pa_cons (pv 7) pa_nil)) (pg_name (i := 10) sc__law_term.nd rfl (by first | exact Or.inl rfl | exact Or.inr rfl)) (pss_cons (ps_set (i := 11) sc__law_term.nd rfl (by first | exact Or.inl rfl | exact Or.inr rfl) (pe_cal c__law_draw hgu (hr.mono (by omega)) (by rfl) (pa_cons (pv 0) (pa_cons (pe_op op_add (pv 8) pe_int) pa_nil)))) (pss_cons (ps_set (i := 8) sc__law_term.nd rfl (by first | exact Or.inl rfl | exact Or.inr rfl) (pe_op op_sub (pv 8) (pv 11))) (pss_one (ps_expr (pe_bm PySem.F.plainAttrs_list PySem.F.slot_list_append PySem.F.type_list_append mt_append (pv 9) (pa_cons (pe_calD c6__law_term hgu (hr.mono (by omega)) (by rfl) (pa_cons (pv 0) (pa_cons (pv 1) (pa_cons (pv 2) (pa_cons (pe_op op_add pe_int (pv 11)) (pa_cons (pv 4) (pa_cons (pe_op op_sub (pv 5) pe_int) pa_nil))))))) pa_nil))))))) (pss_cons (ps_set (i := 12) sc__law_term.nd rfl (by first | exact Or.inl rfl | exact Or.inr rfl) (pe_cal c__law_pick hgu (hr.mono (by omega)) (by rfl) (pa_cons (pv 0) (pa_cons (pe_lstU (pa_cons pe_str (pa_cons pe_str (pa_cons pe_str (pa_cons pe_str (pa_cons pe_str pa_nil)))))) pa_nil)))) (pss_cons (ps_if (pt_cmpR (aInSeq (K := K) rfl) (pv 6) (pe_tupU (pa_cons pe_str (pa_cons pe_str (pa_cons pe_str pa_nil)))) (by rfl)) (pss_one (ps_ret (pe_op (aCatT (K := K) rfl) (pe_tupU (pa_cons (pv 6) (pa_cons (pv 12) pa_nil))) (pe_callTy (aTuple (K := K) rfl) (by rfl) T.tuple (by decide +kernel) (pa_cons (pv 9) pa_nil))))) pss_nil) (pss_cons (ps_if (pt_cmpR op_eq (pv 6) pe_str (by rfl)) (pss_one (ps_ret (pe_tupU (pa_cons (pv 6) (pa_cons (pe_tupU (pa_cons (pe_cal c__law_pick hgu (hr.mono (by omega)) (by rfl) (pa_cons (pv 0) (pa_cons (pe_lstU (pa_cons pe_str (pa_cons pe_str (pa_cons pe_str pa_nil)))) pa_nil))) (pa_cons (pe_ix (aIxL (K := K) rfl) (pv 9) pe_int (fun _ _ => rfl)) (pa_cons (pe_ix (aIxL (K := K) rfl) (pv 9) pe_int (fun _ _ => rfl)) pa_nil)))) (pa_cons (pe_ix (aIxL (K := K) rfl) (pv 9) pe_int (fun _ _ => rfl)) (pa_cons (pe_ix (aIxL (K := K) rfl) (pv 9) pe_int (fun _ _ => rfl)) pa_nil))))))) pss_nil) (pss_one (ps_ret (pe_op (aCatT (K := K) rfl) (pe_tupU (pa_cons (pv 6) pa_nil)) (pe_callTy (aTuple (K := K) rfl) (by rfl) T.tuple (by decide +kernel) (pa_cons (pv 9) pa_nil))))))))))))))), ?_⟩
    have leaf : ∀ H1, GD d c H G H1 G → spLeafG K [.ref d, .ref l1, .ref l2] H1 Q E0 := fun H1 g1 =>
      ⟨d, c, l1, l2, G, n1, n2, rfl, g1.to, h1, h2, z1, z2, m1, m2, fun x dd H' G' g hx hg ht hc hr => q x dd H' G' (g1.trans g) hx (hg.mono (Nat.le_refl _) (by omega) (by omega)) ht (by omega) (from_mono hr)⟩
    refine seq_cut fun u hu => ?_
    walk_at "rq"
    by_cases hma : m < 2
    · exact iteY (decide_eq_true (by omega)) (leaf H pt.refl)
    refine iteN (decide_eq_false (by omega)) ?_
    by_cases hde : deep < 2
    · exact iteY (decide_eq_true (by omega)) (leaf H pt.refl)
    refine iteN (decide_eq_false (by omega)) ⟨d, c, 6, rfl, pt.deck, by decide, by decide, fun r H1 r0 r1 hd1 sv1 => ?_⟩
    show rEq (.int r) (.int 0) H1 _
    rw [rEq_int]
    refine ⟨_, rfl, ?_⟩
    cases w0 : decide (r = 0) with
    | true => exact iteY rfl (leaf H1 (pt.keep sv1 hd1))
    | false =>
    refine iteN rfl ?_
    have g1 := pt.keep sv1 hd1
    clear w0 r0 r1 hd1 sv1 r leaf
    subst hu
    refine seq_cut fun u hu => ?_
    walk_at "rq"
    refine ⟨d, c, l3, G, ws.map V.str, rfl, g1.to, h3, by rw [List.length_map]; exact List.length_pos_iff.mpr e3, by rw [List.length_map]; omega, fun x H2 hx g2' => ?_⟩
    obtain ⟨w0, hw0, rfl⟩ := List.mem_map.mp hx
    have g2 := g1.trans g2'
    clear g1 hx g2'
    clear H1
    -- the word
    subst hu
    refine seq_cut fun u hu => ?_
    refine (show ∀ (rest : ∀ (H3 : Hp) (w : Str), GD d c H G H3 G → w ∈ goodWords → cw w + 1 ≤ m → (w ∈ ws ∨ w ∈ shortL) → u { nx := fun x H' => Q V.non H', rt := Q } [some (V.ref d), some (V.ref l1), some (V.ref l2), some (V.int ↑m), some (V.ref l3), some (V.int ↑deep), some (.str w), none, none, none, none, none, none] H3), _ from fun rest => ?_) ?rest
    · walk_at "rq"
      have hw0' := m3 w0 hw0
      by_cases hch : w0 = Str.ofString "choice"
      · refine iteY (decide_eq_true hch) ?_
        by_cases h5 : m < 5
        · refine iteY (decide_eq_true (by omega)) ⟨line_le' (by decide), fun p H3 s3 n3 hp3 => ⟨d, c, 3, rfl, g2.to.deck.same s3, by decide, by decide, fun r H4 r0 r1 hd4 sv4 => ?_⟩⟩
          obtain ⟨x, ex, hx⟩ := atI_in (xs := shortL.map V.str) r0 r1
          obtain ⟨w1, hw1, rfl⟩ := List.mem_map.mp hx
          have g3 := g2.trans (g2.to.same s3)
          have np := g2.to.deck.fresh n3
          exact ⟨shortL.map V.str, r, rfl, .of (sv4 _ _ hp3 np.1 np.2), _, ex, rest H4 w1 (g3.trans (g3.to.keep sv4 hd4)) ((show ∀ z ∈ shortL, z ∈ goodWords by decide +kernel) w1 hw1) (by rw [cw, if_pos hw1]; omega) (.inr hw1)⟩
        · refine iteN (decide_eq_false (by omega)) (iteN (decide_eq_false (by omega)) (rest H2 w0 g2 hw0' ?_ (.inl hw0)))
          rw [hch, show cw (Str.ofString "choice") = 4 by decide +kernel]
          omega
      · refine iteN (decide_eq_false hch) ?_
        by_cases h3' : m < 3
        · refine iteY (decide_eq_true (by omega)) ⟨line_le' (by decide), fun p H3 s3 n3 hp3 => ⟨d, c, 3, rfl, g2.to.deck.same s3, by decide, by decide, fun r H4 r0 r1 hd4 sv4 => ?_⟩⟩
          obtain ⟨x, ex, hx⟩ := atI_in (xs := shortL.map V.str) r0 r1
          obtain ⟨w1, hw1, rfl⟩ := List.mem_map.mp hx
          have g3 := g2.trans (g2.to.same s3)
          have np := g2.to.deck.fresh n3
          exact ⟨shortL.map V.str, r, rfl, .of (sv4 _ _ hp3 np.1 np.2), _, ex, rest H4 w1 (g3.trans (g3.to.keep sv4 hd4)) ((show ∀ z ∈ shortL, z ∈ goodWords by decide +kernel) w1 hw1) (by rw [cw, if_pos hw1]; omega) (.inr hw1)⟩
        · refine iteN (decide_eq_false (by omega)) (rest H2 w0 g2 hw0' ?_ (.inl hw0))
          have : cw w0 ≤ 2 := by
            unfold cw
            split
            · omega
            · first | omega | (rw [if_neg hch]; exact Nat.le_refl _)
          omega
    case rest =>
    intro H3 w g3 hw hc hws
    clear g2 hw0
    clear H2
    -- how many parts
    subst hu
    refine seq_cut fun u hu => ?_
    walk_at "rq"
    refine fun pd hpd => ⟨upd_same, [(Sum.inr (Str.ofString "not"), .int 1), (Sum.inr (Str.ofString "twice"), .int 1), (Sum.inr (Str.ofString "froze"), .int 1), (Sum.inr (Str.ofString "choice"), .int 4)], rfl, by decide, pd, rfl, .inl ⟨_, .inl upd_same⟩, _, DGet.k (k := Sum.inr w) upd_same, ?_⟩
    rw [cw_dict w hw, upd_upd]
    refine (show ∀ H4 : Hp, GD d c H G H4 G → u ?D1 [some (V.ref d), some (V.ref l1), some (V.ref l2), some (V.int ↑m), some (V.ref l3), some (V.int ↑deep), some (V.str w), some (.int (cw w : Nat)), none, none, none, none, none] H4 from ?h1) _ (g3.trans (g3.to.same (same_upd hpd)))
    case h1 =>
    clear g3 hpd
    clear H3 pd
    intro H3 g3
    subst hu
    refine seq_cut fun u hu => ?_
    walk_at "rq"
    have el : (m : Int) - 1 - (cw w : Nat) = ((m - 1 - cw w : Nat) : Int) := by omega
    rw [el]
    subst hu
    refine seq_cut fun u hu => ?_
    refine ⟨Nat.zero_le _, fun p H4 s4 n4 hp4 => ?_⟩
    have np := g3.to.deck.fresh n4
    have g4 := g3.trans (g3.to.same s4)
    have pH : H p = none := g3.big.free g3.to.deck n4
    have pG : G p = none := pt.sub.free pH
    show u _ _ _
    subst hu
    refine seq_cut fun u hu => ?_
    -- the parts
    have hcw : cw w ≤ 4 := by
      unfold cw
      split
      · omega
      · split <;> omega
    refine ⟨_, rfl, cw w, rfl, by omega, by omega, for_steps (steps_range 0 (cw w)) (fun i σ Hc => ∃ (left : Nat) (vk vm : Option V) (xs : List V) (ds : List PyData) (Gc : Hp),
      σ = [some (V.ref d), some (V.ref l1), some (V.ref l2), some (V.int ↑m), some (V.ref l3), some (V.int ↑deep), some (V.str w), some (.int (cw w : Nat)), some (.int (left : Nat)), some (.ref p), vk, vm, none] ∧
      Hc p = some (.lst xs) ∧ GD d c H G Hc Gc ∧ Gc p = none ∧ DvAll Gc xs ds ∧ ds.length = i ∧ left ≤ m - 1 - cw w ∧ Parts (700 * (i + (m - 1 - cw w - left)) + 5 * i) (2 * n) (i + (m - 1 - cw w - left)) ds ∧ ∀ y ∈ ds, From n1 n2 ws y) ?_ (fun _ _ _ _ _ => trivial) ?_ ?_⟩
    · exact ⟨m - 1 - cw w, none, none, [], [], G, rfl, hp4, g4, pG, .nil, rfl, Nat.le_refl _, ⟨nofun, nofun, nofun, by simp [wtL], by simp⟩, nofun⟩
    · rintro i x σ H5 hx ⟨left, vk, vm, xs, ds, Gc, rfl, hp5, g5, pc, hxs, hl, hle, pp, frm⟩
      obtain ⟨hi, rfl⟩ := wholes_at hx
      walk_at "rq"
      refine ⟨d, c, _, rfl, g5.to.deck, by omega, by omega, fun r H6 r0 r1 hd6 sv6 => ⟨r, rfl, .inl ⟨rfl, _, .of (sv6 _ _ hp5 np.1 np.2)⟩, r, rfl, ?_⟩⟩
      have g6 := g5.trans (g5.to.keep sv6 hd6)
      have hp6 : H6 p = some (.lst xs) := sv6 _ _ hp5 np.1 np.2
      obtain ⟨rn, rfl⟩ := Int.eq_ofNat_of_zero_le r0
      refine ⟨d, c, l1, l2, l3, Gc, n1, n2, ws, 1 + rn, deep - 1, ?_, g6.to, g5.part.seq h1, g5.part.seq h2, g5.part.seq h3, e3, z1, z2, z3, m1, m2, m3, by omega, by omega, by omega, fun x dd H7 G7 g7 hx hg ht hcn hfr => ?_⟩
      · rw [show (1 : Int) + (rn : Int) = ((1 + rn : Nat) : Int) by omega, show (deep : Int) - 1 = ((deep - 1 : Nat) : Int) by omega]
      · have g7p : G7 p = none := g7.only p (by rw [hp6]; nofun) pc
        have hp7 : H7 p = some (.lst xs) := g7.big _ _ hp6 np.1 np.2
        have hlx : xs.length < sizeLine := by
          have := sizeLine_eq
          rw [hxs.len]
          omega
        refine ⟨xs, hp7, hlx, left - rn, ⟨by omega, _, rfl⟩, _, upd_same, ds ++ [dd], G7, GD.setp (g6.trans g7) pH g7p np.1 np.2, g7p, (hxs.same g7.part).append (.cons hx .nil), by rw [List.length_append, hl]; rfl, by omega, ⟨fun y hy => ?_, fun y hy => ?_, fun y hy => ?_, ?_, ?_⟩, fun y hy => ?_⟩
        · rcases List.mem_append.mp hy with z | z
          · exact pp.ok y z
          · rw [List.mem_singleton.mp z]
            exact hg.ok
        · rcases List.mem_append.mp hy with z | z
          · exact pp.depth y z
          · rw [List.mem_singleton.mp z]
            exact hg.depth
        · rcases List.mem_append.mp hy with z | z
          · exact pp.term y z
          · rw [List.mem_singleton.mp z]
            exact ht
        · have a1 := pp.wt
          have a2 := hg.wt
          rw [wtL_append]
          simp only [wtL]
          omega
        · have a1 := pp.cnt
          rw [List.flatMap_append, List.length_append]
          simp only [List.flatMap_cons, List.flatMap_nil, List.append_nil]
          omega
        · rcases List.mem_append.mp hy with z | z
          · exact frm y z
          · rw [List.mem_singleton.mp z]
            exact hfr
    · rintro σ H5 ⟨left, vk, vm, xs, ds, Gc, rfl, hp5, g5, pc, hxs, hl, hle, pp, frm⟩
      rw [wholes_len] at hl pp
      clear g4 g3 hp4 n4 s4 el
      show u _ _ _
      subst hu
      refine seq_cut fun u hu => ?_
      walk_at "rq"
      refine ⟨line_le' (by decide), fun pf H6 s6 n6 hp6 => ⟨d, c, pf, upd Gc pf (.lst ((["", "", "u", "s", "us"] : List Str).map V.str)), (["", "", "u", "s", "us"] : List Str).map V.str, rfl, (g5.to.at_ s6 n6 hp6).to, .of upd_same, by decide, by decide, fun x H7 hx g7 => ?_⟩⟩
      obtain ⟨fl, hfl, rfl⟩ := List.mem_map.mp hx
      have hfl : fl ∈ flagsL := (show ∀ z ∈ (["", "", "u", "s", "us"] : List Str), z ∈ flagsL by decide +kernel) fl hfl
      have hpf : p ≠ pf := fun z => by rw [z, n6] at hp5; cases hp5
      have ga := g5.to.at_ s6 n6 hp6
      have g8 := (g5.trans ga).trans g7
      have hp7 : H7 p = some (.lst xs) := g7.big _ _ (s6 _ _ hp5) np.1 np.2
      have hx7 := hxs.same ga.part
      have pc7 : (upd Gc pf (.lst ((["", "", "u", "s", "us"] : List Str).map V.str))) p = none := by
        rw [upd_ne hpf]
        exact pc
      have hS : Parts (700 * (m - 1) + 20) (2 * n) (m - 1) ds := ⟨pp.ok, pp.depth, pp.term, Nat.le_trans pp.wt (by omega), Nat.le_trans pp.cnt (by omega)⟩
      obtain ⟨Gf, g8, hx7, pc7⟩ : ∃ Gf, GD d c H G H7 Gf ∧ DvAll Gf xs ds ∧ Gf p = none := ⟨_, g8, hx7, pc7⟩
      clear pp pc hxs ga g7 hx g5 s6 n6 hp6 hp5 hpf
      subst hu
      refine seq_cut fun u hu => ?_
      walk_at "rq"
      refine ⟨line_le' (by decide), fun p1 H8 s8 n8 hp8 => ⟨[.str "sum", .str "less", .str "twice"], .inr (.of hp8), rfl, by decide +kernel, ?_⟩⟩
      have h1c : 1 ≤ cw w := by
        unfold cw
        split
        · omega
        · split <;> omega
      have xne : xs ≠ [] := fun z => by
        have := hx7.len
        rw [z, hl] at this
        simp only [List.length_nil] at this
        omega
      have xl : xs.length ≤ 4 := by
        rw [hx7.len, hl]
        exact hcw
      have fin : ∀ (h0 : List V) (d0 : List PyData), (∀ Hz, DvAll Hz h0 d0) → Gd 99 (700 * (m - 1) + 20 + 300) (2 * n + 2) (.tuple (d0 ++ ds)) ∧ isTD (.tuple (d0 ++ ds)) = true → partsD (.tuple (d0 ++ ds)) = ds → From n1 n2 ws (.tuple (d0 ++ ds)) → ∀ (Hx H' : Hp), GD d c H G Hx Gf → Same Hx H' →
          ∀ l, H' l = none → ∀ pz, upd H' l (.tup xs) pz = none → Q (.ref pz) (upd (upd H' l (.tup xs)) pz (.tup (h0 ++ xs))) := by
        intro h0 d0 hd0 ⟨t1, t2⟩ hpd hfr Hx H' gx sx l hl' pz hz
        have ga := gx.trans (gx.to.same (sx.trans (same_upd (o := .tup xs) hl')))
        have gb := ga.to.at_ (o := .tup (h0 ++ xs)) (same_upd hz) hz upd_same
        exact q _ _ _ _ (ga.trans gb) (.tup upd_same ((hd0 _).append (hx7.same gb.part))) (t1.mono (Nat.le_refl _) (by omega) (by omega)) t2 (by have := hS.cnt; rw [cnt_of hpd]; omega) hfr
      have g9 := g8.trans (g8.to.same s8)
      have hp9 := s8 _ _ hp7
      rw [show ([V.str (Str.ofString "sum"), V.str (Str.ofString "less"), V.str (Str.ofString "twice")] : List V) = flaggedL.map V.str from rfl, inV_strs]
      by_cases hf : w ∈ flaggedL
      · refine iteY (decide_eq_true hf) ⟨line_le' (by decide), fun p2 H9 s9 n9 hp2 => ⟨xs, .inl ⟨.of (s9 _ _ hp9), fun l hl' => ⟨_, .of (same_upd hl' _ _ hp2), xs, .of upd_same, line_le' (by show 2 + _ ≤ _; omega), (fun z => by cases z), (fun _ z => absurd z xne), fun _ _ pz hz => ?_⟩⟩⟩⟩
        have e1 : ds.length = if w = Str.ofString "twice" then 1 else 2 := by
          rw [hl]
          exact (show ∀ z ∈ flaggedL, cw z = if z = Str.ofString "twice" then 1 else 2 by decide +kernel) w hf
        exact fin [.str w, .str fl] [.str w, .str fl] (fun _ => .cons (.str _) (.cons (.str _) .nil)) (gd_flag hf hfl e1 hS) (parts_flag hf) (from_node (flag_not hf).1 hws (parts_flag hf) frm) H8 H9 g9 s9 l hl' pz hz
      · refine iteN (decide_eq_false hf) ?_
        subst hu
        refine seq_cut fun u hu => ?_
        walk_at "rq"
        by_cases hch : w = Str.ofString "choice"
        · refine iteY (decide_eq_true hch) ?_
          subst hch
          simp only [tTupU, tLstU]
          walk_at "rd"
          have e4 : ds.length = 4 := by
            rw [hl]
            decide +kernel
          obtain ⟨da, db, dp, dq, rfl⟩ : ∃ da db dp dq, ds = [da, db, dp, dq] := by
            match ds, e4 with
            | [da, db, dp, dq], _ => exact ⟨da, db, dp, dq, rfl⟩
          obtain ⟨xa, xb, xp, xq, rfl⟩ : ∃ xa xb xp xq, xs = [xa, xb, xp, xq] := by
            have e5 : xs.length = 4 := hx7.len
            match xs, e5 with
            | [xa, xb, xp, xq], _ => exact ⟨xa, xb, xp, xq, rfl⟩
          refine ⟨line_le' (by decide), fun pl Ha sa na ea => ⟨d, c, pl, upd Gf pl (.lst (compL.map V.str)), compL.map V.str, rfl, (g9.to.at_ sa na ea).to, .of upd_same, by decide, by decide, fun x Hb hx gb => ?_⟩⟩
          obtain ⟨r, hr', rfl⟩ := List.mem_map.mp hx
          have hpb := gb.big _ _ (sa _ _ hp9) np.1 np.2
          refine ⟨_, .of hpb, xa, at0, _, .of hpb, xb, at1, line_le' (by decide), fun p1 Hc sc nc ec => ⟨_, .of (sc _ _ hpb), xp, at2, _, .of (sc _ _ hpb), xq, at3, line_le' (by decide), fun p2 Hd sd nd ed => ?_⟩⟩
          have ga := (g9.to.at_ sa na ea).trans gb
          have gc := ga.to.at_ sc nc ec
          have gd := gc.to.at_ sd nd ed
          have hall := hx7.same ((ga.part.trans gc.part).trans gd.part)
          cases hall with
          | cons ha hall =>
            cases hall with
            | cons hb hall =>
              cases hall with
              | cons hpp hall =>
                cases hall with
                | cons hqq _ =>
                  obtain ⟨t1, t2⟩ := gd_choice hr' hS
                  exact q _ _ _ _ (((g9.trans ga).trans gc).trans gd) (.tup upd_same (.cons (.str _) (.cons (.tup (gd.part _ _ upd_same) (.cons (.str r) (.cons ha (.cons hb .nil)))) (.cons hpp (.cons hqq .nil))))) (t1.mono (Nat.le_refl _) (by omega) (by omega)) t2 (by have := hS.cnt; rw [cnt_of parts_choice]; omega) (from_node (by decide +kernel) hws parts_choice frm)
        · refine iteN (decide_eq_false hch) ?_
          subst hu
          walk_at "rq"
          refine ⟨line_le' (by decide), fun p2 H9 s9 n9 hp2 => ⟨xs, .inl ⟨.of (s9 _ _ hp9), fun l hl' => ⟨_, .of (same_upd hl' _ _ hp2), xs, .of upd_same, line_le' (by show 1 + _ ≤ _; omega), (fun z => by cases z), (fun _ z => absurd z xne), fun _ _ pz hz => ?_⟩⟩⟩⟩
          have hh : (w ∈ pairsL ∧ ds.length = 2) ∨ (w ∈ singlesL ∧ ds.length = 1) := by
            rw [hl]
            have hw' := hw
            simp only [goodWords, List.mem_append, List.mem_singleton] at hw'
            rcases hw' with ((z | z) | z) | z
            · exact absurd z hf
            · exact .inl ⟨z, (show ∀ z ∈ pairsL, cw z = 2 by decide +kernel) w z⟩
            · exact .inr ⟨z, (show ∀ z ∈ singlesL, cw z = 1 by decide +kernel) w z⟩
            · exact absurd z hch
          exact fin [.str w] [.str w] (fun _ => .cons (.str _) .nil) (gd_other hh hS) (parts_other hh) (from_node (other_not hh).1 hws (parts_other hh) frm) H8 H9 g9 s9 l hl' pz hz
/-- the law's terms, at each level -/
theorem ok__law_term {f : Addr} {fd : FuncData} (D : DfD K mg "_law_term" s__law_term [.int 6] f fd) (T : Tx K mg) (tuple : mg "tuple" = none) (c__law_draw : Cal P w K mg base "_law_draw" ["_law_deck_here", "_law_many"] 1 spDraw) (c__law_pick : Cal P w K mg base "_law_pick" ["_law_deck_here", "_law_some"] 2 (spPickL K))
    (c__law_leaf : Cal P w K mg base "_law_leaf" ["_law_deck_here", "_law_inputs", "_law_names_here"] 3 (spLeafG K)) : ∀ n : Nat, FnG P w K mg base CX0 (n + 4) f fd ["_law_deck_here", "_law_inputs", "_law_names_here", "_law_many", "_law_words_here", "_law_deep"] (spTermG K n)
  | 0 => D.fnG sc__law_term (fun vs H Q E h => by
      obtain ⟨d, c, l1, l2, l3, G, n1, n2, ws, m, deep, rfl, _⟩ := h
      rfl) (fun cdv A outer s H vs Q E hgu hr h => by
      obtain ⟨d, c, l1, l2, l3, G, n1, n2, ws, m, deep, _, _, _, _, _, _, _, _, _, _, _, _, hn, _⟩ := h
      exact absurd hn (Nat.not_lt_zero _))
  | n + 1 => by
    have c := ok__law_term D T tuple c__law_draw c__law_pick c__law_leaf n
    refine st__law_term (k := n + 4) (by omega) D T tuple c__law_draw c__law_pick c__law_leaf (D.calD c 6 1 (by decide) (by decide) fun Ta kV doc pm an cdv ct us its h1 h2 => ?_)
    match us, h1, its, h2 with
    | [_, _, _, _, _, _], _, [_], _ => exact ⟨_, rfl, rfl⟩
end
end Vf
namespace Vf
open PySem L2 PyProof.Rows PySem.Spec

local macro_rules | `(tactic| walk_at "rd") => `(tactic| simp only [tSeq, tIfS, tOr, tAnd, tNot, tB, tTest, tChain, tCB, tCons, tNil, tVar, tC, tRet, tAndV, tOrV, tNotV, tOp, tNext, tDrop, tAsg, tPar, tYes, tIf, tCall, tCalK, tTup, tLst, tSl, tNoPart, tPart, tM0, tM1, tRevL, tBM0, tBM, gName, rI0, rI, rU, rInA, rEqA, rAddA, rMulA, rSlAny, iAny, rIsi, rAll, rAny, rSum, rList, rTuple, rLen, rLenS, rLenSeq, rMulS, CDiv, rIn, rEqD, rNeD, iList, iTup, iStr, rCat, rCatA, rSlL, rSlA, rSlS, gSub, rPop, rAppend, rSetL, rIx, rIxL, rIxT, rIxS, LenV,
  L2.start, List.map_cons, List.map_nil, List.length_cons, List.length_nil, List.cons_append, List.nil_append, List.append_nil, Nat.zero_add, Nat.add_sub_cancel, Nat.sub_self, List.replicate_succ, List.replicate_zero, List.getElem?_cons_zero, List.getElem?_cons_succ, List.set_cons_zero, List.set_cons_succ,
  Option.some.injEq, V.int.injEq, V.str.injEq, V.bl.injEq, V.ref.injEq, List.cons.injEq, and_true, true_and, exists_eq_left', exists_eq_left, exists_eq_right, exists_and_left, exists_and_right, false_or, or_false, reduceCtorEq, false_and, and_false, exists_false, Bool.not_true, Bool.not_false, if_true, if_false, Bool.false_eq_true, ite_true, ite_false])
local macro_rules | `(tactic| walk_at "rq") => `(tactic| (walk_at "rd"; (try simp only [rEq_int, rEq_str, rNe_int, tUn, rU, tC, rInT, rInK, rIxK, rExtendT, rSlU, rCatU, rEqE, rIntB, tTupU, tLstU, tDGet2, V.int.injEq, V.str.injEq, V.bl.injEq, V.ref.injEq, exists_eq_left', exists_eq_left, Bool.false_bne, Bool.false_xor, Bool.true_xor]); (try walk_at "rd")))
section
variable {P : Program} {w : World} {K : PySem.W.Frag} {mg : Str → Option Value} {base : Heap}
def serialL : List Str := ["sum", "less", "and", "or", "xor", "sum", "not", "twice", "froze", "choice"]
def allL : List Str := serialL ++ (["times", "quot", "rest", "left", "right"] : List Str)
def spWords (l : List Str) : Sp := fun vs H Q _ => vs = [] ∧ ∀ (p : Addr) (H' : Hp), Same H H' → H p = none → H' p = some (.lst (l.map V.str)) → Q (.ref p) H'
abbrev s__law_serial_words : Stmt := top 34
theorem sc__law_serial_words : FnScope [] [] (defScope s__law_serial_words) := ⟨rfl, rfl, rfl, by decide +kernel, rfl, by decide +kernel, by decide +kernel⟩
theorem ok__law_serial_words {f : Addr} {fd : FuncData} (D : Df K mg "_law_serial_words" s__law_serial_words f fd) (T : Tx K mg) : Cal P w K mg base "_law_serial_words" [] 1 (spWords serialL) := by
  refine D.cal sc__law_serial_words (fun vs H Q E h => ?_) (fun _ _ _ _ _ _ us hl => match us, hl with | [], _ => rfl) (fun cdv A outer s H vs Q E hgu hr h => ?_)
  · obtain ⟨rfl, _⟩ := h
    rfl
  · obtain ⟨rfl, q⟩ := h
    refine ⟨_, (pss_one (ps_ret (pe_lst (pa_cons pe_str (pa_cons pe_str (pa_cons pe_str (pa_cons pe_str (pa_cons pe_str (pa_cons pe_str (pa_cons pe_str (pa_cons pe_str (pa_cons pe_str (pa_cons pe_str pa_nil))))))))))))), ?_⟩
    walk_at "rd"
    exact ⟨line_le (by decide), fun p hp => q p _ (same_upd hp) hp upd_same⟩
abbrev s__law_all_words : Stmt := top 35
theorem sc__law_all_words : FnScope [] [] (defScope s__law_all_words) := ⟨rfl, rfl, rfl, by decide +kernel, rfl, by decide +kernel, by decide +kernel⟩
theorem ok__law_all_words {f : Addr} {fd : FuncData} (D : Df K mg "_law_all_words" s__law_all_words f fd) (T : Tx K mg) (c__law_serial_words : Cal P w K mg base "_law_serial_words" [] 1 (spWords serialL)) : Cal P w K mg base "_law_all_words" [] 2 (spWords allL) := by
  refine D.cal sc__law_all_words (fun vs H Q E h => ?_) (fun _ _ _ _ _ _ us hl => match us, hl with | [], _ => rfl) (fun cdv A outer s H vs Q E hgu hr h => ?_)
  · obtain ⟨rfl, _⟩ := h
    rfl
  · obtain ⟨rfl, q⟩ := h
    refine ⟨_, (pss_one (ps_ret (pe_op op_cat (pe_cal0 c__law_serial_words hgu (hr.mono (by omega)) (by rfl)) (pe_lst (pa_cons pe_str (pa_cons pe_str (pa_cons pe_str (pa_cons pe_str (pa_cons pe_str pa_nil))))))))), ?_⟩
    walk_at "rd"
    refine ⟨rfl, fun p H1 s1 n1 h1 => ⟨line_le (by decide), fun p1 hp1 => ⟨p, rfl, _, same_upd hp1 _ _ h1, _, upd_same, line_le (by decide), fun r hr => ?_⟩⟩⟩
    exact q r _ ((s1.trans (same_upd hp1)).trans (same_upd hr)) ((s1.trans (same_upd hp1)).free hr) upd_same
theorem DvAll.mem {H : Hp} : ∀ {xs : List V} {ds : List PyData} {x : V}, DvAll H xs ds → x ∈ xs → ∃ d, d ∈ ds ∧ Dv H x d
  | _, _, _, .nil, m => absurd m List.not_mem_nil
  | _, _, _, .cons h t, m => by
    rcases List.mem_cons.mp m with rfl | m
    · exact ⟨_, List.mem_cons_self, h⟩
    · obtain ⟨d, m, h⟩ := t.mem m
      exact ⟨d, List.mem_cons_of_mem _ m, h⟩
end
theorem DvAll.take {H : Hp} : ∀ {n : Nat} {vs : List V} {ds : List PyData}, DvAll H vs ds → DvAll H (vs.take n) (ds.take n)
  | 0, _, _, _ => .nil
  | n + 1, _, _, .nil => .nil
  | n + 1, _, _, .cons h t => .cons h t.take
theorem DvAll.rev {H : Hp} : ∀ {vs : List V} {ds : List PyData}, DvAll H vs ds → DvAll H vs.reverse ds.reverse
  | _, _, .nil => .nil
  | _, _, .cons h t => by
    rw [List.reverse_cons, List.reverse_cons]
    exact t.rev.append (.cons h .nil)
theorem atI_nat {α : Type} {xs : List α} {i : Nat} (h : i < xs.length) : atI xs (i : Int) = some xs[i] := by
  unfold atI ixN
  rw [if_pos (by omega), if_pos (by omega)]
  exact List.getElem?_eq_getElem h
theorem cutV_mid (xs : List V) (n m : Nat) : cutV xs (some (n : Int)) (some ((n : Int) + (m : Int))) = (xs.drop n).take m := by
  unfold cutV HT.sIx
  have e1 : ¬ ((n : Int) < 0) := by omega
  have e2 : ¬ ((n : Int) + (m : Int) < 0) := by omega
  simp only [e1, e2, if_false]
  have e3 : ((n : Int)).toNat = n := by omega
  have e4 : ((n : Int) + (m : Int)).toNat = n + m := by omega
  rw [e3, e4]
  by_cases hn : n ≤ xs.length
  · rw [Nat.min_eq_left hn]
    by_cases hm : n + m ≤ xs.length
    · rw [Nat.min_eq_left hm, Nat.add_sub_cancel_left]
    · rw [Nat.min_eq_right (by omega), List.take_of_length_le (by rw [List.length_drop]; omega), List.take_of_length_le (by rw [List.length_drop]; omega)]
  · rw [Nat.min_eq_right (by omega), List.drop_of_length_le (by omega), List.drop_of_length_le (by omega)]
    simp
theorem wtL_take_le (n : Nat) (l : List PyData) : wtL (l.take n) ≤ wtL l := by
  have := wtL_take n l
  omega
theorem wtL_drop_le (n : Nat) (l : List PyData) : wtL (l.drop n) ≤ wtL l := by
  have := wtL_take n l
  omega
theorem wtL_rev : ∀ l : List PyData, wtL l.reverse = wtL l
  | [] => rfl
  | d :: l => by
    rw [List.reverse_cons, wtL_append, wtL_rev l]
    simp only [wtL]
    omega
end Vf
namespace Vf
open PySem L2 PyProof.Rows PySem.Spec
/-- a def as the top has left it -/
def DefAt (K : PySem.W.Frag) (x : Str) (st : Stmt) : Prop := ∃ (f : Addr) (oc : Value) (od : Option Addr) (kV doc pm : Value) (an : Option Addr) (cdv ct : Value) (osl : Array (Option Value)),
  PySem.W.nsIn K mainGlobals x = some (some (.ref f)) ∧ K.lookup f = some ⟨oc, od, .func (PySem.W.fnOf x x (defArgs st) (defBody st) (defScope st) .none kV doc pm an cdv ct), osl⟩ ∧ PySem.W.codeIn K cdv x = true ∧ PySem.W.keepIn K (.ref f) = true
theorem DefAt.mk {K : PySem.W.Frag} {x : Str} {st : Stmt} {f : Addr} {oc : Value} {od : Option Addr} {kV doc pm : Value} {an : Option Addr} {cdv ct : Value} {osl : Array (Option Value)}
    (a : PySem.W.nsIn K mainGlobals x = some (some (.ref f))) (l : K.lookup f = some ⟨oc, od, .func (PySem.W.fnOf x x (defArgs st) (defBody st) (defScope st) .none kV doc pm an cdv ct), osl⟩) (c : PySem.W.codeIn K cdv x = true) (k : PySem.W.keepIn K (.ref f) = true) : DefAt K x st :=
  ⟨f, oc, od, kV, doc, pm, an, cdv, ct, osl, a, l, c, k⟩
theorem DefAt.df {K : PySem.W.Frag} {x : Str} {st : Stmt} {h : Heap} {mg : Str → Option Value} (X : K.In h) (G : h.Ns mainGlobals mg) (A : DefAt K x st) : ∃ f kV doc pm an cdv ct, Df K mg x st f (PySem.W.fnOf x x (defArgs st) (defBody st) (defScope st) .none kV doc pm an cdv ct) := by
  obtain ⟨f, oc, od, kV, doc, pm, an, cdv, ct, osl, a, l, c, k⟩ := A
  exact ⟨f, kV, doc, pm, an, cdv, ct, fun_mk l c k, PySem.W.mg_of X G a⟩
/-- a def with defaults, as the top has left it -/
def DefAtD (K : PySem.W.Frag) (x : Str) (st : Stmt) (dvs : List V) : Prop := ∃ (f : Addr) (oc : Value) (od : Option Addr) (dT : Addr) (kV doc pm : Value) (an : Option Addr) (cdv ct : Value) (osl : Array (Option Value)) (o : Obj) (its : List Value) (n : Nat),
  PySem.W.nsIn K mainGlobals x = some (some (.ref f)) ∧ K.lookup f = some ⟨oc, od, .func (PySem.W.fnOf x x (defArgs st) (defBody st) (defScope st) (.ref dT) kV doc pm an cdv ct), osl⟩ ∧ PySem.W.codeIn K cdv x = true ∧ PySem.W.keepIn K (.ref f) = true ∧
  K.lookup dT = some o ∧ o.data = .seq its.toArray n ∧ Vals dvs its
theorem DefAtD.mk {K : PySem.W.Frag} {x : Str} {st : Stmt} {dvs : List V} {f : Addr} {oc : Value} {od : Option Addr} {dT : Addr} {kV doc pm : Value} {an : Option Addr} {cdv ct : Value} {osl : Array (Option Value)} {tc : Value} {td : Option Addr} {its : Array Value} {n : Nat} {tl : Array (Option Value)}
    (a : PySem.W.nsIn K mainGlobals x = some (some (.ref f))) (l : K.lookup f = some ⟨oc, od, .func (PySem.W.fnOf x x (defArgs st) (defBody st) (defScope st) (.ref dT) kV doc pm an cdv ct), osl⟩) (c : PySem.W.codeIn K cdv x = true) (k : PySem.W.keepIn K (.ref f) = true)
    (t : K.lookup dT = some ⟨tc, td, .seq its n, tl⟩) (v : Vals dvs its.toList) : DefAtD K x st dvs :=
  ⟨f, oc, od, dT, kV, doc, pm, an, cdv, ct, osl, _, its.toList, n, a, l, c, k, t, rfl, v⟩
theorem DefAtD.df {K : PySem.W.Frag} {x : Str} {st : Stmt} {dvs : List V} {h : Heap} {mg : Str → Option Value} (hd : dvs ≠ []) (X : K.In h) (G : h.Ns mainGlobals mg) (A : DefAtD K x st dvs) : ∃ f fd, DfD K mg x st dvs f fd := by
  obtain ⟨f, oc, od, dT, kV, doc, pm, an, cdv, ct, osl, o, its, n, a, l, c, k, t, e, v⟩ := A
  exact ⟨f, _, ⟨⟨⟨oc, od, .ref dT, kV, doc, pm, an, cdv, ct, osl, rfl, l, c, .inr ⟨hd, dT, o, its, n, rfl, t, e, v⟩, .inl rfl⟩, k⟩, PySem.W.mg_of X G a⟩⟩
/-- a tuple of texts as the top has left it -/
def TupAt (K : PySem.W.Frag) (x : Str) (l : List Str) : Prop := ∃ (a : Addr) (o : Obj) (its : Array Value) (n : Nat), PySem.W.nsIn K mainGlobals x = some (some (.ref a)) ∧ K.lookup a = some o ∧ o.cls = .type "tuple" ∧ o.data = .seq its n ∧ its.size ≤ 1000 ∧ Vals (l.map V.str) its.toList
/-- a text as the top has left it -/
def TextAt (K : PySem.W.Frag) (x z : Str) : Prop := ∃ z' t, PySem.W.nsIn K mainGlobals x = some (some (.str z' t)) ∧ z' = z
theorem TextAt.mk {K : PySem.W.Frag} {x z z' : Str} {t : Tok} (h : PySem.W.nsIn K mainGlobals x = some (some (.str z' t))) (e : z' = z) : TextAt K x z := ⟨z', t, h, e⟩
theorem TupAt.mk {K : PySem.W.Frag} {x : Str} {l : List Str} {a : Addr} {od : Option Addr} {its : Array Value} {n : Nat} {sl : Array (Option Value)} (h1 : PySem.W.nsIn K mainGlobals x = some (some (.ref a))) (h2 : K.lookup a = some ⟨.type "tuple", od, .seq its n, sl⟩)
    (h3 : its.size ≤ 1000) (h4 : Vals (l.map V.str) its.toList) : TupAt K x l := ⟨a, ⟨.type "tuple", od, .seq its n, sl⟩, its, n, h1, h2, rfl, rfl, h3, h4⟩
/-- a dict of texts and numbers as the top has left it -/
def EntsAre : List DictEntry → List (Str × Int) → Prop
  | [], [] => True
  | e :: es, (x, i) :: l => ((∃ t, e.key = .str x t) ∧ ∃ t, e.val = .int i t) ∧ EntsAre es l
  | _, _ => False
theorem ents_none : ∀ {es : List DictEntry} {l : List (Str × Int)}, EntsAre es l → es.any (·.refKey) = false
  | [], [], _ => rfl
  | e :: es, (x, i) :: l, h => by
    obtain ⟨⟨⟨t, ek⟩, _⟩, h⟩ := h
    rw [List.any_cons, ents_none h, Bool.or_false]
    unfold DictEntry.refKey
    rw [ek]
theorem ents_find : ∀ {es : List DictEntry} {l : List (Str × Int)}, EntsAre es l → ∀ z : Str, RelO (((l.find? fun p => p.1 == z).map (·.2)).map V.int) ((es.find? (·.key.isStr z)).map (·.val))
  | [], [], _, z => trivial
  | e :: es, (x, i) :: l, h, z => by
    obtain ⟨⟨⟨t, ek⟩, ⟨t', ev⟩⟩, h⟩ := h
    have hb : e.key.isStr z = (x == z) := by
      rw [ek]
      rfl
    rw [List.find?_cons, List.find?_cons, hb]
    cases hx : x == z with
    | true => exact ⟨t', ev⟩
    | false => exact ents_find h z
def CntAt (K : PySem.W.Frag) (w : World) (x : Str) (l : List (Str × Int)) : Prop := ∃ (d : Addr) (es : Array DictEntry) (n : Nat), PySem.W.nsIn K mainGlobals x = some (some (.ref d)) ∧ KDict K w d es n ∧ EntsAre es.toList l
theorem CntAt.mk {K : PySem.W.Frag} {w : World} {x : Str} {l : List (Str × Int)} {d : Addr} {es : Array DictEntry} {n : Nat} (h1 : PySem.W.nsIn K mainGlobals x = some (some (.ref d))) (h2 : K.lookup d = some ⟨.type "dict", none, .dict es n, #[]⟩)
    (h3 : PySem.W.KeysLit w.params es.toList) (h4 : (d == sysModules) = false) (h5 : EntsAre es.toList l) : CntAt K w x l := ⟨d, es, n, h1, ⟨h2, h3, h4⟩, h5⟩
theorem CntAt.cnt {K : PySem.W.Frag} {w : World} {x : Str} {l : List (Str × Int)} (h : CntAt K w x l) : ∃ d, PySem.W.nsIn K mainGlobals x = some (some (.ref d)) ∧ Cnt K w d fun z => (l.find? fun p => p.1 == z).map (·.2) := by
  obtain ⟨d, es, n, h1, h2, h3⟩ := h
  refine ⟨d, h1, ⟨es, n, h2⟩, fun z => ⟨(es.toList.find? (·.key.isStr z)).map (·.val), ?_, ents_find h3 z⟩⟩
  unfold PySem.W.nsIn
  rw [h2.at_]
  show (match es.toList.find? (·.key.isStr z) with | some e => some (some e.val) | none => if es.toList.any (·.refKey) = true then none else some none) = _
  cases es.toList.find? (·.key.isStr z) with
  | some e => rfl
  | none =>
    show (if es.toList.any (·.refKey) = true then none else some none) = _
    rw [ents_none h3]
    rfl
/-- a def with one keyword-only value, a whole number, as the top has left it -/
def DefAtK (K : PySem.W.Frag) (x : Str) (st : Stmt) (y : Str) (i : Int) : Prop := ∃ (f : Addr) (oc : Value) (od : Option Addr) (kD : Addr) (doc pm : Value) (an : Option Addr) (cdv ct : Value) (osl : Array (Option Value)) (t : Tok),
  PySem.W.nsIn K mainGlobals x = some (some (.ref f)) ∧ K.lookup f = some ⟨oc, od, .func (PySem.W.fnOf x x (defArgs st) (defBody st) (defScope st) .none (.ref kD) doc pm an cdv ct), osl⟩ ∧ PySem.W.codeIn K cdv x = true ∧ PySem.W.keepIn K (.ref f) = true ∧
  PySem.W.nsIn K kD y = some (some (.int i t))
theorem DefAtK.mk {K : PySem.W.Frag} {x : Str} {st : Stmt} {y : Str} {i : Int} {f : Addr} {oc : Value} {od : Option Addr} {kD : Addr} {doc pm : Value} {an : Option Addr} {cdv ct : Value} {osl : Array (Option Value)} {t : Tok}
    (a : PySem.W.nsIn K mainGlobals x = some (some (.ref f))) (l : K.lookup f = some ⟨oc, od, .func (PySem.W.fnOf x x (defArgs st) (defBody st) (defScope st) .none (.ref kD) doc pm an cdv ct), osl⟩) (c : PySem.W.codeIn K cdv x = true) (k : PySem.W.keepIn K (.ref f) = true)
    (v : PySem.W.nsIn K kD y = some (some (.int i t))) : DefAtK K x st y i :=
  ⟨f, oc, od, kD, doc, pm, an, cdv, ct, osl, t, a, l, c, k, v⟩
theorem DefAtK.df {K : PySem.W.Frag} {x : Str} {st : Stmt} {y : Str} {i : Int} {h : Heap} {mg : Str → Option Value} (X : K.In h) (G : h.Ns mainGlobals mg) (A : DefAtK K x st y i) : ∃ f kD doc pm an cdv ct, FunD K x x (defArgs st) (defBody st) (defScope st) [] [(y, .int i)] f (PySem.W.fnOf x x (defArgs st) (defBody st) (defScope st) .none (.ref kD) doc pm an cdv ct) ∧ mg x = some (.ref f) := by
  obtain ⟨f, oc, od, kD, doc, pm, an, cdv, ct, osl, t, a, l, c, k, v⟩ := A
  refine ⟨f, kD, doc, pm, an, cdv, ct, ⟨⟨oc, od, .none, .ref kD, doc, pm, an, cdv, ct, osl, rfl, l, c, .inl ⟨rfl, rfl⟩, .inr ⟨kD, rfl, fun q hq => ?_⟩⟩, k⟩, PySem.W.mg_of X G a⟩
  rw [List.mem_singleton.mp hq]
  exact ⟨_, v, t, rfl⟩
theorem Cal.up {P : Program} {w : World} {K : PySem.W.Frag} {mg : Str → Option Value} {base : Heap} {x : Str} {ps : List Str} {k k' : Nat} {sp : Sp} (c : Cal P w K mg base x ps k sp) (h : k ≤ k') : Cal P w K mg base x ps k' sp := by
  obtain ⟨f, fd, F, a, b, d⟩ := c.ex
  exact ⟨f, fd, ⟨F.many, fun A outer s H args us vs Q E hg hr => F.go A outer s H args us vs Q E hg (hr.mono h)⟩, a, b, d⟩
/-- a whole number as the top has left it -/
def IntAt (K : PySem.W.Frag) (x : Str) (i : Int) : Prop := ∃ t, PySem.W.nsIn K mainGlobals x = some (some (.int i t))
theorem IntAt.mk {K : PySem.W.Frag} {x : Str} {i : Int} {t : Tok} (h : PySem.W.nsIn K mainGlobals x = some (some (.int i t))) : IntAt K x i := ⟨t, h⟩
section
variable {P : Program} {w : World} {K : PySem.W.Frag} {mg : Str → Option Value} {base : Heap} {x : Str} {st : Stmt} {f : Addr} {fd : FuncData} {k : Nat} {sp : Sp} {p : Str}
/-- a def of one value, called by its place, by its name -/
theorem Df.cal1 (D : Df K mg x st f fd) (F : FnG P w K mg base CX0 k f fd [p] sp) (b : Binds K fd [p] []) : Cal P w K mg base x [p] k sp := ⟨f, fd, F, D.gl, D.fn.kp, b⟩
end
end Vf
namespace Vf
open PySem L2 PyProof.Rows PySem.Spec

local macro_rules | `(tactic| walk_at "rd") => `(tactic| simp only [tSeq, tIfS, tOr, tAnd, tNot, tB, tTest, tChain, tCB, tCons, tNil, tVar, tC, tRet, tAndV, tOrV, tNotV, tOp, tNext, tDrop, tAsg, tPar, tYes, tIf, tCall, tCalK, tTup, tLst, tSl, tNoPart, tPart, tM0, tM1, tRevL, tBM0, tBM, gName, rI0, rI, rU, rInA, rEqA, rAddA, rMulA, rSlAny, iAny, rIsi, rAll, rAny, rSum, rList, rTuple, rLen, rLenS, rLenSeq, rMulS, CDiv, rIn, rEqD, rNeD, iList, iTup, iStr, rCat, rCatA, rSlL, rSlA, rSlS, gSub, rPop, rAppend, rSetL, rIx, rIxL, rIxT, rIxS, LenV,
  L2.start, List.map_cons, List.map_nil, List.length_cons, List.length_nil, List.cons_append, List.nil_append, List.append_nil, Nat.zero_add, Nat.add_sub_cancel, Nat.sub_self, List.replicate_succ, List.replicate_zero, List.getElem?_cons_zero, List.getElem?_cons_succ, List.set_cons_zero, List.set_cons_succ,
  Option.some.injEq, V.int.injEq, V.str.injEq, V.bl.injEq, V.ref.injEq, List.cons.injEq, and_true, true_and, exists_eq_left', exists_eq_left, exists_eq_right, exists_and_left, exists_and_right, false_or, or_false, reduceCtorEq, false_and, and_false, exists_false, Bool.not_true, Bool.not_false, if_true, if_false, Bool.false_eq_true, ite_true, ite_false])
local macro_rules | `(tactic| walk_at "rq") => `(tactic| (walk_at "rd"; (try simp only [rEq_int, rEq_str, rNe_int, tUn, rU, tC, rInT, rInK, rIxK, rExtendT, rSlU, rCatU, rEqE, rIntB, tTupU, tLstU, tDGet2, tCont, tToT, V.int.injEq, V.str.injEq, V.bl.injEq, V.ref.injEq, exists_eq_left', exists_eq_left, Bool.false_bne, Bool.false_xor, Bool.true_xor]); (try walk_at "rd")))
/-- the walk under way -/
structure TW (H : Hp) (x : V) (p q : Addr) (d0 : PyData) (m : Nat) (σ : L2.St) (H1 : Hp) : Prop where
  ex : ∃ (o1 o2 : Option V) (fs ws : List V) (fd wd : List PyData), σ = [some x, some (.ref p), some (.ref q), o1, o2] ∧ H1 p = some (.lst fs) ∧ H1 q = some (.lst ws) ∧ DvAll H fs fd ∧ DvAll H ws wd ∧ (∀ y ∈ wd, isTD y = true) ∧
    fd ++ wd.reverse.flatMap thingsD = thingsD d0 ∧ m = szL wd ∧ fd.length + szL wd ≤ 500000
  same : Same H H1
section
variable {P : Program} {w : World} {K : PySem.W.Frag} {mg : Str → Option Value} {base : Heap}
def spThings : Sp := fun vs H Q _ => ∃ (x : V) (d : PyData), vs = [x] ∧ Dv H x d ∧ isTD d = true ∧ sz d ≤ 500000 ∧ ∀ (p : Addr) (xs : List V) (H' : Hp), Same H H' → H p = none → H' p = some (.tup xs) → DvAll H' xs (thingsD d) → Q (.ref p) H'
abbrev s_things_of : Stmt := top 12
theorem sc_things_of : FnScope ["term", "found", "waiting", "one", "head"] ["term"] (defScope s_things_of) := ⟨rfl, rfl, rfl, by decide +kernel, rfl, by decide +kernel, by decide +kernel⟩
set_option format.width 500 in
set_option format.indent 0 in
set_option pp.deepTerms true in
set_option pp.maxSteps 200000 in
theorem ok_things_of {f : Addr} {fd : FuncData} (D : Df K mg "things_of" s_things_of f fd) (T : Tx K mg) {aLEAVES : Addr} (mLEAVES : mg "LEAVES" = some (.ref aLEAVES)) (tLEAVES : ∀ H, SqT K H aLEAVES (leavesL.map V.str)) {aFLAGGED : Addr} (mFLAGGED : mg "FLAGGED" = some (.ref aFLAGGED)) (tFLAGGED : ∀ H, SqT K H aFLAGGED (flaggedL.map V.str)) : FnG P w K mg base CX0 1 f fd ["term"] spThings := by
  refine D.fnG sc_things_of (fun vs H Q E h => ?_) (fun cdv A outer s H vs Q E hgu hr h => ?_)
  · obtain ⟨x, d, rfl, _⟩ := h
    rfl
  · obtain ⟨x, d0, rfl, hd0, ht0, hz, fin⟩ := h
    refine ⟨_, (pss_cons (ps_set (i := 1) sc_things_of.nd rfl (by first | exact Or.inl rfl | exact Or.inr rfl) (pe_lstU pa_nil)) (pss_cons (ps_set (i := 2) sc_things_of.nd rfl (by first | exact Or.inl rfl | exact Or.inr rfl) (pe_lstU (pa_cons (pv 0) pa_nil))) (pss_cons (ps_while PassesOwn.never (pt_truth (pv 2) (by intro _; rfl)) (pss_cons (ps_set (i := 3) sc_things_of.nd rfl (by first | exact Or.inl rfl | exact Or.inr rfl) (pe_bm0 PySem.F.plainAttrs_list PySem.F.slot_list_pop PySem.F.type_list_pop mt_pop (pv 2))) (pss_cons (ps_expr (pe_bm PySem.F.plainAttrs_list PySem.F.slot_list_append PySem.F.type_list_append mt_append (pv 1) (pa_cons (pv 3) pa_nil))) (pss_cons (ps_set (i := 4) sc_things_of.nd rfl (by first | exact Or.inl rfl | exact Or.inr rfl) (pe_ix (aIxT (K := K) rfl) (pv 3) pe_int (fun _ _ => rfl))) (pss_cons (ps_if (pt_cmpR (aInSeq (K := K) rfl) (pv 4) (pe_glob (v := .ref aLEAVES) rfl mLEAVES rfl) (by rfl)) (pss_one ps_continue) pss_nil) (pss_one (ps_if (pt_cmpR op_eq (pv 4) pe_str (by rfl)) (pss_one (ps_expr (pe_bm PySem.F.plainAttrs_list PySem.F.slot_list_extend PySem.F.type_list_extend (aExtendT (K := K) rfl) (pv 2) (pa_cons (pe_tupU (pa_cons (pe_ix (aIxT (K := K) rfl) (pv 3) pe_int (fun _ _ => rfl)) (pa_cons (pe_ix (aIxT (K := K) rfl) (pv 3) pe_int (fun _ _ => rfl)) (pa_cons (pe_ix (aIxT (K := K) rfl) (pe_ix (aIxT (K := K) rfl) (pv 3) pe_int (fun _ _ => rfl)) pe_int (fun _ _ => rfl)) (pa_cons (pe_ix (aIxT (K := K) rfl) (pe_ix (aIxT (K := K) rfl) (pv 3) pe_int (fun _ _ => rfl)) pe_int (fun _ _ => rfl)) pa_nil))))) pa_nil)))) (pss_one (ps_expr (pe_bm PySem.F.plainAttrs_list PySem.F.slot_list_extend PySem.F.type_list_extend (aExtendT (K := K) rfl) (pv 2) (pa_cons (aToT (K := K) rfl (pv 3) (pe_ifExp (pt_cmpR (aInSeq (K := K) rfl) (pv 4) (pe_glob (v := .ref aFLAGGED) rfl mFLAGGED rfl) (by rfl)) pe_int pe_int)) pa_nil))))))))))) (pss_one (ps_ret (pe_callTy (aTuple (K := K) rfl) (by rfl) T.tuple (by decide +kernel) (pa_cons (pv 1) pa_nil))))))), ?_⟩
    walk_at "rq"
    refine ⟨Nat.zero_le _, fun p H1 s1 n1 e1 => ⟨line_le' (by decide), fun q H2 s2 n2 e2 => ⟨TW H x p q d0, ⟨sz d0, ⟨⟨none, none, [], [x], [], [d0], rfl, s2 _ _ e1, e2, .nil, .cons hd0 .nil, fun y hy => by rw [List.mem_singleton.mp hy]; exact ht0, by simp, by simp [szL], by simp [szL]; exact hz⟩, s1.trans s2⟩⟩, fun m σ Hc hw => ?_⟩⟩⟩
    have npq : p ≠ q := fun z => by rw [← z, e1] at n2; cases n2
    have pH : H p = none := n1
    have qH : H q = none := s1.free n2
    obtain ⟨⟨o1, o2, fs, ws, fd, wd, rfl, ep, eq, hf, hw, htw, htot, rfl, hlen⟩, sc⟩ := hw
    refine ⟨_, rfl, _, .inl ⟨ws, .of eq, rfl⟩, ?_⟩
    have keep : ∀ {H3 : Hp} {b : Addr} {u : HO}, H b = none → Same H H3 → Same H (upd H3 b u) := fun nb s a o e => by
      rw [upd_ne (fun z => by rw [z, nb] at e; cases e)]
      exact s a o e
    rcases list_end' ws with rfl | ⟨vs, z, rfl⟩
    · cases hw
      refine iteN rfl ?_
      walk_at "rq"
      refine ⟨fs, .inl ⟨.of ep, fun l hl => ?_⟩⟩
      have : fd = thingsD d0 := by simpa using htot
      rw [← this] at fin
      exact fin l fs _ (sc.trans (same_upd hl)) (sc.free hl) upd_same (hf.same (sc.trans (same_upd hl)))
    · obtain ⟨ds, d1, rfl, hv1, hd1⟩ := hw.last
      refine iteY (by cases vs <;> rfl) ⟨fun σ' H' => ∃ m', m' < szL (ds ++ [d1]) ∧ TW H x p q d0 m' σ' H', fun _ _ h => h, ?_⟩
      have ez : szL (ds ++ [d1]) = szL ds + sz d1 := by
        rw [szL_append]
        simp only [szL, Nat.add_zero]
      have t1 : isTD d1 = true := htw d1 (by simp)
      have tds : ∀ y ∈ ds, isTD y = true := fun y hy => htw y (by simp [hy])
      have htot' : (fd ++ [d1]) ++ ((partsD d1).flatMap thingsD ++ ds.reverse.flatMap thingsD) = thingsD d0 := by
        rw [← htot]
        simp [things_eq d1]
      have lt := sz_parts d1
      have dl : (vs ++ [z]).dropLast = vs := by simp
      have l1 := szL_len ds
      rw [ez] at hlen ⊢
      have sp1 := sz_pos d1
      obtain ⟨Ha, hHa⟩ : ∃ Ha, Ha = upd (upd Hc q (.lst vs)) p (.lst (fs ++ [z])) := ⟨_, rfl⟩
      have sa : Same H Ha := by rw [hHa]; exact keep pH (keep qH sc)
      have eqa : Ha q = some (.lst vs) := by rw [hHa, upd_ne npq.symm, upd_same]
      have epa : Ha p = some (.lst (fs ++ [z])) := by rw [hHa, upd_same]
      have hf1 : DvAll H (fs ++ [z]) (fd ++ [d1]) := hf.append (.cons hd1 .nil)
      -- what is put behind what waits
      have go : ∀ (o1 o2 : Option V) (Hb : Hp) (ys : List V) (ps : List PyData), Same Ha Hb → DvAll H ys ps → ps.reverse = partsD d1 → TW H x p q d0 (szL (ds ++ ps)) [some x, some (.ref p), some (.ref q), o1, o2] (upd Hb q (.lst (vs ++ ys))) := by
        intro o1 o2 Hb ys ps sb hy hp
        have e1 : szL ps = szL (partsD d1) := by rw [← hp, szL_reverse]
        refine ⟨⟨o1, o2, fs ++ [z], vs ++ ys, fd ++ [d1], ds ++ ps, rfl, by rw [upd_ne npq]; exact sb _ _ epa, upd_same, hf1, hv1.append hy, fun y hy => ?_, ?_, rfl, ?_⟩, keep qH (sa.trans sb)⟩
        · rcases List.mem_append.mp hy with m | m
          · exact tds y m
          · rw [isTD_eq, Bool.and_eq_true] at t1
            exact List.all_eq_true.mp t1.2 y (by rw [← hp]; exact List.mem_reverse.mpr m)
        · rw [← htot', List.reverse_append, hp, List.flatMap_append]
        · rw [List.length_append, List.length_singleton, szL_append, e1]
          omega
      have less : ∀ ps : List PyData, ps.reverse = partsD d1 → szL (ds ++ ps) < szL ds + sz d1 ∧ ps.length ≤ sz d1 := by
        intro ps hp
        have e1 : szL ps = szL (partsD d1) := by rw [← hp, szL_reverse]
        have l2 := szL_len ps
        rw [szL_append]
        omega
      walk_at "rq"
      refine ⟨.inl ⟨rfl, _, .of eq⟩, _, eq, z, by simp, ?_⟩
      rw [dl]
      refine ⟨.inl ⟨rfl, _, .of (by rw [upd_ne npq]; exact ep)⟩, fs, by rw [upd_ne npq]; exact ep, line_le' (by rw [hf.len]; omega), ?_⟩
      rw [← hHa]
      have f := tform t1
      cases f with
      | leaf h d m hl =>
        obtain ⟨a, xs, rfl, ea, hx⟩ := hd1.tupR
        obtain ⟨v0, ys, rfl, h0, hx0⟩ := hx.consR
        cases h0.strR
        refine ⟨a, rfl, _, .of (sa _ _ ea), .str h, at0, _, .inr (tLEAVES Ha), rfl, flat_strs _, ?_⟩
        rw [inV_strs]
        have e0 : partsD (.tuple [.str h, d]) = [] := parts_leaf m
        refine iteY (decide_eq_true m) ⟨szL ds, by omega, ⟨⟨_, _, fs ++ [.ref a], vs, _, ds, rfl, epa, eqa, hf1, hv1, tds, by rw [← htot', e0]; rfl, rfl, by rw [List.length_append, List.length_singleton]; omega⟩, sa⟩⟩
      | choice r t v p' q' m ht =>
        obtain ⟨a, xs, rfl, ea, hx⟩ := hd1.tupR
        obtain ⟨v0, ys0, rfl, h0, hx0⟩ := hx.consR
        cases h0.strR
        obtain ⟨x1, ys1, rfl, h1, hx1⟩ := hx0.consR
        obtain ⟨x2, ys2, rfl, h2, hx2⟩ := hx1.consR
        obtain ⟨x3, ys3, rfl, h3, hx3⟩ := hx2.consR
        cases hx3.nilR
        obtain ⟨b, zs, rfl, eb, hz0⟩ := h1.tupR
        obtain ⟨y0, ws0, rfl, g0, hz1⟩ := hz0.consR
        cases g0.strR
        obtain ⟨y1, ws1, rfl, g1, hz2⟩ := hz1.consR
        obtain ⟨y2, ws2, rfl, g2, hz3⟩ := hz2.consR
        cases hz3.nilR
        have k1 : SqT K Ha a [.str "choice", .ref b, x2, x3] := .of (sa _ _ ea)
        have k2 : SqT K Ha b [.str r, y1, y2] := .of (sa _ _ eb)
        refine ⟨a, rfl, _, k1, _, at0, _, .inr (tLEAVES Ha), rfl, flat_strs _, ?_⟩
        rw [inV_strs]
        refine iteN (decide_eq_false (by decide +kernel)) ?_
        rw [rEq_str]
        refine ⟨_, rfl, iteY rfl ⟨.inl ⟨rfl, _, .of eqa⟩, a, rfl, _, k1, x3, at3, a, rfl, _, k1, x2, at2, a, rfl, _, k1, _, at1, b, rfl, _, k2, y2, at2, a, rfl, _, k1, _, at1, b, rfl, _, k2, y1, at1, ?_⟩⟩
        have e0 : [q', p', v, t].reverse = partsD (.tuple [.str "choice", .tuple [.str r, t, v], p', q']) := by rw [parts_choice]; rfl
        have lv := hv1.len
        have l2 := (less _ e0).2
        exact ⟨line_le' (by decide), fun p1 Hb sb nb eb1 => ⟨vs, sb _ _ eqa, _, .of eb1, line_le' (by show _ + 4 ≤ _; omega), _, (less _ e0).1, go _ _ Hb _ [q', p', v, t] sb (.cons h3 (.cons h2 (.cons g2 (.cons g1 .nil)))) e0⟩⟩
      | flag h f ps m mf l ht =>
        obtain ⟨a, xs, rfl, ea, hx⟩ := hd1.tupR
        obtain ⟨v0, ys, rfl, h0, hx0⟩ := hx.consR
        cases h0.strR
        obtain ⟨x1, ys1, rfl, h1, hx1⟩ := hx0.consR
        have nn := flag_not m
        refine ⟨a, rfl, _, .of (sa _ _ ea), _, at0, _, .inr (tLEAVES Ha), rfl, flat_strs _, ?_⟩
        rw [inV_strs]
        refine iteN (decide_eq_false nn.1) ?_
        rw [rEq_str]
        refine ⟨_, rfl, iteN (decide_eq_false nn.2) ?_⟩
        refine ⟨.inl ⟨rfl, _, .of eqa⟩, _, .inr (tFLAGGED Ha), rfl, flat_strs _, ?_⟩
        rw [inV_strs]
        have e0 : ps.reverse.reverse = partsD (.tuple (.str h :: .str f :: ps)) := by rw [parts_flag m, List.reverse_reverse]
        have lv := hv1.len
        have l2 := (less _ e0).2
        have l3 := hx1.len
        rw [List.length_reverse] at l2
        refine iteY (decide_eq_true m) ⟨a, rfl, _, 1, rfl, .of (sa _ _ ea), by simp, fun pn hn => ⟨vs, by rw [upd_ne (fun z => by rw [← z, eqa] at hn; cases hn)]; exact eqa, _, .of upd_same, ?_, _, (less _ e0).1, go _ _ _ _ ps.reverse (same_upd hn) hx1.reverse e0⟩⟩
        show vs.length + ys1.reverse.length ≤ _
        rw [List.length_reverse]
        exact line_le' (by omega)
      | other h ps m ht =>
        obtain ⟨a, xs, rfl, ea, hx⟩ := hd1.tupR
        obtain ⟨v0, ys, rfl, h0, hx0⟩ := hx.consR
        cases h0.strR
        obtain ⟨n1, n2, n3⟩ := other_not m
        refine ⟨a, rfl, _, .of (sa _ _ ea), _, at0, _, .inr (tLEAVES Ha), rfl, flat_strs _, ?_⟩
        rw [inV_strs]
        refine iteN (decide_eq_false n1) ?_
        rw [rEq_str]
        refine ⟨_, rfl, iteN (decide_eq_false n2) ?_⟩
        refine ⟨.inl ⟨rfl, _, .of eqa⟩, _, .inr (tFLAGGED Ha), rfl, flat_strs _, ?_⟩
        rw [inV_strs]
        have e0 : ps.reverse.reverse = partsD (.tuple (.str h :: ps)) := by rw [parts_other m, List.reverse_reverse]
        have lv := hv1.len
        have l2 := (less _ e0).2
        have l3 := hx0.len
        rw [List.length_reverse] at l2
        refine iteN (decide_eq_false n3) ⟨a, rfl, _, 0, rfl, .of (sa _ _ ea), by simp, fun pn hn => ⟨vs, by rw [upd_ne (fun z => by rw [← z, eqa] at hn; cases hn)]; exact eqa, _, .of upd_same, ?_, _, (less _ e0).1, go _ _ _ _ ps.reverse (same_upd hn) hx0.reverse e0⟩⟩
        show vs.length + ys.reverse.length ≤ _
        rw [List.length_reverse]
        exact line_le' (by omega)
end
end Vf
namespace Vf
open PySem L2 PyProof.Rows PySem.Spec

local macro_rules | `(tactic| walk_at "rd") => `(tactic| simp only [tSeq, tIfS, tOr, tAnd, tNot, tB, tTest, tChain, tCB, tCons, tNil, tVar, tC, tRet, tAndV, tOrV, tNotV, tOp, tNext, tDrop, tAsg, tPar, tYes, tIf, tCall, tCalK, tTup, tLst, tSl, tNoPart, tPart, tM0, tM1, tRevL, tBM0, tBM, gName, rI0, rI, rU, rInA, rEqA, rAddA, rMulA, rSlAny, iAny, rIsi, rAll, rAny, rSum, rList, rTuple, rLen, rLenS, rLenSeq, rMulS, CDiv, rIn, rEqD, rNeD, iList, iTup, iStr, rCat, rCatA, rSlL, rSlA, rSlS, gSub, rPop, rAppend, rSetL, rIx, rIxL, rIxT, rIxS, LenV,
  L2.start, List.map_cons, List.map_nil, List.length_cons, List.length_nil, List.cons_append, List.nil_append, List.append_nil, Nat.zero_add, Nat.add_sub_cancel, Nat.sub_self, List.replicate_succ, List.replicate_zero, List.getElem?_cons_zero, List.getElem?_cons_succ, List.set_cons_zero, List.set_cons_succ,
  Option.some.injEq, V.int.injEq, V.str.injEq, V.bl.injEq, V.ref.injEq, List.cons.injEq, and_true, true_and, exists_eq_left', exists_eq_left, exists_eq_right, exists_and_left, exists_and_right, false_or, or_false, reduceCtorEq, false_and, and_false, exists_false, Bool.not_true, Bool.not_false, if_true, if_false, Bool.false_eq_true, ite_true, ite_false])
local macro_rules | `(tactic| walk_at "rq") => `(tactic| (walk_at "rd"; (try simp only [rEq_int, rEq_str, rNe_int, tUn, rU, tC, rInT, rInK, rIxK, rExtendT, rSlU, rCatU, rEqE, rIntB, tTupU, tLstU, tDGet2, tCont, tToT, rSetS, rSortedTx, rExtend, V.int.injEq, V.str.injEq, V.bl.injEq, V.ref.injEq, exists_eq_left', exists_eq_left, Bool.false_bne, Bool.false_xor, Bool.true_xor]); (try walk_at "rd")))
theorem depth_of_mem {l : List PyData} {p : PyData} (h : p ∈ l) : p.depth ≤ PyData.depthAll l := depth_mem h
theorem depthAll_drop : ∀ (n : Nat) (l : List PyData), PyData.depthAll (l.drop n) ≤ PyData.depthAll l
  | 0, l => Nat.le_refl _
  | n + 1, [] => Nat.le_refl _
  | n + 1, d :: l => by
    have := depthAll_drop n l
    simp only [List.drop_succ_cons, PyData.depthAll]
    omega
theorem depth_parts {d x : PyData} (ht : isTD d = true) (h : x ∈ partsD d) : x.depth < d.depth := by
  cases tform ht with
  | leaf h' d m hl =>
    rw [parts_leaf m] at h
    exact absurd h List.not_mem_nil
  | choice r t v p q m hp =>
    rw [parts_choice] at h
    simp only [PyData.depth, PyData.depthAll]
    simp only [List.mem_cons, List.not_mem_nil, or_false] at h
    rcases h with rfl | rfl | rfl | rfl <;> omega
  | flag h' f ps m mf l hp =>
    rw [parts_flag m] at h
    have := depth_of_mem h
    simp only [PyData.depth, PyData.depthAll]
    omega
  | other h' ps m hp =>
    rw [parts_other m] at h
    have := depth_of_mem h
    simp only [PyData.depth, PyData.depthAll]
    omega
theorem terms_parts {d : PyData} (ht : isTD d = true) : ∀ x ∈ partsD d, isTD x = true := fun x hx => by
  rw [isTD_eq, Bool.and_eq_true] at ht
  exact List.all_eq_true.mp ht.2 x hx
section
variable {P : Program} {w : World} {K : PySem.W.Frag} {mg : Str → Option Value} {base : Heap}
/-! ## the law's own -/
def spLParts : Sp := fun vs H Q _ => ∃ (x : V) (d : PyData) (G : Hp), vs = [x] ∧ Same G H ∧ Dv G x d ∧ isTD d = true ∧ ∀ (p : Addr) (xs : List V) (H' : Hp), Same H H' → H p = none → H' p = some (.lst xs) → DvAll G xs (partsD d) → Q (.ref p) H'
abbrev s__law_parts : Stmt := top 29
theorem sc__law_parts : FnScope ["_law_it"] ["_law_it"] (defScope s__law_parts) := ⟨rfl, rfl, rfl, by decide +kernel, rfl, by decide +kernel, by decide +kernel⟩
set_option format.width 500 in
set_option format.indent 0 in
set_option pp.deepTerms true in
set_option pp.maxSteps 200000 in
theorem ok__law_parts {f : Addr} {fd : FuncData} (D : Df K mg "_law_parts" s__law_parts f fd) (T : Tx K mg) : Cal P w K mg base "_law_parts" ["_law_it"] 1 spLParts := by
  refine D.cal sc__law_parts (fun vs H Q E h => ?_) (fun _ _ _ _ _ _ us hl => match us, hl with | [_], _ => rfl) (fun cdv A outer s H vs Q E hgu hr h => ?_)
  · obtain ⟨x, d, G, rfl, _⟩ := h
    rfl
  · obtain ⟨x, d, G, rfl, sG, hd, ht, q⟩ := h
    refine ⟨_, (pss_cons (ps_if (pt_cmpR (aInSeq (K := K) rfl) (pe_ix (aIxT (K := K) rfl) (pv 0) pe_int (fun _ _ => rfl)) (pe_tupU (pa_cons pe_str (pa_cons pe_str (pa_cons pe_str pa_nil)))) (by rfl)) (pss_one (ps_ret (pe_lstU pa_nil))) pss_nil) (pss_cons (ps_if (pt_cmpR op_eq (pe_ix (aIxT (K := K) rfl) (pv 0) pe_int (fun _ _ => rfl)) pe_str (by rfl)) (pss_one (ps_ret (pe_op op_cat (pe_callTy (aList (K := K) rfl) (by rfl) T.list (by decide +kernel) (pa_cons (pe_slice (aSlU (K := K) rfl) (pe_ix (aIxT (K := K) rfl) (pv 0) pe_int (fun _ _ => rfl)) (po_some pe_int) po_none) pa_nil)) (pe_callTy (aList (K := K) rfl) (by rfl) T.list (by decide +kernel) (pa_cons (pe_slice (aSlU (K := K) rfl) (pv 0) (po_some pe_int) po_none) pa_nil))))) pss_nil) (pss_one (ps_ret (pe_ifExp (pt_cmpR (aInSeq (K := K) rfl) (pe_ix (aIxT (K := K) rfl) (pv 0) pe_int (fun _ _ => rfl)) (pe_tupU (pa_cons pe_str (pa_cons pe_str (pa_cons pe_str pa_nil)))) (by rfl)) (pe_callTy (aList (K := K) rfl) (by rfl) T.list (by decide +kernel) (pa_cons (pe_slice (aSlU (K := K) rfl) (pv 0) (po_some pe_int) po_none) pa_nil)) (pe_callTy (aList (K := K) rfl) (by rfl) T.list (by decide +kernel) (pa_cons (pe_slice (aSlU (K := K) rfl) (pv 0) (po_some pe_int) po_none) pa_nil))))))), ?_⟩
    refine seq_cut fun u hu => ?_
    walk_at "rq"
    obtain ⟨g, r, rfl⟩ : ∃ g r, d = .tuple (.str g :: r) := by
      cases tform ht <;> exact ⟨_, _, rfl⟩
    obtain ⟨a, zs, rfl, ea, hz⟩ := hd.tupR
    obtain ⟨v0, ys, rfl, h0, hz0⟩ := hz.consR
    cases h0.strR
    refine ⟨a, rfl, _, .of (sG _ _ ea), .str g, at0, line_le' (by decide), fun p1 H1 s1 n1 e1 => ⟨leavesL.map V.str, .inr (.of e1), rfl, flat_strs _, ?_⟩⟩
    rw [inV_strs]
    by_cases h1 : g ∈ leavesL
    · refine iteY (decide_eq_true h1) ⟨Nat.zero_le _, fun p2 H2 s2 n2 e2 => q p2 [] H2 (s1.trans s2) (s1.free n2) e2 ?_⟩
      rw [parts_leaf h1]
      exact .nil
    refine iteN (decide_eq_false h1) ?_
    subst hu
    refine seq_cut fun u hu => ?_
    have k1 := s1 _ _ (sG _ _ ea)
    walk_at "rq"
    refine ⟨_, .of k1, .str g, at0, ?_⟩
    rw [rEq_str]
    refine ⟨_, rfl, ?_⟩
    by_cases h2 : g = "choice"
    · subst h2
      refine iteY (decide_eq_true rfl) ?_
      cases tform ht with
      | choice r t v p' q' m hp =>
        obtain ⟨x1, ys1, rfl, g1, hx1⟩ := hz0.consR
        obtain ⟨b, ws, rfl, eb, hw⟩ := g1.tupR
        refine ⟨_, .of k1, .ref b, at1, b, rfl, ws, .of (s1 _ _ (sG _ _ eb)), fun p2 H2 s2 c2 => ⟨_, .inr c2, fun l hl => ?_⟩⟩
        have sl := s2.trans (same_upd (o := .lst (cutV ws (some 1) none)) hl)
        refine ⟨_, .of (sl _ _ k1), fun p3 H3 s3 c3 => ⟨_, .inr c3, fun l2 hl2 => ?_⟩⟩
        have el3 := s3 _ _ (upd_same (H := H2) (a := l) (o := .lst (cutV ws (some 1) none)))
        have lw := hw.len
        have lx := hx1.len
        rw [cutV1, cutV2] at *
        refine ⟨_, ne_upd hl2 el3, _, upd_same, ?_, fun pz hpz => ?_⟩
        · show (ws.drop 1).length + ys1.length ≤ _
          rw [List.length_drop, lw, lx]
          exact line_le' (by simp)
        · have sz := ((s1.trans sl).trans s3).trans (same_upd (o := .lst ys1) hl2)
          refine q pz _ _ (sz.trans (same_upd hpz)) (sz.free hpz) upd_same ?_
          rw [parts_choice]
          exact (hw.drop (n := 1)).append hx1
      | leaf h d m hl => exact absurd m h1
      | flag h f ps m mf l hp => exact absurd rfl (flag_not m).2
      | other h ps m hp => exact absurd rfl (other_not m).2.1
    refine iteN (decide_eq_false h2) ?_
    subst hu
    walk_at "rq"
    refine ⟨_, .of k1, .str g, at0, line_le' (by decide), fun p2 H2 s2 n2 e2 => ⟨flaggedL.map V.str, .inr (.of e2), rfl, flat_strs _, ?_⟩⟩
    rw [inV_strs]
    have s12 := s1.trans s2
    have k2 := s2 _ _ k1
    have fin : ∀ (n : Nat) (ds : List PyData) (xs : List V), DvAll G xs ds → ds = partsD (.tuple (.str g :: r)) → ∀ (p3 : Addr) (H3 : Hp), Same H2 H3 → SqT K H3 p3 xs → ∃ x, (SqL K H3 p3 x ∨ SqT K H3 p3 x) ∧ ∀ (l : Addr), H3 l = none → Q (V.ref l) (upd H3 l (HO.lst x)) := by
      intro n ds xs hx e p3 H3 s3 c3
      refine ⟨_, .inr c3, fun l hl => q l xs _ ((s12.trans s3).trans (same_upd hl)) ((s12.trans s3).free hl) upd_same ?_⟩
      rw [← e]
      exact hx
    by_cases h3 : g ∈ flaggedL
    · refine iteY (decide_eq_true h3) ⟨_, .of k2, fun p3 H3 s3 c3 => ?_⟩
      rw [cutV2] at c3
      cases tform ht with
      | flag h f ps m mf l hp =>
        obtain ⟨x1, ys1, rfl, g1, hx1⟩ := hz0.consR
        exact fin 0 ps ys1 hx1 (parts_flag m).symm p3 H3 s3 c3
      | choice r t v p' q' m hp => exact absurd rfl h2
      | leaf h d m hl => exact absurd m h1
      | other h ps m hp => exact absurd h3 (other_not m).2.2
    · refine iteN (decide_eq_false h3) ⟨_, .of k2, fun p3 H3 s3 c3 => ?_⟩
      rw [cutV1] at c3
      cases tform ht with
      | flag h f ps m mf l hp => exact absurd m h3
      | choice r t v p' q' m hp => exact absurd rfl h2
      | leaf h d m hl => exact absurd m h1
      | other h ps m hp => exact fin 0 r ys hz0 (parts_other m).symm p3 H3 s3 c3
end
end Vf
namespace Vf
open PySem L2 PyProof.Rows PySem.Spec
theorem wtL_flat {D : Nat} : ∀ {l : List PyData}, (∀ x ∈ l, wtL (thingsD x) ≤ D * (wt x + 5)) → wtL (l.flatMap thingsD) ≤ D * wtL l
  | [], _ => by simp [wtL]
  | x :: l, h => by
    have h1 := h x List.mem_cons_self
    have h2 := wtL_flat (l := l) fun y hy => h y (List.mem_cons_of_mem _ hy)
    rw [List.flatMap_cons, wtL_append]
    simp only [wtL]
    rw [show D * (wt x + 5 + wtL l) = D * (wt x + 5) + D * wtL l by rw [Nat.mul_add]]
    omega
theorem wt_parts {d : PyData} (ht : isTD d = true) : wtL (partsD d) ≤ wt d := by
  cases tform ht with
  | leaf h' d m hl =>
    rw [parts_leaf m]
    exact Nat.zero_le _
  | choice r t v p q m hp =>
    rw [parts_choice]
    simp only [wt, wtL]
    omega
  | flag h' f ps m mf l hp =>
    rw [parts_flag m]
    simp only [wt, wtL]
    omega
  | other h' ps m hp =>
    rw [parts_other m]
    simp only [wt, wtL]
    omega
theorem things_wt : ∀ (D : Nat) (d : PyData), isTD d = true → d.depth ≤ D → wtL (thingsD d) ≤ (D + 1) * (wt d + 5)
  | D, d, ht, hd => by
    rw [things_eq]
    simp only [wtL]
    have hp := wt_parts ht
    have key : wtL ((partsD d).flatMap thingsD) ≤ D * wtL (partsD d) := by
      refine wtL_flat fun x hx => ?_
      have h1 := depth_parts ht hx
      have := things_wt (D - 1) x (terms_parts ht x hx) (by omega)
      rw [show D - 1 + 1 = D by omega] at this
      exact this
    have : D * wtL (partsD d) ≤ D * wt d := Nat.mul_le_mul_left _ hp
    have e : (D + 1) * (wt d + 5) = D * wt d + D * 5 + wt d + 5 := by
      rw [Nat.add_mul, Nat.mul_add, Nat.one_mul]
      omega
    omega
termination_by D d => d.depth
decreasing_by omega
theorem things_sub {p : PyData → Prop} (step : ∀ d, p d → isTD d = true → ∀ x ∈ partsD d, p x) (d : PyData) (h : p d) (ht : isTD d = true) : ∀ x ∈ thingsD d, p x := by
  refine things_ind (p := fun d => p d → isTD d = true → ∀ x ∈ thingsD d, p x) (fun d ih h ht => ?_) (sz d) d (Nat.le_refl _) h ht
  intro x hx
  rw [things_eq] at hx
  rcases List.mem_cons.mp hx with rfl | hx
  · exact h
  · obtain ⟨y, hy, hxy⟩ := List.mem_flatMap.mp hx
    exact ih y hy (step d h ht y hy) (terms_parts ht y hy) x hxy
theorem ok_parts {B : Nat} {d : PyData} (h : okD B d = true) (ht : isTD d = true) : ∀ x ∈ partsD d, okD B x = true := by
  cases tform ht with
  | leaf h' d m hl =>
    rw [parts_leaf m]
    exact fun x hx => absurd hx List.not_mem_nil
  | choice r t v p q m hp =>
    rw [parts_choice]
    simp only [okD, okL, Bool.and_eq_true] at h
    obtain ⟨_, ⟨_, h1, h2, _⟩, h3, h4, _⟩ := h
    intro x hx
    simp only [List.mem_cons, List.not_mem_nil, or_false] at hx
    rcases hx with rfl | rfl | rfl | rfl
    · exact h1
    · exact h2
    · exact h3
    · exact h4
  | flag h' f ps m mf l hp =>
    rw [parts_flag m]
    simp only [okD, okL, Bool.and_eq_true] at h
    exact okL_iff.mp h.2.2
  | other h' ps m hp =>
    rw [parts_other m]
    simp only [okD, okL, Bool.and_eq_true] at h
    exact okL_iff.mp h.2
theorem layL_iff : ∀ {l : List PyData}, PyData.canLayAll0 l = true ↔ ∀ d ∈ l, PyData.canLay0 d = true
  | [] => by simp [PyData.canLayAll0]
  | d :: l => by
    simp only [PyData.canLayAll0, Bool.and_eq_true, layL_iff (l := l), List.mem_cons, forall_eq_or_imp]
theorem lay_td {B : Nat} (d : PyData) (ht : isTD d = true) (ho : okD B d = true) : PyData.canLay0 d = true := by
  refine things_ind (p := fun d => isTD d = true → okD B d = true → PyData.canLay0 d = true) (fun d ih ht ho => ?_) (sz d) d (Nat.le_refl _) ht ho
  have hp : ∀ x ∈ partsD d, PyData.canLay0 x = true := fun x hx => ih x hx (terms_parts ht x hx) (ok_parts ho ht x hx)
  cases tform ht with
  | leaf h d m hl =>
    simp only [okD, okL, Bool.and_eq_true] at ho
    simp only [PyData.canLay0, PyData.canLayAll0, Bool.and_eq_true]
    refine ⟨ho.1, ?_, trivial⟩
    cases d with
    | int i => rfl
    | str z =>
      have h3 := ho.2.1
      simp only [okD] at h3
      simp only [PyData.canLay0]
      exact h3
    | none => rfl
    | bool b => rfl
    | _ =>
      unfold leafD at hl
      split at hl
      · exact absurd hl Bool.false_ne_true
      · exact absurd hl Bool.false_ne_true
  | choice r t v p q m hq =>
    rw [parts_choice] at hp
    simp only [okD, okL, Bool.and_eq_true] at ho
    simp only [PyData.canLay0, PyData.canLayAll0, Bool.and_eq_true]
    exact ⟨ho.1, ⟨ho.2.1.1, hp t (by simp), hp v (by simp), trivial⟩, hp p (by simp), hp q (by simp), trivial⟩
  | flag h f ps m mf l hq =>
    rw [parts_flag m] at hp
    simp only [okD, okL, Bool.and_eq_true] at ho
    simp only [PyData.canLay0, PyData.canLayAll0, Bool.and_eq_true]
    exact ⟨ho.1, ho.2.1, layL_iff.mpr hp⟩
  | other h ps m hq =>
    rw [parts_other m] at hp
    simp only [okD, okL, Bool.and_eq_true] at ho
    simp only [PyData.canLay0, PyData.canLayAll0, Bool.and_eq_true]
    exact ⟨ho.1, layL_iff.mpr hp⟩
end Vf
namespace Vf
open PySem L2 PyProof.Rows PySem.Spec StX

local macro_rules | `(tactic| walk_at "rd") => `(tactic| simp only [tSeq, tIfS, tOr, tAnd, tNot, tB, tTest, tChain, tCB, tCons, tNil, tVar, tC, tRet, tAndV, tOrV, tNotV, tOp, tNext, tDrop, tAsg, tPar, tYes, tIf, tCall, tCalK, tTup, tLst, tSl, tNoPart, tPart, tM0, tM1, tRevL, tBM0, tBM, gName, rI0, rI, rU, rInA, rEqA, rAddA, rMulA, rSlAny, iAny, rIsi, rAll, rAny, rSum, rList, rTuple, rLen, rLenS, rLenSeq, rMulS, CDiv, rIn, rEqD, rNeD, iList, iTup, iStr, rCat, rCatA, rSlL, rSlA, rSlS, gSub, rPop, rAppend, rSetL, rIx, rIxL, rIxT, rIxS, LenV,
  L2.start, List.map_cons, List.map_nil, List.length_cons, List.length_nil, List.cons_append, List.nil_append, List.append_nil, Nat.zero_add, Nat.add_sub_cancel, Nat.sub_self, List.replicate_succ, List.replicate_zero, List.getElem?_cons_zero, List.getElem?_cons_succ, List.set_cons_zero, List.set_cons_succ,
  Option.some.injEq, V.int.injEq, V.str.injEq, V.bl.injEq, V.ref.injEq, List.cons.injEq, and_true, true_and, exists_eq_left', exists_eq_left, exists_eq_right, exists_and_left, exists_and_right, false_or, or_false, reduceCtorEq, false_and, and_false, exists_false, Bool.not_true, Bool.not_false, if_true, if_false, Bool.false_eq_true, ite_true, ite_false])
local macro_rules | `(tactic| walk_at "rq") => `(tactic| (walk_at "rd"; (try simp only [rEq_int, rEq_str, rNe_int, tUn, rU, tC, rInT, rInK, rIxK, rExtend, rExtendT, rSlU, rCatU, rEqE, rIntB, tTupU, tLstU, tDGet2, tCont, tToT, tStar, rCatM, rReprS, rStrN, tM0, tM1, V.int.injEq, V.str.injEq, V.bl.injEq, V.ref.injEq, exists_eq_left', exists_eq_left, Bool.false_bne, Bool.false_xor, Bool.true_xor]); (try walk_at "rd")))
theorem rNe_str {i j : Str} {H : Hp} {Q : VK} : rNe (.str i) (.str j) H Q = Q (.bl (!decide (i = j))) H := by
  have e : decide (V.str i = V.str j) = decide (i = j) := by simp
  unfold rNe
  rw [e]
  exact propext ⟨fun h => h.2, fun h => ⟨rfl, h⟩⟩
theorem head_form {d : PyData} (ht : isTD d = true) : ∃ g r, d = .tuple (.str g :: r) := by
  cases tform ht <;> exact ⟨_, _, rfl⟩
theorem num_form {r : List PyData} (ht : isTD (.tuple (.str "num" :: r)) = true) : ∃ i : Int, r = [.int i] ∧ -99 ≤ i ∧ i ≤ 99 := by
  rw [eq_leaf (show (Str.ofString "num") ∈ leavesL by decide +kernel), Bool.and_eq_true, decide_eq_true_eq] at ht
  match r, ht with
  | [d], ⟨_, h2⟩ =>
    have h2 : leafD "num" d = true := h2
    rw [leafD, if_pos rfl] at h2
    unfold numD at h2
    split at h2
    · simp only [Bool.and_eq_true, decide_eq_true_eq] at h2
      exact ⟨_, rfl, h2.1, h2.2⟩
    · exact absurd h2 Bool.false_ne_true
/-! ## the words of a term -/
def numT (i : Int) : Str := PyData.shown (.int i)
def headW : PyData → List Str
  | .tuple [.str _, .int i] => [numT i]
  | .tuple (.str h :: .str f :: _) => if h = "look" then [f] else if h = "const" then ["#" ++ f] else if f = "" then [h] else [h ++ "." ++ f]
  | .tuple (.str h :: .tuple (.str r :: _) :: _) => if h = "choice" then ["choice", r] else [h]
  | .tuple (.str h :: _) => [h]
  | _ => [""]
def headD : PyData → PyData
  | .tuple [.str h, .int i] => .tuple [.str h, .int i]
  | .tuple (.str h :: .str f :: _) => .tuple [.str h, .str f]
  | .tuple (.str h :: .tuple (.str r :: _) :: _) => if h = "choice" then .tuple [.str h, .str r] else .tuple [.str h]
  | .tuple (.str h :: _) => .tuple [.str h]
  | d => d
inductive WForm : PyData → List Str → PyData → Prop
  | look (z : Str) : isName (.str z) = true → WForm (.tuple [.str "look", .str z]) [z] (.tuple [.str "look", .str z])
  | const (z : Str) : isName (.str z) = true → WForm (.tuple [.str "const", .str z]) ["#" ++ z] (.tuple [.str "const", .str z])
  | num (i : Int) : -99 ≤ i → i ≤ 99 → WForm (.tuple [.str "num", .int i]) [numT i] (.tuple [.str "num", .int i])
  | choice (r : Str) (t v p q : PyData) : r ∈ compL → WForm (.tuple [.str "choice", .tuple [.str r, t, v], p, q]) ["choice", r] (.tuple [.str "choice", .str r])
  | flag (h f : Str) (ps : List PyData) : h ∈ flaggedL → f ∈ flagsL → ps.length = (if h = "twice" then 1 else 2) → WForm (.tuple (.str h :: .str f :: ps)) [if f = "" then h else h ++ "." ++ f] (.tuple [.str h, .str f])
  | other (h : Str) (ps : List PyData) : (h ∈ pairsL ∧ ps.length = 2) ∨ (h ∈ singlesL ∧ ps.length = 1) → WForm (.tuple (.str h :: ps)) [h] (.tuple [.str h])
theorem wform {t : PyData} (ht : isTD t = true) : WForm t (headW t) (headD t) := by
  cases tform ht with
  | leaf h d m hl =>
    simp only [leavesL, List.mem_cons, List.not_mem_nil, or_false] at m
    rcases m with rfl | rfl | rfl
    · rw [leafD, if_neg (by decide +kernel)] at hl
      unfold nameD at hl
      split at hl
      · rw [headW, headD, if_pos rfl]
        exact .look _ hl
      · exact absurd hl Bool.false_ne_true
    · rw [leafD, if_neg (by decide +kernel)] at hl
      unfold nameD at hl
      split at hl
      · rw [headW, headD, if_neg (by decide +kernel), if_pos rfl]
        exact .const _ hl
      · exact absurd hl Bool.false_ne_true
    · obtain ⟨i, e, h0, h1⟩ := num_form ht
      cases e
      exact .num i h0 h1
  | choice r t v p q m hq =>
    rw [headW, headD, if_pos rfl, if_pos rfl]
    exact .choice r t v p q m
  | flag h f ps m mf l hq =>
    obtain ⟨n1, n2⟩ : ¬ h = "look" ∧ ¬ h = "const" := (show ∀ h ∈ flaggedL, ¬ h = "look" ∧ ¬ h = "const" by decide +kernel) h m
    have e : headW (.tuple (.str h :: .str f :: ps)) = [if f = "" then h else h ++ "." ++ f] := by
      rw [headW, if_neg n1, if_neg n2]
      split <;> rfl
    rw [e, headD]
    exact .flag h f ps m mf l
  | other h ps m hq =>
    obtain ⟨q, ps', rfl⟩ : ∃ q ps', ps = q :: ps' := by
      cases ps with
      | nil => rcases m with ⟨_, m⟩ | ⟨_, m⟩ <;> cases m
      | cons q ps' => exact ⟨q, ps', rfl⟩
    obtain ⟨g, r, rfl⟩ := head_form (hq q List.mem_cons_self)
    have nc : ¬ h = "choice" := (other_not m).2.1
    rw [headW, headD, if_neg nc, if_neg nc]
    exact .other h _ m
theorem headW_ne (d : PyData) : headW d ≠ [] := by
  unfold headW
  split
  · exact List.cons_ne_nil _ _
  · split
    · exact List.cons_ne_nil _ _
    · split
      · exact List.cons_ne_nil _ _
      · split <;> exact List.cons_ne_nil _ _
  · split <;> exact List.cons_ne_nil _ _
  · exact List.cons_ne_nil _ _
  · exact List.cons_ne_nil _ _
def shownT (d : PyData) : Str := Str.join " " (headW d)
def termW (d : PyData) : List Str := (thingsD d).flatMap headW
def shownD (d : PyData) : Str := Str.join " " (termW d)
theorem word_num : ∀ n ∈ List.range 199, Word (numT ((n : Int) - 99)) ∧ (numT ((n : Int) - 99)).length ≤ 3 := by
  unfold Word
  decide +kernel
theorem numT_ok {i : Int} (h0 : -99 ≤ i) (h1 : i ≤ 99) : Word (numT i) ∧ (numT i).length ≤ 3 := by
  have := word_num (i + 99).toNat (List.mem_range.mpr (by omega))
  rw [show (((i + 99).toNat : Int) - 99) = i by omega] at this
  exact this
theorem name_word {z : Str} (h : isName (.str z) = true) : Word z ∧ z.length ≤ 8 := by
  obtain ⟨_, l, a⟩ := name_lets h
  refine ⟨fun m => ?_, l⟩
  exact absurd (a 32 m) (by decide +kernel)
theorem head_words {t : PyData} (ht : isTD t = true) : (∀ z ∈ headW t, Word z ∧ z.length ≤ 9) ∧ (headW t).length ≤ 2 := by
  have W := wform ht
  generalize headW t = ws at W ⊢
  generalize headD t = hd at W
  cases W with
  | look z h =>
    refine ⟨fun y hy => ?_, Nat.le_succ 1⟩
    rw [List.mem_singleton.mp hy]
    exact ⟨(name_word h).1, by have := (name_word h).2; omega⟩
  | const z h =>
    refine ⟨fun y hy => ?_, Nat.le_succ 1⟩
    rw [List.mem_singleton.mp hy]
    refine ⟨fun m => ?_, ?_⟩
    · rw [tl_app2] at m
      rcases List.mem_append.mp m with k | k
      · exact absurd k (by decide +kernel)
      · exact (name_word h).1 k
    · rw [strLen_append]
      have := (name_word h).2
      have e : (Str.ofString "#").length = 1 := rfl
      omega
  | num i h0 h1 =>
    refine ⟨fun y hy => ?_, Nat.le_succ 1⟩
    rw [List.mem_singleton.mp hy]
    exact ⟨(numT_ok h0 h1).1, by have := (numT_ok h0 h1).2; omega⟩
  | choice r t v p q m =>
    refine ⟨fun y hy => ?_, Nat.le_refl 2⟩
    simp only [List.mem_cons, List.not_mem_nil, or_false] at hy
    rcases hy with rfl | rfl
    · unfold Word; decide +kernel
    · exact (show ∀ r ∈ compL, Word r ∧ r.length ≤ 9 by unfold Word; decide +kernel) _ m
  | flag h f ps m mf l =>
    refine ⟨fun y hy => ?_, Nat.le_succ 1⟩
    rw [List.mem_singleton.mp hy]
    exact (show ∀ h ∈ flaggedL, ∀ f ∈ flagsL, Word (if f = "" then h else h ++ "." ++ f) ∧ (if f = "" then h else h ++ "." ++ f).length ≤ 9 by unfold Word; decide +kernel) h m f mf
  | other h ps m =>
    refine ⟨fun y hy => ?_, Nat.le_succ 1⟩
    rw [List.mem_singleton.mp hy]
    rcases m with ⟨m, _⟩ | ⟨m, _⟩
    · exact (show ∀ h ∈ pairsL, Word h ∧ h.length ≤ 9 by unfold Word; decide +kernel) h m
    · exact (show ∀ h ∈ singlesL, Word h ∧ h.length ≤ 9 by unfold Word; decide +kernel) h m
theorem sum_le {α : Type} {f : α → Nat} {n : Nat} : ∀ {l : List α}, (∀ x ∈ l, f x ≤ n) → (l.map f).sum ≤ n * l.length
  | [], _ => Nat.zero_le _
  | x :: l, h => by
    have h1 := h x List.mem_cons_self
    have h2 := sum_le (l := l) fun y hy => h y (List.mem_cons_of_mem _ hy)
    rw [List.map_cons, List.sum_cons, List.length_cons, Nat.mul_succ]
    omega
theorem shownT_len {t : PyData} (ht : isTD t = true) : (shownT t).length ≤ 20 := by
  obtain ⟨h1, h2⟩ := head_words ht
  have h3 := StrLaws.join_length_le " " (headW t)
  have h4 := sum_le (f := fun z : Str => z.length) fun z hz => (h1 z hz).2
  have e : (Str.ofString " ").length = 1 := rfl
  rw [e] at h3
  unfold shownT
  omega
section
variable {P : Program} {w : World} {K : PySem.W.Frag} {mg : Str → Option Value} {base : Heap}
def spHead : Sp := fun vs H Q _ => ∃ (x : V) (t : PyData), vs = [x] ∧ Dv H x t ∧ isTD t = true ∧ Q (.str (shownT t)) H
def spShow : Sp := fun vs H Q _ => ∃ (x : V) (d : PyData), vs = [x] ∧ Dv H x d ∧ isTD d = true ∧ sz d ≤ 500000 ∧ (thingsD d).length ≤ 100 ∧ ∀ H', Same H H' → Q (.str (shownD d)) H'
abbrev s_shown_head : Stmt := top 16
theorem sc_shown_head : FnScope ["thing", "head"] ["thing"] (defScope s_shown_head) := ⟨rfl, rfl, rfl, by decide +kernel, rfl, by decide +kernel, by decide +kernel⟩
abbrev s_show_term : Stmt := top 15
theorem sc_show_term : FnScope ["term", "thing"] ["term"] (defScope s_show_term) := ⟨rfl, rfl, rfl, by decide +kernel, rfl, by decide +kernel, by decide +kernel⟩
set_option format.width 500 in
set_option format.indent 0 in
set_option pp.deepTerms true in
set_option pp.maxSteps 200000 in
theorem ok_shown_head {f : Addr} {fd : FuncData} (D : Df K mg "shown_head" s_shown_head f fd) (T : Tx K mg) {aFLAGGED : Addr} (mFLAGGED : mg "FLAGGED" = some (.ref aFLAGGED)) (tFLAGGED : ∀ H, SqT K H aFLAGGED (flaggedL.map V.str)) : Cal P w K mg base "shown_head" ["thing"] 1 spHead := by
  refine D.cal sc_shown_head (fun vs H Q E h => ?_) (fun _ _ _ _ _ _ us hl => match us, hl with | [_], _ => rfl) (fun cdv A outer s H vs Q E hgu hr h => ?_)
  · obtain ⟨x, t, rfl, _⟩ := h
    rfl
  · obtain ⟨x, t, rfl, hd, ht, q⟩ := h
    refine ⟨_, (pss_cons (ps_set (i := 1) sc_shown_head.nd rfl (by first | exact Or.inl rfl | exact Or.inr rfl) (pe_ix (aIxT (K := K) rfl) (pv 0) pe_int (fun _ _ => rfl))) (pss_cons (ps_if (pt_cmpR op_eq (pv 1) pe_str (by rfl)) (pss_one (ps_ret (pe_ix (aIxT (K := K) rfl) (pv 0) pe_int (fun _ _ => rfl)))) pss_nil) (pss_cons (ps_if (pt_cmpR op_eq (pv 1) pe_str (by rfl)) (pss_one (ps_ret (pe_op op_add_str pe_str (pe_ix (aIxT (K := K) rfl) (pv 0) pe_int (fun _ _ => rfl))))) pss_nil) (pss_cons (ps_if (pt_cmpR op_eq (pv 1) pe_str (by rfl)) (pss_one (ps_ret (pe_callTy aStrN (by rfl) T.str (by decide +kernel) (pa_cons (pe_ix (aIxT (K := K) rfl) (pv 0) pe_int (fun _ _ => rfl)) pa_nil)))) pss_nil) (pss_cons (ps_if (pt_cmpR op_eq (pv 1) pe_str (by rfl)) (pss_one (ps_ret (pe_op op_add_str pe_str (pe_ix (aIxT (K := K) rfl) (pe_ix (aIxT (K := K) rfl) (pv 0) pe_int (fun _ _ => rfl)) pe_int (fun _ _ => rfl))))) pss_nil) (pss_cons (ps_if (PW.pt (pw_and (pt_cmpR (aInSeq (K := K) rfl) (pv 1) (pe_glob (v := .ref aFLAGGED) rfl mFLAGGED rfl) (by rfl)) (pw_and1 (pt_cmpR op_ne (pe_ix (aIxT (K := K) rfl) (pv 0) pe_int (fun _ _ => rfl)) pe_str (by rfl))))) (pss_one (ps_ret (pe_op op_add_str (pe_op op_add_str (pv 1) pe_str) (pe_ix (aIxT (K := K) rfl) (pv 0) pe_int (fun _ _ => rfl))))) pss_nil) (pss_one (ps_ret (pv 1))))))))), ?_⟩
    walk_at "rq"
    have W := wform ht
    unfold shownT at q
    generalize headW t = ws at W q
    generalize headD t = hd' at W
    have split_ : ∃ g r, t = .tuple (.str g :: r) := head_form ht
    obtain ⟨g0, r0, e0⟩ := split_
    subst e0
    obtain ⟨a, zs, rfl, ea, hz⟩ := hd.tupR
    obtain ⟨v0, ys, rfl, h0, hz0⟩ := hz.consR
    cases h0.strR
    have k := SqT.of (K := K) ea
    refine ⟨a, rfl, _, k, .str g0, at0, ?_⟩
    rw [rEq_str]
    refine ⟨_, rfl, ?_⟩
    cases W with
    | look z hn =>
      obtain ⟨v1, ys1, rfl, h1, hz1⟩ := hz0.consR
      cases h1.strR
      exact iteY (decide_eq_true rfl) ⟨a, rfl, _, k, _, at1, q⟩
    | const z hn =>
      obtain ⟨v1, ys1, rfl, h1, hz1⟩ := hz0.consR
      cases h1.strR
      refine iteN (by decide +kernel) ?_
      rw [rEq_str]
      exact ⟨_, rfl, iteY (decide_eq_true rfl) ⟨a, rfl, _, k, _, at1, z, rfl, line_le' (by have := (name_word hn).2; have e : (Str.ofString "#").length = 1 := rfl; omega), q⟩⟩
    | num i i0 i1 =>
      obtain ⟨v1, ys1, rfl, h1, hz1⟩ := hz0.consR
      cases h1.intR
      refine iteN (by decide +kernel) ?_
      rw [rEq_str]
      refine ⟨_, rfl, iteN (by decide +kernel) ?_⟩
      rw [rEq_str]
      refine ⟨_, rfl, iteY (decide_eq_true rfl) ⟨a, rfl, _, k, _, at1, .inl ⟨i, rfl, ?_, q⟩⟩⟩
      by_cases z : i.natAbs = 0
      · rw [z]
        decide
      · rw [Nat.log2_lt z]
        exact Nat.lt_of_lt_of_le (show i.natAbs < 2 ^ 7 by omega) (Nat.pow_le_pow_right (by decide) (by decide))
    | choice r t v p q' m =>
      obtain ⟨v1, ys1, rfl, h1, hz1⟩ := hz0.consR
      obtain ⟨b, ws1, rfl, eb, hw⟩ := h1.tupR
      obtain ⟨v2, ws2, rfl, h2, hw2⟩ := hw.consR
      cases h2.strR
      refine iteN (by decide +kernel) ?_
      rw [rEq_str]
      refine ⟨_, rfl, iteN (by decide +kernel) ?_⟩
      rw [rEq_str]
      refine ⟨_, rfl, iteN (by decide +kernel) ?_⟩
      rw [rEq_str]
      have hr := (show ∀ r ∈ compL, r.length ≤ 9 ∧ Str.join " " ["choice", r] = "choice " ++ r by decide +kernel) r m
      rw [hr.2] at q
      exact ⟨_, rfl, iteY (decide_eq_true rfl) ⟨a, rfl, _, k, _, at1, b, rfl, _, .of eb, _, at0, r, rfl, line_le' (by have e : (Str.ofString "choice ").length = 7 := rfl; omega), q⟩⟩
    | flag h f ps m mf l =>
      obtain ⟨v1, ys1, rfl, h1, hz1⟩ := hz0.consR
      cases h1.strR
      have no : ¬ g0 = "look" ∧ ¬ g0 = "const" ∧ ¬ g0 = "num" ∧ ¬ g0 = "choice" := (show ∀ h ∈ flaggedL, ¬ h = "look" ∧ ¬ h = "const" ∧ ¬ h = "num" ∧ ¬ h = "choice" by decide +kernel) g0 m
      refine iteN (decide_eq_false no.1) ?_
      rw [rEq_str]
      refine ⟨_, rfl, iteN (decide_eq_false no.2.1) ?_⟩
      rw [rEq_str]
      refine ⟨_, rfl, iteN (decide_eq_false no.2.2.1) ?_⟩
      rw [rEq_str]
      refine ⟨_, rfl, iteN (decide_eq_false no.2.2.2) ⟨_, .inr (tFLAGGED H), rfl, flat_strs _, ?_⟩⟩
      rw [inV_strs]
      refine iteY (decide_eq_true m) ?_
      refine ⟨a, rfl, _, k, _, at1, ?_⟩
      rw [rNe_str]
      refine ⟨_, rfl, ?_⟩
      have l1 := (show ∀ h ∈ flaggedL, h.length ≤ 9 by decide +kernel) g0 m
      have l2 := (show ∀ h ∈ flagsL, h.length ≤ 9 by decide +kernel) f mf
      by_cases e : f = ""
      · rw [if_pos e] at q
        exact iteN (by rw [decide_eq_true e]; rfl) q
      · rw [if_neg e] at q
        have e1 : (Str.ofString ".").length = 1 := rfl
        exact iteY (by rw [decide_eq_false e]; rfl) ⟨g0, rfl, line_le' (by omega), a, rfl, _, k, _, at1, f, rfl, line_le' (by rw [strLen_append]; omega), q⟩
    | other h ps m =>
      have no : ¬ g0 = "look" ∧ ¬ g0 = "const" ∧ ¬ g0 = "num" := by
        rcases m with ⟨m, _⟩ | ⟨m, _⟩
        · exact (show ∀ h ∈ pairsL, ¬ h = "look" ∧ ¬ h = "const" ∧ ¬ h = "num" by decide +kernel) g0 m
        · exact (show ∀ h ∈ singlesL, ¬ h = "look" ∧ ¬ h = "const" ∧ ¬ h = "num" by decide +kernel) g0 m
      obtain ⟨n1, n2, n3⟩ := other_not m
      refine iteN (decide_eq_false no.1) ?_
      rw [rEq_str]
      refine ⟨_, rfl, iteN (decide_eq_false no.2.1) ?_⟩
      rw [rEq_str]
      refine ⟨_, rfl, iteN (decide_eq_false no.2.2) ?_⟩
      rw [rEq_str]
      refine ⟨_, rfl, iteN (decide_eq_false n2) ⟨_, .inr (tFLAGGED H), rfl, flat_strs _, ?_⟩⟩
      rw [inV_strs]
      exact iteN (decide_eq_false n3) q
set_option format.width 500 in
set_option format.indent 0 in
set_option pp.deepTerms true in
set_option pp.maxSteps 200000 in
theorem fn_show_term {f : Addr} {fd : FuncData} (D : Df K mg "show_term" s_show_term f fd) (T : Tx K mg) (c_things_of : Cal P w K mg base "things_of" ["term"] 1 spThings) (c_shown_head : Cal P w K mg base "shown_head" ["thing"] 1 spHead) : FnG P w K mg base CX0 2 f fd ["term"] spShow := by
  refine D.fnG sc_show_term (fun vs H Q E h => ?_) (fun cdv A outer s H vs Q E hgu hr h => ?_)
  · obtain ⟨x, d, rfl, _⟩ := h
    rfl
  · obtain ⟨x, d, rfl, hd, ht, hz, hl, q⟩ := h
    refine ⟨_, (pss_one (ps_ret (pe_join pe_str (pe_lc (own := [("thing", 1)]) (g := gName 1) (tt := tYes) (by rfl) sc_show_term.nd (aWalkT (K := K) rfl (pe_cal c_things_of hgu (hr.mono (by omega)) (by rfl) (pa_cons (pv 0) pa_nil))) (blkOk_by (own := [("thing", 1)]) (N := ["term", "thing"]) (sc := defScope s_show_term) (by decide +kernel)) (fun _ _ _ _ _ => (pg_name (i := 1) sc_show_term.nd rfl (Or.inl rfl))) (fun _ _ _ _ _ => pts_nil) (fun _ _ _ _ _ => (pe_cal c_shown_head hgu (hr.mono (by omega)) (by rfl) (pa_cons (pv 1) pa_nil))))))), ?_⟩
    walk_at "rq"
    refine ⟨⟨_, rfl⟩, x, rfl, x, d, rfl, hd, ht, hz, fun p xs H1 s1 n1 e1 hx => ⟨p, rfl, ⟨xs, .of e1⟩, fun L hL => ?_⟩⟩
    refine lc_steps (steps_tup K p xs) (fun i Hc => Hc = upd H1 L (.lst ((((thingsD d).take i).map shownT).map V.str))) rfl (fun i Hc _ e => e ▸ .of (same_upd hL _ _ e1)) ?_ ?_
    · rintro i y _ hy rfl
      refine ⟨rfl, ?_⟩
      obtain ⟨t, ht', hv⟩ := dv_at hx hy
      have td := things_terms d ht t (List.mem_of_getElem? ht')
      have hi := (List.getElem?_eq_some_iff.mp ht').1
      walk_at "rq"
      refine ⟨_, rfl, y, t, rfl, hv.same (same_upd hL), td, _, upd_same, ?_, ?_⟩
      · refine Nat.lt_of_lt_of_le (?_ : _ < 1000000) (line_le' (Nat.le_refl _))
        rw [List.length_map, List.length_map, List.length_take]
        omega
      · rw [upd_upd, List.take_add_one, ht']
        simp
    · rintro _ rfl
      have el : xs.length = (thingsD d).length := hx.len
      rw [el, List.take_length]
      refine ⟨L, rfl, _, .inl (.of upd_same), ?_, ?_⟩
      · have h1 := sum_le (f := fun z : Str => z.length) (l := (thingsD d).map shownT) (n := 20) fun z hz => by
          obtain ⟨t, ht', rfl⟩ := List.mem_map.mp hz
          exact shownT_len (things_terms d ht t ht')
        have e : (Str.ofString " ").length = 1 := rfl
        rw [List.length_map] at h1
        rw [List.length_map, e]
        omega
      · rw [join_eqS, show (thingsD d).map shownT = (thingsD d).map fun x => Str.join " " (headW x) from rfl, join_flat " " headW headW_ne (thingsD d)]
        exact q _ (s1.trans (same_upd hL))
end
end Vf
namespace Vf
open PySem L2 PyProof.Rows PySem.Spec
local macro_rules | `(tactic| walk_at "rd") => `(tactic| simp only [tSeq, tIfS, tOr, tAnd, tNot, tB, tTest, tChain, tCB, tCons, tNil, tVar, tC, tRet, tAndV, tOrV, tNotV, tOp, tNext, tDrop, tAsg, tPar, tYes, tIf, tCall, tCalK, tTup, tLst, tSl, tNoPart, tPart, tM0, tM1, tRevL, tBM0, tBM, gName, rI0, rI, rU, rInA, rEqA, rAddA, rMulA, rSlAny, iAny, rIsi, rAll, rAny, rSum, rList, rTuple, rLen, rLenS, rLenSeq, rMulS, CDiv, rIn, rEqD, rNeD, iList, iTup, iStr, rCat, rCatA, rSlL, rSlA, rSlS, gSub, rPop, rAppend, rSetL, rIx, rIxL, rIxT, rIxS, LenV,
  L2.start, List.map_cons, List.map_nil, List.length_cons, List.length_nil, List.cons_append, List.nil_append, List.append_nil, Nat.zero_add, Nat.add_sub_cancel, Nat.sub_self, List.replicate_succ, List.replicate_zero, List.getElem?_cons_zero, List.getElem?_cons_succ, List.set_cons_zero, List.set_cons_succ,
  Option.some.injEq, V.int.injEq, V.str.injEq, V.bl.injEq, V.ref.injEq, List.cons.injEq, and_true, true_and, exists_eq_left', exists_eq_left, exists_eq_right, exists_and_left, exists_and_right, false_or, or_false, reduceCtorEq, false_and, and_false, exists_false, Bool.not_true, Bool.not_false, if_true, if_false, Bool.false_eq_true, ite_true, ite_false])
/-- a thing that may be asked: its kind is known -/
def Kind (K : PySem.W.Frag) (H : Hp) (x : V) : Prop := ∃ n : String, TyX K H x (.type n) ∧ (match x with | .str s => n = "str" ∧ s.length ≤ 1000 ∧ PyData.strOk s = true | _ => kitB n "str" = some false)
section
variable {P : Program} {w : World} {K : PySem.W.Frag} {mg : Str → Option Value} {base : Heap}
def spIsName (K : PySem.W.Frag) : Sp := fun vs H Q _ => ∃ (x : V), vs = [x] ∧ Kind K H x ∧ ∀ H', Same H H' → Q (.bl (isName x)) H'
abbrev s_is_name : Stmt := top 11
theorem sc_is_name : FnScope ["thing", "sign"] ["thing"] (defScope s_is_name) := ⟨rfl, rfl, rfl, by decide +kernel, rfl, by decide +kernel, by decide +kernel⟩
theorem fn_is_name {f : Addr} {fd : FuncData} (D : Df K mg "is_name" s_is_name f fd) (T : Tx K mg) {aKEPT : Addr} (mKEPT : mg "KEPT" = some (.ref aKEPT)) (tKEPT : ∀ H, SqT K H aKEPT (kept.map V.str)) {tLETTERS : Tok} (mLETTERS : mg "LETTERS" = some (.str "abcdefghijklmnopqrstuvwxyz" tLETTERS)) : FnG P w K mg base CX0 1 f fd ["thing"] (spIsName K) := by
  refine D.fnG sc_is_name (fun vs H Q E h => ?_) (fun cdv A outer s H vs Q E hgu hr h => ?_)
  · obtain ⟨x, rfl, _⟩ := h
    rfl
  · obtain ⟨x, rfl, ⟨n, ty, hn⟩, hx⟩ := h
    refine ⟨_, (pss_cons (ps_if (PW.pt (pw_or (pt_not (pt_val (pe_callB (aIsi (K := K) rfl) (by rfl) T.isinstance (by decide +kernel) (pa_cons (pv 0) (pa_cons (pe_bltn (v := .ty "str") (by rfl) T.str (by decide +kernel) rfl) pa_nil))))) (pw_or1 (pt_not (pt_chain op_le op_le pe_int (pe_callB (aLen (K := K) rfl) (by rfl) T.len (by decide +kernel) (pa_cons (pv 0) pa_nil)) pe_int))))) (pss_one (ps_ret pe_bl)) pss_nil) (pss_one (ps_ret (pe_and (pe_cmpR (aNotInSeq (K := K) rfl) (pv 0) (pe_glob (v := .ref aKEPT) rfl mKEPT rfl) (by rfl)) (pe_one (pe_callB (aAll (K := K) rfl rfl) (by rfl) T.all (by decide +kernel) (pa_cons (pe_lc (own := [("sign", 1)]) (g := gName 1) (tt := tYes) (by rfl) sc_is_name.nd (aWalk (K := K) rfl (pv 0)) (blkOk_by (own := [("sign", 1)]) (N := ["thing", "sign"]) (sc := defScope s_is_name) (by decide +kernel)) (fun _ _ _ _ _ => (pg_name (i := 1) sc_is_name.nd rfl (Or.inl rfl))) (fun _ _ _ _ _ => pts_nil) (fun _ _ _ _ _ => (pe_cmpR op_in_sign (pv 1) (pe_glob (v := .str "abcdefghijklmnopqrstuvwxyz") rfl mLETTERS ⟨_, rfl⟩) (by rfl)))) pa_nil))))))), ?_⟩
    walk_at "rd"
    have notStr : isName x = false → kitB n "str" = some false → ∃ x_1 c, (x = x_1 ∧ V.ty "str" = c) ∧ ∃ x_2 x_3, ClsV c x_3 ∧ TyX K H x_1 x_2 ∧ W.kitOne K x_2 x_3 = some false ∧ Q (V.bl false) H := fun e k =>
      ⟨x, _, ⟨rfl, rfl⟩, .type n, _, .ty "str", ty, kit_ty k, by have q := hx H (Same.refl H); rw [e] at q; exact q⟩
    cases x with
    | str z =>
      obtain ⟨rfl, hz, -⟩ := hn
      have line := sizeLine_eq
      refine ⟨_, _, ⟨rfl, rfl⟩, .type "str", _, .ty "str", ty, true, kit_ty (by decide +kernel), ?_⟩
      rw [if_neg (by decide)]
      refine ⟨z.length, ⟨by omega, rfl⟩, ?_⟩
      have q0 := hx H (Same.refl H)
      by_cases h1 : 1 ≤ z.length
      · rw [if_pos (decide_eq_true (by omega))]
        by_cases h8 : z.length ≤ 8
        · rw [if_neg (by rw [decide_eq_true (by omega)]; decide)]
          refine ⟨kept.map V.str, .inr (tKEPT H), rfl, by decide +kernel, ?_⟩
          cases hk : inV (.str z) (kept.map V.str) with
          | true =>
            rw [if_neg (by decide)]
            have e : isName (.str z) = false := by simp [isName, hk]
            rw [e] at q0
            exact q0
          | false =>
            rw [if_pos (by decide)]
            refine ⟨.str z, rfl, fun D hD => lc_pure (steps_str z) (fun _ => true) inAbc (fun _ => trivial) (by rw [signs_len]; show z.length ≤ _; omega) ?_ ?_ ?_ ?_⟩
            · exact fun _ => rfl
            · exact fun x _ acc R r => r
            · intro x hm _ acc R r
              obtain ⟨c, hc, rfl⟩ := List.mem_map.mp hm
              exact ⟨_, rfl, c, rfl, _, rfl, r⟩
            · refine ⟨D, rfl, z.cps.toList.map fun c => decide (c ∈ abc.cps.toList), .of (by rw [upd_same, inAbc_all]), ?_⟩
              have e : isName (.str z) = (z.cps.toList.map fun c => decide (c ∈ abc.cps.toList)).all id := by
                simp [isName, hk, h1, h8]
              have q1 := hx (upd H D (.lst (((signs z).filter fun _ => true).map inAbc))) (same_upd hD)
              rw [e] at q1
              exact q1
        · rw [if_pos (by rw [decide_eq_false (by omega)]; decide)]
          have e : isName (.str z) = false := by simp [isName, h8]
          rw [e] at q0
          exact q0
      · rw [if_neg (by rw [decide_eq_false (by omega)]; decide)]
        have e : isName (.str z) = false := by simp [isName, h1]
        rw [e] at q0
        exact q0
    | _ =>
      obtain ⟨x1, c, e, x2, x3, h1, h2, h3, h4⟩ := notStr rfl hn
      exact ⟨x1, c, e, x2, x3, h1, h2, false, h3, iteT h4⟩
end
end Vf
namespace Vf
open PySem L2 PyProof.Rows PySem.Spec
theorem seq_cutE {t u : TS} {D : Ends} {σ : L2.St} {H : Hp} (h : ∀ u' D', u' = u → D' = D → tSeq t u' D' σ H) : tSeq t u D σ H := h u D rfl rfl
/-! ## a list that grows beside old parts -/
theorem Same.out {G H : Hp} {D : Addr} {o : HO} (s : Same G H) (n : G D = none) : Same G (upd H D o) := fun b u e => by
  rw [upd_ne (fun z => by rw [z, n] at e; cases e)]
  exact s b u e
structure Ac (D : Addr) (ds : List PyData) (H : Hp) : Prop where
  has : ∃ zs, H D = some (.lst zs) ∧ DvAll (off D D H) zs ds
theorem Ac.start {D : Addr} {H : Hp} : Ac D [] (upd H D (.lst [])) := ⟨[], upd_same, .nil⟩
theorem off_up {D : Addr} {H : Hp} {o : HO} : off D D (upd H D o) = off D D H := by
  funext b
  unfold off
  by_cases h : b = D
  · rw [if_pos (.inl h), if_pos (.inl h)]
  · rw [if_neg (fun z => h (z.elim id id)), if_neg (fun z => h (z.elim id id)), upd_ne h]
theorem off_to {D : Addr} {H H' : Hp} (s : Same H H') : Same (off D D H) (off D D H') := off_same (Same.sv s)
theorem Ac.same {D : Addr} {ds : List PyData} {H H' : Hp} (a : Ac D ds H) (s : Same H H') : Ac D ds H' := by
  obtain ⟨zs, e, h⟩ := a.has
  exact ⟨zs, s _ _ e, h.same (off_to s)⟩
theorem Ac.add {D : Addr} {ds : List PyData} {H H' : Hp} {x : V} {dx : PyData} (a : Ac D ds H) (s : Same H H') (hx : Dv (off D D H') x dx) : ∃ zs, H' D = some (.lst zs) ∧ zs.length = ds.length ∧ Ac D (ds ++ [dx]) (upd H' D (.lst (zs ++ [x]))) := by
  obtain ⟨zs, e, h⟩ := a.has
  refine ⟨zs, s _ _ e, h.len, zs ++ [x], upd_same, ?_⟩
  rw [off_up]
  exact (h.same (off_to s)).append (.cons hx .nil)
theorem Ac.fin {D : Addr} {ds : List PyData} {H : Hp} (a : Ac D ds H) : ∃ zs, H D = some (.lst zs) ∧ DvAll H zs ds := by
  obtain ⟨zs, e, h⟩ := a.has
  exact ⟨zs, e, h.same (off_sub D D H)⟩
theorem Dv.lstR {H : Hp} {x : V} {ds : List PyData} (h : Dv H x (.list ds)) : ∃ a xs, x = .ref a ∧ H a = some (.lst xs) ∧ DvAll H xs ds := by
  cases h with
  | lst e h => exact ⟨_, _, rfl, e, h⟩
theorem dv_toInts {H : Hp} {ns : List Int} : DvAll H (ns.map V.int) (ns.map PyData.int) := by
  induction ns with
  | nil => exact .nil
  | cons n ns ih => exact .cons (.int n) ih
theorem dv_ofInts {H : Hp} : ∀ {ns : List Int} {xs : List V}, DvAll H xs (ns.map PyData.int) → xs = ns.map V.int
  | [], _, .nil => rfl
  | n :: ns, _, .cons h t => by
    cases h
    rw [dv_ofInts t]
    rfl
theorem rev_ind {α : Type} {p : List α → Prop} (h0 : p []) (hs : ∀ l a, p l → p (l ++ [a])) : ∀ (n : Nat) (l : List α), l.length = n → p l
  | 0, l, h => by rw [List.length_eq_zero_iff.mp h]; exact h0
  | n + 1, l, h => by
    rcases list_end' l with rfl | ⟨r, z, rfl⟩
    · exact h0
    · exact hs r z (rev_ind h0 hs n r (by rw [List.length_append, List.length_singleton] at h; omega))
theorem off_upE {D E : Addr} {H : Hp} {o : HO} : off D E (upd H E o) = off D E H := by
  funext b
  unfold off
  by_cases h : b = D ∨ b = E
  · rw [if_pos h, if_pos h]
  · rw [if_neg h, if_neg h, upd_ne (fun z => h (.inr z))]
theorem off_toE {D E : Addr} {H H' : Hp} (s : Same H H') : Same (off D E H) (off D E H') := off_same (Same.sv s)
theorem off_le {D E : Addr} {H : Hp} : Same (off D E H) (off D D H) := fun b o e => by
  unfold off at e ⊢
  split at e
  · cases e
  · next h =>
    rw [if_neg fun z => h (.inl (z.elim id id))]
    exact e
structure AcE (D E : Addr) (ds : List PyData) (H : Hp) : Prop where
  has : ∃ zs, H E = some (.lst zs) ∧ DvAll (off D E H) zs ds
theorem AcE.start {D E : Addr} {H : Hp} : AcE D E [] (upd H E (.lst [])) := ⟨[], upd_same, .nil⟩
theorem AcE.add {D E : Addr} {ds : List PyData} {H H' : Hp} {x : V} {dx : PyData} (a : AcE D E ds H) (s : Same H H') (hx : Dv (off D E H') x dx) : ∃ zs, H' E = some (.lst zs) ∧ zs.length = ds.length ∧ AcE D E (ds ++ [dx]) (upd H' E (.lst (zs ++ [x]))) := by
  obtain ⟨zs, e, h⟩ := a.has
  refine ⟨zs, s _ _ e, h.len, zs ++ [x], upd_same, ?_⟩
  rw [off_upE]
  exact (h.same (off_toE s)).append (.cons hx .nil)
theorem AcE.fin {D E : Addr} {ds : List PyData} {H : Hp} (a : AcE D E ds H) : ∃ zs, H E = some (.lst zs) ∧ DvAll (off D D H) zs ds := by
  obtain ⟨zs, e, h⟩ := a.has
  exact ⟨zs, e, h.same off_le⟩
theorem Ac.addAll {D : Addr} {ds dys : List PyData} {H H' : Hp} {ys : List V} (a : Ac D ds H) (s : Same H H') (hx : DvAll (off D D H') ys dys) : ∃ zs, H' D = some (.lst zs) ∧ zs.length = ds.length ∧ Ac D (ds ++ dys) (upd H' D (.lst (zs ++ ys))) := by
  obtain ⟨zs, e, h⟩ := a.has
  refine ⟨zs, s _ _ e, h.len, zs ++ ys, upd_same, ?_⟩
  rw [off_up]
  exact (h.same (off_to s)).append hx
end Vf
namespace Vf
open PySem L2 PyProof.Rows PySem.Spec StX

local macro_rules | `(tactic| walk_at "rd") => `(tactic| simp only [tSeq, tIfS, tOr, tAnd, tNot, tB, tTest, tChain, tCB, tCons, tNil, tVar, tC, tRet, tAndV, tOrV, tNotV, tOp, tNext, tDrop, tAsg, tPar, tYes, tIf, tCall, tCalK, tTup, tLst, tSl, tNoPart, tPart, tM0, tM1, tRevL, tBM0, tBM, gName, rI0, rI, rU, rInA, rEqA, rAddA, rMulA, rSlAny, iAny, rIsi, rAll, rAny, rSum, rList, rTuple, rLen, rLenS, rLenSeq, rMulS, CDiv, rIn, rEqD, rNeD, iList, iTup, iStr, rCat, rCatA, rSlL, rSlA, rSlS, gSub, rPop, rAppend, rSetL, rIx, rIxL, rIxT, rIxS, LenV,
  L2.start, List.map_cons, List.map_nil, List.length_cons, List.length_nil, List.cons_append, List.nil_append, List.append_nil, Nat.zero_add, Nat.add_sub_cancel, Nat.sub_self, List.replicate_succ, List.replicate_zero, List.getElem?_cons_zero, List.getElem?_cons_succ, List.set_cons_zero, List.set_cons_succ,
  Option.some.injEq, V.int.injEq, V.str.injEq, V.bl.injEq, V.ref.injEq, List.cons.injEq, and_true, true_and, exists_eq_left', exists_eq_left, exists_eq_right, exists_and_left, exists_and_right, false_or, or_false, reduceCtorEq, false_and, and_false, exists_false, Bool.not_true, Bool.not_false, if_true, if_false, Bool.false_eq_true, ite_true, ite_false])
local macro_rules | `(tactic| walk_at "rq") => `(tactic| (walk_at "rd"; (try simp only [rEq_int, rEq_str, rNe_int, tUn, rU, tC, rInT, rInK, rIxK, rExtend, rExtendT, rSlU, rCatU, rEqE, rIntB, tTupU, tLstU, tDGet2, tCont, tToT, tStar, rCatM, rReprS, rStrN, tM0, tM1, V.int.injEq, V.str.injEq, V.bl.injEq, V.ref.injEq, exists_eq_left', exists_eq_left, Bool.false_bne, Bool.false_xor, Bool.true_xor]); (try walk_at "rd")))
/-! ## what the words are -/
theorem num_facts : ∀ n ∈ List.range 199, (Txt.isascii (Txt.removeprefix (numT ((n : Int) - 99)) "-") && Txt.isdigit (Txt.removeprefix (numT ((n : Int) - 99)) "-") && decide ((Txt.removeprefix (numT ((n : Int) - 99)) "-").length ≤ 2) &&
    (PySem.intText? (numT ((n : Int) - 99)) == some ((n : Int) - 99)) && !isName (.str (numT ((n : Int) - 99))) && !Txt.startswith (numT ((n : Int) - 99)) "#" && !decide (numT ((n : Int) - 99) = "choice")) = true := by
  decide +kernel
theorem flag_facts : ∀ h ∈ flaggedL, ∀ f ∈ flagsL, (!isName (.str (if f = "" then h else h ++ "." ++ f)) && !Txt.startswith (if f = "" then h else h ++ "." ++ f) "#" && !(Txt.isascii (Txt.removeprefix (if f = "" then h else h ++ "." ++ f) "-") && Txt.isdigit (Txt.removeprefix (if f = "" then h else h ++ "." ++ f) "-")) &&
    decide ((Txt.partition (if f = "" then h else h ++ "." ++ f) ".").1 = h) && decide ((Txt.partition (if f = "" then h else h ++ "." ++ f) ".").2.2 = f) && (decide ((Txt.partition (if f = "" then h else h ++ "." ++ f) ".").2.1 = "") == decide (f = "")) && !decide ((if f = "" then h else h ++ "." ++ f) = "choice")) = true := by
  decide +kernel
theorem other_facts : ∀ h ∈ pairsL ++ singlesL, (!isName (.str h) && !Txt.startswith h "#" && !(Txt.isascii (Txt.removeprefix h "-") && Txt.isdigit (Txt.removeprefix h "-")) &&
    decide ((Txt.partition h ".").1 = h) && decide (h ∉ flaggedL) && (cnt h).isSome && !decide (h = "choice")) = true := by
  decide +kernel
theorem numw {i : Int} (h0 : -99 ≤ i) (h1 : i ≤ 99) : Txt.isascii (Txt.removeprefix (numT i) "-") = true ∧ Txt.isdigit (Txt.removeprefix (numT i) "-") = true ∧ (Txt.removeprefix (numT i) "-").length ≤ 2 ∧ PySem.intText? (numT i) = some i ∧ isName (.str (numT i)) = false ∧ Txt.startswith (numT i) "#" = false ∧ ¬ numT i = "choice" := by
  have h := num_facts (i + 99).toNat (List.mem_range.mpr (by omega))
  rw [show (((i + 99).toNat : Int) - 99) = i by omega] at h
  simp only [Bool.and_eq_true, decide_eq_true_eq, beq_iff_eq, Bool.not_eq_true', decide_eq_false_iff_not] at h
  obtain ⟨⟨⟨⟨⟨⟨a, b⟩, c⟩, d⟩, e⟩, f⟩, g⟩ := h
  exact ⟨a, b, c, d, e, f, g⟩
theorem name_choice {z : Str} (h : isName (.str z) = true) : ¬ z = "choice" := fun e => by
  rw [e] at h
  exact absurd h (by decide +kernel)
theorem sharp_name (z : Str) : isName (.str ("#" ++ z)) = false := by
  cases e : isName (.str ("#" ++ z)) with
  | false => rfl
  | true =>
    obtain ⟨_, _, a⟩ := name_lets e
    exact absurd (a 35 (by
      show 35 ∈ ("#" ++ z : Str).cps.toList
      rw [tl_app2]
      exact List.mem_append_left _ (by decide +kernel))) (by decide +kernel)
theorem sharp_choice (z : Str) : ¬ "#" ++ z = Str.ofString "choice" := fun e => by
  have h := congrArg (fun s : Str => s.cps.toList) e
  simp only [tl_app2] at h
  have e1 : (Str.ofString "#").cps.toList = [35] := by decide +kernel
  have e2 : (Str.ofString "choice").cps.toList = [99, 104, 111, 105, 99, 101] := by decide +kernel
  rw [e1, e2] at h
  exact absurd (List.cons.inj h).1 (by decide)
theorem sharp_starts (z : Str) : Txt.startswith ("#" ++ z) "#" = true := by
  have e1 : (Str.ofString "#").length = 1 := rfl
  unfold Txt.startswith
  have e2 : (Str.ofString "#").cps.toList = [35] := by decide +kernel
  rw [strLen_append, e1, StrLaws.subAt_eq, tl_app2, e1, e2]
  simp
theorem sharp_cut (z : Str) : cutS ("#" ++ z) (some 1) none = z := by
  apply tl_ext
  have e2 : (Str.ofString "#").cps.toList = [35] := by decide +kernel
  have h := cs_from ("#" ++ z) 1
  unfold cs at h
  rw [tl_app2, e2] at h
  exact h
theorem word_fine {t hd : PyData} {u : Str} (W : WForm t [u] hd) : u.length ≤ 9 ∧ PyData.strOk u = true := by
  cases W with
  | look z h => exact ⟨Nat.le_trans (name_fine h).1 (by decide), (name_fine h).2⟩
  | const z h =>
    refine ⟨?_, strOk_of fun x hx => ?_⟩
    · rw [strLen_append]
      have := (name_fine h).1
      have e : (Str.ofString "#").length = 1 := rfl
      omega
    · have hx : x ∈ ("#" ++ z : Str).cps.toList := hx
      rw [tl_app2] at hx
      rcases List.mem_append.mp hx with k | k
      · exact (show ∀ x ∈ (Str.ofString "#").cps.toList, x < 0x110000 by decide +kernel) x k
      · exact (name_lets h).2.2.ok x k
  | num i h0 h1 =>
    have h := (show ∀ n ∈ List.range 199, (numT ((n : Int) - 99)).length ≤ 9 ∧ PyData.strOk (numT ((n : Int) - 99)) = true by decide +kernel) (i + 99).toNat (List.mem_range.mpr (by omega))
    rw [show (((i + 99).toNat : Int) - 99) = i by omega] at h
    exact h
  | flag h f ps m mf l => exact (show ∀ h ∈ flaggedL, ∀ f ∈ flagsL, (if f = "" then h else h ++ "." ++ f).length ≤ 9 ∧ PyData.strOk (if f = "" then h else h ++ "." ++ f) = true by decide +kernel) h m f mf
  | other h ps m => exact (show ∀ h ∈ pairsL ++ singlesL, h.length ≤ 9 ∧ PyData.strOk h = true by decide +kernel) _ (List.mem_append.mpr (m.imp And.left And.left))
theorem kind_str {K : PySem.W.Frag} {H : Hp} {u : Str} (h : u.length ≤ 1000) (k : PyData.strOk u = true) : Kind K H (.str u) := ⟨"str", (Dv.str u).ty, rfl, h, k⟩
theorem word_choice {t hd : PyData} {u : Str} (W : WForm t [u] hd) : ¬ u = "choice" := by
  cases W with
  | look z h => exact name_choice h
  | const z h => exact sharp_choice z
  | num i h0 h1 => exact (numw h0 h1).2.2.2.2.2.2
  | flag h f ps m mf l =>
    have k := flag_facts h m f mf
    simp only [Bool.and_eq_true, Bool.not_eq_true', decide_eq_false_iff_not] at k
    exact k.2
  | other h ps m =>
    have k := other_facts _ (List.mem_append.mpr (m.imp And.left And.left))
    simp only [Bool.and_eq_true, Bool.not_eq_true', decide_eq_false_iff_not] at k
    exact k.2
section
variable {P : Program} {w : World} {K : PySem.W.Frag} {mg : Str → Option Value} {base : Heap}
def figs (u : Str) : Bool := Txt.isascii (Txt.removeprefix u "-") && Txt.isdigit (Txt.removeprefix u "-")
def spFigs : Sp := fun vs H Q _ => ∃ u : Str, vs = [.str u] ∧ u.length ≤ 100 ∧ ((∃ i : Int, -99 ≤ i ∧ i ≤ 99 ∧ u = numT i ∧ Q (.bl true) H) ∨ (figs u = false ∧ Q (.bl false) H))
def spHeadOf : Sp := fun vs H Q _ => ∃ (u : Str) (t hd : PyData), vs = [.str u] ∧ WForm t [u] hd ∧ ∀ (p : Addr) (H' : Hp), Same H H' → H p = none → (∃ xs, H' p = some (.tup xs)) → Dv H' (.ref p) hd → Q (.ref p) H'
def spChoiceHead : Sp := fun vs H Q _ => ∃ (a : Addr) (r : Str), vs = [.ref a] ∧ H a = some (.lst [.str r]) ∧ r ∈ compL ∧ ∀ (p : Addr) (H' : Hp), Same H H' → H p = none → (∃ xs, H' p = some (.tup xs)) → Dv H' (.ref p) (.tuple [.str "choice", .str r]) → Q (.ref p) H'
abbrev s_is_figures : Stmt := top 24
theorem sc_is_figures : FnScope ["word", "figures"] ["word"] (defScope s_is_figures) := ⟨rfl, rfl, rfl, by decide +kernel, rfl, by decide +kernel, by decide +kernel⟩
abbrev s_head_of : Stmt := top 23
theorem sc_head_of : FnScope ["word", "first", "dot", "flags"] ["word"] (defScope s_head_of) := ⟨rfl, rfl, rfl, by decide +kernel, rfl, by decide +kernel, by decide +kernel⟩
abbrev s_choice_head : Stmt := top 22
theorem sc_choice_head : FnScope ["words"] ["words"] (defScope s_choice_head) := ⟨rfl, rfl, rfl, by decide +kernel, rfl, by decide +kernel, by decide +kernel⟩
set_option format.width 500 in
set_option format.indent 0 in
set_option pp.deepTerms true in
set_option pp.maxSteps 200000 in
theorem ok_is_figures {f : Addr} {fd : FuncData} (D : Df K mg "is_figures" s_is_figures f fd) (T : Tx K mg) : Cal P w K mg base "is_figures" ["word"] 1 spFigs := by
  refine D.cal sc_is_figures (fun vs H Q E h => ?_) (fun _ _ _ _ _ _ us hl => match us, hl with | [_], _ => rfl) (fun cdv A outer s H vs Q E hgu hr h => ?_)
  · obtain ⟨u, rfl, _⟩ := h
    rfl
  · obtain ⟨u, rfl, hu, h⟩ := h
    refine ⟨_, (pss_cons (ps_set (i := 1) sc_is_figures.nd rfl (by first | exact Or.inl rfl | exact Or.inr rfl) (pe_m1 PySem.F.slot_str_removeprefix PySem.F.type_str_removeprefix mt_removeprefix (pv 0) pe_str)) (pss_cons (ps_if (pt_not (PW.pt (pw_and (pt_val (pe_m0 PySem.F.slot_str_isascii PySem.F.type_str_isascii mt_isascii (pv 1))) (pw_and (pt_val (pe_m0 PySem.F.slot_str_isdigit PySem.F.type_str_isdigit mt_isdigit (pv 1))) (pw_and1 (pt_cmpR op_le (pe_callB aLenS (by rfl) T.len (by decide +kernel) (pa_cons (pv 1) pa_nil)) pe_int (by rfl))))))) (pss_one (ps_ret pe_bl)) pss_nil) (pss_one (ps_ret (pe_cmpR op_eq (pe_callTy aStrN (by rfl) T.str (by decide +kernel) (pa_cons (pe_callTy call_int_str (by rfl) T.int (by decide +kernel) (pa_cons (pv 0) pa_nil)) pa_nil)) (pv 0) (by rfl)))))), ?_⟩
    walk_at "rq"
    refine ⟨⟨_, rfl⟩, line_le' (by omega), ⟨_, rfl⟩, ?_⟩
    rcases h with ⟨i, h0, h1, rfl, q⟩ | ⟨h, q⟩
    · obtain ⟨a1, a2, a3, a4, _⟩ := numw h0 h1
      refine iteY a1 ⟨⟨_, rfl⟩, iteY a2 ⟨line_le' (by omega), iteN (by rw [decide_eq_true (by omega)]; rfl) ⟨i, a4, by omega, ?_, ?_⟩⟩⟩
      · by_cases z : i.natAbs = 0
        · rw [z]
          decide
        · rw [Nat.log2_lt z]
          exact Nat.lt_of_lt_of_le (show i.natAbs < 2 ^ 7 by omega) (Nat.pow_le_pow_right (by decide) (by decide))
      · rw [decide_eq_true (show Str.ofString (toString i) = numT i from rfl)]
        exact q
    · unfold figs at h
      cases a1 : Txt.isascii (Txt.removeprefix u (Str.ofString "-")) with
      | false => exact iteN rfl q
      | true =>
        rw [show Txt.isascii (Txt.removeprefix u "-") = true from a1, Bool.true_and] at h
        exact iteY rfl ⟨⟨_, rfl⟩, iteN h q⟩
set_option format.width 500 in
set_option format.indent 0 in
set_option pp.deepTerms true in
set_option pp.maxSteps 200000 in
theorem ok_choice_head {f : Addr} {fd : FuncData} (D : Df K mg "choice_head" s_choice_head f fd) (T : Tx K mg) {aCOMPARISONS : Addr} (mCOMPARISONS : mg "COMPARISONS" = some (.ref aCOMPARISONS)) (tCOMPARISONS : ∀ H, SqT K H aCOMPARISONS (compL.map V.str)) : Cal P w K mg base "choice_head" ["words"] 1 spChoiceHead := by
  refine D.cal sc_choice_head (fun vs H Q E h => ?_) (fun _ _ _ _ _ _ us hl => match us, hl with | [_], _ => rfl) (fun cdv A outer s H vs Q E hgu hr h => ?_)
  · obtain ⟨a, r, rfl, _⟩ := h
    rfl
  · obtain ⟨a, r, rfl, ea, hr', q⟩ := h
    refine ⟨_, (pss_cons (ps_if (PW.pt (pw_or (pt_cmpR op_eq (pe_callB (aLenSeq (K := K) rfl) (by rfl) T.len (by decide +kernel) (pa_cons (pv 0) pa_nil)) pe_int (by rfl)) (pw_or1 (pt_cmpR (aNotInSeq (K := K) rfl) (pe_ix (aIxL (K := K) rfl) (pv 0) pe_int (fun _ _ => rfl)) (pe_glob (v := .ref aCOMPARISONS) rfl mCOMPARISONS rfl) (by rfl))))) (pss_one ps_never) pss_nil) (pss_one (ps_ret (pe_tupU (pa_cons pe_str (pa_cons (pe_ix (aIxL (K := K) rfl) (pv 0) pe_int (fun _ _ => rfl)) pa_nil)))))), ?_⟩
    walk_at "rq"
    refine ⟨_, .inl (.of ea), iteN rfl ⟨_, .of ea, .str r, at0, _, .inr (tCOMPARISONS H), rfl, flat_strs _, ?_⟩⟩
    rw [inV_strs]
    exact iteN (by rw [decide_eq_true hr']; rfl) ⟨_, .of ea, .str r, at0, line_le' (by decide), fun p H' s n e => q p H' s n ⟨_, e⟩ (.tup e (.cons (.str _) (.cons (.str r) .nil)))⟩
set_option format.width 500 in
set_option format.indent 0 in
set_option pp.deepTerms true in
set_option pp.maxSteps 200000 in
theorem ok_head_of {f : Addr} {fd : FuncData} (D : Df K mg "head_of" s_head_of f fd) (T : Tx K mg) (c_is_name : Cal P w K mg base "is_name" ["thing"] 1 (spIsName K)) (c_is_figures : Cal P w K mg base "is_figures" ["word"] 1 spFigs) {aFLAGGED : Addr} (mFLAGGED : mg "FLAGGED" = some (.ref aFLAGGED)) (tFLAGGED : ∀ H, SqT K H aFLAGGED (flaggedL.map V.str))
    {aFLAGS : Addr} (mFLAGS : mg "FLAGS" = some (.ref aFLAGS)) (tFLAGS : ∀ H, SqT K H aFLAGS (flagsL.map V.str)) {aPART_COUNTS : Addr} (mPART_COUNTS : mg "PART_COUNTS" = some (.ref aPART_COUNTS)) (cPART_COUNTS : Cnt K w aPART_COUNTS cnt) : Cal P w K mg base "head_of" ["word"] 2 spHeadOf := by
  refine D.cal sc_head_of (fun vs H Q E h => ?_) (fun _ _ _ _ _ _ us hl => match us, hl with | [_], _ => rfl) (fun cdv A outer s H vs Q E hgu hr h => ?_)
  · obtain ⟨u, t, hd, rfl, _⟩ := h
    rfl
  · obtain ⟨u, t, hd, rfl, W, q⟩ := h
    refine ⟨_, (pss_cons (ps_if (pt_val (pe_cal c_is_name hgu (hr.mono (by omega)) (by rfl) (pa_cons (pv 0) pa_nil))) (pss_one (ps_ret (pe_tupU (pa_cons pe_str (pa_cons (pv 0) pa_nil))))) pss_nil) (pss_cons (ps_if (PW.pt (pw_and (pt_val (pe_m1 PySem.F.slot_str_startswith PySem.F.type_str_startswith mt_startswith (pv 0) pe_str)) (pw_and1 (pt_val (pe_cal c_is_name hgu (hr.mono (by omega)) (by rfl) (pa_cons (pe_slice sl_str (pv 0) (po_some pe_int) po_none) pa_nil)))))) (pss_one (ps_ret (pe_tupU (pa_cons pe_str (pa_cons (pe_slice sl_str (pv 0) (po_some pe_int) po_none) pa_nil))))) pss_nil) (pss_cons (ps_if (pt_val (pe_cal c_is_figures hgu (hr.mono (by omega)) (by rfl) (pa_cons (pv 0) pa_nil))) (pss_one (ps_ret (pe_tupU (pa_cons pe_str (pa_cons (pe_callTy call_int_str (by rfl) T.int (by decide +kernel) (pa_cons (pv 0) pa_nil)) pa_nil))))) pss_nil) (pss_cons (ps_asg (pe_m1 PySem.F.slot_str_partition PySem.F.type_str_partition mt_partition (pv 0) pe_str) (pg_tup rfl (pgs_cons (pg_name (i := 1) sc_head_of.nd rfl (by first | exact Or.inl rfl | exact Or.inr rfl)) (pgs_cons (pg_name (i := 2) sc_head_of.nd rfl (by first | exact Or.inl rfl | exact Or.inr rfl)) (pgs_cons (pg_name (i := 3) sc_head_of.nd rfl (by first | exact Or.inl rfl | exact Or.inr rfl)) pgs_nil))))) (pss_cons (ps_if (PW.pt (pw_and (pt_cmpR (aInSeq (K := K) rfl) (pv 1) (pe_glob (v := .ref aFLAGGED) rfl mFLAGGED rfl) (by rfl)) (pw_and (pt_cmpR (aInSeq (K := K) rfl) (pv 3) (pe_glob (v := .ref aFLAGS) rfl mFLAGS rfl) (by rfl)) (pw_and1 (pt_cmpR op_eq (pe_cmpR op_eq (pv 2) pe_str (by rfl)) (pe_cmpR op_eq (pv 3) pe_str (by rfl)) (by rfl)))))) (pss_one (ps_ret (pe_tupU (pa_cons (pv 1) (pa_cons (pv 3) pa_nil))))) pss_nil) (pss_cons (ps_if (pt_cmpR (aInK cPART_COUNTS) (pv 0) (pe_glob (v := .ref aPART_COUNTS) rfl mPART_COUNTS rfl) (by rfl)) (pss_one (ps_ret (pe_tupU (pa_cons (pv 0) pa_nil)))) pss_nil) (pss_one ps_never))))))), ?_⟩
    walk_at "rq"
    obtain ⟨fl, fo⟩ := word_fine W
    refine ⟨_, rfl, kind_str (by omega) fo, fun H1 s1 => ⟨_, rfl, ?_⟩⟩
    -- neither a name nor a const
    have go : isName (.str u) = false → Txt.startswith u "#" = false → (∀ (A B C : Prop), (if isName (.str u) = true then A else C) = C ∧ (if Txt.startswith u "#" = true then B else C) = C) := fun e1 e2 A B C => ⟨if_neg (by rw [e1]; exact Bool.false_ne_true), if_neg (by rw [e2]; exact Bool.false_ne_true)⟩
    cases W with
    | look z h => exact iteY h ⟨line_le' (by decide), fun p H' s n e => q p H' (s1.trans s) (s1.free n) ⟨_, e⟩ (.tup e (.cons (.str _) (.cons (.str u) .nil)))⟩
    | const z h =>
      have nf := name_fine h
      refine iteN (sharp_name z) ⟨⟨_, rfl⟩, iteY (sharp_starts z) ⟨line_le' (by omega), ?_⟩⟩
      rw [sharp_cut]
      exact ⟨_, rfl, kind_str (by omega) nf.2, fun H2 s2 => ⟨_, rfl, iteY h ⟨line_le' (by omega), line_le' (by decide), fun p H' s n e => q p H' ((s1.trans s2).trans s) ((s1.trans s2).free n) ⟨_, e⟩ (.tup e (.cons (.str _) (.cons (.str z) .nil)))⟩⟩⟩
    | num i h0 h1 =>
      obtain ⟨a1, a2, a3, a4, a5, a6, _⟩ := numw h0 h1
      exact iteN a5 ⟨⟨_, rfl⟩, iteN a6 ⟨_, rfl, by omega, .inl ⟨i, h0, h1, rfl, ⟨_, rfl, iteY rfl ⟨i, a4, by omega, line_le' (by decide), fun p H' s n e => q p H' (s1.trans s) (s1.free n) ⟨_, e⟩ (.tup e (.cons (.str _) (.cons (.int i) .nil)))⟩⟩⟩⟩⟩
    | flag h f ps m mf l =>
      have k := flag_facts h m f mf
      simp only [Bool.and_eq_true, Bool.not_eq_true', decide_eq_false_iff_not, decide_eq_true_eq, beq_iff_eq] at k
      obtain ⟨⟨⟨⟨⟨⟨k1, k2⟩, k3⟩, k4⟩, k5⟩, k6⟩, _⟩ := k
      refine iteN k1 ⟨⟨_, rfl⟩, iteN k2 ⟨_, rfl, by omega, .inr ⟨k3, ⟨_, rfl, iteN rfl ⟨⟨_, rfl⟩, rfl, line_le' (by omega), fun p np => ?_⟩⟩⟩⟩⟩
      refine ⟨p, _, rfl, .of upd_same, rfl, _, _, rfl, _, _, rfl, _, _, rfl, rfl, ?_⟩
      rw [k4, k5]
      walk_at "rq"
      refine ⟨_, .inr (tFLAGGED _), rfl, flat_strs _, ?_⟩
      rw [inV_strs]
      refine iteY (decide_eq_true m) ⟨_, .inr (tFLAGS _), rfl, flat_strs _, ?_⟩
      rw [inV_strs]
      refine iteY (decide_eq_true mf) ⟨rfl, _, rfl, iteY (decide_eq_true (congrArg V.bl k6)) ⟨line_le' (by decide), fun p8 H' s n e => ?_⟩⟩
      have sz := (s1.trans (same_upd np)).trans s
      exact q p8 H' sz ((s1.trans (same_upd np)).free n) ⟨_, e⟩ (.tup e (.cons (.str _) (.cons (.str f) .nil)))
    | other h ps m =>
      have k := other_facts _ (List.mem_append.mpr (m.imp And.left And.left))
      simp only [Bool.and_eq_true, Bool.not_eq_true', decide_eq_false_iff_not, decide_eq_true_eq] at k
      obtain ⟨⟨⟨⟨⟨⟨k1, k2⟩, k3⟩, k4⟩, k5⟩, k6⟩, _⟩ := k
      refine iteN k1 ⟨⟨_, rfl⟩, iteN k2 ⟨_, rfl, by omega, .inr ⟨k3, ⟨_, rfl, iteN rfl ⟨⟨_, rfl⟩, rfl, line_le' (by omega), fun p np => ?_⟩⟩⟩⟩⟩
      refine ⟨p, _, rfl, .of upd_same, rfl, _, _, rfl, _, _, rfl, _, _, rfl, rfl, ?_⟩
      rw [k4]
      walk_at "rq"
      refine ⟨_, .inr (tFLAGGED _), rfl, flat_strs _, ?_⟩
      rw [inV_strs]
      refine iteN (decide_eq_false k5) (iteY k6 ⟨line_le' (by decide), fun p8 H' s n e => ?_⟩)
      have sz := (s1.trans (same_upd np)).trans s
      exact q p8 H' sz ((s1.trans (same_upd np)).free n) ⟨_, e⟩ (.tup e (.cons (.str _) .nil))
end
end Vf
namespace Vf
open PySem L2 PyProof.Rows PySem.Spec StX

local macro_rules | `(tactic| walk_at "rd") => `(tactic| simp only [tSeq, tIfS, tOr, tAnd, tNot, tB, tTest, tChain, tCB, tCons, tNil, tVar, tC, tRet, tAndV, tOrV, tNotV, tOp, tNext, tDrop, tAsg, tPar, tYes, tIf, tCall, tCalK, tTup, tLst, tSl, tNoPart, tPart, tM0, tM1, tRevL, tBM0, tBM, gName, rI0, rI, rU, rInA, rEqA, rAddA, rMulA, rSlAny, iAny, rIsi, rAll, rAny, rSum, rList, rTuple, rLen, rLenS, rLenSeq, rMulS, CDiv, rIn, rEqD, rNeD, iList, iTup, iStr, rCat, rCatA, rSlL, rSlA, rSlS, gSub, rPop, rAppend, rSetL, rIx, rIxL, rIxT, rIxS, LenV,
  L2.start, List.map_cons, List.map_nil, List.length_cons, List.length_nil, List.cons_append, List.nil_append, List.append_nil, Nat.zero_add, Nat.add_sub_cancel, Nat.sub_self, List.replicate_succ, List.replicate_zero, List.getElem?_cons_zero, List.getElem?_cons_succ, List.set_cons_zero, List.set_cons_succ,
  Option.some.injEq, V.int.injEq, V.str.injEq, V.bl.injEq, V.ref.injEq, List.cons.injEq, and_true, true_and, exists_eq_left', exists_eq_left, exists_eq_right, exists_and_left, exists_and_right, false_or, or_false, reduceCtorEq, false_and, and_false, exists_false, Bool.not_true, Bool.not_false, if_true, if_false, Bool.false_eq_true, ite_true, ite_false])
local macro_rules | `(tactic| walk_at "rq") => `(tactic| (walk_at "rd"; (try simp only [rEq_int, rEq_str, rNe_int, tUn, rU, tC, rInT, rInK, rIxK, rExtend, rExtendT, rSlU, rCatU, rEqE, rIntB, tTupU, tLstU, tDGet2, tCont, tToT, tStar, rCatM, rReprS, rStrN, tM0, tM1, tCKw, rMaxDf, V.int.injEq, V.str.injEq, V.bl.injEq, V.ref.injEq, exists_eq_left', exists_eq_left, Bool.false_bne, Bool.false_xor, Bool.true_xor]); (try walk_at "rd")))
theorem flat_take {ds : List PyData} {i : Nat} {t : PyData} (e : ds[i]? = some t) : (ds.take (i + 1)).flatMap headW = (ds.take i).flatMap headW ++ headW t := by
  rw [List.take_add_one, e, List.flatMap_append]
  simp
theorem flat_split {ds : List PyData} {i : Nat} {t : PyData} (e : ds[i]? = some t) : ds.flatMap headW = (ds.take i).flatMap headW ++ (headW t ++ (ds.drop (i + 1)).flatMap headW) := by
  have h : ds = ds.take i ++ (t :: ds.drop (i + 1)) := by
    obtain ⟨hi, e⟩ := List.getElem?_eq_some_iff.mp e
    rw [← e, List.getElem_cons_drop_succ_eq_drop, List.take_append_drop]
  conv => lhs; rw [h]
  rw [List.flatMap_append, List.flatMap_cons]
theorem at_mid {l r : List V} {x : V} : atI (l ++ x :: r) (l.length : Int) = some x := by
  rw [atI_nat (by simp)]
  simp
/-- the walk over words -/
structure HW (H : Hp) (ds : List PyData) (a p : Addr) (m : Nat) (σ : L2.St) (Hc : Hp) : Prop where
  ex : ∃ k, k + m = ds.length ∧ σ = [some (.ref a), some (.ref p), some (.int (((ds.take k).flatMap headW).length : Nat))] ∧ Ac p ((ds.take k).map headD) Hc
  same : Same H Hc
section
variable {P : Program} {w : World} {K : PySem.W.Frag} {mg : Str → Option Value} {base : Heap}
def spHeads : Sp := fun vs H Q _ => ∃ (a : Addr) (ds : List PyData), vs = [.ref a] ∧ H a = some (.lst ((ds.flatMap headW).map V.str)) ∧ (∀ t ∈ ds, isTD t = true) ∧ ds.length ≤ 100 ∧ ∀ (p : Addr) (ys : List V) (H' : Hp), Same H H' → H p = none → H' p = some (.lst ys) → DvAll H' ys (ds.map headD) → Q (.ref p) H'
abbrev s_heads_of : Stmt := top 21
theorem sc_heads_of : FnScope ["words", "heads", "at"] ["words"] (defScope s_heads_of) := ⟨rfl, rfl, rfl, by decide +kernel, rfl, by decide +kernel, by decide +kernel⟩
set_option format.width 500 in
set_option format.indent 0 in
set_option pp.deepTerms true in
set_option pp.maxSteps 200000 in
theorem ok_heads_of {f : Addr} {fd : FuncData} (D : Df K mg "heads_of" s_heads_of f fd) (T : Tx K mg) (c_head_of : Cal P w K mg base "head_of" ["word"] 2 spHeadOf) (c_choice_head : Cal P w K mg base "choice_head" ["words"] 1 spChoiceHead) : Cal P w K mg base "heads_of" ["words"] 3 spHeads := by
  refine D.cal sc_heads_of (fun vs H Q E h => ?_) (fun _ _ _ _ _ _ us hl => match us, hl with | [_], _ => rfl) (fun cdv A outer s H vs Q E hgu hr h => ?_)
  · obtain ⟨a, ds, rfl, _⟩ := h
    rfl
  · obtain ⟨a, ds, rfl, ea, ht, hl, q⟩ := h
    refine ⟨_, (pss_cons (ps_set (i := 1) sc_heads_of.nd rfl (by first | exact Or.inl rfl | exact Or.inr rfl) (pe_lstU pa_nil)) (pss_cons (ps_set (i := 2) sc_heads_of.nd rfl (by first | exact Or.inl rfl | exact Or.inr rfl) pe_int) (pss_cons (ps_while PassesOwn.never (pt_cmpR op_lt (pv 2) (pe_callB (aLenSeq (K := K) rfl) (by rfl) T.len (by decide +kernel) (pa_cons (pv 0) pa_nil)) (by rfl)) (pss_one (ps_if (pt_cmpR op_eq (pe_ix (aIxL (K := K) rfl) (pv 0) (pv 2) (fun _ _ => rfl)) pe_str (by rfl)) (pss_cons (ps_expr (pe_bm PySem.F.plainAttrs_list PySem.F.slot_list_append PySem.F.type_list_append mt_append (pv 1) (pa_cons (pe_cal c_choice_head hgu (hr.mono (by omega)) (by rfl) (pa_cons (pe_slice (aSlL (K := K) rfl) (pv 0) (po_some (pe_op op_add (pv 2) pe_int)) (po_some (pe_op op_add (pv 2) pe_int))) pa_nil)) pa_nil))) (pss_one (ps_aug (i := 2) sc_heads_of.nd rfl (by first | exact Or.inl rfl | exact Or.inr rfl) pe_int ip_add))) (pss_cons (ps_expr (pe_bm PySem.F.plainAttrs_list PySem.F.slot_list_append PySem.F.type_list_append mt_append (pv 1) (pa_cons (pe_cal c_head_of hgu (hr.mono (by omega)) (by rfl) (pa_cons (pe_ix (aIxL (K := K) rfl) (pv 0) (pv 2) (fun _ _ => rfl)) pa_nil)) pa_nil))) (pss_one (ps_aug (i := 2) sc_heads_of.nd rfl (by first | exact Or.inl rfl | exact Or.inr rfl) pe_int ip_add)))))) (pss_one (ps_ret (pv 1)))))), ?_⟩
    walk_at "rq"
    refine ⟨Nat.zero_le _, fun p H1 s1 n1 e1 => ⟨HW H ds a p, ⟨ds.length, ⟨⟨0, Nat.zero_add _, rfl, ⟨[], e1, .nil⟩⟩, s1⟩⟩, fun m σ Hc hw => ?_⟩⟩
    obtain ⟨⟨k, hk, rfl, ac⟩, sc⟩ := hw
    have eac := sc _ _ ea
    have fl : ((ds.flatMap headW).map V.str).length = (ds.flatMap headW).length := List.length_map _
    walk_at "rq"
    refine ⟨_, .inl (.of eac), ?_⟩
    rw [fl]
    cases m with
    | zero =>
      obtain rfl : k = ds.length := by omega
      rw [List.take_length] at ac ⊢
      refine iteN (decide_eq_false (by omega)) ?_
      obtain ⟨ys, ey, hy⟩ := ac.fin
      exact q p ys Hc sc n1 ey hy
    | succ m =>
      obtain ⟨t, et⟩ : ∃ t, ds[k]? = some t := ⟨_, List.getElem?_eq_getElem (by omega)⟩
      have td := ht t (List.mem_of_getElem? et)
      have W := wform td
      have e1' := flat_split et
      have e2' := flat_take et
      have e3' : (ds.take (k + 1)).map headD = (ds.take k).map headD ++ [headD t] := by
        rw [List.take_add_one, et]
        simp
      have len : (ds.flatMap headW).length = ((ds.take k).flatMap headW).length + ((headW t).length + ((ds.drop (k + 1)).flatMap headW).length) := by
        rw [e1', List.length_append, List.length_append]
      have nh : 0 < (headW t).length := List.length_pos_iff.mpr (headW_ne t)
      refine iteY (decide_eq_true (by omega)) ⟨fun σ' H' => ∃ m', m' < m + 1 ∧ HW H ds a p m' σ' H', fun _ _ h => h, ?_⟩
      have next : ∀ (n : Nat) (x : V) (Hd : Hp), n = (headW t).length → Same Hc Hd → Dv (off p p Hd) x (headD t) → ∃ zs, Hd p = some (.lst zs) ∧ zs.length < sizeLine ∧ ∃ m', m' < m + 1 ∧ HW H ds a p m' [some (.ref a), some (.ref p), some (.int ((((ds.take k).flatMap headW).length : Nat) + (n : Nat)))] (upd Hd p (.lst (zs ++ [x]))) := by
        intro n x Hd hn sd hx
        obtain ⟨zs, ez, lz, a2⟩ := ac.add sd hx
        refine ⟨zs, ez, ?_, m, Nat.lt_succ_self m, ⟨k + 1, by omega, ?_, by rw [e3']; exact a2⟩, Same.out (sc.trans sd) n1⟩
        · rw [lz, List.length_map, List.length_take]
          refine Nat.lt_of_lt_of_le (?_ : _ < 1000000) (line_le' (Nat.le_refl _))
          omega
        · rw [e2', List.length_append, hn]
          rfl
      obtain ⟨zs0, ez0, _⟩ := ac.has
      have sq : ∀ Hd, Same Hc Hd → SqL K Hd a ((((ds.take k).flatMap headW).map V.str) ++ ((headW t).map V.str ++ (((ds.drop (k + 1)).flatMap headW).map V.str))) := fun Hd sd => by
        have := sd _ _ eac
        rw [e1', List.map_append, List.map_append] at this
        exact .of this
      have ll : (((ds.take k).flatMap headW).map V.str).length = ((ds.take k).flatMap headW).length := List.length_map _
      generalize ((ds.take k).flatMap headW).length = n0 at next ll len ⊢
      generalize ((ds.take k).flatMap headW).map V.str = A at sq ll
      generalize ((ds.drop (k + 1)).flatMap headW).map V.str = B at sq
      have at_ : ∀ (u : Str) (r : List Str), headW t = u :: r → atI (A ++ ((headW t).map V.str ++ B)) (n0 : Int) = some (.str u) := fun u r e => by
        rw [e, ← ll]
        exact at_mid
      have noP : ∀ (q0 : Addr) (Hd : Hp) (xs : List V), Same Hc Hd → Hd q0 = some (.tup xs) → q0 ≠ p := fun q0 Hd xs sd e z => by
        have := sd _ _ ez0
        rw [← z, e] at this
        cases this
      -- a head made behind some new things
      have put : ∀ (q0 : Addr) (Hd : Hp), Same Hc Hd → (∃ xs, Hd q0 = some (.tup xs)) → Dv Hd (.ref q0) (headD t) → Dv (off p p Hd) (.ref q0) (headD t) := by
        intro q0 Hd sd ⟨xs, e⟩ hdv
        have np := noP q0 Hd xs sd e
        have W' := W
        generalize headD t = hd at W' hdv
        generalize headW t = ws at W'
        have e' : off p p Hd q0 = some (.tup xs) := off_get e np np
        cases W' with
        | look z h =>
          obtain ⟨a1, xs1, e1, e2, h1⟩ := hdv.tupR
          cases e1
          rw [e] at e2
          cases e2
          obtain ⟨y0, ys0, rfl, g0, h2⟩ := h1.consR
          obtain ⟨y1, ys1, rfl, g1, h3⟩ := h2.consR
          cases h3.nilR
          cases g0.strR
          cases g1.strR
          exact .tup e' (.cons (.str _) (.cons (.str _) .nil))
        | const z h =>
          obtain ⟨a1, xs1, e1, e2, h1⟩ := hdv.tupR
          cases e1
          rw [e] at e2
          cases e2
          obtain ⟨y0, ys0, rfl, g0, h2⟩ := h1.consR
          obtain ⟨y1, ys1, rfl, g1, h3⟩ := h2.consR
          cases h3.nilR
          cases g0.strR
          cases g1.strR
          exact .tup e' (.cons (.str _) (.cons (.str _) .nil))
        | num i h0 h1' =>
          obtain ⟨a1, xs1, e1, e2, h1⟩ := hdv.tupR
          cases e1
          rw [e] at e2
          cases e2
          obtain ⟨y0, ys0, rfl, g0, h2⟩ := h1.consR
          obtain ⟨y1, ys1, rfl, g1, h3⟩ := h2.consR
          cases h3.nilR
          cases g0.strR
          cases g1.intR
          exact .tup e' (.cons (.str _) (.cons (.int _) .nil))
        | choice r t v p' q' m =>
          obtain ⟨a1, xs1, e1, e2, h1⟩ := hdv.tupR
          cases e1
          rw [e] at e2
          cases e2
          obtain ⟨y0, ys0, rfl, g0, h2⟩ := h1.consR
          obtain ⟨y1, ys1, rfl, g1, h3⟩ := h2.consR
          cases h3.nilR
          cases g0.strR
          cases g1.strR
          exact .tup e' (.cons (.str _) (.cons (.str _) .nil))
        | flag h f ps m mf l =>
          obtain ⟨a1, xs1, e1, e2, h1⟩ := hdv.tupR
          cases e1
          rw [e] at e2
          cases e2
          obtain ⟨y0, ys0, rfl, g0, h2⟩ := h1.consR
          obtain ⟨y1, ys1, rfl, g1, h3⟩ := h2.consR
          cases h3.nilR
          cases g0.strR
          cases g1.strR
          exact .tup e' (.cons (.str _) (.cons (.str _) .nil))
        | other h ps m =>
          obtain ⟨a1, xs1, e1, e2, h1⟩ := hdv.tupR
          cases e1
          rw [e] at e2
          cases e2
          obtain ⟨y0, ys0, rfl, g0, h2⟩ := h1.consR
          cases h2.nilR
          cases g0.strR
          exact .tup e' (.cons (.str _) .nil)
      have one : ∀ u hd, headW t = [u] → headD t = hd → ∃ x, SqL K Hc a x ∧ ∃ x_1, atI x (n0 : Int) = some x_1 ∧ x_1 = .str u ∧ WForm t [u] hd := fun u hd e1 e2 => ⟨_, sq Hc (Same.refl Hc), _, at_ u [] e1, rfl, by rw [← e1, ← e2]; exact W⟩
      refine ⟨_, sq Hc (Same.refl Hc), ?_⟩
      rcases (show (∃ u, headW t = [u]) ∨ ∃ r : Str, headW t = ([Str.ofString "choice", r] : List Str) ∧ r ∈ compL ∧ headD t = .tuple [.str "choice", .str r] from by
        have W' := W
        generalize headD t = hd at W'
        generalize headW t = ws at W'
        cases W' with
        | look z h => exact .inl ⟨_, rfl⟩
        | const z h => exact .inl ⟨_, rfl⟩
        | num i h0 h1 => exact .inl ⟨_, rfl⟩
        | choice r t v p' q' m => exact .inr ⟨r, rfl, m, rfl⟩
        | flag h f ps m mf l => exact .inl ⟨_, rfl⟩
        | other h ps m => exact .inl ⟨_, rfl⟩) with ⟨u, eu⟩ | ⟨r, er, hr', ed⟩
      · have W1 : WForm t [u] (headD t) := by rw [← eu]; exact W
        refine ⟨_, at_ u [] eu, ?_⟩
        rw [rEq_str]
        refine ⟨_, rfl, iteN (decide_eq_false (word_choice W1)) ⟨.inl ⟨rfl, _, .of ez0⟩, _, sq Hc (Same.refl Hc), _, at_ u [] eu, u, t, headD t, rfl, W1, fun q0 Hd sd nq ex hdv => ?_⟩⟩
        obtain ⟨zs, e1, l1, m', lt, hw⟩ := next 1 (.ref q0) Hd (by rw [eu]; rfl) sd (put q0 Hd sd ex hdv)
        refine ⟨zs, e1, l1, ?_⟩
        exact ⟨_, rfl, _, _, rfl, rfl, m', lt, hw⟩
      · refine ⟨_, at_ "choice" [r] er, ?_⟩
        rw [rEq_str]
        refine ⟨_, rfl, iteY (decide_eq_true rfl) ⟨.inl ⟨rfl, _, .of ez0⟩, _, sq Hc (Same.refl Hc), fun pc npc => ?_⟩⟩
        have cut : cutV (A ++ ((headW t).map V.str ++ B)) (some ((n0 : Int) + 1)) (some ((n0 : Int) + 2)) = [.str r] := by
          have h := cutV_mid (A ++ ((headW t).map V.str ++ B)) (n0 + 1) 1
          rw [show (((n0 + 1 : Nat) : Int)) = (n0 : Int) + 1 by omega, show ((n0 : Int) + 1 + ((1 : Nat) : Int)) = (n0 : Int) + 2 by omega] at h
          rw [h, er, ← ll]
          simp
        rw [cut]
        have s1c := same_upd (o := .lst [V.str r]) npc
        refine ⟨pc, r, rfl, upd_same, hr', fun q0 Hd sd nq ex hdv => ?_⟩
        rw [← ed] at hdv
        obtain ⟨zs, e1, l1, m', lt, hw⟩ := next 2 (.ref q0) Hd (by rw [er]; rfl) (s1c.trans sd) (put q0 Hd (s1c.trans sd) ex hdv)
        refine ⟨zs, e1, l1, ?_⟩
        exact ⟨_, rfl, _, _, rfl, rfl, m', lt, hw⟩
end
end Vf
namespace Vf
open PySem L2 PyProof.Rows PySem.Spec StX RT

local macro_rules | `(tactic| walk_at "rd") => `(tactic| simp only [tSeq, tIfS, tOr, tAnd, tNot, tB, tTest, tChain, tCB, tCons, tNil, tVar, tC, tRet, tAndV, tOrV, tNotV, tOp, tNext, tDrop, tAsg, tPar, tYes, tIf, tCall, tCalK, tTup, tLst, tSl, tNoPart, tPart, tM0, tM1, tRevL, tBM0, tBM, gName, rI0, rI, rU, rInA, rEqA, rAddA, rMulA, rSlAny, iAny, rIsi, rAll, rAny, rSum, rList, rTuple, rLen, rLenS, rLenSeq, rMulS, CDiv, rIn, rEqD, rNeD, iList, iTup, iStr, rCat, rCatA, rSlL, rSlA, rSlS, gSub, rPop, rAppend, rSetL, rIx, rIxL, rIxT, rIxS, LenV,
  L2.start, List.map_cons, List.map_nil, List.length_cons, List.length_nil, List.cons_append, List.nil_append, List.append_nil, Nat.zero_add, Nat.add_sub_cancel, Nat.sub_self, List.replicate_succ, List.replicate_zero, List.getElem?_cons_zero, List.getElem?_cons_succ, List.set_cons_zero, List.set_cons_succ,
  Option.some.injEq, V.int.injEq, V.str.injEq, V.bl.injEq, V.ref.injEq, List.cons.injEq, and_true, true_and, exists_eq_left', exists_eq_left, exists_eq_right, exists_and_left, exists_and_right, false_or, or_false, reduceCtorEq, false_and, and_false, exists_false, Bool.not_true, Bool.not_false, if_true, if_false, Bool.false_eq_true, ite_true, ite_false])
local macro_rules | `(tactic| walk_at "rq") => `(tactic| (walk_at "rd"; (try simp only [rEq_int, rEq_str, rNe_int, tUn, rU, tC, rInT, rInK, rIxK, rExtend, rExtendT, rSlU, rCatU, rEqE, rIntB, tTupU, tLstU, tDGet2, tCont, tToT, tStar, rCatM, rReprS, rStrN, tM0, tM1, tCKw, rMaxDf, V.int.injEq, V.str.injEq, V.bl.injEq, V.ref.injEq, exists_eq_left', exists_eq_left, Bool.false_bne, Bool.false_xor, Bool.true_xor]); (try walk_at "rd")))
/-! ## a forest, its first things gone -/
def dropF : Nat → List PyData → List PyData
  | 0, gs => gs
  | _ + 1, [] => []
  | i + 1, t :: gs => dropF i (partsD t ++ gs)
def openF : List PyData → List PyData
  | [] => []
  | t :: gs => partsD t ++ gs
theorem dropF_end : ∀ (i : Nat) (gs : List PyData), dropF (i + 1) gs = openF (dropF i gs)
  | 0, [] => rfl
  | 0, t :: gs => by
    show dropF 0 (partsD t ++ gs) = _
    rfl
  | i + 1, [] => by
    show [] = openF (dropF (i + 1) [])
    cases i <;> rfl
  | i + 1, t :: gs => dropF_end i (partsD t ++ gs)
theorem dropF_flat : ∀ (i : Nat) (gs : List PyData), (dropF i gs).flatMap thingsD = (gs.flatMap thingsD).drop i
  | 0, gs => rfl
  | i + 1, [] => rfl
  | i + 1, t :: gs => by
    show (dropF i (partsD t ++ gs)).flatMap thingsD = _
    rw [dropF_flat i, List.flatMap_append, List.flatMap_cons, things_eq t]
    rfl
theorem dropF_at {i : Nat} {d t : PyData} (e : (thingsD d)[i]? = some t) : ∃ gs, dropF i [d] = t :: gs ∧ dropF (i + 1) [d] = partsD t ++ gs := by
  have h := dropF_flat i [d]
  have e0 : [d].flatMap thingsD = thingsD d := by simp
  rw [e0] at h
  cases k : dropF i [d] with
  | nil =>
    rw [k] at h
    have hi := (List.getElem?_eq_some_iff.mp e).1
    have := congrArg List.length h
    rw [List.length_drop] at this
    simp at this
    omega
  | cons t' gs =>
    rw [k, List.flatMap_cons, things_eq t'] at h
    have h2 := congrArg List.head? h
    rw [List.head?_drop, e] at h2
    cases h2
    exact ⟨gs, rfl, by rw [dropF_end, k]; rfl⟩
theorem dropF_all (d : PyData) : dropF (thingsD d).length [d] = [] := by
  have h := dropF_flat (thingsD d).length [d]
  rw [show [d].flatMap thingsD = thingsD d by simp, List.drop_length] at h
  cases k : dropF (thingsD d).length [d] with
  | nil => rfl
  | cons t gs =>
    rw [k, List.flatMap_cons, things_eq t] at h
    cases h
theorem dropF_len {i : Nat} (d : PyData) : (dropF i [d]).length ≤ (thingsD d).length := by
  have h := congrArg List.length (dropF_flat i [d])
  rw [show [d].flatMap thingsD = thingsD d by simp, List.length_drop] at h
  have : ∀ gs : List PyData, gs.length ≤ (gs.flatMap thingsD).length := fun gs => by
    induction gs with
    | nil => exact Nat.le_refl _
    | cons t gs ih =>
      rw [List.flatMap_cons, List.length_append, things_eq t, List.length_cons, List.length_cons]
      omega
  have := this (dropF i [d])
  omega
/-! ## how deep a term is, as the reading counts -/
def levF : Nat → PyData → Int
  | 0, _ => 1
  | n + 1, d => 1 + (((partsD d).map (levF n)).foldl bst none).getD 0
def lev (d : PyData) : Int := levF (sz d) d
theorem levF_more : ∀ (n : Nat) (d : PyData) (m : Nat), sz d ≤ n → sz d ≤ m → levF n d = levF m d
  | 0, d, _, h, _ => absurd (sz_pos d) (by omega)
  | _ + 1, d, 0, _, h => absurd (sz_pos d) (by omega)
  | n + 1, d, m + 1, h1, h2 => by
    have lt := sz_parts d
    have e : (partsD d).map (levF n) = (partsD d).map (levF m) := List.map_congr_left fun x hx => levF_more n x m (by have := sz_mem hx; omega) (by have := sz_mem hx; omega)
    rw [levF, levF, e]
theorem lev_eq (d : PyData) : lev d = 1 + (((partsD d).map lev).foldl bst none).getD 0 := by
  obtain ⟨n, e⟩ : ∃ n, sz d = n + 1 := ⟨sz d - 1, by have := sz_pos d; omega⟩
  have lt := sz_parts d
  have e2 : (partsD d).map (levF n) = (partsD d).map lev := List.map_congr_left fun x hx => levF_more n x _ (by have := sz_mem hx; omega) (Nat.le_refl _)
  unfold lev
  rw [e, levF, e2]
  rfl
theorem bst_le {B : Int} : ∀ (l : List Int) (b : Option Int), (∀ x ∈ l, x ≤ B) → (∀ m, b = some m → m ≤ B) → ∀ m, l.foldl bst b = some m → m ≤ B
  | [], b, _, h, m, e => h m e
  | x :: l, b, hl, h, m, e => by
    refine bst_le l (bst b x) (fun y hy => hl y (List.mem_cons_of_mem _ hy)) (fun k hk => ?_) m e
    have hx := hl x List.mem_cons_self
    cases b with
    | none =>
      cases hk
      exact hx
    | some k0 =>
      have h0 := h k0 rfl
      simp only [bst, Option.some.injEq] at hk
      split at hk <;> omega
theorem lev_le (d : PyData) (ht : isTD d = true) : lev d ≤ d.depth := by
  refine things_ind (p := fun d => isTD d = true → lev d ≤ d.depth) (fun d ih ht => ?_) (sz d) d (Nat.le_refl _) ht
  rw [lev_eq]
  have pos : 1 ≤ d.depth := by
    obtain ⟨g, r, rfl⟩ := head_form ht
    simp only [PyData.depth]
    omega
  cases e : ((partsD d).map lev).foldl bst none with
  | none =>
    show 1 + (0 : Int) ≤ _
    omega
  | some m =>
    have := bst_le (B := (d.depth : Int) - 1) _ none (fun x hx => by
      obtain ⟨p, hp, rfl⟩ := List.mem_map.mp hx
      have h1 := ih p hp (terms_parts ht p hp)
      have h2 := depth_parts ht hp
      omega) (fun _ z => nomatch z) m e
    show 1 + m ≤ _
    omega
/-- what is told of a head: how many parts -/
theorem cnt_parts {g : Str} {r : List PyData} (ht : isTD (.tuple (.str g :: r)) = true) : cnt g = some ((partsD (.tuple (.str g :: r))).length : Int) := by
  cases tform ht with
  | leaf h d m hl =>
    rw [parts_leaf m]
    exact (show ∀ h ∈ leavesL, cnt h = some 0 by decide +kernel) _ m
  | choice r t v p q m hp =>
    rw [parts_choice]
    exact (show cnt (Str.ofString "choice") = some 4 by decide +kernel)
  | flag h f ps m mf l hp =>
    rw [parts_flag m, l]
    exact (show ∀ h ∈ flaggedL, cnt h = some ((if h = "twice" then 1 else 2 : Nat) : Int) by decide +kernel) _ m
  | other h ps m hp =>
    rw [parts_other m]
    rcases m with ⟨m, l⟩ | ⟨m, l⟩
    · rw [l]
      exact (show ∀ h ∈ pairsL, cnt h = some 2 by decide +kernel) _ m
    · rw [l]
      exact (show ∀ h ∈ singlesL, cnt h = some 1 by decide +kernel) _ m
def pairD (t : PyData) : PyData := .tuple [.int (lev t), t]
theorem head_shape {t : PyData} (ht : isTD t = true) : (∃ (r : Str) (t1 v p q : PyData), t = .tuple [.str "choice", .tuple [.str r, t1, v], p, q] ∧ headD t = .tuple [.str "choice", .str r]) ∨
    ∃ (g : Str) (hs : List PyData), headD t = .tuple (.str g :: hs) ∧ ¬ g = "choice" ∧ t = .tuple (.str g :: (hs ++ partsD t)) ∧ hs.length ≤ 1 := by
  have W := wform ht
  generalize headD t = hd at W ⊢
  generalize headW t = ws at W
  cases W with
  | look z h => exact .inr ⟨"look", [.str z], rfl, by decide +kernel, by rw [parts_leaf (by decide +kernel)]; rfl, Nat.le_refl 1⟩
  | const z h => exact .inr ⟨"const", [.str z], rfl, by decide +kernel, by rw [parts_leaf (by decide +kernel)]; rfl, Nat.le_refl 1⟩
  | num i h0 h1 => exact .inr ⟨"num", [.int i], rfl, by decide +kernel, by rw [parts_leaf (by decide +kernel)]; rfl, Nat.le_refl 1⟩
  | choice r t v p q m => exact .inl ⟨r, t, v, p, q, rfl, rfl⟩
  | flag h f ps m mf l => exact .inr ⟨h, [.str f], rfl, (flag_not m).2, by rw [parts_flag m]; rfl, Nat.le_refl 1⟩
  | other h ps m => exact .inr ⟨h, [], rfl, (other_not m).2.1, by rw [parts_other m]; rfl, Nat.zero_le 1⟩
theorem parts_len {t : PyData} (ht : isTD t = true) : (partsD t).length ≤ 4 := by
  cases tform ht with
  | leaf h d m hl => rw [parts_leaf m]; decide
  | choice r t v p q m hp => rw [parts_choice]; exact Nat.le_refl 4
  | flag h f ps m mf l hp =>
    rw [parts_flag m, l]
    split <;> decide
  | other h ps m hp =>
    rw [parts_other m]
    rcases m with ⟨m, l⟩ | ⟨m, l⟩ <;> omega
theorem off_upL {D E : Addr} {H : Hp} {o : HO} : off D E (upd H D o) = off D E H := by
  funext b
  unfold off
  by_cases h : b = D ∨ b = E
  · rw [if_pos h, if_pos h]
  · rw [if_neg h, if_neg h, upd_ne (fun z => h (.inl z))]
theorem pairs_parts {H : Hp} : ∀ {ts : List PyData} {zs : List V}, DvAll H zs (ts.map pairD) → ∃ ws : List V, DvAll H ws ts ∧ ∀ (k : Nat) (x : V), zs[k]? = some x → ∃ (b : Addr) (y1 u : V), x = V.ref b ∧ H b = some (.tup [u, y1]) ∧ ws[k]? = some y1
  | [], _, .nil => ⟨[], .nil, fun k x h => by simp at h⟩
  | t :: ts, _, .cons h r => by
    obtain ⟨ws, h1, h2⟩ := pairs_parts r
    obtain ⟨b, xs, rfl, eb, hx⟩ := h.tupR
    obtain ⟨u, ys, rfl, _, hx1⟩ := hx.consR
    obtain ⟨y1, ys1, rfl, f1, hx2⟩ := hx1.consR
    cases hx2.nilR
    refine ⟨y1 :: ws, .cons f1 h1, fun k x e => ?_⟩
    cases k with
    | zero =>
      cases e
      exact ⟨b, y1, u, rfl, eb, rfl⟩
    | succ k => exact h2 k x (by simpa using e)
theorem flat_all {H G : Hp} : ∀ {xs : List V} {hs : List PyData}, (∀ d ∈ hs, (∃ s, d = .str s) ∨ ∃ i, d = .int i) → DvAll H xs hs → DvAll G xs hs
  | _, _, _, .nil => .nil
  | _, _, h, .cons hd ht => by
    refine .cons ?_ (flat_all (fun d m => h d (List.mem_cons_of_mem _ m)) ht)
    rcases h _ List.mem_cons_self with ⟨s, rfl⟩ | ⟨i, rfl⟩
    · cases hd
      exact .str s
    · cases hd
      exact .int i
theorem head_flat {t : PyData} (ht : isTD t = true) : ∃ hs, headD t = .tuple hs ∧ ∀ d ∈ hs, (∃ s, d = .str s) ∨ ∃ i, d = .int i := by
  have W := wform ht
  generalize headD t = hd at W ⊢
  generalize headW t = ws at W
  cases W with
  | look z h => exact ⟨_, rfl, fun d m => by simp only [List.mem_cons, List.not_mem_nil, or_false] at m; rcases m with rfl | rfl <;> exact .inl ⟨_, rfl⟩⟩
  | const z h => exact ⟨_, rfl, fun d m => by simp only [List.mem_cons, List.not_mem_nil, or_false] at m; rcases m with rfl | rfl <;> exact .inl ⟨_, rfl⟩⟩
  | num i h0 h1 => exact ⟨_, rfl, fun d m => by
      simp only [List.mem_cons, List.not_mem_nil, or_false] at m
      rcases m with rfl | rfl
      · exact .inl ⟨_, rfl⟩
      · exact .inr ⟨_, rfl⟩⟩
  | choice r t v p q m => exact ⟨_, rfl, fun d m => by simp only [List.mem_cons, List.not_mem_nil, or_false] at m; rcases m with rfl | rfl <;> exact .inl ⟨_, rfl⟩⟩
  | flag h f ps m mf l => exact ⟨_, rfl, fun d m => by simp only [List.mem_cons, List.not_mem_nil, or_false] at m; rcases m with rfl | rfl <;> exact .inl ⟨_, rfl⟩⟩
  | other h ps m => exact ⟨_, rfl, fun d m => by simp only [List.mem_cons, List.not_mem_nil, or_false] at m; rcases m with rfl; exact .inl ⟨_, rfl⟩⟩
theorem head_off {H : Hp} {r : Addr} {zs : List V} (er : H r = some (.lst zs)) : ∀ {ts : List PyData} {ys : List V}, (∀ t ∈ ts, isTD t = true) → DvAll H ys (ts.map headD) → DvAll (off r r H) ys (ts.map headD)
  | [], _, _, .nil => .nil
  | t :: ts, _, h, .cons hd ht => by
    refine .cons ?_ (head_off er (fun x m => h x (List.mem_cons_of_mem _ m)) ht)
    obtain ⟨hs, e, fl⟩ := head_flat (h t List.mem_cons_self)
    rw [e] at hd ⊢
    obtain ⟨b, xs, rfl, eb, hx⟩ := hd.tupR
    have n : b ≠ r := fun z => by rw [z, er] at eb; cases eb
    exact .tup (off_get eb n n) (flat_all fl hx)
theorem head_data {t : PyData} (ht : isTD t = true) : ∃ g hs r, headD t = .tuple (.str g :: hs) ∧ t = .tuple (.str g :: r) := by
  rcases head_shape ht with ⟨r, t1, v, p, q, rfl, e⟩ | ⟨g, hs, e, _, et, _⟩
  · exact ⟨_, _, _, e, rfl⟩
  · exact ⟨g, hs, hs ++ partsD t, e, et⟩
section
variable {P : Program} {w : World} {K : PySem.W.Frag} {mg : Str → Option Value} {base : Heap}
def spJoined : Sp := fun vs H Q _ => ∃ (x : V) (b : Addr) (xs : List V) (t : PyData) (G : Hp), vs = [x, .ref b] ∧ Same G H ∧ Dv H x (headD t) ∧ H b = some (.lst xs) ∧ DvAll G xs (partsD t) ∧ isTD t = true ∧ ∀ (y : V) (H' G' : Hp), Grow H G H' G' → Dv G' y t → Q y H'
abbrev s_joined : Stmt := top 20
theorem sc_joined : FnScope ["head", "parts"] ["head", "parts"] (defScope s_joined) := ⟨rfl, rfl, rfl, by decide +kernel, rfl, by decide +kernel, by decide +kernel⟩
set_option format.width 500 in
set_option format.indent 0 in
set_option pp.deepTerms true in
set_option pp.maxSteps 200000 in
theorem ok_joined {f : Addr} {fd : FuncData} (D : Df K mg "joined" s_joined f fd) (T : Tx K mg) : Cal P w K mg base "joined" ["head", "parts"] 1 spJoined := by
  refine D.cal sc_joined (fun vs H Q E h => ?_) (fun _ _ _ _ _ _ us hl => match us, hl with | [_, _], _ => rfl) (fun cdv A outer s H vs Q E hgu hr h => ?_)
  · obtain ⟨x, b, xs, t, G, rfl, _⟩ := h
    rfl
  · obtain ⟨x, b, xs, t, G, rfl, sG, hd, eb, hx, ht, q⟩ := h
    refine ⟨_, (pss_cons (ps_if (pt_cmpR op_eq (pe_ix (aIxT (K := K) rfl) (pv 0) pe_int (fun _ _ => rfl)) pe_str (by rfl)) (pss_one (ps_ret (pe_tupU (pa_cons pe_str (pa_cons (pe_tupU (pa_cons (pe_ix (aIxT (K := K) rfl) (pv 0) pe_int (fun _ _ => rfl)) (pa_cons (pe_ix (aIxL (K := K) rfl) (pv 1) pe_int (fun _ _ => rfl)) (pa_cons (pe_ix (aIxL (K := K) rfl) (pv 1) pe_int (fun _ _ => rfl)) pa_nil)))) (pa_cons (pe_ix (aIxL (K := K) rfl) (pv 1) pe_int (fun _ _ => rfl)) (pa_cons (pe_ix (aIxL (K := K) rfl) (pv 1) pe_int (fun _ _ => rfl)) pa_nil))))))) pss_nil) (pss_one (ps_ret (pe_tupU (aStar (K := K) rfl (pv 0) (aStar (K := K) rfl (pv 1) pa_nil)))))), ?_⟩
    walk_at "rq"
    rcases head_shape ht with ⟨r, t1, v, p0, q0, rfl, eh⟩ | ⟨g, hs, eh, nc, et, lh⟩
    · rw [eh] at hd
      rw [parts_choice] at hx
      obtain ⟨a, zs, rfl, ea, hz⟩ := hd.tupR
      obtain ⟨y0, zs1, rfl, g0, hz1⟩ := hz.consR
      obtain ⟨y1, zs2, rfl, g1, hz2⟩ := hz1.consR
      cases hz2.nilR
      cases g0.strR
      cases g1.strR
      obtain ⟨x1, xs1, rfl, f1, hx1⟩ := hx.consR
      obtain ⟨x2, xs2, rfl, f2, hx2⟩ := hx1.consR
      obtain ⟨x3, xs3, rfl, f3, hx3⟩ := hx2.consR
      obtain ⟨x4, xs4, rfl, f4, hx4⟩ := hx3.consR
      cases hx4.nilR
      refine ⟨a, rfl, _, .of ea, _, at0, ?_⟩
      rw [rEq_str]
      refine ⟨_, rfl, iteY (decide_eq_true rfl) ?_⟩
      simp only [tTupU]
      walk_at "rq"
      refine ⟨_, .of ea, _, at1, _, .of eb, _, at0, _, .of eb, _, at1, line_le' (by decide), fun p1 H1 s1 n1 e1 => ⟨_, .of (s1 _ _ eb), _, at2, _, .of (s1 _ _ eb), _, at3, line_le' (by decide), fun p2 H2 s2 n2 e2 => ?_⟩⟩
      have g1 := Grow.at_ sG s1 n1 e1
      have g2 := Grow.at_ g1.sub s2 n2 e2
      have gz := g1.trans g2
      exact q _ H2 _ gz (.tup upd_same (.cons (.str _) (.cons (.tup (g2.part _ _ upd_same) (.cons (.str _) (.cons (f1.same gz.part) (.cons (f2.same gz.part) .nil)))) (.cons (f3.same gz.part) (.cons (f4.same gz.part) .nil)))))
    · rw [eh] at hd
      obtain ⟨a, zs, rfl, ea, hz⟩ := hd.tupR
      obtain ⟨y0, zs1, rfl, g0, hz1⟩ := hz.consR
      cases g0.strR
      refine ⟨a, rfl, _, .of ea, _, at0, ?_⟩
      rw [rEq_str]
      have l1 := hz1.len
      have l2 := hx.len
      have l3 := parts_len ht
      refine ⟨_, rfl, iteN (decide_eq_false nc) ⟨a, rfl, _, .inl (.of ea), _, .inr (.of eb), line_le' (by rw [List.length_append, List.length_cons]; omega), fun p H' s n e => ?_⟩⟩
      have gr := Grow.at_ sG s n e
      refine q _ H' _ gr ?_
      have flatH : DvAll (upd G p (.tup (V.str g :: zs1 ++ xs))) (V.str g :: zs1) (.str g :: hs) := by
        have W := wform ht
        rw [eh] at W
        generalize headW t = ws at W
        cases hs with
        | nil =>
          cases hz1.nilR
          exact .cons (.str g) .nil
        | cons h1 hs =>
          cases hs with
          | cons _ _ => simp at lh
          | nil =>
            obtain ⟨y1, zs2, rfl, g1, hz2⟩ := hz1.consR
            cases hz2.nilR
            cases W with
            | look z h => cases g1.strR; exact .cons (.str _) (.cons (.str _) .nil)
            | const z h => cases g1.strR; exact .cons (.str _) (.cons (.str _) .nil)
            | num i h0 h1 => cases g1.intR; exact .cons (.str _) (.cons (.int _) .nil)
            | choice r t v p q m => exact absurd rfl nc
            | flag h f ps m mf l => cases g1.strR; exact .cons (.str _) (.cons (.str _) .nil)
      have fin : Dv (upd G p (.tup (V.str g :: zs1 ++ xs))) (.ref p) (.tuple (.str g :: hs ++ partsD t)) := .tup upd_same (flatH.append (hx.same gr.part))
      rw [et]
      exact fin
def spTermsOf : Sp := fun vs H Q _ => ∃ (a : Addr) (d : PyData), vs = [.ref a] ∧ H a = some (.lst ((termW d).map V.str)) ∧ isTD d = true ∧ (thingsD d).length ≤ 100 ∧ d.depth ≤ 60 ∧ ∀ (p : Addr) (y : V) (H' : Hp), Same H H' → H p = none → H' p = some (.lst [y]) → Dv H' y d → Q (.ref p) H'
abbrev s_terms_of : Stmt := top 19
theorem sc_terms_of : FnScope ["words", "ready", "head", "many", "parts", "_", "deep", "part", "one"] ["words"] (defScope s_terms_of) := ⟨rfl, rfl, rfl, by decide +kernel, rfl, by decide +kernel, by decide +kernel⟩
set_option format.width 500 in
set_option format.indent 0 in
set_option pp.deepTerms true in
set_option pp.maxSteps 200000 in
theorem ok_terms_of {f : Addr} {fd : FuncData} (D : Df K mg "terms_of" s_terms_of f fd) (T : Tx K mg) (c_heads_of : Cal P w K mg base "heads_of" ["words"] 3 spHeads) (c_joined : Cal P w K mg base "joined" ["head", "parts"] 1 spJoined) {aPART_COUNTS : Addr} (mPART_COUNTS : mg "PART_COUNTS" = some (.ref aPART_COUNTS)) (cPART_COUNTS : Cnt K w aPART_COUNTS cnt)
    {tk : Tok} (mDEEPEST_READ : mg "DEEPEST_READ" = some (.int 100 tk)) : Cal P w K mg base "terms_of" ["words"] 4 spTermsOf := by
  refine D.cal sc_terms_of (fun vs H Q E h => ?_) (fun _ _ _ _ _ _ us hl => match us, hl with | [_], _ => rfl) (fun cdv A outer s H vs Q E hgu hr h => ?_)
  · obtain ⟨a, d, rfl, _⟩ := h
    rfl
  · obtain ⟨a, d, rfl, ea, ht, hl, hdp, q⟩ := h
    refine ⟨_, (pss_cons (ps_set (i := 1) sc_terms_of.nd rfl (by first | exact Or.inl rfl | exact Or.inr rfl) (pe_lstU pa_nil)) (pss_cons (ps_for PassesOwn.never rfl (aRevW (K := K) rfl (by rfl) T.reversed (pe_cal c_heads_of hgu (hr.mono (by omega)) (by rfl) (pa_cons (pv 0) pa_nil))) (pg_name (i := 2) sc_terms_of.nd rfl (by first | exact Or.inl rfl | exact Or.inr rfl)) (pss_cons (ps_set (i := 3) sc_terms_of.nd rfl (by first | exact Or.inl rfl | exact Or.inr rfl) (pe_ix (aIxK cPART_COUNTS) (pe_glob (v := .ref aPART_COUNTS) rfl mPART_COUNTS rfl) (pe_ix (aIxT (K := K) rfl) (pv 2) pe_int (fun _ _ => rfl)) (fun _ _ => rfl))) (pss_cons (ps_if (pt_cmpR op_lt (pe_callB (aLenSeq (K := K) rfl) (by rfl) T.len (by decide +kernel) (pa_cons (pv 1) pa_nil)) (pv 3) (by rfl)) (pss_one ps_never) pss_nil) (pss_cons (ps_setLc (i := 4) (own := [("_", 5)]) (g := gName 5) (tt := tYes) (by rfl) sc_terms_of.nd rfl rfl (sw_true rfl rfl rfl (by decide +kernel)) (pi_range1 rfl T.range (pa_cons (pv 3) pa_nil)) (blkOk_by (own := [("_", 5)]) (N := ["words", "ready", "head", "many", "parts", "_", "deep", "part", "one"]) (sc := defScope s_terms_of) (by decide +kernel)) (fun _ _ _ _ _ => (pg_name (i := 5) sc_terms_of.nd rfl (Or.inl rfl))) (fun _ _ _ _ _ => pts_nil) (fun _ _ _ _ _ => (aBm0 (K := K) rfl PySem.F.plainAttrs_list PySem.F.slot_list_pop PySem.F.type_list_pop mt_pop (pv 1)))) (pss_cons (ps_set (i := 6) sc_terms_of.nd rfl (by first | exact Or.inl rfl | exact Or.inr rfl) (pe_op op_add pe_int (pe_callBK (aMaxDf (K := K) rfl rfl) (by rfl) T.max (by decide +kernel) (pa_cons (pe_lc (own := [("part", 7)]) (g := gName 7) (tt := tYes) (by rfl) sc_terms_of.nd (aWalkL (K := K) rfl (pv 4)) (blkOk_by (own := [("part", 7)]) (N := ["words", "ready", "head", "many", "parts", "_", "deep", "part", "one"]) (sc := defScope s_terms_of) (by decide +kernel)) (fun _ _ _ _ _ => (pg_name (i := 7) sc_terms_of.nd rfl (Or.inl rfl))) (fun _ _ _ _ _ => pts_nil) (fun _ _ _ _ _ => (pe_ix (aIxT (K := K) rfl) (pv 7) pe_int (fun _ _ => rfl)))) pa_nil) (pk_cons pe_int pk_nil)))) (pss_cons (ps_if (pt_cmpR op_gt (pv 6) (pe_glob (v := .int (100)) rfl mDEEPEST_READ ⟨_, rfl⟩) (by rfl)) (pss_one ps_never) pss_nil) (pss_one (ps_expr (pe_bm PySem.F.plainAttrs_list PySem.F.slot_list_append PySem.F.type_list_append mt_append (pv 1) (pa_cons (pe_tupU (pa_cons (pv 6) (pa_cons (pe_cal c_joined hgu (hr.mono (by omega)) (by rfl) (pa_cons (pv 2) (pa_cons (pe_lc (own := [("part", 7)]) (g := gName 7) (tt := tYes) (by rfl) sc_terms_of.nd (aWalkL (K := K) rfl (pv 4)) (blkOk_by (own := [("part", 7)]) (N := ["words", "ready", "head", "many", "parts", "_", "deep", "part", "one"]) (sc := defScope s_terms_of) (by decide +kernel)) (fun _ _ _ _ _ => (pg_name (i := 7) sc_terms_of.nd rfl (Or.inl rfl))) (fun _ _ _ _ _ => pts_nil) (fun _ _ _ _ _ => (pe_ix (aIxT (K := K) rfl) (pv 7) pe_int (fun _ _ => rfl)))) pa_nil))) pa_nil))) pa_nil)))))))))) (pss_one (ps_ret (pe_lc (own := [("one", 8)]) (g := gName 8) (tt := tYes) (by rfl) sc_terms_of.nd (aRevW (K := K) rfl (by rfl) T.reversed (pv 1)) (blkOk_by (own := [("one", 8)]) (N := ["words", "ready", "head", "many", "parts", "_", "deep", "part", "one"]) (sc := defScope s_terms_of) (by decide +kernel)) (fun _ _ _ _ _ => (pg_name (i := 8) sc_terms_of.nd rfl (Or.inl rfl))) (fun _ _ _ _ _ => pts_nil) (fun _ _ _ _ _ => (pe_ix (aIxT (K := K) rfl) (pv 8) pe_int (fun _ _ => rfl)))))))), ?_⟩
    walk_at "rq"
    refine ⟨Nat.zero_le _, fun r H1 s1 n1 e1 => ⟨.ref a, rfl, a, thingsD d, rfl, s1 _ _ ea, things_terms d ht, hl, fun ph ys H2 s2 n2 e2 hy => ⟨ph, ys, rfl, .inl ⟨.of e2, ?_⟩⟩⟩⟩
    have er2 := s2 _ _ e1
    have nhr : ph ≠ r := fun z => by rw [z, e1] at n2; cases n2
    have sG : Same H (off r r H2) := fun b o e => off_get (s2 _ _ (s1 _ _ e)) (fun z => by rw [z, n1] at e; cases e) fun z => by rw [z, n1] at e; cases e
    have ly : ys.length = (thingsD d).length := by rw [hy.len, List.length_map]
    have hyG : DvAll (off r r H2) ys ((thingsD d).map headD) := head_off er2 (things_terms d ht) hy
    refine for_steps (steps_rev K ph ys) (fun i σ Hc => ∃ o2 o3 o4 o5 o6 o7 o8 : Option V, σ = [some (.ref a), some (.ref r), o2, o3, o4, o5, o6, o7, o8] ∧ Same (off r r H2) (off r r Hc) ∧ Ac r (((dropF ((thingsD d).length - i) [d]).reverse).map pairD) Hc) ⟨none, none, none, none, none, none, none, rfl, Same.refl _, ?_⟩ (fun i σ Hc _ ⟨_, _, _, _, _, _, _, _, sc, _⟩ => .of (off_sub r r Hc _ _ (sc _ _ (off_get e2 nhr nhr)))) ?_ ?_
    · rw [Nat.sub_zero, dropF_all]
      exact ⟨[], er2, .nil⟩
    · rintro i x σ Hc hx' ⟨o2, o3, o4, o5, o6, o7, o8, rfl, sc, ac⟩
      obtain ⟨dx, hdx, hvx⟩ := dv_at hyG.reverse hx'
      have hi : i < (thingsD d).length := by
        have := (List.getElem?_eq_some_iff.mp hdx).1
        rw [List.length_reverse, List.length_map] at this
        exact this
      obtain ⟨j, hj⟩ : ∃ j, (thingsD d).length = i + j + 1 := ⟨(thingsD d).length - i - 1, by omega⟩
      obtain ⟨t, et, rfl⟩ : ∃ t, (thingsD d)[j]? = some t ∧ dx = headD t := by
        rw [List.getElem?_reverse (by rw [List.length_map]; exact hi), List.length_map, List.getElem?_map, show (thingsD d).length - 1 - i = j by omega] at hdx
        cases e : (thingsD d)[j]? with
        | none => rw [e] at hdx; cases hdx
        | some t => rw [e] at hdx; cases hdx; exact ⟨t, rfl, rfl⟩
      have td := things_terms d ht t (List.mem_of_getElem? et)
      have tdep : t.depth ≤ 60 := things_sub (p := fun x => x.depth ≤ 60) (fun d h ht x hx => by have := depth_parts ht hx; omega) d hdp ht t (List.mem_of_getElem? et)
      obtain ⟨gs, g1, g2⟩ := dropF_at et
      rw [show (thingsD d).length - i = j + 1 by omega, g2] at ac
      rw [show (thingsD d).length - (i + 1) = j by omega, g1]
      have lgs : (partsD t ++ gs).length ≤ 100 := by
        have := dropF_len (i := j + 1) d
        rw [g2] at this
        omega
      obtain ⟨g, hs, rr, eh, e0⟩ := head_data td
      have cp : cnt g = some ((partsD t).length : Int) := by
        have := cnt_parts (g := g) (r := rr) (by rw [← e0]; exact td)
        rw [← e0] at this
        exact this
      have hvx' : Dv Hc x (headD t) := hvx.same (sc.trans (off_sub r r Hc))
      obtain ⟨h0, zs0, rfl, eh0, hz0⟩ := (eh ▸ hvx').tupR
      obtain ⟨y0, zs1, rfl, f0, hz1⟩ := hz0.consR
      cases f0.strR
      refine seq_cut fun u1 hu1 => ?_
      walk_at "rq"
      refine ⟨_, .of eh0, _, at0, g, rfl, _, cp, ?_⟩
      subst hu1
      refine seq_cut fun u1 hu1 => ?_
      obtain ⟨zs, ez, hz⟩ := ac.has
      have lz : zs.length = (partsD t ++ gs).length := by rw [hz.len, List.length_map, List.length_reverse]
      walk_at "rq"
      refine ⟨_, .inl (.of ez), iteN (decide_eq_false (by rw [lz, List.length_append]; omega)) ?_⟩
      subst hu1
      refine seq_cut fun u1 hu1 => ?_
      walk_at "rq"
      have l4 := parts_len td
      refine ⟨_, rfl, ((partsD t).length : Int), rfl, by omega, by omega, fun L hL => ?_⟩
      show ∃ W : Nat → Nat → Hp → Prop, _
      refine lc_steps (steps_range 0 (partsD t).length) (fun k Hd => Same (off r r Hc) (off r L Hd) ∧ (∃ z1, Hd r = some (.lst z1) ∧ DvAll (off r L Hd) z1 ((((partsD t).drop k ++ gs).reverse).map pairD)) ∧ ∃ z2, Hd L = some (.lst z2) ∧ DvAll (off r L Hd) z2 (((partsD t).take k).map pairD)) ?_ (fun _ _ _ _ => trivial) ?_ ?_
      · have nLr : L ≠ r := fun z => by rw [z, ez] at hL; cases hL
        have sL : Same (off r r Hc) (off r L (upd Hc L (.lst []))) := fun b u e => by
          rw [off_upE]
          have nb : b ≠ r := fun z => by
            unfold off at e
            rw [if_pos (.inl z)] at e
            cases e
          have e1 := off_sub r r Hc _ _ e
          exact off_get e1 nb fun z => by rw [z, hL] at e1; cases e1
        refine ⟨sL, ⟨zs, by rw [upd_ne nLr.symm]; exact ez, ?_⟩, [], upd_same, .nil⟩
        exact hz.same sL
      · rintro k x Hd hxk ⟨sd, ⟨z1, ez1, hz1⟩, z2, ez2, hz2⟩
        refine ⟨rfl, ?_⟩
        have nLr : L ≠ r := fun z => by rw [z, ez] at hL; cases hL
        obtain ⟨hk, rfl⟩ := wholes_at hxk
        obtain ⟨tk, etk⟩ : ∃ tk, (partsD t)[k]? = some tk := ⟨_, List.getElem?_eq_getElem hk⟩
        have edk : (partsD t).drop k = tk :: (partsD t).drop (k + 1) := by
          obtain ⟨hi', e⟩ := List.getElem?_eq_some_iff.mp etk
          rw [← e, List.getElem_cons_drop_succ_eq_drop]
        rw [edk, List.cons_append, List.reverse_cons, List.map_append] at hz1
        obtain ⟨vs, z, rfl⟩ : ∃ vs z, z1 = vs ++ [z] := by
          rcases list_end' z1 with rfl | h
          · have := hz1.len
            simp at this
          · exact h
        obtain ⟨ds', d1, eds, hv1, hd1⟩ := hz1.last
        obtain ⟨rfl, e1⟩ := List.append_inj' eds rfl
        cases e1
        have dl : (vs ++ [z]).dropLast = vs := by simp
        walk_at "rq"
        refine ⟨_, rfl, .inl ⟨rfl, _, .of ez1⟩, r, rfl, _, ez1, z, by simp, ?_⟩
        rw [dl]
        have lz2 := hz2.len
        refine ⟨z2, by rw [upd_ne nLr]; exact ez2, ?_, ?_, ⟨vs, by rw [upd_ne nLr.symm, upd_same], ?_⟩, z2 ++ [z], upd_same, ?_⟩
        · rw [lz2, List.length_map, List.length_take]
          refine Nat.lt_of_lt_of_le (?_ : _ < 1000000) (line_le' (Nat.le_refl _))
          omega
        · rw [off_upE, off_upL]
          exact sd
        · rw [off_upE, off_upL]
          exact hv1
        · rw [off_upE, off_upL, List.take_add_one, etk, List.map_append]
          exact hz2.append (.cons hd1 .nil)
      · rintro Ha ⟨sa, ⟨z1, ez1, hz1⟩, z2, ez2, hz2⟩
        rw [wholes_len] at hz1 hz2
        rw [List.drop_length, List.nil_append] at hz1
        rw [List.take_length] at hz2
        have sa' : Same (off r r Hc) (off r r Ha) := sa.trans off_le
        have acA : Ac r (gs.reverse.map pairD) Ha := ⟨z1, ez1, hz1.same off_le⟩
        have hz2' := hz2.same (off_le (D := r))
        subst hu1
        refine seq_cut fun u1 hu1 => ?_
        walk_at "rq"
        refine ⟨.ref L, rfl, L, rfl, ⟨z2, .of ez2⟩, fun L2 hL2 => lc_steps (steps_list K L z2) (fun k Hd => Hd = upd Ha L2 (.lst ((((partsD t).take k).map lev).map V.int))) rfl (fun k Hd _ e => e ▸ .of (same_upd hL2 _ _ ez2)) ?_ ?_⟩
        · rintro k x _ hx2 rfl
          refine ⟨rfl, ?_⟩
          obtain ⟨dp, edp, hvp⟩ := dv_at hz2' hx2
          obtain ⟨tk, etk, rfl⟩ : ∃ tk, (partsD t)[k]? = some tk ∧ dp = pairD tk := by
            rw [List.getElem?_map] at edp
            cases e : (partsD t)[k]? with
            | none => rw [e] at edp; cases edp
            | some tk => rw [e] at edp; cases edp; exact ⟨tk, rfl, rfl⟩
          obtain ⟨b, xs, rfl, eb, hxb⟩ := (hvp.same (off_sub r r Ha)).tupR
          obtain ⟨y0, ys0, rfl, f0, hx1⟩ := hxb.consR
          cases f0.intR
          walk_at "rq"
          refine ⟨_, rfl, b, rfl, _, .of (same_upd hL2 _ _ eb), _, at0, _, upd_same, ?_, ?_⟩
          · rw [List.length_map, List.length_map, List.length_take]
            refine Nat.lt_of_lt_of_le (?_ : _ < 1000000) (line_le' (Nat.le_refl _))
            omega
          · rw [upd_upd, List.take_add_one, etk]
            simp
        · rintro _ rfl
          have lz2 : z2.length = (partsD t).length := by rw [hz2'.len, List.length_map]
          rw [lz2, List.take_length]
          refine ⟨L2, rfl, _, .of upd_same, ?_⟩
          rw [← lev_eq]
          have sb := same_upd (o := HO.lst (((partsD t).map lev).map V.int)) hL2
          generalize upd Ha L2 (HO.lst (((partsD t).map lev).map V.int)) = Hb at sb
          subst hu1
          refine seq_cut fun u1 hu1 => ?_
          have lv := lev_le t td
          walk_at "rq"
          refine iteN (decide_eq_false (by omega)) ?_
          subst hu1
          walk_at "rq"
          refine ⟨.inl ⟨rfl, _, .of (sb _ _ ez1)⟩, .ref L, rfl, L, rfl, ⟨z2, .of (sb _ _ ez2)⟩, fun L3 hL3 => ?_⟩
          -- the parts themselves
          have ed2 : ∃ ws, DvAll (off r r Ha) ws (partsD t) ∧ ∀ (k : Nat) (x : V), z2[k]? = some x → ∃ (b : Addr) (y1 u : V), x = V.ref b ∧ Ha b = some (.tup [u, y1]) ∧ ws[k]? = some y1 := by
            obtain ⟨ws, h1, h2⟩ := pairs_parts hz2'
            refine ⟨ws, h1, fun k x e => ?_⟩
            obtain ⟨b, y1, u, e1, e2, e3⟩ := h2 k x e
            exact ⟨b, y1, u, e1, off_sub r r Ha _ _ e2, e3⟩
          obtain ⟨ws, hws, pick⟩ := ed2
          have lws := hws.len
          refine lc_steps (steps_list K L z2) (fun k Hd => Hd = upd Hb L3 (.lst (ws.take k))) rfl (fun k Hd _ e => e ▸ .of (same_upd hL3 _ _ (sb _ _ ez2))) ?_ ?_
          · rintro k x _ hx3 rfl
            refine ⟨rfl, ?_⟩
            obtain ⟨b, y1, u, rfl, eb, ew⟩ := pick k x hx3
            walk_at "rq"
            refine ⟨_, rfl, b, rfl, _, .of (same_upd hL3 _ _ (sb _ _ eb)), _, at1, _, upd_same, ?_, ?_⟩
            · rw [List.length_take]
              refine Nat.lt_of_lt_of_le (?_ : _ < 1000000) (line_le' (Nat.le_refl _))
              omega
            · rw [upd_upd, List.take_add_one, ew]
              rfl
          · rintro _ rfl
            rw [lz2, ← lws, List.take_length]
            have sc3 := same_upd (o := HO.lst ws) hL3
            have e3 : (upd Hb L3 (HO.lst ws)) L3 = some (.lst ws) := upd_same
            generalize upd Hb L3 (HO.lst ws) = Hd at sc3 e3
            have sAd : Same Ha Hd := sb.trans sc3
            have sG' : Same (off r r Ha) Hd := (off_sub r r Ha).trans sAd
            refine ⟨.ref h0, L3, ws, t, off r r Ha, rfl, sG', hvx.same ((sc.trans sa').trans sG'), e3, hws, td, fun y He G' gr hy' => ⟨line_le' (by decide), fun p9 Hf s9 n9 e9 => ?_⟩⟩
            have sAf : Same Ha Hf := (sAd.trans gr.big).trans s9
            have gr0 : G' r = none := gr.only r (by rw [sAd _ _ ez1]; nofun) (by unfold off; rw [if_pos (.inl rfl)])
            have sGf : Same G' (off r r Hf) := fun b o e => by
              have nb : b ≠ r := fun z => by rw [z, gr0] at e; cases e
              exact off_get (s9 _ _ (gr.sub _ _ e)) nb nb
            have np9 : p9 ≠ r := fun z => by
              have := sAf _ _ ez1
              rw [← z, e9] at this
              cases this
            obtain ⟨zs9, ez9, l9, a9⟩ := acA.add sAf (x := .ref p9) (dx := pairD t) (.tup (off_get e9 np9 np9) (.cons (.int _) (.cons (hy'.same sGf) .nil)))
            refine ⟨zs9, ez9, ?_, ⟨_, rfl⟩, ?_, ?_⟩
            · rw [l9, List.length_map, List.length_reverse]
              rw [List.length_append] at lgs
              refine Nat.lt_of_lt_of_le (?_ : _ < 1000000) (line_le' (Nat.le_refl _))
              omega
            · rw [off_up]
              exact (sc.trans sa').trans (off_to sAf)
            · rw [List.reverse_cons, List.map_append]
              exact a9
    · rintro σ Hc ⟨o2, o3, o4, o5, o6, o7, o8, rfl, sc, ac⟩
      rw [List.length_reverse, ly, Nat.sub_self] at ac
      walk_at "rq"
      obtain ⟨zs, ez, hz⟩ := ac.fin
      obtain ⟨z, zs', rfl, h1, hz1⟩ := hz.consR
      cases hz1.nilR
      obtain ⟨b, xs, rfl, eb, hx⟩ := h1.tupR
      obtain ⟨y0, ys0, rfl, f0, hx1⟩ := hx.consR
      obtain ⟨y1, ys1, rfl, f1, hx2⟩ := hx1.consR
      cases hx2.nilR
      have sHc : Same H Hc := (sG.trans sc).trans (off_sub r r Hc)
      refine ⟨.ref r, rfl, r, _, rfl, .inl ⟨.of ez, fun L hL => lc_steps (steps_rev K r [.ref b]) (fun i Hd => Hd = upd Hc L (.lst (if i = 0 then [] else [y1]))) rfl (fun i Hd _ e => e ▸ .of (same_upd hL _ _ ez)) ?_ ?_⟩⟩
      · rintro i x _ hx' rfl
        refine ⟨rfl, ?_⟩
        obtain rfl : i = 0 := by
          have := (List.getElem?_eq_some_iff.mp hx').1
          simp at this
          exact this
        cases hx'
        walk_at "rq"
        exact ⟨_, rfl, b, rfl, _, .of (same_upd hL _ _ eb), y1, at1, _, upd_same, line_le' (by decide), by rw [upd_upd]; rfl⟩
      · rintro _ rfl
        exact q L y1 _ (sHc.trans (same_upd hL)) (sHc.free hL) upd_same (f1.same (same_upd hL))
end
end Vf
namespace Vf
open PySem L2 PyProof.Rows PySem.Spec StX RT

local macro_rules | `(tactic| walk_at "rd") => `(tactic| simp only [tSeq, tIfS, tOr, tAnd, tNot, tB, tTest, tChain, tCB, tCons, tNil, tVar, tC, tRet, tAndV, tOrV, tNotV, tOp, tNext, tDrop, tAsg, tPar, tYes, tIf, tCall, tCalK, tTup, tLst, tSl, tNoPart, tPart, tM0, tM1, tRevL, tBM0, tBM, gName, rI0, rI, rU, rInA, rEqA, rAddA, rMulA, rSlAny, iAny, rIsi, rAll, rAny, rSum, rList, rTuple, rLen, rLenS, rLenSeq, rMulS, CDiv, rIn, rEqD, rNeD, iList, iTup, iStr, rCat, rCatA, rSlL, rSlA, rSlS, gSub, rPop, rAppend, rSetL, rIx, rIxL, rIxT, rIxS, LenV,
  L2.start, List.map_cons, List.map_nil, List.length_cons, List.length_nil, List.cons_append, List.nil_append, List.append_nil, Nat.zero_add, Nat.add_sub_cancel, Nat.sub_self, List.replicate_succ, List.replicate_zero, List.getElem?_cons_zero, List.getElem?_cons_succ, List.set_cons_zero, List.set_cons_succ,
  Option.some.injEq, V.int.injEq, V.str.injEq, V.bl.injEq, V.ref.injEq, List.cons.injEq, and_true, true_and, exists_eq_left', exists_eq_left, exists_eq_right, exists_and_left, exists_and_right, false_or, or_false, reduceCtorEq, false_and, and_false, exists_false, Bool.not_true, Bool.not_false, if_true, if_false, Bool.false_eq_true, ite_true, ite_false])
local macro_rules | `(tactic| walk_at "rq") => `(tactic| (walk_at "rd"; (try simp only [rEq_int, rEq_str, rNe_int, tUn, rU, tC, rInT, rInK, rIxK, rExtend, rExtendT, rSlU, rCatU, rEqE, rIntB, tTupU, tLstU, tDGet2, tCont, tToT, tStar, rCatM, rReprS, rStrN, tM0, tM1, tCKw, rMaxDf, V.int.injEq, V.str.injEq, V.bl.injEq, V.ref.injEq, exists_eq_left', exists_eq_left, Bool.false_bne, Bool.false_xor, Bool.true_xor]); (try walk_at "rd")))
/-- a term that may be asked -/
structure Fit (d : PyData) : Prop where
  term : isTD d = true
  gd : Gd 99 100000 45 d
  cnt : (thingsD d).length ≤ 70
theorem termW_eq (d : PyData) : termW d = headW d ++ (partsD d).flatMap termW := by
  unfold termW
  rw [things_eq, List.flatMap_cons, List.flatMap_assoc]
theorem flat_le {α β : Type} {f : α → List β} {n : Nat} : ∀ {l : List α}, (∀ x ∈ l, (f x).length ≤ n) → (l.flatMap f).length ≤ n * l.length
  | [], _ => Nat.zero_le _
  | x :: l, h => by
    have h1 := h x List.mem_cons_self
    have h2 := flat_le (l := l) fun y hy => h y (List.mem_cons_of_mem _ hy)
    rw [List.flatMap_cons, List.length_append, List.length_cons, Nat.mul_succ]
    omega
theorem termW_words {d : PyData} (ht : isTD d = true) : ∀ z ∈ termW d, Word z ∧ z.length ≤ 9 := fun z hz => by
  obtain ⟨t, m, h⟩ := List.mem_flatMap.mp hz
  exact (head_words (things_terms d ht t m)).1 z h
theorem termW_len {d : PyData} (ht : isTD d = true) : (termW d).length ≤ 2 * (thingsD d).length := flat_le fun t m => (head_words (things_terms d ht t m)).2
theorem termW_ne (d : PyData) : termW d ≠ [] := by
  rw [termW_eq]
  exact fun e => headW_ne d (List.append_eq_nil_iff.mp e).1
theorem shownD_len {d : PyData} (ht : isTD d = true) : (shownD d).length ≤ 20 * (thingsD d).length := by
  have h1 := StrLaws.join_length_le " " (termW d)
  have h2 := sum_le (f := fun z : Str => z.length) fun z hz => (termW_words ht z hz).2
  have h3 := termW_len ht
  have e : (Str.ofString " ").length = 1 := rfl
  rw [e] at h1
  unfold shownD
  omega
section
variable {P : Program} {w : World} {K : PySem.W.Frag} {mg : Str → Option Value} {base : Heap}
def spTermOf : Sp := fun vs H Q _ => ∃ (a : Addr) (d : PyData), vs = [.ref a] ∧ H a = some (.lst ((termW d).map V.str)) ∧ Fit d ∧ ∀ (y : V) (H' : Hp), Same H H' → Dv H' y d → Q y H'
def spRead : Sp := fun vs H Q _ => ∃ (d : PyData), vs = [.str (shownD d)] ∧ Fit d ∧ ∀ (y : V) (H' : Hp), Same H H' → Dv H' y d → Q y H'
abbrev s_term_of : Stmt := top 18
theorem sc_term_of : FnScope ["words", "terms"] ["words"] (defScope s_term_of) := ⟨rfl, rfl, rfl, by decide +kernel, rfl, by decide +kernel, by decide +kernel⟩
abbrev s_read_term : Stmt := top 17
theorem sc_read_term : FnScope ["text"] ["text"] (defScope s_read_term) := ⟨rfl, rfl, rfl, by decide +kernel, rfl, by decide +kernel, by decide +kernel⟩
set_option format.width 500 in
set_option format.indent 0 in
set_option pp.deepTerms true in
set_option pp.maxSteps 200000 in
theorem ok_term_of {f : Addr} {fd : FuncData} (D : Df K mg "term_of" s_term_of f fd) (T : Tx K mg) (c_terms_of : Cal P w K mg base "terms_of" ["words"] 4 spTermsOf) : Cal P w K mg base "term_of" ["words"] 5 spTermOf := by
  refine D.cal sc_term_of (fun vs H Q E h => ?_) (fun _ _ _ _ _ _ us hl => match us, hl with | [_], _ => rfl) (fun cdv A outer s H vs Q E hgu hr h => ?_)
  · obtain ⟨a, d, rfl, _⟩ := h
    rfl
  · obtain ⟨a, d, rfl, ea, ft, q⟩ := h
    refine ⟨_, (pss_cons (ps_set (i := 1) sc_term_of.nd rfl (by first | exact Or.inl rfl | exact Or.inr rfl) (pe_cal c_terms_of hgu (hr.mono (by omega)) (by rfl) (pa_cons (pv 0) pa_nil))) (pss_cons (ps_if (pt_cmpR op_ne (pe_callB (aLenSeq (K := K) rfl) (by rfl) T.len (by decide +kernel) (pa_cons (pv 1) pa_nil)) pe_int (by rfl)) (pss_one ps_never) pss_nil) (pss_one (ps_ret (pe_ix (aIxL (K := K) rfl) (pv 1) pe_int (fun _ _ => rfl)))))), ?_⟩
    walk_at "rq"
    have h1 := ft.cnt
    have h2 := ft.gd.depth
    refine ⟨a, d, rfl, ea, ft.term, by omega, by omega, fun p y H' s n e hy => ⟨p, rfl, _, .inl (.of e), ?_⟩⟩
    exact iteN rfl ⟨p, rfl, _, .of e, y, at0, q y H' s hy⟩
set_option format.width 500 in
set_option format.indent 0 in
set_option pp.deepTerms true in
set_option pp.maxSteps 200000 in
theorem fn_read_term {f : Addr} {fd : FuncData} (D : Df K mg "read_term" s_read_term f fd) (T : Tx K mg) (c_term_of : Cal P w K mg base "term_of" ["words"] 5 spTermOf) : FnG P w K mg base CX0 6 f fd ["text"] spRead := by
  refine D.fnG sc_read_term (fun vs H Q E h => ?_) (fun cdv A outer s H vs Q E hgu hr h => ?_)
  · obtain ⟨d, rfl, _⟩ := h
    rfl
  · obtain ⟨d, rfl, ft, q⟩ := h
    refine ⟨_, (pss_cons (ps_if (pt_not (pt_val (pe_callB (aIsi (K := K) rfl) (by rfl) T.isinstance (by decide +kernel) (pa_cons (pv 0) (pa_cons (pe_bltn (v := .ty "str") (by rfl) T.str (by decide +kernel) rfl) pa_nil))))) (pss_one ps_never) pss_nil) (pss_one (ps_ret (pe_cal c_term_of hgu (hr.mono (by omega)) (by rfl) (pa_cons (pe_split (pv 0) pe_str) pa_nil))))), ?_⟩
    walk_at "rq"
    have ll := shownD_len ft.term
    have h1 := ft.cnt
    refine ⟨_, _, ⟨rfl, rfl⟩, .type "str", _, .ty "str", (Dv.str _).ty, true, kit_ty (by decide +kernel), iteN rfl ⟨⟨_, rfl⟩, rfl, line_le' (by omega), ?_⟩⟩
    rw [show Txt.split (shownD d) " " = termW d from split_words (termW_ne d) fun z hz => (termW_words ft.term z hz).1]
    exact fun p np => ⟨p, d, rfl, upd_same, ft, fun y H' s hy => q y H' ((same_upd np).trans s) hy⟩
def spLWords (n : Nat) : Sp := fun vs H Q _ => ∃ (x : V) (d : PyData) (G : Hp), vs = [x] ∧ Same G H ∧ Dv G x d ∧ isTD d = true ∧ d.depth < n ∧ (thingsD d).length ≤ 100 ∧ ∀ (p : Addr) (H' : Hp), Same H H' → H p = none → H' p = some (.lst ((termW d).map V.str)) → Q (.ref p) H'
abbrev s__law_words : Stmt := top 36
theorem sc__law_words : FnScope ["_law_it", "_law_found", "_law_part"] ["_law_it"] (defScope s__law_words) := ⟨rfl, rfl, rfl, by decide +kernel, rfl, by decide +kernel, by decide +kernel⟩
set_option format.width 500 in
set_option format.indent 0 in
set_option pp.deepTerms true in
set_option pp.maxSteps 200000 in
theorem st__law_words {f : Addr} {fd : FuncData} {n k : Nat} (hk : 1 ≤ k) (D : Df K mg "_law_words" s__law_words f fd) (T : Tx K mg) (c__law_parts : Cal P w K mg base "_law_parts" ["_law_it"] 1 spLParts) (c__law_words : Cal P w K mg base "_law_words" ["_law_it"] k (spLWords n)) : Cal P w K mg base "_law_words" ["_law_it"] (k + 1) (spLWords (n + 1)) := by
  refine D.cal sc__law_words (fun vs H Q E h => ?_) (fun _ _ _ _ _ _ us hl => match us, hl with | [_], _ => rfl) (fun cdv A outer s H vs Q E hgu hr h => ?_)
  · obtain ⟨x, d, G, rfl, _⟩ := h
    rfl
  · obtain ⟨x, d, G, rfl, sG, hd, ht, hn, hl, q⟩ := h
    refine ⟨_, (pss_cons (ps_if (pt_cmpR op_eq (pe_ix (aIxT (K := K) rfl) (pv 0) pe_int (fun _ _ => rfl)) pe_str (by rfl)) (pss_one (ps_ret (pe_lstU (pa_cons (pe_ix (aIxT (K := K) rfl) (pv 0) pe_int (fun _ _ => rfl)) pa_nil)))) pss_nil) (pss_cons (ps_if (pt_cmpR op_eq (pe_ix (aIxT (K := K) rfl) (pv 0) pe_int (fun _ _ => rfl)) pe_str (by rfl)) (pss_one (ps_ret (pe_lstU (pa_cons (pe_op op_add_str pe_str (pe_ix (aIxT (K := K) rfl) (pv 0) pe_int (fun _ _ => rfl))) pa_nil)))) pss_nil) (pss_cons (ps_if (pt_cmpR op_eq (pe_ix (aIxT (K := K) rfl) (pv 0) pe_int (fun _ _ => rfl)) pe_str (by rfl)) (pss_one (ps_ret (pe_lstU (pa_cons (pe_callTy aStrN (by rfl) T.str (by decide +kernel) (pa_cons (pe_ix (aIxT (K := K) rfl) (pv 0) pe_int (fun _ _ => rfl)) pa_nil)) pa_nil)))) pss_nil) (pss_cons (ps_set (i := 1) sc__law_words.nd rfl (by first | exact Or.inl rfl | exact Or.inr rfl) (pe_lstU (pa_cons (pe_ix (aIxT (K := K) rfl) (pv 0) pe_int (fun _ _ => rfl)) pa_nil))) (pss_cons (ps_if (PW.pt (pw_and (pt_cmpR (aInSeq (K := K) rfl) (pe_ix (aIxT (K := K) rfl) (pv 0) pe_int (fun _ _ => rfl)) (pe_tupU (pa_cons pe_str (pa_cons pe_str (pa_cons pe_str pa_nil)))) (by rfl)) (pw_and1 (pt_cmpR op_ne (pe_ix (aIxT (K := K) rfl) (pv 0) pe_int (fun _ _ => rfl)) pe_str (by rfl))))) (pss_one (ps_set (i := 1) sc__law_words.nd rfl (by first | exact Or.inl rfl | exact Or.inr rfl) (pe_lstU (pa_cons (pe_op op_add_str (pe_op op_add_str (pe_ix (aIxT (K := K) rfl) (pv 0) pe_int (fun _ _ => rfl)) pe_str) (pe_ix (aIxT (K := K) rfl) (pv 0) pe_int (fun _ _ => rfl))) pa_nil)))) pss_nil) (pss_cons (ps_if (pt_cmpR op_eq (pe_ix (aIxT (K := K) rfl) (pv 0) pe_int (fun _ _ => rfl)) pe_str (by rfl)) (pss_one (ps_expr (pe_bm PySem.F.plainAttrs_list PySem.F.slot_list_append PySem.F.type_list_append mt_append (pv 1) (pa_cons (pe_ix (aIxT (K := K) rfl) (pe_ix (aIxT (K := K) rfl) (pv 0) pe_int (fun _ _ => rfl)) pe_int (fun _ _ => rfl)) pa_nil)))) pss_nil) (pss_cons (ps_for PassesOwn.never rfl (aWalkL (K := K) rfl (pe_cal c__law_parts hgu (hr.mono (by omega)) (by rfl) (pa_cons (pv 0) pa_nil))) (pg_name (i := 2) sc__law_words.nd rfl (by first | exact Or.inl rfl | exact Or.inr rfl)) (pss_one (ps_set (i := 1) sc__law_words.nd rfl (by first | exact Or.inl rfl | exact Or.inr rfl) (pe_op op_cat (pv 1) (pe_cal c__law_words hgu (hr.mono (by omega)) (by rfl) (pa_cons (pv 2) pa_nil)))))) (pss_one (ps_ret (pv 1)))))))))), ?_⟩
    refine seq_cut fun u hu => ?_
    walk_at "rq"
    obtain ⟨g, r, e0⟩ := head_form ht
    obtain ⟨a, zs, rfl, ea, hz⟩ := (e0 ▸ hd).tupR
    obtain ⟨v0, ys, rfl, f0, hz0⟩ := hz.consR
    cases f0.strR
    have k := sG _ _ ea
    have W := wform ht
    have leafW : partsD d = [] → termW d = headW d := fun e => by
      rw [termW_eq, e]
      simp
    refine ⟨a, rfl, _, .of k, _, at0, ?_⟩
    rw [rEq_str]
    refine ⟨_, rfl, ?_⟩
    by_cases h1 : g = "look"
    · subst h1 e0
      rw [leafW (parts_leaf (by decide +kernel))] at q
      generalize headW _ = ws at W q
      generalize headD _ = hd' at W
      cases W with
      | look z hn =>
        obtain ⟨v1, ys1, rfl, f1, _⟩ := hz0.consR
        cases f1.strR
        exact iteY (decide_eq_true rfl) ⟨a, rfl, _, .of k, _, at1, line_le' (by decide), fun p H' s n e => q p H' s n e⟩
      | flag h f ps m mf l => exact absurd m (by decide +kernel)
      | other h ps m => rcases m with ⟨m, _⟩ | ⟨m, _⟩ <;> exact absurd m (by decide +kernel)
    refine iteN (decide_eq_false h1) ?_
    subst hu
    refine seq_cut fun u hu => ?_
    walk_at "rq"
    refine ⟨_, .of k, _, at0, ?_⟩
    rw [rEq_str]
    refine ⟨_, rfl, ?_⟩
    by_cases h2 : g = "const"
    · subst h2 e0
      rw [leafW (parts_leaf (by decide +kernel))] at q
      generalize headW _ = ws at W q
      generalize headD _ = hd' at W
      cases W with
      | const z hnm =>
        obtain ⟨v1, ys1, rfl, f1, _⟩ := hz0.consR
        cases f1.strR
        exact iteY (decide_eq_true rfl) ⟨_, .of k, _, at1, z, rfl, line_le' (by have := (name_word hnm).2; have e : (Str.ofString "#").length = 1 := rfl; omega), line_le' (by decide), fun p H' s n e => q p H' s n e⟩
      | flag h f ps m mf l => exact absurd m (by decide +kernel)
      | other h ps m => rcases m with ⟨m, _⟩ | ⟨m, _⟩ <;> exact absurd m (by decide +kernel)
    refine iteN (decide_eq_false h2) ?_
    subst hu
    refine seq_cut fun u hu => ?_
    walk_at "rq"
    refine ⟨_, .of k, _, at0, ?_⟩
    rw [rEq_str]
    refine ⟨_, rfl, ?_⟩
    by_cases h3 : g = "num"
    · subst h3 e0
      rw [leafW (parts_leaf (by decide +kernel))] at q
      generalize headW _ = ws at W q
      generalize headD _ = hd' at W
      cases W with
      | num i i0 i1 =>
        obtain ⟨v1, ys1, rfl, f1, _⟩ := hz0.consR
        cases f1.intR
        refine iteY (decide_eq_true rfl) ⟨_, .of k, _, at1, ?_⟩
        refine .inl ⟨i, rfl, ?_, line_le' (by decide), fun p H' s n e => q p H' s n e⟩
        by_cases z : i.natAbs = 0
        · rw [z]
          decide
        · rw [Nat.log2_lt z]
          exact Nat.lt_of_lt_of_le (show i.natAbs < 2 ^ 7 by omega) (Nat.pow_le_pow_right (by decide) (by decide))
      | flag h f ps m mf l => exact absurd m (by decide +kernel)
      | other h ps m => rcases m with ⟨m, _⟩ | ⟨m, _⟩ <;> exact absurd m (by decide +kernel)
    refine iteN (decide_eq_false h3) ?_
    subst hu
    refine seq_cut fun u hu => ?_
    walk_at "rq"
    refine ⟨_, .of k, _, at0, line_le' (by decide), fun p0 H1 s1 n1 e1 => ?_⟩
    subst hu
    refine seq_cut fun u hu => ?_
    walk_at "rq"
    refine ⟨_, .of (s1 _ _ k), _, at0, line_le' (by decide), fun pf H2 s2 n2 e2 => ⟨flaggedL.map V.str, .inr (.of e2), rfl, flat_strs _, ?_⟩⟩
    rw [inV_strs]
    have s12 := s1.trans s2
    have k2 := s12 _ _ k
    have p02 := s2 _ _ e1
    -- behind the first word
    have rest : ∀ (w1 : Str) (tl : List Str) (p' : Addr) (Hx : Hp), headW d = w1 :: tl → (tl = [] ∧ ¬ g = "choice" ∨ ∃ (r' : Str) (t1 v p1 q1 : PyData), tl = [r'] ∧ g = "choice" ∧ d = .tuple [.str "choice", .tuple [.str r', t1, v], p1, q1]) → Same H Hx → H p' = none → Hx p' = some (.lst [.str w1]) → u { nx := fun x H' => Q V.non H', rt := Q } [some (V.ref a), some (V.ref p'), none] Hx := by
      intro w1 tl p' Hx ew hc sx np ep
      subst hu
      refine seq_cut fun u hu => ?_
      -- the parts
      have parts : ∀ (Hy : Hp), Same H Hy → Hy p' = some (.lst ((headW d).map V.str)) → u { nx := fun x H' => Q V.non H', rt := Q } [some (V.ref a), some (V.ref p'), none] Hy := by
        intro Hy sy ey
        subst hu
        walk_at "rq"
        refine ⟨.ref a, rfl, .ref a, d, G, rfl, sG.trans sy, hd, ht, fun pa xs Hz sz nz ez hxs => ⟨pa, rfl, ⟨xs, .of ez⟩, ?_⟩⟩
        refine for_steps (steps_list K pa xs) (fun i σ Hc => ∃ (pc : Addr) (o : Option V), σ = [some (.ref a), some (.ref pc), o] ∧ Same Hz Hc ∧ H pc = none ∧ Hc pc = some (.lst ((headW d ++ ((partsD d).take i).flatMap termW).map V.str))) ⟨p', none, rfl, Same.refl Hz, np, by simpa using sz _ _ ey⟩ (fun i σ Hc _ ⟨_, _, _, sc, _⟩ => .of (sc _ _ ez)) ?_ ?_
        · rintro i y σ Hc hy ⟨pc, o, rfl, sc, npc, epc⟩
          obtain ⟨dy, hdy, hv⟩ := dv_at hxs hy
          have my := List.mem_of_getElem? hdy
          have et : (partsD d).take (i + 1) = (partsD d).take i ++ [dy] := by rw [List.take_add_one, hdy]; rfl
          have ltd : (thingsD d).length = ((partsD d).flatMap thingsD).length + 1 := by rw [things_eq]; rfl
          have lsum : (((partsD d).take i).flatMap thingsD).length + (thingsD dy).length ≤ ((partsD d).flatMap thingsD).length := by
            have e : partsD d = (partsD d).take (i + 1) ++ (partsD d).drop (i + 1) := (List.take_append_drop _ _).symm
            conv => rhs; rw [e, et, List.flatMap_append, List.flatMap_append, List.length_append, List.length_append]
            simp only [List.flatMap_cons, List.flatMap_nil, List.append_nil]
            omega
          have tdy := terms_parts ht dy my
          have lw1 := termW_len tdy
          have lw0 := (head_words ht).2
          have lw2 : (((partsD d).take i).flatMap termW).length ≤ 2 * (((partsD d).take i).flatMap thingsD).length := by
            have : ∀ l : List PyData, (∀ x ∈ l, isTD x = true) → (l.flatMap termW).length ≤ 2 * (l.flatMap thingsD).length := fun l hl => by
              induction l with
              | nil => exact Nat.zero_le _
              | cons x l ih =>
                have h1 := termW_len (hl x List.mem_cons_self)
                have h2 := ih fun y hy => hl y (List.mem_cons_of_mem _ hy)
                rw [List.flatMap_cons, List.flatMap_cons, List.length_append, List.length_append]
                omega
            exact this _ fun x hx => terms_parts ht x (List.mem_of_mem_take hx)
          walk_at "rq"
          refine ⟨y, dy, G, rfl, (sG.trans (sy.trans sz)).trans sc, hv, tdy, by have := depth_parts ht my; omega, by omega, fun pb He s3 n3 e3 => ?_⟩
          refine ⟨pb, rfl, _, s3 _ _ epc, _, e3, ?_, fun pq nq => ⟨pq, ⟨rfl, _, rfl⟩, (sc.trans s3).trans (same_upd nq), (((sy.trans sz).trans sc).trans s3).free nq, ?_⟩⟩
          · rw [List.length_map, List.length_map, List.length_append]
            exact line_le' (by omega)
          · rw [upd_same, et, List.flatMap_append, ← List.map_append]
            simp
        · rintro σ Hc ⟨pc, o, rfl, sc, npc, epc⟩
          have el : xs.length = (partsD d).length := hxs.len
          rw [el, List.take_length, ← termW_eq] at epc
          walk_at "rq"
          exact q pc Hc ((sy.trans sz).trans sc) npc epc
      walk_at "rq"
      refine ⟨_, .of (sx _ _ k), _, at0, ?_⟩
      rw [rEq_str]
      refine ⟨_, rfl, ?_⟩
      rcases hc with ⟨rfl, nc⟩ | ⟨r', t1, v, p1, q1, rfl, gc, ed⟩
      · exact iteN (decide_eq_false nc) (parts Hx sx (by rw [ew]; exact ep))
      · refine iteY (decide_eq_true gc) ?_
        have hd2 := ed ▸ hd
        obtain ⟨a', zs', ea', ex, hz'⟩ := hd2.tupR
        cases ea'
        rw [ea] at ex
        cases ex
        obtain ⟨v0', ys0', e1, _, hz1⟩ := hz'.consR
        cases e1
        obtain ⟨v1', ys1', rfl, f1, _⟩ := hz1.consR
        obtain ⟨b, ws, rfl, eb, hw⟩ := f1.tupR
        obtain ⟨v2', ws2, rfl, f2, _⟩ := hw.consR
        cases f2.strR
        refine ⟨.inl ⟨rfl, _, .of ep⟩, _, .of (sx _ _ k), _, at1, b, rfl, _, .of (sx _ _ (sG _ _ eb)), _, at0, _, ep, line_le' (show 2 ≤ 1000000 by decide), parts _ (Same.out sx np) ?_⟩
        rw [ew]
        exact upd_same
    have shape : (∃ (f : Str) (ps : List PyData), g ∈ flaggedL ∧ f ∈ flagsL ∧ d = .tuple (.str g :: .str f :: ps) ∧ headW d = [if f = "" then g else g ++ "." ++ f] ∧ ¬ g = "choice") ∨
        (g ∉ flaggedL ∧ ∃ tl, headW d = g :: tl ∧ (tl = [] ∧ ¬ g = "choice" ∨ ∃ (r' : Str) (t1 v p1 q1 : PyData), tl = [r'] ∧ g = "choice" ∧ d = .tuple [.str "choice", .tuple [.str r', t1, v], p1, q1])) := by
      have W' := W
      generalize headW d = ws at W' ⊢
      generalize headD d = hd' at W'
      clear q rest W leafW
      subst e0
      cases W' with
      | look z h => exact absurd rfl h1
      | const z h => exact absurd rfl h2
      | num i i0 i1 => exact absurd rfl h3
      | choice r' t1 v p1 q1 m => exact .inr ⟨by decide +kernel, [r'], rfl, .inr ⟨r', t1, v, p1, q1, rfl, rfl, rfl⟩⟩
      | flag h f ps m mf l => exact .inl ⟨f, ps, m, mf, rfl, rfl, (flag_not m).2⟩
      | other h ps m => exact .inr ⟨(other_not m).2.2, [], rfl, .inl ⟨rfl, (other_not m).2.1⟩⟩
    rcases shape with ⟨f, ps, m, mf, ed, ew, nc⟩ | ⟨m, tl, ew, hc⟩
    · have hd2 := ed ▸ hd
      obtain ⟨a', zs', ea', ex, hz'⟩ := hd2.tupR
      cases ea'
      rw [ea] at ex
      cases ex
      obtain ⟨v0', ys0', e1', _, hz1⟩ := hz'.consR
      cases e1'
      obtain ⟨v1', ys1', rfl, f1, _⟩ := hz1.consR
      cases f1.strR
      refine iteY (decide_eq_true m) ⟨_, .of k2, _, at1, ?_⟩
      rw [rNe_str]
      refine ⟨_, rfl, ?_⟩
      have l1 := (show ∀ h ∈ flaggedL, h.length ≤ 9 by decide +kernel) g m
      have l2 := (show ∀ h ∈ flagsL, h.length ≤ 9 by decide +kernel) f mf
      have e9 : (Str.ofString ".").length = 1 := rfl
      by_cases e : f = ""
      · rw [if_pos e] at ew
        exact iteN (by rw [decide_eq_true e]; rfl) (rest g [] p0 H2 ew (.inl ⟨rfl, nc⟩) s12 n1 p02)
      · rw [if_neg e] at ew
        exact iteY (by rw [decide_eq_false e]; rfl) ⟨_, .of k2, _, at0, g, rfl, line_le' (by omega), _, .of k2, _, at1, f, rfl, line_le' (by rw [strLen_append]; omega), line_le' (by decide), fun p5 H5 s5 n5 e5 => rest _ [] p5 H5 ew (.inl ⟨rfl, nc⟩) (s12.trans s5) (s12.free n5) e5⟩
    · exact iteN (decide_eq_false m) (rest g tl p0 H2 ew hc s12 n1 p02)
/-- the law's words, at each level -/
theorem ok__law_words {f : Addr} {fd : FuncData} (D : Df K mg "_law_words" s__law_words f fd) (T : Tx K mg) (c__law_parts : Cal P w K mg base "_law_parts" ["_law_it"] 1 spLParts) : ∀ n : Nat, Cal P w K mg base "_law_words" ["_law_it"] (n + 1) (spLWords n)
  | 0 => D.cal (k := 0) sc__law_words (fun vs H Q E h => by
      obtain ⟨x, d, G, rfl, _⟩ := h
      rfl) (fun _ _ _ _ _ _ us hl => match us, hl with | [_], _ => rfl) (fun cdv A outer s H vs Q E hgu hr h => by
      obtain ⟨x, d, G, _, _, _, _, hn, _⟩ := h
      exact absurd hn (Nat.not_lt_zero _))
  | n + 1 => st__law_words (k := n + 1) (by omega) D T c__law_parts (ok__law_words D T c__law_parts n)
end
end Vf
namespace Vf
open PySem L2 PyProof.Rows PySem.Spec StX RT
/-! ## a word tells its head -/
def dec (u : Str) : PyData := if isName (.str u) = true then .tuple [.str "look", .str u] else if Txt.startswith u "#" = true then .tuple [.str "const", .str (cutS u (some 1) none)] else
  if figs u = true then .tuple [.str "num", .int ((PySem.intText? u).getD 0)] else if (Txt.partition u ".").1 ∈ flaggedL then .tuple [.str (Txt.partition u ".").1, .str (Txt.partition u ".").2.2] else .tuple [.str u]
theorem dec_eq {t hd : PyData} {u : Str} (W : WForm t [u] hd) : dec u = hd := by
  have N : ∀ {b : Bool}, b = false → ¬ b = true := fun h => by rw [h]; exact Bool.false_ne_true
  cases W with
  | look z h => rw [dec, if_pos h]
  | const z h => rw [dec, if_neg (N (sharp_name z)), if_pos (sharp_starts z), sharp_cut]
  | num i h0 h1 =>
    obtain ⟨a1, a2, a3, a4, a5, a6, _⟩ := numw h0 h1
    have e : figs (numT i) = true := by
      unfold figs
      rw [a1, a2]
      rfl
    rw [dec, if_neg (N a5), if_neg (N a6), if_pos e, a4]
    rfl
  | flag h f ps m mf l =>
    have k := flag_facts h m f mf
    simp only [Bool.and_eq_true, Bool.not_eq_true', decide_eq_false_iff_not, decide_eq_true_eq, beq_iff_eq] at k
    obtain ⟨⟨⟨⟨⟨⟨k1, k2⟩, k3⟩, k4⟩, k5⟩, k6⟩, _⟩ := k
    rw [dec, if_neg (N k1), if_neg (N k2), if_neg (N (show figs _ = false from k3)), k4, k5, if_pos m]
  | other h ps m =>
    have k := other_facts _ (List.mem_append.mpr (m.imp And.left And.left))
    simp only [Bool.and_eq_true, Bool.not_eq_true', decide_eq_false_iff_not, decide_eq_true_eq] at k
    obtain ⟨⟨⟨⟨⟨⟨k1, k2⟩, k3⟩, k4⟩, k5⟩, k6⟩, _⟩ := k
    rw [dec, if_neg (N k1), if_neg (N k2), if_neg (N (show figs _ = false from k3)), k4, if_neg k5]
theorem wone {t hd : PyData} {ws : List Str} (W : WForm t ws hd) : (∃ u, ws = [u]) ∨ ∃ r : Str, ws = ([Str.ofString "choice", r] : List Str) ∧ hd = .tuple [.str "choice", .str r] := by
  cases W with
  | look z h => exact .inl ⟨_, rfl⟩
  | const z h => exact .inl ⟨_, rfl⟩
  | num i h0 h1 => exact .inl ⟨_, rfl⟩
  | choice r t v p' q' m => exact .inr ⟨r, rfl, rfl⟩
  | flag h f ps m mf l => exact .inl ⟨_, rfl⟩
  | other h ps m => exact .inl ⟨_, rfl⟩
theorem head_inj {t hd t' hd' : PyData} {ws ws' A B : List Str} (W : WForm t ws hd) (W' : WForm t' ws' hd') (e : ws ++ A = ws' ++ B) : hd = hd' ∧ A = B := by
  rcases wone W with ⟨u, rfl⟩ | ⟨r, rfl, rfl⟩
  · rcases wone W' with ⟨u', rfl⟩ | ⟨r', rfl, rfl⟩
    · obtain ⟨rfl, e2⟩ := List.cons.inj e
      exact ⟨(dec_eq W).symm.trans (dec_eq W'), e2⟩
    · obtain ⟨rfl, _⟩ := List.cons.inj e
      exact absurd rfl (word_choice W)
  · rcases wone W' with ⟨u', rfl⟩ | ⟨r', rfl, rfl⟩
    · obtain ⟨rfl, _⟩ := List.cons.inj e
      exact absurd rfl (word_choice W')
    · obtain ⟨_, e2⟩ := List.cons.inj e
      obtain ⟨rfl, e3⟩ := List.cons.inj e2
      exact ⟨rfl, e3⟩
theorem forest_inj : ∀ (n : Nat) (gs hs : List PyData), (gs.flatMap thingsD).length ≤ n → (∀ t ∈ gs, isTD t = true) → (∀ t ∈ hs, isTD t = true) → gs.flatMap termW = hs.flatMap termW → gs = hs
  | _, [], [], _, _, _, _ => rfl
  | _, [], t' :: hs, _, _, _, e => by
    rw [List.flatMap_cons] at e
    exact absurd (List.append_eq_nil_iff.mp e.symm).1 (termW_ne t')
  | _, t :: gs, [], _, _, _, e => by
    rw [List.flatMap_cons] at e
    exact absurd (List.append_eq_nil_iff.mp e).1 (termW_ne t)
  | 0, t :: gs, _ :: _, h, _, _, _ => by
    rw [List.flatMap_cons, things_eq] at h
    simp at h
  | n + 1, t :: gs, t' :: hs, h, tg, th, e => by
    have ht := tg t List.mem_cons_self
    have ht' := th t' List.mem_cons_self
    rw [List.flatMap_cons, List.flatMap_cons, termW_eq t, termW_eq t', List.append_assoc, List.append_assoc] at e
    obtain ⟨eh, e2⟩ := head_inj (wform ht) (wform ht') e
    rw [← List.flatMap_append, ← List.flatMap_append] at e2
    have e3 := forest_inj n (partsD t ++ gs) (partsD t' ++ hs) (by
      rw [List.flatMap_cons, things_eq] at h
      rw [List.flatMap_append]
      simp only [List.cons_append, List.length_cons] at h
      omega) (fun x m => (List.mem_append.mp m).elim (terms_parts ht x) fun k => tg x (List.mem_cons_of_mem _ k)) (fun x m => (List.mem_append.mp m).elim (terms_parts ht' x) fun k => th x (List.mem_cons_of_mem _ k)) e2
    obtain ⟨g, h1, r1, d1, s1⟩ := head_data ht
    obtain ⟨g', h2, r2, d2, s2⟩ := head_data ht'
    have eg : g = g' := by
      rw [d1, d2] at eh
      injection eh with eh
      injection eh with eh
      injection eh
    have ll : (partsD t).length = (partsD t').length := by
      have c1 := cnt_parts (g := g) (r := r1) (by rw [← s1]; exact ht)
      have c2 := cnt_parts (g := g') (r := r2) (by rw [← s2]; exact ht')
      rw [← s1] at c1
      rw [← s2, ← eg, c1] at c2
      injection c2 with c2
      omega
    obtain ⟨ep, rfl⟩ := List.append_inj e3 ll
    have : t = t' := by
      rcases head_shape ht with ⟨r, x1, x2, x3, x4, q1, q2⟩ | ⟨k1, k2, q1, q2, q3, _⟩
      · rcases head_shape ht' with ⟨r', y1, y2, y3, y4, q3, q4⟩ | ⟨k1, k2, q3, q4, _, _⟩
        · rw [q2, q4] at eh
          rw [q1, q3, parts_choice, parts_choice] at ep
          simp only [PyData.tuple.injEq, List.cons.injEq, PyData.str.injEq, and_true, true_and] at eh ep
          obtain ⟨rfl, rfl, rfl, rfl⟩ := ep
          rw [q1, q3, eh]
        · rw [q2, q3] at eh
          simp only [PyData.tuple.injEq, List.cons.injEq, PyData.str.injEq] at eh
          exact absurd eh.1.symm q4
      · rcases head_shape ht' with ⟨r', y1, y2, y3, y4, q4, q5⟩ | ⟨k1', k2', q4, q5, q6, _⟩
        · rw [q1, q5] at eh
          simp only [PyData.tuple.injEq, List.cons.injEq, PyData.str.injEq] at eh
          exact absurd eh.1 q2
        · rw [q1, q4] at eh
          simp only [PyData.tuple.injEq, List.cons.injEq, PyData.str.injEq] at eh
          rw [q3, q6, eh.1, eh.2, ep]
    rw [this]
theorem show_inj {d e : PyData} (hd : isTD d = true) (he : isTD e = true) (h : shownD d = shownD e) : d = e := by
  have s1 := split_words (termW_ne d) fun z hz => (termW_words hd z hz).1
  have s2 := split_words (termW_ne e) fun z hz => (termW_words he z hz).1
  have ew : termW d = termW e := by
    rw [← s1, ← s2]
    exact congrArg (fun s => Txt.split s " ") h
  have := forest_inj _ [d] [e] (Nat.le_refl _) (fun t m => by rw [List.mem_singleton.mp m]; exact hd) (fun t m => by rw [List.mem_singleton.mp m]; exact he) (by simpa using ew)
  exact (List.cons.inj this).1
/-! ## alike, just where they are one -/
mutual
def nb : PyData → Bool
  | .bool _ => false
  | .dict _ => false
  | .list l => nbL l
  | .tuple l => nbL l
  | _ => true
def nbL : List PyData → Bool
  | [] => true
  | d :: l => nb d && nbL l
end
mutual
theorem eqv_eq : ∀ (d e : PyData), nb d = true → nb e = true → PyData.eqv d e = true → d = e
  | .none, e, _, h2, h => by cases e <;> simp_all [PyData.eqv, nb]
  | .bool _, _, h, _, _ => absurd h (by simp [nb])
  | .int i, e, _, h2, h => by cases e <;> simp_all [PyData.eqv, nb]
  | .str x, e, _, h2, h => by cases e <;> simp_all [PyData.eqv, nb]
  | .list l, e, h1, h2, h => by
    cases e with
    | list m =>
      simp only [PyData.eqv, nb] at h h1 h2
      rw [eqvL_eq l m h1 h2 h]
    | _ => simp [PyData.eqv] at h
  | .tuple l, e, h1, h2, h => by
    cases e with
    | tuple m =>
      simp only [PyData.eqv, nb] at h h1 h2
      rw [eqvL_eq l m h1 h2 h]
    | _ => simp [PyData.eqv] at h
  | .dict _, _, h, _, _ => absurd h (by simp [nb])
theorem eqvL_eq : ∀ (l m : List PyData), nbL l = true → nbL m = true → PyData.eqvAll l m = true → l = m
  | [], [], _, _, _ => rfl
  | [], _ :: _, _, _, h => by simp [PyData.eqvAll] at h
  | _ :: _, [], _, _, h => by simp [PyData.eqvAll] at h
  | d :: l, e :: m, h1, h2, h => by
    simp only [nbL, PyData.eqvAll, Bool.and_eq_true] at h h1 h2
    rw [eqv_eq d e h1.1 h2.1 h.1, eqvL_eq l m h1.2 h2.2 h.2]
end
theorem nbL_iff : ∀ {l : List PyData}, nbL l = true ↔ ∀ d ∈ l, nb d = true
  | [] => by simp [nbL]
  | d :: l => by
    simp only [nbL, Bool.and_eq_true, nbL_iff (l := l), List.mem_cons, forall_eq_or_imp]
theorem nb_td (d : PyData) (ht : isTD d = true) : nb d = true := by
  refine things_ind (p := fun d => isTD d = true → nb d = true) (fun d ih ht => ?_) (sz d) d (Nat.le_refl _) ht
  have hp : ∀ x ∈ partsD d, nb x = true := fun x hx => ih x hx (terms_parts ht x hx)
  have W := wform ht
  generalize headW d = ws at W
  generalize headD d = hd at W
  cases W with
  | look z h => rfl
  | const z h => rfl
  | num i h0 h1 => rfl
  | choice r t v p q m =>
    rw [parts_choice] at hp
    simp only [nb, nbL, Bool.and_eq_true, and_true, true_and]
    exact ⟨⟨hp t (by simp), hp v (by simp)⟩, hp p (by simp), hp q (by simp)⟩
  | flag h f ps m mf l =>
    rw [parts_flag m] at hp
    simp only [nb, nbL, Bool.true_and]
    exact nbL_iff.mpr hp
  | other h ps m =>
    rw [parts_other m] at hp
    simp only [nb, nbL, Bool.true_and]
    exact nbL_iff.mpr hp
theorem eqv_td {d e : PyData} {B : Nat} (hd : isTD d = true) (he : isTD e = true) (od : okD B d = true) : PyData.eqv d e = true ↔ d = e :=
  ⟨fun h => eqv_eq d e (nb_td d hd) (nb_td e he) h, fun h => by
    subst h
    exact SeqAt.eqv_refl d (lay_td d hd od)⟩
/-! ## its text may be shown -/
theorem strOk_app {a b : Str} (h : PyData.strOk a = true) (k : PyData.strOk b = true) : PyData.strOk (a ++ b) = true := by
  refine strOk_of fun x hx => ?_
  have hx : x ∈ (a ++ b : Str).cps.toList := hx
  rw [tl_app2] at hx
  have f : ∀ {c : Str}, PyData.strOk c = true → ∀ y ∈ c.cps.toList, y < 0x110000 := fun hc y hy => by
    have := Array.all_eq_true_iff_forall_mem.mp hc y (by simpa using hy)
    simpa using this
  exact (List.mem_append.mp hx).elim (f h x) (f k x)
theorem strOk_join : ∀ {l : List Str}, (∀ z ∈ l, PyData.strOk z = true) → PyData.strOk (Str.join " " l) = true
  | [], _ => by decide +kernel
  | [x], h => h x List.mem_cons_self
  | x :: z :: r, h => by
    rw [join_cons _ _ (by simp)]
    exact strOk_app (strOk_app (h x List.mem_cons_self) (by decide +kernel)) (strOk_join fun y hy => h y (List.mem_cons_of_mem _ hy))
theorem head_ok {t : PyData} (ht : isTD t = true) : ∀ z ∈ headW t, PyData.strOk z = true := by
  have W := wform ht
  generalize headW t = ws at W ⊢
  generalize headD t = hd at W
  cases W with
  | look z h => exact fun y hy => by rw [List.mem_singleton.mp hy]; exact (word_fine (.look z h)).2
  | const z h => exact fun y hy => by rw [List.mem_singleton.mp hy]; exact (word_fine (.const z h)).2
  | num i h0 h1 => exact fun y hy => by rw [List.mem_singleton.mp hy]; exact (word_fine (.num i h0 h1)).2
  | choice r t v p q m =>
    intro z hz
    simp only [List.mem_cons, List.not_mem_nil, or_false] at hz
    rcases hz with rfl | rfl
    · decide +kernel
    · exact (show ∀ r ∈ compL, PyData.strOk r = true by decide +kernel) _ m
  | flag h f ps m mf l => exact fun y hy => by rw [List.mem_singleton.mp hy]; exact (word_fine (.flag h f ps m mf l)).2
  | other h ps m => exact fun y hy => by rw [List.mem_singleton.mp hy]; exact (word_fine (.other h ps m)).2
theorem shownD_ok {d : PyData} (ht : isTD d = true) : PyData.strOk (shownD d) = true := strOk_join fun z hz => by
  obtain ⟨t, m, h⟩ := List.mem_flatMap.mp hz
  exact head_ok (things_terms d ht t m) z h
end Vf
namespace Vf
open PySem L2 PyProof.Rows PySem.Spec StX RT

local macro_rules | `(tactic| walk_at "rd") => `(tactic| simp only [tSeq, tIfS, tOr, tAnd, tNot, tB, tTest, tChain, tCB, tCons, tNil, tVar, tC, tRet, tAndV, tOrV, tNotV, tOp, tNext, tDrop, tAsg, tPar, tYes, tIf, tCall, tCalK, tTup, tLst, tSl, tNoPart, tPart, tM0, tM1, tRevL, tBM0, tBM, gName, rI0, rI, rU, rInA, rEqA, rAddA, rMulA, rSlAny, iAny, rIsi, rAll, rAny, rSum, rList, rTuple, rLen, rLenS, rLenSeq, rMulS, CDiv, rIn, rEqD, rNeD, iList, iTup, iStr, rCat, rCatA, rSlL, rSlA, rSlS, gSub, rPop, rAppend, rSetL, rIx, rIxL, rIxT, rIxS, LenV,
  L2.start, List.map_cons, List.map_nil, List.length_cons, List.length_nil, List.cons_append, List.nil_append, List.append_nil, Nat.zero_add, Nat.add_sub_cancel, Nat.sub_self, List.replicate_succ, List.replicate_zero, List.getElem?_cons_zero, List.getElem?_cons_succ, List.set_cons_zero, List.set_cons_succ,
  Option.some.injEq, V.int.injEq, V.str.injEq, V.bl.injEq, V.ref.injEq, List.cons.injEq, and_true, true_and, exists_eq_left', exists_eq_left, exists_eq_right, exists_and_left, exists_and_right, false_or, or_false, reduceCtorEq, false_and, and_false, exists_false, Bool.not_true, Bool.not_false, if_true, if_false, Bool.false_eq_true, ite_true, ite_false])
local macro_rules | `(tactic| walk_at "rq") => `(tactic| (walk_at "rd"; (try simp only [rEq_int, rEq_str, rNe_int, tUn, rU, tC, rInT, rInK, rIxK, rExtend, rExtendT, rSlU, rCatU, rEqE, rIntB, tTupU, tLstU, tDGet2, tCont, tToT, tStar, rCatM, rReprS, rStrN, tM0, tM1, tCKw, rMaxDf, V.int.injEq, V.str.injEq, V.bl.injEq, V.ref.injEq, exists_eq_left', exists_eq_left, Bool.false_bne, Bool.false_xor, Bool.true_xor]); (try walk_at "rd")))
/-! ## what is shown -/
def pairS (z : Str) : PyData := .list [.str z, .str z]
theorem pairS_shows {z : Str} (h : PyData.strOk z = true) (l : z.length ≤ 2000) : (pairS z).showable = true ∧ (pairS z).depth ≤ 60 ∧ (pairS z).shown.length ≤ sizeLine := by
  have o : okD 99 (pairS z) = true := by simp only [pairS, okD, okL, h, Bool.and_self]
  have k := shown_wt (B := 99) (by decide) (pairS z) o
  have w : wt (pairS z) ≤ 50000 := by
    simp only [pairS, wt, wtL]
    omega
  refine ⟨ok_shows (B := 99) (by decide) _ o, ?_, line_le' (by omega)⟩
  simp only [pairS, PyData.depth, PyData.depthAll]
  decide
def pairT (d : PyData) : PyData := .list [d, d]
theorem Fit.shows {d : PyData} (f : Fit d) : (pairT d).showable = true ∧ (pairT d).depth ≤ 60 ∧ (pairT d).shown.length ≤ sizeLine ∧ d.showable = true ∧ d.depth ≤ 60 ∧ d.shown.length ≤ sizeLine := by
  have g : Gd 99 300000 50 (pairT d) := by
    refine ⟨?_, ?_, ?_⟩
    · simp only [pairT, okD, okL, f.gd.ok, Bool.and_self]
    · have := f.gd.wt
      simp only [pairT, wt, wtL]
      omega
    · have := f.gd.depth
      simp only [pairT, PyData.depth, PyData.depthAll]
      omega
  obtain ⟨_, _, a, b, c⟩ := g.shows (by decide) (by decide) (by decide)
  obtain ⟨_, _, a', b', c'⟩ := f.gd.shows (by decide) (by decide) (by decide)
  exact ⟨a, b, c, a', b', c'⟩
/-! ## great ones -/
structure DG (n : Nat) (d : PyData) : Prop where
  term : isTD d = true
  ok : okD 99 d = true
  wt : wt d ≤ 700 + 305 * n
  depth : d.depth ≤ 1 + n
  cnt : (thingsD d).length ≤ 1 + n
theorem DG.up {n : Nat} {d : PyData} {h : Str} (g : DG n d) (hh : h ∈ singlesL) : DG (n + 1) (.tuple [.str h, d]) := by
  obtain ⟨k, t⟩ := gd_other (S := 705 + 305 * n) (D := 1 + n) (C := 1 + n) (h := h) (ds := [d]) (.inr ⟨hh, rfl⟩) ⟨fun y m => by rw [List.mem_singleton.mp m]; exact g.ok, fun y m => by rw [List.mem_singleton.mp m]; exact g.depth, fun y m => by rw [List.mem_singleton.mp m]; exact g.term, by have := g.wt; simp only [wtL]; omega, by simpa using g.cnt⟩
  refine ⟨t, k.ok, by have := k.wt; omega, ?_, ?_⟩
  · have := g.depth
    simp only [PyData.depth, PyData.depthAll]
    omega
  · rw [cnt_of (parts_other (ps := [d]) (.inr ⟨hh, rfl⟩))]
    have := g.cnt
    simp
    omega
structure TG (n : Nat) (d : PyData) : Prop where
  term : isTD d = true
  ok : okD 99 d = true
  wt : wt d + 310 ≤ 1010 * 2 ^ n
  depth : d.depth ≤ 1 + 2 * n
  cnt : (thingsD d).length + 1 ≤ 2 ^ (n + 1)
theorem TG.up {n : Nat} {d : PyData} {f : Str} (g : TG n d) (hf : f ∈ flagsL) : TG (n + 1) (.tuple [.str "sum", .str f, d, d]) := by
  have e2 : 2 ^ (n + 1) = 2 * 2 ^ n := by rw [Nat.pow_succ, Nat.mul_comm]
  have e3 : 2 ^ (n + 1 + 1) = 2 * 2 ^ (n + 1) := by rw [Nat.pow_succ, Nat.mul_comm]
  obtain ⟨k, t⟩ := gd_flag (S := 2 * (1010 * 2 ^ n) - 610) (D := 1 + 2 * n) (C := 2 * (thingsD d).length) (h := "sum") (f := f) (ds := [d, d]) (by decide +kernel) hf (by rw [if_neg (by decide +kernel)]; rfl) ⟨fun y m => by
    simp only [List.mem_cons, List.not_mem_nil, or_false, or_self] at m
    rw [m]
    exact g.ok, fun y m => by
    simp only [List.mem_cons, List.not_mem_nil, or_false, or_self] at m
    rw [m]
    exact g.depth, fun y m => by
    simp only [List.mem_cons, List.not_mem_nil, or_false, or_self] at m
    rw [m]
    exact g.term, by have := g.wt; simp only [wtL]; omega, by simp; omega⟩
  have gw := g.wt
  refine ⟨t, k.ok, by have := k.wt; rw [e2]; omega, by have := k.depth; omega, ?_⟩
  rw [cnt_of (parts_flag (ps := [d, d]) (by decide +kernel)), e3]
  have := g.cnt
  simp
  omega
theorem DG.fit {n : Nat} {d : PyData} (g : DG n d) (h : n ≤ 40) : Fit d := ⟨g.term, ⟨g.ok, by have := g.wt; omega, by have := g.depth; omega⟩, by have := g.cnt; omega⟩
theorem TG.fit {d : PyData} (g : TG 5 d) : Fit d := ⟨g.term, ⟨g.ok, by have := g.wt; omega, by have := g.depth; omega⟩, by have := g.cnt; omega⟩
theorem TG.fitN {d : PyData} (g : TG 5 d) : Fit (.tuple [.str "not", d]) := by
  obtain ⟨k, t⟩ := gd_other (S := 40000) (D := 11) (C := 63) (h := "not") (ds := [d]) (.inr ⟨by decide +kernel, rfl⟩) ⟨fun y m => by rw [List.mem_singleton.mp m]; exact g.ok, fun y m => by rw [List.mem_singleton.mp m]; exact g.depth, fun y m => by rw [List.mem_singleton.mp m]; exact g.term, by have := g.wt; simp only [wtL]; omega, by have := g.cnt; simp; omega⟩
  refine ⟨t, k.mono (Nat.le_refl _) (by decide) (by decide), ?_⟩
  rw [cnt_of (parts_other (ps := [d]) (.inr ⟨by decide +kernel, rfl⟩))]
  have := g.cnt
  simp
  omega
section
variable {P : Program} {w : World} {K : PySem.W.Frag} {mg : Str → Option Value} {base : Heap}
def spRight : Sp := fun vs H Q _ => ∃ (x : V) (d : PyData), vs = [x] ∧ Dv H x d ∧ Fit d ∧ ∀ H', Same H H' → Q (.bl true) H'
abbrev s__law_right : Stmt := top 38
theorem sc__law_right : FnScope ["_law_it", "_law_kept", "_law_due"] ["_law_it"] (defScope s__law_right) := ⟨rfl, rfl, rfl, by decide +kernel, rfl, by decide +kernel, by decide +kernel⟩
set_option format.width 500 in
set_option format.indent 0 in
set_option pp.deepTerms true in
set_option pp.maxSteps 200000 in
theorem ok__law_right (hsys : SysAt base) {f : Addr} {fd : FuncData} (D : Df K mg "_law_right" s__law_right f fd) (T : Tx K mg) (c__law_words : Cal P w K mg base "_law_words" ["_law_it"] 51 (spLWords 50))
    (c_show_term : Cal P w K mg base "show_term" ["term"] 2 spShow) (c_read_term : Cal P w K mg base "read_term" ["text"] 6 spRead)
    (k_show_term_term : CalK P w K mg base "show_term" ["term"] ["term"] 0 (fun _ us ws => us ++ ws) 2 spShow) (k_read_term_text : CalK P w K mg base "read_term" ["text"] ["text"] 0 (fun _ us ws => us ++ ws) 6 spRead) :
    Cal P w K mg base "_law_right" ["_law_it"] 52 spRight := by
  refine D.cal sc__law_right (fun vs H Q E h => ?_) (fun _ _ _ _ _ _ us hl => match us, hl with | [_], _ => rfl) (fun cdv A outer s H vs Q E hgu hr h => ?_)
  · obtain ⟨x, d, rfl, _⟩ := h
    rfl
  · obtain ⟨x, d, rfl, hd, ft, q⟩ := h
    refine ⟨_, (pss_cons (ps_par (i := 1) (j := 2) (by rfl) sc__law_right.nd rfl rfl (by decide) rfl rfl (pa_cons (pe_callB (call_reprS hsys hgu hr.units) (by rfl) T.repr (by decide +kernel) (pa_cons (pv 0) pa_nil)) (pa_cons (pe_join pe_str (pe_cal c__law_words hgu (hr.mono (by omega)) (by rfl) (pa_cons (pv 0) pa_nil))) pa_nil)) (by rfl)) (pss_cons (ps_if (PW.pt (pw_or (pt_cmpR op_ne (pe_callB (call_reprS hsys hgu hr.units) (by rfl) T.repr (by decide +kernel) (pa_cons (pe_lstU (pa_cons (pe_cal c_show_term hgu (hr.mono (by omega)) (by rfl) (pa_cons (pv 0) pa_nil)) (pa_cons (pe_calK0 k_show_term_term hgu (hr.mono (by omega)) (by rfl) (pk_cons (pv 0) pk_nil)) pa_nil))) pa_nil)) (pe_callB (call_reprS hsys hgu hr.units) (by rfl) T.repr (by decide +kernel) (pa_cons (pe_lstU (pa_cons (pv 2) (pa_cons (pv 2) pa_nil))) pa_nil)) (by rfl)) (pw_or1 (pt_cmpR op_ne (pe_callB (call_reprS hsys hgu hr.units) (by rfl) T.repr (by decide +kernel) (pa_cons (pv 0) pa_nil)) (pv 1) (by rfl))))) (pss_one (ps_ret pe_bl)) pss_nil) (pss_one (ps_ret (pe_cmpR op_eq (pe_callB (call_reprS hsys hgu hr.units) (by rfl) T.repr (by decide +kernel) (pa_cons (pe_lstU (pa_cons (pe_cal c_read_term hgu (hr.mono (by omega)) (by rfl) (pa_cons (pv 2) pa_nil)) (pa_cons (pe_calK0 k_read_term_text hgu (hr.mono (by omega)) (by rfl) (pk_cons (pv 2) pk_nil)) pa_nil))) pa_nil)) (pe_callB (call_reprS hsys hgu hr.units) (by rfl) T.repr (by decide +kernel) (pa_cons (pe_lstU (pa_cons (pv 0) (pa_cons (pv 0) pa_nil))) pa_nil)) (by rfl)))))), ?_⟩
    obtain ⟨v1, v2, v3, v4, v5, v6⟩ := ft.shows
    have ht := ft.term
    have hc := ft.cnt
    have dep : d.depth < 50 := by have := ft.gd.depth; omega
    have lsh := shownD_len ht
    obtain ⟨b1, b2, b3⟩ := pairS_shows (shownD_ok ht) (by omega)
    obtain ⟨_, w2, _⟩ := ft.gd.shows (by decide) (by decide) (by decide)
    refine seq_cut fun u hu => ?_
    walk_at "rq"
    have sum_ := sum_le (f := fun z : Str => z.length) fun z hz => (termW_words ht z hz).2
    have lt_ := termW_len ht
    refine ⟨d, hd, v4, v5, v6, ⟨_, rfl⟩, x, d, H, rfl, Same.refl H, hd, ht, dep, by omega, fun p1 H1 s1 n1 e1 => ⟨p1, rfl, termW d, .inl (.of e1), ?_, _, _, ⟨rfl, rfl⟩, ?_⟩⟩
    · have e : (Str.ofString " ").length = 1 := rfl
      rw [e]
      omega
    rw [join_eqS]
    show u _ [some x, some (.str d.shown), some (.str (shownD d))] H1
    clear e1 n1
    subst hu
    refine seq_cut fun u hu => ?_
    walk_at "rq"
    refine ⟨x, d, rfl, hd.same s1, ht, w2, by omega, fun H2 s2 => ⟨x, d, rfl, hd.same (s1.trans s2), ht, w2, by omega, fun H3 s3 => ⟨line_le' (by decide), fun p4 H4 s4 n4 e4 => ⟨pairS (shownD d), .lst e4 (.cons (.str _) (.cons (.str _) .nil)), b1, b2, b3, line_le' (by decide), fun p5 H5 s5 n5 e5 => ⟨pairS (shownD d), .lst e5 (.cons (.str _) (.cons (.str _) .nil)), b1, b2, b3, ?_⟩⟩⟩⟩⟩
    have s15 := (((s1.trans s2).trans s3).trans s4).trans s5
    clear e5 n5 s5 e4 n4 s4 s3 s2
    rw [rNe_str]
    refine ⟨_, rfl, iteN (by simp) ⟨d, hd.same s15, v4, v5, v6, ?_⟩⟩
    rw [rNe_str]
    refine ⟨_, rfl, iteN (by simp) ?_⟩
    subst hu
    walk_at "rq"
    refine ⟨d, rfl, ft, fun y1 H6 s6 d6 => ⟨d, rfl, ft, fun y2 H7 s7 d7 => ⟨line_le' (by decide), fun p8 H8 s8 n8 e8 => ⟨pairT d, .lst e8 (.cons (d6.same (s7.trans s8)) (.cons (d7.same s8) .nil)), v1, v2, v3, line_le' (by decide), fun p9 H9 s9 n9 e9 => ?_⟩⟩⟩⟩
    have sz := (((s15.trans s6).trans s7).trans s8).trans s9
    refine ⟨pairT d, .lst e9 (.cons (hd.same sz) (.cons (hd.same sz) .nil)), v1, v2, v3, ?_⟩
    rw [decide_eq_true rfl]
    exact q H9 sz
def spGreat : Sp := fun vs H Q _ => ∃ (x : V) (d : PyData), vs = [x] ∧ Dv H x d ∧ DG 0 d ∧ TG 0 d ∧ ∀ (p : Addr) (xs : List V) (ds : List PyData) (H' : Hp), Same H H' → H p = none → H' p = some (.lst xs) → DvAll H' xs ds → (∀ t ∈ ds, Fit t) → ds.length = 3 → Q (.ref p) H'
abbrev s__law_great : Stmt := top 37
theorem sc__law_great : FnScope ["_law_leaf_here", "_law_deep", "_law_tree", "_law_k"] ["_law_leaf_here"] (defScope s__law_great) := ⟨rfl, rfl, rfl, by decide +kernel, rfl, by decide +kernel, by decide +kernel⟩
set_option format.width 500 in
set_option format.indent 0 in
set_option pp.deepTerms true in
set_option pp.maxSteps 200000 in
theorem ok__law_great {f : Addr} {fd : FuncData} (D : Df K mg "_law_great" s__law_great f fd) (T : Tx K mg) : Cal P w K mg base "_law_great" ["_law_leaf_here"] 1 spGreat := by
  refine D.cal sc__law_great (fun vs H Q E h => ?_) (fun _ _ _ _ _ _ us hl => match us, hl with | [_], _ => rfl) (fun cdv A outer s H vs Q E hgu hr h => ?_)
  · obtain ⟨x, d, rfl, _⟩ := h
    rfl
  · obtain ⟨x, d, rfl, hd, g0, g1, q⟩ := h
    refine ⟨_, (pss_cons (ps_par (i := 1) (j := 2) (by rfl) sc__law_great.nd rfl rfl (by decide) rfl rfl (pa_cons (pv 0) (pa_cons (pv 0) pa_nil)) (by rfl)) (pss_cons (ps_for PassesOwn.never rfl (pi_range1 rfl T.range (pa_cons pe_int pa_nil)) (pg_name (i := 3) sc__law_great.nd rfl (by first | exact Or.inl rfl | exact Or.inr rfl)) (pss_one (ps_set (i := 1) sc__law_great.nd rfl (by first | exact Or.inl rfl | exact Or.inr rfl) (pe_ix (aIxL (K := K) rfl) (pe_lstU (pa_cons (pe_tupU (pa_cons pe_str (pa_cons (pv 1) pa_nil))) (pa_cons (pe_tupU (pa_cons pe_str (pa_cons (pv 1) pa_nil))) pa_nil))) (pe_op op_mod (pv 3) pe_int) (fun _ _ => rfl))))) (pss_cons (ps_for PassesOwn.never rfl (pi_range1 rfl T.range (pa_cons pe_int pa_nil)) (pg_name (i := 3) sc__law_great.nd rfl (by first | exact Or.inl rfl | exact Or.inr rfl)) (pss_one (ps_set (i := 2) sc__law_great.nd rfl (by first | exact Or.inl rfl | exact Or.inr rfl) (pe_tupU (pa_cons pe_str (pa_cons (pe_ix (aIxL (K := K) rfl) (pe_lstU (pa_cons pe_str (pa_cons pe_str (pa_cons pe_str (pa_cons pe_str pa_nil))))) (pe_op op_mod (pv 3) pe_int) (fun _ _ => rfl)) (pa_cons (pv 2) (pa_cons (pv 2) pa_nil)))))))) (pss_cons (ps_for PassesOwn.never rfl (pi_range1 rfl T.range (pa_cons pe_int pa_nil)) (pg_name (i := 3) sc__law_great.nd rfl (by first | exact Or.inl rfl | exact Or.inr rfl)) (pss_one (ps_set (i := 1) sc__law_great.nd rfl (by first | exact Or.inl rfl | exact Or.inr rfl) (pe_tupU (pa_cons pe_str (pa_cons (pv 1) pa_nil)))))) (pss_one (ps_ret (pe_lstU (pa_cons (pv 1) (pa_cons (pv 2) (pa_cons (pe_tupU (pa_cons pe_str (pa_cons (pv 2) pa_nil))) pa_nil)))))))))), ?_⟩
    refine seq_cut fun u hu => ?_
    walk_at "rq"
    refine ⟨_, _, ⟨rfl, rfl⟩, ?_⟩
    subst hu
    refine seq_cut fun u hu => ?_
    refine ⟨28, rfl, by decide, by decide, for_steps (steps_range 0 28) (fun i σ Hc => ∃ (y : V) (d1 : PyData) (o : Option V), σ = [some x, some y, some x, o] ∧ Same H Hc ∧ Dv Hc y d1 ∧ DG i d1) ⟨x, d, none, rfl, Same.refl H, hd, g0⟩ (fun _ _ _ _ _ => trivial) ?_ ?_⟩
    · rintro i z σ Hc hz ⟨y, d1, o, rfl, sc, hy, gy⟩
      obtain ⟨hi, rfl⟩ := wholes_at hz
      walk_at "rq"
      refine ⟨y, rfl, line_le' (show 2 ≤ 1000000 by decide), fun p1 H1 s1 n1 e1 => ⟨y, rfl, line_le' (show 2 ≤ 1000000 by decide), fun p2 H2 s2 n2 e2 => ⟨line_le' (by decide), fun p3 H3 s3 n3 e3 => ⟨by decide, _, .of e3, ?_⟩⟩⟩⟩
      obtain ⟨z, ez, hz⟩ := atI_in (xs := [V.ref p1, V.ref p2]) (i := (0 + (i : Int)) % 2) (by omega) (by show _ < ((2 : Nat) : Int); omega)
      have s13 := (s1.trans s2).trans s3
      have s23 := s2.trans s3
      refine ⟨z, ez, z, ⟨rfl, _, rfl⟩, sc.trans s13, ?_⟩
      simp only [List.mem_cons, List.not_mem_nil, or_false] at hz
      rcases hz with rfl | rfl
      · exact ⟨_, .tup (s23 _ _ e1) (.cons (.str _) (.cons (hy.same s13) .nil)), gy.up (by decide +kernel)⟩
      · exact ⟨_, .tup (s3 _ _ e2) (.cons (.str _) (.cons (hy.same s13) .nil)), gy.up (by decide +kernel)⟩
    rintro σ Hc ⟨y, d1, o, rfl, sc, hy, gy⟩
    rw [wholes_len] at gy
    show u _ _ _
    subst hu
    refine seq_cut fun u hu => ?_
    refine ⟨5, rfl, by decide, by decide, for_steps (steps_range 0 5) (fun i σ Hd => ∃ (z : V) (d2 : PyData) (o : Option V), σ = [some x, some y, some z, o] ∧ Same Hc Hd ∧ Dv Hd z d2 ∧ TG i d2) ⟨x, d, o, rfl, Same.refl Hc, hd.same sc, g1⟩ (fun _ _ _ _ _ => trivial) ?_ ?_⟩
    · rintro i z σ Hd hz ⟨t, d2, o, rfl, sd, hy2, gy2⟩
      obtain ⟨hi, rfl⟩ := wholes_at hz
      walk_at "rq"
      refine ⟨line_le' (by decide), fun p1 H1 s1 n1 e1 => ⟨by decide, p1, rfl, _, .of e1, ?_⟩⟩
      obtain ⟨z, ez, hz⟩ := atI_in (xs := flagsL.map V.str) (i := (0 + (i : Int)) % 4) (by omega) (by show _ < ((4 : Nat) : Int); omega)
      obtain ⟨f, mf, rfl⟩ := List.mem_map.mp hz
      refine ⟨_, ez, line_le' (by decide), fun p2 H2 s2 n2 e2 => ⟨_, ⟨rfl, _, rfl⟩, (sd.trans s1).trans s2, _, .tup e2 (.cons (.str _) (.cons (.str f) (.cons (hy2.same (s1.trans s2)) (.cons (hy2.same (s1.trans s2)) .nil)))), gy2.up mf⟩⟩
    rintro σ Hd ⟨t, d2, o, rfl, sd, ht, gt⟩
    rw [wholes_len] at gt
    show u _ _ _
    subst hu
    refine seq_cut fun u hu => ?_
    refine ⟨10, rfl, by decide, by decide, for_steps (steps_range 0 10) (fun i σ He => ∃ (y : V) (d1 : PyData) (o : Option V), σ = [some x, some y, some t, o] ∧ Same Hd He ∧ Dv He y d1 ∧ DG (28 + i) d1) ⟨y, d1, o, rfl, Same.refl Hd, hy.same sd, gy⟩ (fun _ _ _ _ _ => trivial) ?_ ?_⟩
    · rintro i z σ He hz ⟨y, d1, o, rfl, se, hy, gy⟩
      obtain ⟨hi, rfl⟩ := wholes_at hz
      walk_at "rq"
      exact ⟨line_le' (by decide), fun p1 H1 s1 n1 e1 => ⟨_, ⟨rfl, _, rfl⟩, se.trans s1, _, .tup e1 (.cons (.str _) (.cons (hy.same s1) .nil)), gy.up (by decide +kernel)⟩⟩
    rintro σ He ⟨y, d1, o, rfl, se, hy, gy⟩
    rw [wholes_len] at gy
    show u _ _ _
    subst hu
    walk_at "rq"
    refine ⟨t, rfl, line_le' (show 2 ≤ 1000000 by decide), fun p1 H1 s1 n1 e1 => ⟨line_le' (by decide), fun p2 H2 s2 n2 e2 => ?_⟩⟩
    have sz := s1.trans s2
    have st := (se.trans s1).trans s2
    refine q p2 _ [_, _, .tuple [.str "not", _]] H2 ((sc.trans sd).trans st) ((((sc.trans sd).trans se).trans s1).free n2) e2 (.cons (hy.same sz) (.cons (ht.same st) (.cons (.tup (s2 _ _ e1) (.cons (.str _) (.cons (ht.same st) .nil))) .nil))) (fun t' m => ?_) rfl
    simp only [List.mem_cons, List.not_mem_nil, or_false] at m
    rcases m with rfl | rfl | rfl
    · exact gy.fit (by decide)
    · exact gt.fit
    · exact gt.fitN
end
end Vf
namespace Vf
open PySem L2 PyProof.Rows PySem.Spec StX RT

local macro_rules | `(tactic| walk_at "rd") => `(tactic| simp only [tSeq, tIfS, tOr, tAnd, tNot, tB, tTest, tChain, tCB, tCons, tNil, tVar, tC, tRet, tAndV, tOrV, tNotV, tOp, tNext, tDrop, tAsg, tPar, tYes, tIf, tCall, tCalK, tTup, tLst, tSl, tNoPart, tPart, tM0, tM1, tRevL, tBM0, tBM, gName, rI0, rI, rU, rInA, rEqA, rAddA, rMulA, rSlAny, iAny, rIsi, rAll, rAny, rSum, rList, rTuple, rLen, rLenS, rLenSeq, rMulS, CDiv, rIn, rEqD, rNeD, iList, iTup, iStr, rCat, rCatA, rSlL, rSlA, rSlS, gSub, rPop, rAppend, rSetL, rIx, rIxL, rIxT, rIxS, LenV,
  L2.start, List.map_cons, List.map_nil, List.length_cons, List.length_nil, List.cons_append, List.nil_append, List.append_nil, Nat.zero_add, Nat.add_sub_cancel, Nat.sub_self, List.replicate_succ, List.replicate_zero, List.getElem?_cons_zero, List.getElem?_cons_succ, List.set_cons_zero, List.set_cons_succ,
  Option.some.injEq, V.int.injEq, V.str.injEq, V.bl.injEq, V.ref.injEq, List.cons.injEq, and_true, true_and, exists_eq_left', exists_eq_left, exists_eq_right, exists_and_left, exists_and_right, false_or, or_false, reduceCtorEq, false_and, and_false, exists_false, Bool.not_true, Bool.not_false, if_true, if_false, Bool.false_eq_true, ite_true, ite_false])
local macro_rules | `(tactic| walk_at "rq") => `(tactic| (walk_at "rd"; (try simp only [rEq_int, rEq_str, rNe_int, tUn, rU, tC, rInT, rInK, rIxK, rExtend, rExtendT, rSlU, rCatU, rEqE, rIntB, tTupU, tLstU, tDGet2, tCont, tToT, tStar, rCatM, rReprS, rStrN, tM0, tM1, tCKw, rMaxDf, tDL, tD, tEL, tE, V.int.injEq, V.str.injEq, V.bl.injEq, V.ref.injEq, exists_eq_left', exists_eq_left, Bool.false_bne, Bool.false_xor, Bool.true_xor]); (try walk_at "rd")))
/-- the deck, and a list of such -/
structure Bag (d c p : Addr) (n : Nat) (H G : Hp) : Prop where
  pt : Pt d c H G
  out : G p = none
  nd : p ≠ d
  nc : p ≠ c
  has : ∃ xs ds, H p = some (.lst xs) ∧ DvAll G xs ds ∧ (∀ y ∈ ds, Fit y) ∧ ds.length ≤ n
theorem Bag.more {d c p : Addr} {n : Nat} {H G H' G' : Hp} (b : Bag d c p n H G) (g : GD d c H G H' G') : Bag d c p n H' G' := by
  obtain ⟨xs, ds, e, h1, h2, h3⟩ := b.has
  exact ⟨g.to, g.only p (by rw [e]; nofun) b.out, b.nd, b.nc, xs, ds, g.big _ _ e b.nd b.nc, h1.same g.part, h2, h3⟩
theorem Bag.add {d c p : Addr} {n : Nat} {H G : Hp} {x : V} {dx : PyData} {xs : List V} (b : Bag d c p n H G) (e : H p = some (.lst xs)) (hx : Dv G x dx) (g : Fit dx) : Bag d c p (n + 1) (upd H p (.lst (xs ++ [x]))) G := by
  obtain ⟨xs', ds, e', h1, h2, h3⟩ := b.has
  rw [e] at e'
  cases e'
  refine ⟨b.pt.set b.out b.nd b.nc, b.out, b.nd, b.nc, _, ds ++ [dx], upd_same, h1.append (.cons hx .nil), fun y hy => ?_, by rw [List.length_append]; exact Nat.succ_le_succ h3⟩
  rcases List.mem_append.mp hy with z | z
  · exact h2 y z
  · rw [List.mem_singleton.mp z]
    exact g
theorem seq_cutD {t u : TS} {D : Ends} {σ : L2.St} {H : Hp} (h : ∀ u' D', u' = u → D' = D → tSeq t u' D' σ H) : tSeq t u D σ H := h u D rfl rfl
mutual
theorem Dv.dp {K : PySem.W.Frag} {H : Hp} : ∀ {v : V} {d : PyData}, Dv H v d → PyData.canLay0 d = true → Dp K H v d
  | _, _, .non, _ => .non
  | _, _, .bl b, _ => .bl b
  | _, _, .int i, _ => .int i
  | _, _, .str x, _ => .str x
  | _, _, .lst e h, l => .lst (.of e) (h.dp (by simpa only [PyData.canLay0] using l))
  | _, _, .tup e h, l => .tup (.of e) (h.dp (by simpa only [PyData.canLay0] using l))
  | _, _, .dic e h, l => absurd (show false = true by simpa only [PyData.canLay0] using l) Bool.false_ne_true
theorem DvAll.dp {K : PySem.W.Frag} {H : Hp} : ∀ {vs : List V} {ds : List PyData}, DvAll H vs ds → PyData.canLayAll0 ds = true → DpAll K H vs ds
  | _, _, .nil, _ => .nil
  | _, _, .cons h t, l => by
    simp only [PyData.canLayAll0, Bool.and_eq_true] at l
    exact .cons (h.dp l.1) (t.dp l.2)
end
theorem cut_one (xs : List V) : cutV xs none (some 1) = xs.take 1 := by
  unfold cutV
  rw [HT.sIx_none, show (1 : Int) = ((1 : Nat) : Int) from rfl, HT.sIx_nat]
  cases xs with
  | nil => rfl
  | cons x xs =>
    rw [Nat.min_eq_left (by simp)]
    rfl
theorem Fit.shaped {d : PyData} (f : Fit d) : SeqAt.shaped d = true := by
  unfold SeqAt.shaped
  rw [Bool.and_eq_true]
  exact ⟨lay_td d f.term f.gd.ok, decide_eq_true (by have := f.gd.depth; omega)⟩
theorem leaf_fit {t : PyData} (g : Gd 99 700 1 t) (ht : isTD t = true) (hc : (thingsD t).length = 1) : Fit t ∧ DG 0 t ∧ TG 0 t :=
  ⟨⟨ht, g.mono (Nat.le_refl _) (by decide) (by decide), by omega⟩, ⟨ht, g.ok, by have := g.wt; omega, g.depth, by omega⟩, ⟨ht, g.ok, by have := g.wt; omega, g.depth, by omega⟩⟩
theorem leaf_name {h z : Str} (hh : h = "look" ∨ h = "const") (hz : isName (.str z) = true) : Fit (.tuple [.str h, .str z]) ∧ DG 0 (.tuple [.str h, .str z]) ∧ TG 0 (.tuple [.str h, .str z]) := by
  obtain ⟨g, t⟩ := gd_name hh hz
  exact leaf_fit g t (cnt_leaf1 (by rcases hh with rfl | rfl <;> decide +kernel))
theorem leaf_num {i : Int} (h0 : -99 ≤ i) (h1 : i ≤ 99) : Fit (.tuple [.str "num", .int i]) ∧ DG 0 (.tuple [.str "num", .int i]) ∧ TG 0 (.tuple [.str "num", .int i]) := by
  obtain ⟨g, t⟩ := gd_num h0 h1
  exact leaf_fit g t (cnt_leaf1 (by decide +kernel))
section
variable {P : Program} {w : World} {K : PySem.W.Frag} {mg : Str → Option Value} {base : Heap}
abbrev s_law : Stmt := top 39
theorem sc_law : FnScope ["_law_script", "_law_deck_here", "_law_some", "_law_great_here", "_law_due", "_law_told", "_law_turn", "_law_names_here", "_law_long", "_law_it", "_law_other"] ["_law_script"] (defScope s_law) := ⟨rfl, rfl, rfl, by decide +kernel, rfl, by decide +kernel, by decide +kernel⟩
set_option format.width 500 in
set_option format.indent 0 in
set_option pp.deepTerms true in
set_option pp.maxSteps 200000 in
theorem ok_law (hsys : SysAt base) {f : Addr} {fd : FuncData} (D : Df K mg "law" s_law f fd) (T : Tx K mg) (c__law_draw : Cal P w K mg base "_law_draw" ["_law_deck_here", "_law_many"] 1 spDraw) (c__law_deck : Cal P w K mg base "_law_deck" ["_law_script"] 1 (spDeck K))
    (c__law_names : Cal P w K mg base "_law_names" ["_law_deck_here", "_law_many"] 2 spNames) (c5__law_term : CalD P w K mg base "_law_term" ["_law_deck_here", "_law_inputs", "_law_names_here", "_law_many", "_law_words_here", "_law_deep"] 11 (spTermG K 7) [.int 6])
    (c__law_all_words : Cal P w K mg base "_law_all_words" [] 2 (spWords allL)) (c__law_words : Cal P w K mg base "_law_words" ["_law_it"] 51 (spLWords 50)) (c__law_great : Cal P w K mg base "_law_great" ["_law_leaf_here"] 1 spGreat) (c_show_term : Cal P w K mg base "show_term" ["term"] 2 spShow) (c_read_term : Cal P w K mg base "read_term" ["text"] 6 spRead)
    (c__law_right : Cal P w K mg base "_law_right" ["_law_it"] 52 spRight) : FnG P w K mg base CX0 53 f fd ["_law_script"] (spLaw K) := by
  refine D.fnG sc_law (fun vs H Q E h => ?_) (fun cdv A outer s H vs Q E hgu hr h => ?_)
  · obtain ⟨a, ns, rfl, _⟩ := h
    rfl
  · obtain ⟨a, ns, rfl, ha, hn, q⟩ := h
    refine ⟨_, (pss_cons (ps_set (i := 1) sc_law.nd rfl (by first | exact Or.inl rfl | exact Or.inr rfl) (pe_cal c__law_deck hgu (hr.mono (by omega)) (by rfl) (pa_cons (pv 0) pa_nil))) (pss_cons (ps_set (i := 2) sc_law.nd rfl (by first | exact Or.inl rfl | exact Or.inr rfl) (wEL (wEs_cons (wE_tup (wEs_cons (wE_con pe_str fun _ => .str _) (wEs_cons (wE_con pe_int fun _ => .int _) wEs_nil))) (wEs_cons (wE_tup (wEs_cons (wE_con pe_str fun _ => .str _) (wEs_cons (wE_con pe_int fun _ => .int _) wEs_nil))) (wEs_cons (wE_tup (wEs_cons (wE_con pe_str fun _ => .str _) (wEs_cons (wE_of wD_neg) wEs_nil))) (wEs_cons (wE_tup (wEs_cons (wE_con pe_str fun _ => .str _) (wEs_cons (wE_con pe_str fun _ => .str _) wEs_nil))) (wEs_cons (wE_tup (wEs_cons (wE_con pe_str fun _ => .str _) (wEs_cons (wE_con pe_str fun _ => .str _) wEs_nil))) (wEs_cons (wE_tup (wEs_cons (wE_con pe_str fun _ => .str _) (wEs_cons (wE_con pe_str fun _ => .str _) wEs_nil))) wEs_nil)))))))) (pss_cons (ps_expr (pe_bm PySem.F.plainAttrs_list PySem.F.slot_list_append PySem.F.type_list_append mt_append (pv 2) (pa_cons (wE_tup (wEs_cons (wE_con pe_str fun _ => .str _) (wEs_cons (wE_con pe_str fun _ => .str _) wEs_nil))) pa_nil))) (pss_cons (ps_for PassesOwn.never rfl (aWalkL (K := K) rfl (pe_op op_cat (pe_cal c__law_great hgu (hr.mono (by omega)) (by rfl) (pa_cons (wE_tup (wEs_cons (wE_con pe_str fun _ => .str _) (wEs_cons (wE_con pe_str fun _ => .str _) wEs_nil))) pa_nil)) (pe_cal c__law_great hgu (hr.mono (by omega)) (by rfl) (pa_cons (wE_tup (wEs_cons (wE_con pe_str fun _ => .str _) (wEs_cons (wE_of wD_neg) wEs_nil))) pa_nil)))) (pg_name (i := 3) sc_law.nd rfl (by first | exact Or.inl rfl | exact Or.inr rfl)) (pss_cons (ps_set (i := 4) sc_law.nd rfl (by first | exact Or.inl rfl | exact Or.inr rfl) (pe_join pe_str (pe_cal c__law_words hgu (hr.mono (by omega)) (by rfl) (pa_cons (pv 3) pa_nil)))) (pss_cons (ps_set (i := 5) sc_law.nd rfl (by first | exact Or.inl rfl | exact Or.inr rfl) (pe_cal c_read_term hgu (hr.mono (by omega)) (by rfl) (pa_cons (pv 4) pa_nil))) (pss_one (ps_if (PW.pt (pw_or (pt_cmpR op_ne (pe_callB (call_reprS hsys hgu hr.units) (by rfl) T.repr (by decide +kernel) (pa_cons (pv 5) pa_nil)) (pe_callB (call_reprS hsys hgu hr.units) (by rfl) T.repr (by decide +kernel) (pa_cons (pv 3) pa_nil)) (by rfl)) (pw_or1 (pt_cmpR op_ne (pe_cal c_show_term hgu (hr.mono (by omega)) (by rfl) (pa_cons (pv 5) pa_nil)) (pv 4) (by rfl))))) (pss_one (ps_ret pe_bl)) pss_nil))))) (pss_cons (ps_for PassesOwn.never rfl (pi_range1 rfl T.range (pa_cons pe_int pa_nil)) (pg_name (i := 6) sc_law.nd rfl (by first | exact Or.inl rfl | exact Or.inr rfl)) (pss_cons (ps_set (i := 7) sc_law.nd rfl (by first | exact Or.inl rfl | exact Or.inr rfl) (pe_cal c__law_names hgu (hr.mono (by omega)) (by rfl) (pa_cons (pv 1) (pa_cons pe_int pa_nil)))) (pss_cons (ps_set (i := 8) sc_law.nd rfl (by first | exact Or.inl rfl | exact Or.inr rfl) (pe_ix (aIxL (K := K) rfl) (wEL (wEs_cons (wE_con pe_int fun _ => .int _) (wEs_cons (wE_con pe_int fun _ => .int _) (wEs_cons (wE_con pe_int fun _ => .int _) (wEs_cons (wE_con pe_int fun _ => .int _) wEs_nil))))) (pe_cal c__law_draw hgu (hr.mono (by omega)) (by rfl) (pa_cons (pv 1) (pa_cons pe_int pa_nil))) (fun _ _ => rfl))) (pss_one (ps_expr (pe_bm PySem.F.plainAttrs_list PySem.F.slot_list_append PySem.F.type_list_append mt_append (pv 2) (pa_cons (pe_calD c5__law_term hgu (hr.mono (by omega)) (by rfl) (pa_cons (pv 1) (pa_cons (pe_slice (aSlL (K := K) rfl) (pv 7) po_none (po_some pe_int)) (pa_cons (pe_lstU (pa_cons (pe_ix (aIxL (K := K) rfl) (pv 7) pe_int (fun _ _ => rfl)) (pa_cons (pe_ix (aIxL (K := K) rfl) (pv 7) pe_int (fun _ _ => rfl)) pa_nil))) (pa_cons (pv 8) (pa_cons (pe_cal0 c__law_all_words hgu (hr.mono (by omega)) (by rfl)) pa_nil)))))) pa_nil))))))) (pss_cons (ps_for PassesOwn.never rfl (aWalkL (K := K) rfl (pe_op op_cat (pv 2) (pe_slice (aSlL (K := K) rfl) (pv 2) po_none (po_some pe_int)))) (pg_name (i := 9) sc_law.nd rfl (by first | exact Or.inl rfl | exact Or.inr rfl)) (pss_cons (ps_if (pt_not (pt_val (pe_cal c__law_right hgu (hr.mono (by omega)) (by rfl) (pa_cons (pv 9) pa_nil)))) (pss_one (ps_ret pe_bl)) pss_nil) (pss_one (ps_if (pt_cmpR (aNeD (K := K) rfl hr.units) (pe_lc (own := [("_law_other", 10)]) (g := gName 10) (tt := _) (by rfl) sc_law.nd (aWalkL (K := K) rfl (pv 2)) (blkOk_by (own := [("_law_other", 10)]) (N := ["_law_script", "_law_deck_here", "_law_some", "_law_great_here", "_law_due", "_law_told", "_law_turn", "_law_names_here", "_law_long", "_law_it", "_law_other"]) (sc := defScope s_law) (by decide +kernel)) (fun _ _ _ _ _ => (pg_name (i := 10) sc_law.nd rfl (Or.inl rfl))) (fun _ _ _ _ _ => (pts_one (pt_cmpR op_ne (pe_cmpR op_eq (pe_cal c_show_term hgu (hr.mono (by omega)) (by rfl) (pa_cons (pv 10) pa_nil)) (pe_cal c_show_term hgu (hr.mono (by omega)) (by rfl) (pa_cons (pv 9) pa_nil)) (by rfl)) (pe_cmpR (aEq (K := K) rfl hr.units) (pv 10) (pv 9) (by rfl)) (by rfl)))) (fun _ _ _ _ _ => (pv 10))) (pe_lstU pa_nil) (by rfl)) (pss_one (ps_ret pe_bl)) pss_nil)))) (pss_one (ps_ret pe_bl)))))))), ?_⟩
    refine seq_cut fun u hu => ?_
    walk_at "rq"
    refine ⟨a, ns, rfl, ha, hn, fun d c H1 s1 fd1 fc1 k1 => ?_⟩
    clear ha
    subst hu
    refine seq_cut fun u hu => ?_
    walk_at "rq"
    have pt1 : Pt d c H1 noHp := ⟨k1, noHp_sub _, rfl, rfl⟩
    refine ⟨fun _ => .none, noHp, noHp_sub _, trivial, fun p xs H2 G2 gr hxs np => ?_⟩
    have b : Bag d c p 6 (upd H2 p (.lst xs)) G2 := by
      have g2 := pt1.grow gr
      have n2 := g2.to.deck.fresh np
      refine ⟨g2.to.set (g2.to.sub.free np) n2.1 n2.2, g2.to.sub.free np, n2.1, n2.2, xs, _, upd_same, hxs, fun y hy => ?_, Nat.le_refl _⟩
      simp only [List.mem_cons, List.not_mem_nil, or_false] at hy
      rcases hy with rfl | rfl | rfl | rfl | rfl | rfl
      · exact (leaf_num (by decide) (by decide)).1
      · exact (leaf_num (by decide) (by decide)).1
      · exact (leaf_num (i := -99) (by decide) (by decide)).1
      · exact (leaf_name (.inl rfl) (by decide +kernel)).1
      · exact (leaf_name (.inl rfl) (by decide +kernel)).1
      · exact (leaf_name (.inr rfl) (by decide +kernel)).1
    generalize upd H2 p (.lst xs) = H3 at b
    clear np hxs gr pt1
    clear k1 fd1 fc1 s1 H2 H1
    subst hu
    refine seq_cut fun u hu => ?_
    walk_at "rq"
    obtain ⟨xs0, ds0, e0, _, _, _⟩ := b.has
    refine ⟨.inl ⟨rfl, _, .of e0⟩, fun _ => .none, G2, b.pt.sub, trivial, fun x H4 G4 gr hx => ?_⟩
    have b4 := b.more (b.pt.grow gr)
    obtain ⟨xs, ds, e, h1, h2, h3⟩ := b4.has
    refine ⟨xs, e, line_le' (by have := h1.len; omega), ?_⟩
    have b5 := b4.add e hx (leaf_name (.inl rfl) (by decide +kernel)).1
    generalize upd H4 p (.lst (xs ++ [x])) = H5 at b5
    clear h1 h2 h3 e b4 hx gr e0 b
    subst hu
    refine seq_cut fun u hu => ?_
    refine ⟨fun _ => .none, noHp, noHp_sub _, trivial, fun x1 H6 G6 gr6 hx1 => ?_⟩
    refine ⟨x1, _, rfl, hx1.same gr6.sub, (leaf_name (.inl rfl) (by decide +kernel)).2.1, (leaf_name (.inl rfl) (by decide +kernel)).2.2, fun pa xsa dsa H7 s7 n7 e7 hga fa la => ?_⟩
    refine ⟨fun _ => .none, noHp, noHp_sub _, trivial, fun x2 H8 G8 gr8 hx2 => ?_⟩
    refine ⟨x2, _, rfl, hx2.same gr8.sub, (leaf_num (i := -99) (by decide) (by decide)).2.1, (leaf_num (i := -99) (by decide) (by decide)).2.2, fun pb xsb dsb H9 s9 n9 e9 hgb fb lb => ?_⟩
    have s79 := gr8.big.trans s9
    refine ⟨pa, pb, xsa, xsb, rfl, rfl, s79 _ _ e7, e9, line_le' (by rw [hga.len, hgb.len]; omega), fun pl nl => ⟨pl, rfl, ⟨_, .of upd_same⟩, ?_⟩⟩
    have s5 := ((gr6.big.trans s7).trans s79).trans (same_upd (o := .lst (xsa ++ xsb)) nl)
    have hall := ((hga.same s79).append hgb).same (same_upd (o := .lst (xsa ++ xsb)) nl)
    have fall : ∀ t ∈ dsa ++ dsb, Fit t := fun t m => (List.mem_append.mp m).elim (fa t) (fb t)
    have el : (upd H9 pl (.lst (xsa ++ xsb))) pl = some (.lst (xsa ++ xsb)) := upd_same
    generalize upd H9 pl (.lst (xsa ++ xsb)) = Hl at s5 hall el
    clear hga hgb fa fb la lb e9 n9 s9 hx2 gr8 e7 n7 s7 hx1 gr6 s79 nl
    refine for_steps (steps_list K pl (xsa ++ xsb)) (fun i σ Hc => ∃ o3 o4 o5 : Option V, σ = [some (.ref a), some (.ref d), some (.ref p), o3, o4, o5, none, none, none, none, none] ∧ Same Hl Hc) ⟨none, none, none, rfl, Same.refl Hl⟩ (fun i σ Hc _ ⟨_, _, _, _, sc⟩ => .of (sc _ _ el)) ?_ ?_
    · rintro i y σ Hc hy ⟨o3, o4, o5, rfl, sc⟩
      obtain ⟨dy, hdy, hv⟩ := dv_at hall hy
      have fy := fall dy (List.mem_of_getElem? hdy)
      have hv' := hv.same sc
      obtain ⟨v1, v2, v3, v4, v5, v6⟩ := fy.shows
      have hc := fy.cnt
      have dep := fy.gd.depth
      obtain ⟨_, w2, _⟩ := fy.gd.shows (by decide) (by decide) (by decide)
      have sum_ := sum_le (f := fun z : Str => z.length) fun z hz => (termW_words fy.term z hz).2
      have lt_ := termW_len fy.term
      refine seq_cut fun u' hu' => ?_
      walk_at "rq"
      refine ⟨⟨_, rfl⟩, y, dy, Hc, rfl, Same.refl Hc, hv', fy.term, by omega, by omega, fun p1 H1 s1 n1 e1 => ⟨p1, rfl, termW dy, .inl (.of e1), ?_, ?_⟩⟩
      · have e : (Str.ofString " ").length = 1 := rfl
        rw [e]
        omega
      rw [join_eqS]
      show u' _ [some (.ref a), some (.ref d), some (.ref p), some y, some (.str (shownD dy)), o5, none, none, none, none, none] H1
      subst hu'
      refine seq_cut fun u' hu' => ?_
      walk_at "rq"
      refine ⟨dy, rfl, fy, fun yt H2 s2 d2 => ?_⟩
      show u' _ _ _
      subst hu'
      walk_at "rq"
      refine ⟨dy, d2, v4, v5, v6, dy, hv'.same (s1.trans s2), v4, v5, v6, ?_⟩
      rw [rNe_str]
      refine ⟨_, rfl, iteN (by simp) ⟨yt, dy, rfl, d2, fy.term, w2, by omega, fun H3 s3 => ?_⟩⟩
      show rNe (.str (shownD dy)) (.str (shownD dy)) H3 _
      rw [rNe_str]
      exact ⟨_, rfl, iteN (by simp) ⟨⟨_, rfl⟩, ((sc.trans s1).trans s2).trans s3⟩⟩
    · rintro σ Hc ⟨o3, o4, o5, rfl, sc⟩
      have b6 := b5.more (b5.pt.same (s5.trans sc))
      show u _ _ _
      clear hall fall el
      subst hu
      refine seq_cut fun u hu => ?_
      refine ⟨8, rfl, by decide, by decide, for_steps (steps_range 0 8) (fun i σ Hc => ∃ (v3 v4 v5 v6 v7 v8 : Option V) (Gc : Hp), σ = [some (.ref a), some (.ref d), some (.ref p), v3, v4, v5, v6, v7, v8, none, none] ∧ Bag d c p (7 + i) Hc Gc) ⟨o3, o4, o5, none, none, none, _, rfl, b6⟩ (fun _ _ _ _ _ => trivial) ?_ ?_⟩
      · rintro i x σ H4 hx ⟨v3, v4, v5, v6, v7, v8, G4, rfl, b4⟩
        obtain ⟨hi, rfl⟩ := wholes_at hx
        clear b6 b5
        refine seq_cut fun u' hu' => ?_
        walk_at "rq"
        refine ⟨d, c, 4, rfl, b4.pt.deck, by decide, fun l pn H6 hl nd good hd6 sv6 np6 e6 => ?_⟩
        have npd : pn ≠ d := fun z => b4.pt.deck.has.1 (z ▸ np6)
        have npc : pn ≠ c := fun z => b4.pt.deck.has.2 (z ▸ np6)
        have g6 := (b4.pt.keep sv6 hd6).inc np6 (b4.pt.sub.free np6) e6 npd npc
        have b7 := b4.more g6
        have en : (upd G4 pn (.lst (l.map V.str))) pn = some (.lst (l.map V.str)) := upd_same
        generalize upd G4 pn (.lst (l.map V.str)) = G6 at b7 en g6
        clear g6 e6 np6 sv6 hd6 b4 nd npd npc
        subst hu'
        refine seq_cut fun u' hu' => ?_
        walk_at "rq"
        refine ⟨fun _ => .none, G6, b7.pt.sub, trivial, fun pl' ys H7 G7 gr hys n7 => ?_⟩
        obtain rfl : ys = ([1, 5, 12, 12] : List Int).map V.int := dv_ofInts (ns := [1, 5, 12, 12]) hys
        have g7 := b7.pt.grow gr
        have np7 := g7.to.deck.fresh n7
        have en7 := gr.part _ _ en
        have b8 := b7.more (g7.trans (g7.to.same (same_upd (o := .lst (([1, 5, 12, 12] : List Int).map V.int)) n7)))
        have e7 : (upd H7 pl' (.lst (([1, 5, 12, 12] : List Int).map V.int))) pl' = some (.lst (([1, 5, 12, 12] : List Int).map V.int)) := upd_same
        generalize upd H7 pl' (.lst (([1, 5, 12, 12] : List Int).map V.int)) = Hb at b8 e7
        refine ⟨d, c, 4, rfl, b8.pt.deck, by decide, by decide, fun r H8 r0 r1 hd8 sv8 => ?_⟩
        obtain ⟨z, ez, hz⟩ := atI_in (xs := ([1, 5, 12, 12] : List Int).map V.int) r0 r1
        obtain ⟨m, rfl, m0, m1⟩ : ∃ m : Nat, z = .int m ∧ 1 ≤ m ∧ m ≤ 12 := by
          simp only [List.map_cons, List.map_nil, List.mem_cons, List.not_mem_nil, or_false] at hz
          rcases hz with rfl | rfl | rfl | rfl
          · exact ⟨1, rfl, by decide, by decide⟩
          · exact ⟨5, rfl, by decide, by decide⟩
          · exact ⟨12, rfl, by decide, by decide⟩
          · exact ⟨12, rfl, by decide, by decide⟩
        refine ⟨_, r, rfl, .of (sv8 _ _ e7 np7.1 np7.2), _, ez, ?_⟩
        have b9 := b8.more (b8.pt.keep sv8 hd8)
        have en8 := b9.pt.sub _ _ en7
        clear ez hz r0 r1 sv8 hd8 e7 n7 np7 hys gr g7 b8 b7 en r
        show u' _ _ _
        subst hu'
        obtain ⟨t0, t1, t2, t3, rfl⟩ : ∃ t0 t1 t2 t3, l = [t0, t1, t2, t3] := by
          match l, hl with
          | [t0, t1, t2, t3], _ => exact ⟨t0, t1, t2, t3, rfl⟩
        obtain ⟨xs, ds, e, h1, h2, h3⟩ := b9.has
        walk_at "rq"
        refine ⟨.inl ⟨rfl, _, .of e⟩, _, .of en8, fun q1 hq1 => ⟨_, .of (same_upd hq1 _ _ en8), .str t1, at1, _, .of (same_upd hq1 _ _ en8), .str t3, at3, line_le' (by decide), fun q2 H9 s9 n9 e9 => ⟨rfl, fun q3 H10 s10 n10 e10 => ?_⟩⟩⟩
        have ga := b9.pt.at_ (same_upd (o := .lst [.str t0, .str t1]) hq1) hq1 upd_same
        have gb := ga.to.at_ s9 n9 e9
        have gc := gb.to.at_ s10 n10 e10
        have gz := (ga.trans gb).trans gc
        have f1 := (gb.part.trans gc.part) q1 _ upd_same
        have f2 := gc.part q2 _ upd_same
        refine ⟨d, c, q1, q2, q3, _, [t0, t1], [t1, t3], allL, m, 6, rfl, gz.to, .of f1, .of f2, .of upd_same, by decide, Nat.le_of_ble_eq_true rfl, Nat.le_of_ble_eq_true rfl, by decide, fun y hy => ?_, fun y hy => ?_, (by decide +kernel), by decide, m0, by omega, fun x dd H11 G11 g11 hx hg ht hc _ => ?_⟩
        · simp only [List.mem_cons, List.not_mem_nil, or_false] at hy
          rcases hy with rfl | rfl <;> exact good _ (by simp)
        · simp only [List.mem_cons, List.not_mem_nil, or_false] at hy
          rcases hy with rfl | rfl <;> exact good _ (by simp)
        have b11 := b9.more (gz.trans g11)
        obtain ⟨xs', ds', e', h1', h2', h3'⟩ := b11.has
        exact ⟨xs', e', Nat.lt_of_lt_of_le (by have := h1'.len; omega : xs'.length < 1000000) (line_le' (Nat.le_refl _)), ⟨_, rfl⟩, G11, b11.add e' hx ⟨ht, hg.mono (Nat.le_refl _) (by omega) (by decide), by omega⟩⟩
      · rintro σ H4 ⟨v3, v4, v5, v6, v7, v8, G4, rfl, b4⟩
        rw [wholes_len] at b4
        show u _ _ _
        clear b6 b5
        subst hu
        obtain ⟨xs, ds, e, h1, h2, h3⟩ := b4.has
        refine seq_cut fun u hu => ?_
        refine ⟨.ref p, rfl, .ref p, rfl, 1, rfl, p, xs, rfl, .of e, fun pr hpr => ?_⟩
        have e1 := same_upd (o := .lst (cutV xs none (some 1))) hpr _ _ e
        have l1 := h1.len
        have ct : cutV xs none (some 1) = xs.take 1 := cut_one xs
        refine ⟨p, pr, xs, cutV xs none (some 1), rfl, rfl, e1, upd_same, line_le' (by rw [ct, List.length_take]; omega), fun pl hpl => ⟨pl, rfl, ⟨_, .of upd_same⟩, ?_⟩⟩
        rw [ct]
        have s12 := (same_upd (o := .lst (xs.take 1)) hpr).trans (same_upd (o := .lst (xs ++ xs.take 1)) (by rw [← ct]; exact hpl))
        have el : (upd (upd H4 pr (.lst (xs.take 1))) pl (.lst (xs ++ xs.take 1))) pl = some (.lst (xs ++ xs.take 1)) := upd_same
        generalize upd (upd H4 pr (.lst (xs.take 1))) pl (.lst (xs ++ xs.take 1)) = H5 at s12 el
        have sub := b4.pt.sub
        refine for_steps (steps_list K pl (xs ++ xs.take 1)) (fun i σ Hc => ∃ (o9 o10 : Option V), σ = [some (.ref a), some (.ref d), some (.ref p), v3, v4, v5, v6, v7, v8, o9, o10] ∧ Same H5 Hc) ⟨none, none, rfl, Same.refl H5⟩ (fun i σ Hc _ ⟨_, _, _, sc⟩ => .of (sc _ _ el)) ?_ ?_
        · rintro i y σ Hc hy ⟨o9, o10, rfl, sc⟩
          obtain ⟨dy, hdy, hv⟩ := dv_at (h1.append h1.take) hy
          have fy : Fit dy := by
            rcases List.mem_append.mp (List.mem_of_getElem? hdy) with m | m
            · exact h2 _ m
            · exact h2 _ (List.mem_of_mem_take m)
          have hvc := hv.same ((sub.trans s12).trans sc)
          refine seq_cut fun u' hu' => ?_
          walk_at "rq"
          refine ⟨y, dy, rfl, hvc, fy, fun H6 s6 => ⟨true, rfl, iteN rfl ?_⟩⟩
          subst hu'
          walk_at "rq"
          have s46 := (s12.trans sc).trans s6
          have e6 := s46 _ _ e
          have hv6 := hvc.same s6
          obtain ⟨_, w2, _⟩ := fy.gd.shows (by decide) (by decide) (by decide)
          have hc := fy.cnt
          refine ⟨.ref p, rfl, p, rfl, ⟨xs, .of e6⟩, fun L hL => ?_⟩
          refine lc_steps (steps_list K p xs) (fun k Hd => Hd L = some (.lst []) ∧ Same H6 Hd) ⟨upd_same, same_upd hL⟩ (fun k Hd _ h => .of (h.2 _ _ e6)) ?_ ?_
          · rintro k z Hd hz ⟨eL, sd⟩
            refine ⟨rfl, ?_⟩
            obtain ⟨dz, hdz, hvz⟩ := dv_at h1 hz
            have fz := h2 _ (List.mem_of_getElem? hdz)
            have hvz' := hvz.same ((sub.trans s46).trans sd)
            obtain ⟨_, w3, _⟩ := fz.gd.shows (by decide) (by decide) (by decide)
            have hcz := fz.cnt
            walk_at "rq"
            obtain ⟨gz, rz, ezd⟩ := head_form fz.term
            obtain ⟨az, zz, rfl, _, _⟩ := (ezd ▸ hvz').tupR
            obtain ⟨gy, ry, eyd⟩ := head_form fy.term
            obtain ⟨ay, zy, rfl, _, _⟩ := (eyd ▸ hv6).tupR
            refine ⟨_, rfl, .ref az, dz, rfl, hvz', fz.term, w3, by omega, fun H7 s7 => ⟨_, rfl, .ref ay, dy, rfl, hv6.same (sd.trans s7), fy.term, w2, by omega, fun H8 s8 => ?_⟩⟩
            show rEq (.str (shownD dz)) (.str (shownD dy)) H8 _
            rw [rEq_str]
            refine ⟨_, rfl, _, rfl, dz, (hvz'.same (s7.trans s8)).dp (lay_td dz fz.term fz.gd.ok), dy, (hv6.same ((sd.trans s7).trans s8)).dp (lay_td dy fy.term fy.gd.ok), fz.shaped, fy.shaped, ?_⟩
            have eb : dz.eqv dy = decide (shownD dz = shownD dy) := by
              rw [Bool.eq_iff_iff, eqv_td fz.term fy.term fz.gd.ok, decide_eq_true_eq]
              exact ⟨fun h => by rw [h], fun h => show_inj fz.term fy.term h⟩
            rw [eb]
            refine ⟨rfl, _, rfl, iteN (by simp) ⟨s8 _ _ (s7 _ _ eL), (sd.trans s7).trans s8⟩⟩
          · rintro Hd ⟨eL, sd⟩
            refine ⟨Nat.zero_le _, fun pz H7 s7 n7 e7 => ⟨_, .lst (.of (s7 _ _ eL)) .nil, _, .lst (.of e7) .nil, rfl, rfl, ?_⟩⟩
            exact iteN rfl ⟨⟨_, rfl⟩, ((sc.trans s6).trans sd).trans s7⟩
        · rintro σ Hc ⟨o9, o10, rfl, sc⟩
          subst hu
          walk_at "rq"
          exact q Hc
end
end Vf
namespace Vf
open PySem L2 PyProof.Rows PySem.Spec
structure Facts (w : World) (K : PySem.W.Frag) : Prop where
  d_is_name : DefAt K "is_name" s_is_name
  d_things_of : DefAt K "things_of" s_things_of
  d_show_term : DefAt K "show_term" s_show_term
  d_shown_head : DefAt K "shown_head" s_shown_head
  d_read_term : DefAt K "read_term" s_read_term
  d_term_of : DefAt K "term_of" s_term_of
  d_terms_of : DefAt K "terms_of" s_terms_of
  d_joined : DefAt K "joined" s_joined
  d_heads_of : DefAt K "heads_of" s_heads_of
  d_choice_head : DefAt K "choice_head" s_choice_head
  d_head_of : DefAt K "head_of" s_head_of
  d_is_figures : DefAt K "is_figures" s_is_figures
  d__law_deck : DefAt K "_law_deck" s__law_deck
  d__law_draw : DefAt K "_law_draw" s__law_draw
  d__law_pick : DefAt K "_law_pick" s__law_pick
  d__law_parts : DefAt K "_law_parts" s__law_parts
  d__law_names : DefAt K "_law_names" s__law_names
  d__law_num : DefAt K "_law_num" s__law_num
  d__law_leaf : DefAt K "_law_leaf" s__law_leaf
  d__law_serial_words : DefAt K "_law_serial_words" s__law_serial_words
  d__law_all_words : DefAt K "_law_all_words" s__law_all_words
  d__law_words : DefAt K "_law_words" s__law_words
  d__law_great : DefAt K "_law_great" s__law_great
  d__law_right : DefAt K "_law_right" s__law_right
  d_law : DefAt K "law" s_law
  d__law_term : DefAtD K "_law_term" s__law_term [.int 6]
  t_LEAVES : TupAt K "LEAVES" leavesL
  t_FLAGGED : TupAt K "FLAGGED" flaggedL
  t_FLAGS : TupAt K "FLAGS" flagsL
  t_COMPARISONS : TupAt K "COMPARISONS" compL
  t_KEPT : TupAt K "KEPT" kept
  t_LETTERS : TextAt K "LETTERS" "abcdefghijklmnopqrstuvwxyz"
  t_PART_COUNTS : CntAt K w "PART_COUNTS" cntL
  t_DEEPEST_READ : IntAt K "DEEPEST_READ" 100
  z_isinstance : PySem.W.nsIn K mainGlobals "isinstance" = some none
  z_str : PySem.W.nsIn K mainGlobals "str" = some none
  z_int : PySem.W.nsIn K mainGlobals "int" = some none
  z_bool : PySem.W.nsIn K mainGlobals "bool" = some none
  z_tuple : PySem.W.nsIn K mainGlobals "tuple" = some none
  z_len : PySem.W.nsIn K mainGlobals "len" = some none
  z_all : PySem.W.nsIn K mainGlobals "all" = some none
  z_any : PySem.W.nsIn K mainGlobals "any" = some none
  z_sum : PySem.W.nsIn K mainGlobals "sum" = some none
  z_list : PySem.W.nsIn K mainGlobals "list" = some none
  z_range : PySem.W.nsIn K mainGlobals "range" = some none
  z_repr : PySem.W.nsIn K mainGlobals "repr" = some none
  z_set : PySem.W.nsIn K mainGlobals "set" = some none
  z_sorted : PySem.W.nsIn K mainGlobals "sorted" = some none
  z_dict : PySem.W.nsIn K mainGlobals "dict" = some none
  z_max : PySem.W.nsIn K mainGlobals "max" = some none
  z_min : PySem.W.nsIn K mainGlobals "min" = some none
  z_zip : PySem.W.nsIn K mainGlobals "zip" = some none
  z_enumerate : PySem.W.nsIn K mainGlobals "enumerate" = some none
  z_reversed : PySem.W.nsIn K mainGlobals "reversed" = some none
theorem all_mk {l : PySem.W.OpenLaw} {w : World} {K : PySem.W.Frag} {h : Heap} {mg : Str → Option Value} {fa : Addr} (X : K.In h) (G : h.Ns mainGlobals mg) (hfa : mg "law" = some (.ref fa)) (F : Facts w K) :
    ∃ fd : FuncData, (∀ (s : Shared) (v : Value), BindsTo s fd ⟨[v], []⟩ [("_law_script", v)]) ∧ ∀ base : Heap, K.In base → base.Ns mainGlobals mg → SysAt base → FnG l.prog w K mg base CX0 53 fa fd ["_law_script"] (spLaw K) := by
  have T : Tx K mg := ⟨PySem.W.mg_none_of X G F.z_isinstance, PySem.W.mg_none_of X G F.z_str, PySem.W.mg_none_of X G F.z_int, PySem.W.mg_none_of X G F.z_bool, PySem.W.mg_none_of X G F.z_tuple, PySem.W.mg_none_of X G F.z_len, PySem.W.mg_none_of X G F.z_all, PySem.W.mg_none_of X G F.z_any, PySem.W.mg_none_of X G F.z_sum, PySem.W.mg_none_of X G F.z_list, PySem.W.mg_none_of X G F.z_range, PySem.W.mg_none_of X G F.z_repr, PySem.W.mg_none_of X G F.z_set, PySem.W.mg_none_of X G F.z_sorted, PySem.W.mg_none_of X G F.z_dict, PySem.W.mg_none_of X G F.z_max, PySem.W.mg_none_of X G F.z_min, PySem.W.mg_none_of X G F.z_zip, PySem.W.mg_none_of X G F.z_enumerate, PySem.W.mg_none_of X G F.z_reversed⟩
  obtain ⟨f_is_name, _, _, _, _, _, _, D_is_name⟩ := F.d_is_name.df X G
  obtain ⟨f_things_of, _, _, _, _, _, _, D_things_of⟩ := F.d_things_of.df X G
  obtain ⟨f_show_term, _, _, _, _, _, _, D_show_term⟩ := F.d_show_term.df X G
  obtain ⟨f_shown_head, _, _, _, _, _, _, D_shown_head⟩ := F.d_shown_head.df X G
  obtain ⟨f_read_term, _, _, _, _, _, _, D_read_term⟩ := F.d_read_term.df X G
  obtain ⟨f_term_of, _, _, _, _, _, _, D_term_of⟩ := F.d_term_of.df X G
  obtain ⟨f_terms_of, _, _, _, _, _, _, D_terms_of⟩ := F.d_terms_of.df X G
  obtain ⟨f_joined, _, _, _, _, _, _, D_joined⟩ := F.d_joined.df X G
  obtain ⟨f_heads_of, _, _, _, _, _, _, D_heads_of⟩ := F.d_heads_of.df X G
  obtain ⟨f_choice_head, _, _, _, _, _, _, D_choice_head⟩ := F.d_choice_head.df X G
  obtain ⟨f_head_of, _, _, _, _, _, _, D_head_of⟩ := F.d_head_of.df X G
  obtain ⟨f_is_figures, _, _, _, _, _, _, D_is_figures⟩ := F.d_is_figures.df X G
  obtain ⟨f__law_deck, _, _, _, _, _, _, D__law_deck⟩ := F.d__law_deck.df X G
  obtain ⟨f__law_draw, _, _, _, _, _, _, D__law_draw⟩ := F.d__law_draw.df X G
  obtain ⟨f__law_pick, _, _, _, _, _, _, D__law_pick⟩ := F.d__law_pick.df X G
  obtain ⟨f__law_parts, _, _, _, _, _, _, D__law_parts⟩ := F.d__law_parts.df X G
  obtain ⟨f__law_names, _, _, _, _, _, _, D__law_names⟩ := F.d__law_names.df X G
  obtain ⟨f__law_num, _, _, _, _, _, _, D__law_num⟩ := F.d__law_num.df X G
  obtain ⟨f__law_leaf, _, _, _, _, _, _, D__law_leaf⟩ := F.d__law_leaf.df X G
  obtain ⟨f__law_serial_words, _, _, _, _, _, _, D__law_serial_words⟩ := F.d__law_serial_words.df X G
  obtain ⟨f__law_all_words, _, _, _, _, _, _, D__law_all_words⟩ := F.d__law_all_words.df X G
  obtain ⟨f__law_words, _, _, _, _, _, _, D__law_words⟩ := F.d__law_words.df X G
  obtain ⟨f__law_great, _, _, _, _, _, _, D__law_great⟩ := F.d__law_great.df X G
  obtain ⟨f__law_right, _, _, _, _, _, _, D__law_right⟩ := F.d__law_right.df X G
  obtain ⟨f_law, kV9, doc9, pm9, an9, cd9, ct9, D_law⟩ := F.d_law.df X G
  obtain ⟨f__law_term, fd__law_term, D__law_term⟩ := F.d__law_term.df (by decide) X G
  obtain ⟨aLEAVES, oLEAVES, itsLEAVES, nLEAVES, k1LEAVES, k2LEAVES, k3LEAVES, k4LEAVES, k5LEAVES, k6LEAVES⟩ := F.t_LEAVES
  have tLEAVES : ∀ H, SqT K H aLEAVES (leavesL.map V.str) := fun H => .inr ⟨oLEAVES, itsLEAVES, nLEAVES, k2LEAVES, k3LEAVES, k4LEAVES, Nat.le_trans k5LEAVES (line_le (by decide)), k6LEAVES⟩
  have mLEAVES := PySem.W.mg_of X G k1LEAVES
  obtain ⟨aFLAGGED, oFLAGGED, itsFLAGGED, nFLAGGED, k1FLAGGED, k2FLAGGED, k3FLAGGED, k4FLAGGED, k5FLAGGED, k6FLAGGED⟩ := F.t_FLAGGED
  have tFLAGGED : ∀ H, SqT K H aFLAGGED (flaggedL.map V.str) := fun H => .inr ⟨oFLAGGED, itsFLAGGED, nFLAGGED, k2FLAGGED, k3FLAGGED, k4FLAGGED, Nat.le_trans k5FLAGGED (line_le (by decide)), k6FLAGGED⟩
  have mFLAGGED := PySem.W.mg_of X G k1FLAGGED
  obtain ⟨aFLAGS, oFLAGS, itsFLAGS, nFLAGS, k1FLAGS, k2FLAGS, k3FLAGS, k4FLAGS, k5FLAGS, k6FLAGS⟩ := F.t_FLAGS
  have tFLAGS : ∀ H, SqT K H aFLAGS (flagsL.map V.str) := fun H => .inr ⟨oFLAGS, itsFLAGS, nFLAGS, k2FLAGS, k3FLAGS, k4FLAGS, Nat.le_trans k5FLAGS (line_le (by decide)), k6FLAGS⟩
  have mFLAGS := PySem.W.mg_of X G k1FLAGS
  obtain ⟨aCOMPARISONS, oCOMPARISONS, itsCOMPARISONS, nCOMPARISONS, k1COMPARISONS, k2COMPARISONS, k3COMPARISONS, k4COMPARISONS, k5COMPARISONS, k6COMPARISONS⟩ := F.t_COMPARISONS
  have tCOMPARISONS : ∀ H, SqT K H aCOMPARISONS (compL.map V.str) := fun H => .inr ⟨oCOMPARISONS, itsCOMPARISONS, nCOMPARISONS, k2COMPARISONS, k3COMPARISONS, k4COMPARISONS, Nat.le_trans k5COMPARISONS (line_le (by decide)), k6COMPARISONS⟩
  have mCOMPARISONS := PySem.W.mg_of X G k1COMPARISONS
  obtain ⟨aKEPT, oKEPT, itsKEPT, nKEPT, k1KEPT, k2KEPT, k3KEPT, k4KEPT, k5KEPT, k6KEPT⟩ := F.t_KEPT
  have tKEPT : ∀ H, SqT K H aKEPT (kept.map V.str) := fun H => .inr ⟨oKEPT, itsKEPT, nKEPT, k2KEPT, k3KEPT, k4KEPT, Nat.le_trans k5KEPT (line_le (by decide)), k6KEPT⟩
  have mKEPT := PySem.W.mg_of X G k1KEPT
  obtain ⟨zLETTERS, tkLETTERS, l1LETTERS, rfl⟩ := F.t_LETTERS
  have mLETTERS := PySem.W.mg_of X G l1LETTERS
  obtain ⟨aPART_COUNTS, c1PART_COUNTS, cPART_COUNTS⟩ := F.t_PART_COUNTS.cnt
  have mPART_COUNTS := PySem.W.mg_of X G c1PART_COUNTS
  obtain ⟨tkDEEPEST_READ, l1DEEPEST_READ⟩ := F.t_DEEPEST_READ
  have mDEEPEST_READ := PySem.W.mg_of X G l1DEEPEST_READ
  obtain rfl : f_law = fa := by
    have e := hfa.symm.trans D_law.gl
    cases e
    rfl
  refine ⟨PySem.W.fnOf "law" "law" (defArgs s_law) (defBody s_law) (defScope s_law) .none kV9 doc9 pm9 an9 cd9 ct9, fun s v => .of_eq rfl, fun base _ _ hsys => ?_⟩
  have draw := ok__law_draw (P := l.prog) (w := w) (base := base) D__law_draw T
  have pick := ok__law_pickL D__law_pick T draw
  have num := ok__law_num (P := l.prog) (w := w) (base := base) D__law_num T draw
  have leaf := ok__law_leaf D__law_leaf T draw num pick
  have termF := ok__law_term (P := l.prog) (w := w) (base := base) D__law_term T T.tuple draw pick leaf 7
  have term5 := D__law_term.calD termF 5 0 (by decide) (by decide) fun Ta kV doc pm an cdv ct us its h1 h2 => (by
    match us, h1, its, h2 with
    | [_, _, _, _, _], _, [_], _ => exact ⟨_, rfl, rfl⟩)
  have serial := ok__law_serial_words (P := l.prog) (w := w) (base := base) D__law_serial_words T
  have allw := ok__law_all_words D__law_all_words T serial
  have thF := ok_things_of (P := l.prog) (w := w) (base := base) D_things_of T mLEAVES tLEAVES mFLAGGED tFLAGGED
  have th := D_things_of.cal1 thF (D_things_of.fn.binds fun _ _ _ _ _ _ us hl => match us, hl with | [_], _ => rfl)
  have sh := ok_shown_head (P := l.prog) (w := w) (base := base) D_shown_head T mFLAGGED tFLAGGED
  have showF := fn_show_term D_show_term T th sh
  have show_ := D_show_term.cal1 showF (D_show_term.fn.binds fun _ _ _ _ _ _ us hl => match us, hl with | [_], _ => rfl)
  have isnF := fn_is_name (P := l.prog) (w := w) (base := base) D_is_name T mKEPT tKEPT mLETTERS
  have isn := D_is_name.cal1 isnF (D_is_name.fn.binds fun _ _ _ _ _ _ us hl => match us, hl with | [_], _ => rfl)
  have fig := ok_is_figures (P := l.prog) (w := w) (base := base) D_is_figures T
  have hof := ok_head_of D_head_of T isn fig mFLAGGED tFLAGGED mFLAGS tFLAGS mPART_COUNTS cPART_COUNTS
  have chh := ok_choice_head (P := l.prog) (w := w) (base := base) D_choice_head T mCOMPARISONS tCOMPARISONS
  have heads := ok_heads_of D_heads_of T hof chh
  have join := ok_joined (P := l.prog) (w := w) (base := base) D_joined T
  have terms := ok_terms_of D_terms_of T heads join mPART_COUNTS cPART_COUNTS mDEEPEST_READ
  have termo := ok_term_of D_term_of T terms
  have readF := fn_read_term D_read_term T termo
  have read_ := D_read_term.cal1 readF (D_read_term.fn.binds fun _ _ _ _ _ _ us hl => match us, hl with | [_], _ => rfl)
  have lparts := ok__law_parts (P := l.prog) (w := w) (base := base) D__law_parts T
  have lwords := ok__law_words D__law_words T lparts 50
  have great := ok__law_great (P := l.prog) (w := w) (base := base) D__law_great T
  have right := ok__law_right hsys D__law_right T lwords show_ read_
    ⟨⟨f_show_term, _, showF, D_show_term.gl, D_show_term.fn.kp, fun s us ws h1 h2 => match us, ws, h1, h2 with | [], [_], _, _ => .of_eq rfl⟩, fun r1 r2 => r1.append r2⟩
    ⟨⟨f_read_term, _, readF, D_read_term.gl, D_read_term.fn.kp, fun s us ws h1 h2 => match us, ws, h1, h2 with | [], [_], _, _ => .of_eq rfl⟩, fun r1 r2 => r1.append r2⟩
  exact ok_law hsys D_law T draw (ok__law_deck D__law_deck T) (ok__law_names D__law_names T draw) term5 allw lwords great show_ read_ right
end Vf
open PySem PySem.W PyProof.Rows
set_option maxHeartbeats 0 in
theorem PySem.Challenge.cw_poisonrules_k05_terms_there_and_back_holds : PySem.Challenge.rw_poisonrules_k05_terms_there_and_back.Holds := by
  w_on; o_law; k_head; (case hw => w_witness2)
  k_fill
  refine Vf.walk_ofS (l := PySem.Challenge.rw_poisonrules_k05_terms_there_and_back) (k := 53) (x := "_law_script") (by first | rfl | decide +kernel) rfl rfl ⟨rfl, by decide, by decide⟩ (fun w h Y => PySem.W.kIn_of Y) ?F
  case F =>
    intro w mg fa h KX G hmg
    refine Vf.all_mk (w := w) KX G hmg ⟨?d_is_name, ?d_things_of, ?d_show_term, ?d_shown_head, ?d_read_term, ?d_term_of, ?d_terms_of, ?d_joined, ?d_heads_of, ?d_choice_head, ?d_head_of, ?d_is_figures, ?d__law_deck, ?d__law_draw, ?d__law_pick, ?d__law_parts, ?d__law_names, ?d__law_num, ?d__law_leaf, ?d__law_serial_words, ?d__law_all_words, ?d__law_words, ?d__law_great, ?d__law_right, ?d_law, ?d__law_term, ?t_LEAVES, ?t_FLAGGED, ?t_FLAGS, ?t_COMPARISONS, ?t_KEPT, ?t_LETTERS, ?t_PART_COUNTS, ?t_DEEPEST_READ, ?z_isinstance, ?z_str, ?z_int, ?z_bool, ?z_tuple, ?z_len, ?z_all, ?z_any, ?z_sum, ?z_list, ?z_range, ?z_repr, ?z_set, ?z_sorted, ?z_dict, ?z_max, ?z_min, ?z_zip, ?z_enumerate, ?z_reversed⟩
    case d_is_name =>
      refine' Vf.DefAt.mk ?a_d_is_name ?l_d_is_name ?c_d_is_name ?k_d_is_name
      (case a_d_is_name => k_is); (case l_d_is_name => k_is); (case c_d_is_name => k_is); (case k_d_is_name => k_is)
    case d_things_of =>
      refine' Vf.DefAt.mk ?a_d_things_of ?l_d_things_of ?c_d_things_of ?k_d_things_of
      (case a_d_things_of => k_is); (case l_d_things_of => k_is); (case c_d_things_of => k_is); (case k_d_things_of => k_is)
    case d_show_term =>
      refine' Vf.DefAt.mk ?a_d_show_term ?l_d_show_term ?c_d_show_term ?k_d_show_term
      (case a_d_show_term => k_is); (case l_d_show_term => k_is); (case c_d_show_term => k_is); (case k_d_show_term => k_is)
    case d_shown_head =>
      refine' Vf.DefAt.mk ?a_d_shown_head ?l_d_shown_head ?c_d_shown_head ?k_d_shown_head
      (case a_d_shown_head => k_is); (case l_d_shown_head => k_is); (case c_d_shown_head => k_is); (case k_d_shown_head => k_is)
    case d_read_term =>
      refine' Vf.DefAt.mk ?a_d_read_term ?l_d_read_term ?c_d_read_term ?k_d_read_term
      (case a_d_read_term => k_is); (case l_d_read_term => k_is); (case c_d_read_term => k_is); (case k_d_read_term => k_is)
    case d_term_of =>
      refine' Vf.DefAt.mk ?a_d_term_of ?l_d_term_of ?c_d_term_of ?k_d_term_of
      (case a_d_term_of => k_is); (case l_d_term_of => k_is); (case c_d_term_of => k_is); (case k_d_term_of => k_is)
    case d_terms_of =>
      refine' Vf.DefAt.mk ?a_d_terms_of ?l_d_terms_of ?c_d_terms_of ?k_d_terms_of
      (case a_d_terms_of => k_is); (case l_d_terms_of => k_is); (case c_d_terms_of => k_is); (case k_d_terms_of => k_is)
    case d_joined =>
      refine' Vf.DefAt.mk ?a_d_joined ?l_d_joined ?c_d_joined ?k_d_joined
      (case a_d_joined => k_is); (case l_d_joined => k_is); (case c_d_joined => k_is); (case k_d_joined => k_is)
    case d_heads_of =>
      refine' Vf.DefAt.mk ?a_d_heads_of ?l_d_heads_of ?c_d_heads_of ?k_d_heads_of
      (case a_d_heads_of => k_is); (case l_d_heads_of => k_is); (case c_d_heads_of => k_is); (case k_d_heads_of => k_is)
    case d_choice_head =>
      refine' Vf.DefAt.mk ?a_d_choice_head ?l_d_choice_head ?c_d_choice_head ?k_d_choice_head
      (case a_d_choice_head => k_is); (case l_d_choice_head => k_is); (case c_d_choice_head => k_is); (case k_d_choice_head => k_is)
    case d_head_of =>
      refine' Vf.DefAt.mk ?a_d_head_of ?l_d_head_of ?c_d_head_of ?k_d_head_of
      (case a_d_head_of => k_is); (case l_d_head_of => k_is); (case c_d_head_of => k_is); (case k_d_head_of => k_is)
    case d_is_figures =>
      refine' Vf.DefAt.mk ?a_d_is_figures ?l_d_is_figures ?c_d_is_figures ?k_d_is_figures
      (case a_d_is_figures => k_is); (case l_d_is_figures => k_is); (case c_d_is_figures => k_is); (case k_d_is_figures => k_is)
    case d__law_deck =>
      refine' Vf.DefAt.mk ?a_d__law_deck ?l_d__law_deck ?c_d__law_deck ?k_d__law_deck
      (case a_d__law_deck => k_is); (case l_d__law_deck => k_is); (case c_d__law_deck => k_is); (case k_d__law_deck => k_is)
    case d__law_draw =>
      refine' Vf.DefAt.mk ?a_d__law_draw ?l_d__law_draw ?c_d__law_draw ?k_d__law_draw
      (case a_d__law_draw => k_is); (case l_d__law_draw => k_is); (case c_d__law_draw => k_is); (case k_d__law_draw => k_is)
    case d__law_pick =>
      refine' Vf.DefAt.mk ?a_d__law_pick ?l_d__law_pick ?c_d__law_pick ?k_d__law_pick
      (case a_d__law_pick => k_is); (case l_d__law_pick => k_is); (case c_d__law_pick => k_is); (case k_d__law_pick => k_is)
    case d__law_parts =>
      refine' Vf.DefAt.mk ?a_d__law_parts ?l_d__law_parts ?c_d__law_parts ?k_d__law_parts
      (case a_d__law_parts => k_is); (case l_d__law_parts => k_is); (case c_d__law_parts => k_is); (case k_d__law_parts => k_is)
    case d__law_names =>
      refine' Vf.DefAt.mk ?a_d__law_names ?l_d__law_names ?c_d__law_names ?k_d__law_names
      (case a_d__law_names => k_is); (case l_d__law_names => k_is); (case c_d__law_names => k_is); (case k_d__law_names => k_is)
    case d__law_num =>
      refine' Vf.DefAt.mk ?a_d__law_num ?l_d__law_num ?c_d__law_num ?k_d__law_num
      (case a_d__law_num => k_is); (case l_d__law_num => k_is); (case c_d__law_num => k_is); (case k_d__law_num => k_is)
    case d__law_leaf =>
      refine' Vf.DefAt.mk ?a_d__law_leaf ?l_d__law_leaf ?c_d__law_leaf ?k_d__law_leaf
      (case a_d__law_leaf => k_is); (case l_d__law_leaf => k_is); (case c_d__law_leaf => k_is); (case k_d__law_leaf => k_is)
    case d__law_serial_words =>
      refine' Vf.DefAt.mk ?a_d__law_serial_words ?l_d__law_serial_words ?c_d__law_serial_words ?k_d__law_serial_words
      (case a_d__law_serial_words => k_is); (case l_d__law_serial_words => k_is); (case c_d__law_serial_words => k_is); (case k_d__law_serial_words => k_is)
    case d__law_all_words =>
      refine' Vf.DefAt.mk ?a_d__law_all_words ?l_d__law_all_words ?c_d__law_all_words ?k_d__law_all_words
      (case a_d__law_all_words => k_is); (case l_d__law_all_words => k_is); (case c_d__law_all_words => k_is); (case k_d__law_all_words => k_is)
    case d__law_words =>
      refine' Vf.DefAt.mk ?a_d__law_words ?l_d__law_words ?c_d__law_words ?k_d__law_words
      (case a_d__law_words => k_is); (case l_d__law_words => k_is); (case c_d__law_words => k_is); (case k_d__law_words => k_is)
    case d__law_great =>
      refine' Vf.DefAt.mk ?a_d__law_great ?l_d__law_great ?c_d__law_great ?k_d__law_great
      (case a_d__law_great => k_is); (case l_d__law_great => k_is); (case c_d__law_great => k_is); (case k_d__law_great => k_is)
    case d__law_right =>
      refine' Vf.DefAt.mk ?a_d__law_right ?l_d__law_right ?c_d__law_right ?k_d__law_right
      (case a_d__law_right => k_is); (case l_d__law_right => k_is); (case c_d__law_right => k_is); (case k_d__law_right => k_is)
    case d_law =>
      refine' Vf.DefAt.mk ?a_d_law ?l_d_law ?c_d_law ?k_d_law
      (case a_d_law => k_is); (case l_d_law => k_is); (case c_d_law => k_is); (case k_d_law => k_is)
    case d__law_term =>
      refine' Vf.DefAtD.mk ?a_d__law_term ?l_d__law_term ?c_d__law_term ?k_d__law_term ?t_d__law_term ?v_d__law_term
      (case a_d__law_term => k_is); (case l_d__law_term => k_is); (case c_d__law_term => k_is); (case k_d__law_term => k_is); (case t_d__law_term => k_is)
      case v_d__law_term => repeat (first | exact .nil | refine .cons (by first | exact ⟨_, rfl⟩ | rfl) ?_)
    case t_LEAVES =>
      refine' Vf.TupAt.mk ?a_t_LEAVES ?b_t_LEAVES ?c_t_LEAVES ?d_t_LEAVES
      (case a_t_LEAVES => k_is); (case b_t_LEAVES => k_is); (case c_t_LEAVES => decide)
      case d_t_LEAVES => repeat (first | exact .nil | refine .cons ⟨_, rfl⟩ ?_)
    case t_FLAGGED =>
      refine' Vf.TupAt.mk ?a_t_FLAGGED ?b_t_FLAGGED ?c_t_FLAGGED ?d_t_FLAGGED
      (case a_t_FLAGGED => k_is); (case b_t_FLAGGED => k_is); (case c_t_FLAGGED => decide)
      case d_t_FLAGGED => repeat (first | exact .nil | refine .cons ⟨_, rfl⟩ ?_)
    case t_FLAGS =>
      refine' Vf.TupAt.mk ?a_t_FLAGS ?b_t_FLAGS ?c_t_FLAGS ?d_t_FLAGS
      (case a_t_FLAGS => k_is); (case b_t_FLAGS => k_is); (case c_t_FLAGS => decide)
      case d_t_FLAGS => repeat (first | exact .nil | refine .cons ⟨_, rfl⟩ ?_)
    case t_COMPARISONS =>
      refine' Vf.TupAt.mk ?a_t_COMPARISONS ?b_t_COMPARISONS ?c_t_COMPARISONS ?d_t_COMPARISONS
      (case a_t_COMPARISONS => k_is); (case b_t_COMPARISONS => k_is); (case c_t_COMPARISONS => decide)
      case d_t_COMPARISONS => repeat (first | exact .nil | refine .cons ⟨_, rfl⟩ ?_)
    case t_KEPT =>
      refine' Vf.TupAt.mk ?a_t_KEPT ?b_t_KEPT ?c_t_KEPT ?d_t_KEPT
      (case a_t_KEPT => k_is); (case b_t_KEPT => k_is); (case c_t_KEPT => decide)
      case d_t_KEPT => repeat (first | exact .nil | refine .cons ⟨_, rfl⟩ ?_)
    case t_LETTERS =>
      refine' Vf.TextAt.mk ?a_t_LETTERS ?e_t_LETTERS
      (case a_t_LETTERS => k_is)
      case e_t_LETTERS => first | rfl | decide +kernel
    case t_PART_COUNTS =>
      refine' Vf.CntAt.mk ?c1_t_PART_COUNTS ?c2_t_PART_COUNTS ?c3_t_PART_COUNTS ?c4_t_PART_COUNTS ?c5_t_PART_COUNTS
      (case c1_t_PART_COUNTS => k_is); (case c2_t_PART_COUNTS => k_is)
      case c3_t_PART_COUNTS => repeat (first | exact trivial | refine ⟨⟨_, _, rfl, rfl⟩, ?_⟩)
      case c4_t_PART_COUNTS => first | rfl | decide
      case c5_t_PART_COUNTS => repeat (first | exact trivial | refine ⟨⟨⟨_, rfl⟩, ⟨_, rfl⟩⟩, ?_⟩)
    case t_DEEPEST_READ =>
      refine' Vf.IntAt.mk ?a_t_DEEPEST_READ
      (case a_t_DEEPEST_READ => k_is)
    case z_isinstance => k_is
    case z_str => k_is
    case z_int => k_is
    case z_bool => k_is
    case z_tuple => k_is
    case z_len => k_is
    case z_all => k_is
    case z_any => k_is
    case z_sum => k_is
    case z_list => k_is
    case z_range => k_is
    case z_repr => k_is
    case z_set => k_is
    case z_sorted => k_is
    case z_dict => k_is
    case z_max => k_is
    case z_min => k_is
    case z_zip => k_is
    case z_enumerate => k_is
    case z_reversed => k_is
#print axioms PySem.Challenge.cw_poisonrules_k05_terms_there_and_back_holds
