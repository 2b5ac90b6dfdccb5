import PyProof.Rows.All
import Wide.All
import OpenK.AllK
import Wide.FinOn
import HandS.ForMost
import HandS.IsInst
import HandS.TupAny
import HandS.TupMul
import HandS.Style
import PyProof.ReprRoads
import PyProof.FactsAll.subtypes
import PyProof.FactsAll.dict
import HandS.More
import PyProof.AutoSeq1
import HandS.Defaults
import PyProof.Rows.IntBool
import PyProof.Rows.StrCase
import PyProof.CallStr
import KE.BitLaws
import PySem.Challenge.RW_poisonrules_k40_what_machines_let
set_option Elab.async false
set_option linter.all false
set_option maxRecDepth 100000
set_option maxHeartbeats 6000000
namespace Vf
open PySem L2 PyProof.Rows PySem.Spec
/-! ## data: what stands at a value, dicts too -/
def keyD : Key → PyData
  | .inl i => .int i
  | .inr x => .str x
mutual
inductive Dv (H : Hp) : V → PyData → Prop
  | non : Dv H .non .none
  | bl (b : Bool) : Dv H (.bl b) (.bool b)
  | int (i : Int) : Dv H (.int i) (.int i)
  | str (x : Str) : Dv H (.str x) (.str x)
  | lst {a : Addr} {xs : List V} {ds : List PyData} : H a = some (.lst xs) → DvAll H xs ds → Dv H (.ref a) (.list ds)
  | tup {a : Addr} {xs : List V} {ds : List PyData} : H a = some (.tup xs) → DvAll H xs ds → Dv H (.ref a) (.tuple ds)
  | dic {a : Addr} {kvs : List (Key × V)} {ds : List PyData} : H a = some (.dK kvs) → DvAll H (kvs.map (·.2)) ds → Dv H (.ref a) (.dict ((kvs.map fun p => keyD p.1).zip ds))
inductive DvAll (H : Hp) : List V → List PyData → Prop
  | nil : DvAll H [] []
  | cons {v : V} {vs : List V} {d : PyData} {ds : List PyData} : Dv H v d → DvAll H vs ds → DvAll H (v :: vs) (d :: ds)
end
mutual
theorem Dv.same {H H' : Hp} (s : Same H H') : ∀ {v : V} {d : PyData}, Dv H v d → Dv H' v d
  | _, _, .non => .non
  | _, _, .bl b => .bl b
  | _, _, .int i => .int i
  | _, _, .str x => .str x
  | _, _, .lst e h => .lst (s _ _ e) (h.same s)
  | _, _, .tup e h => .tup (s _ _ e) (h.same s)
  | _, _, .dic e h => .dic (s _ _ e) (h.same s)
theorem DvAll.same {H H' : Hp} (s : Same H H') : ∀ {v : List V} {d : List PyData}, DvAll H v d → DvAll H' v d
  | _, _, .nil => .nil
  | _, _, .cons h t => .cons (h.same s) (t.same s)
end
theorem DvAll.len {H : Hp} : ∀ {v : List V} {d : List PyData}, DvAll H v d → v.length = d.length
  | _, _, .nil => rfl
  | _, _, .cons _ t => congrArg (· + 1) t.len
section
variable {X : Cx} {s : Shared} {H : Hp} {σ : L2.St} {pins : List (Addr × Obj)}
theorem keys_read {P : Program} {w : World} {h : Heap} : ∀ {es : List DictEntry} {vs : List (Key × Value)} {kvs : List (Key × V)}, Pairs (mixKind P w) es vs → KV kvs vs →
    ReadsAll h (es.map (·.key)) (kvs.map fun p => keyD p.1) [] ∧ Vals (kvs.map (·.2)) (es.map (·.val))
  | [], [], _, .nil, k => by
    cases k
    exact ⟨.nil, .nil⟩
  | e :: es, (k, u) :: vs, _, .cons hk hv hp, .cons (a := p) r t => by
    obtain ⟨r1, r2⟩ := keys_read (h := h) hp t
    obtain ⟨e1, e2⟩ := r
    obtain ⟨k', v⟩ := p
    have ek : k' = k := e1
    subst ek
    refine ⟨?_, .cons (show RelV v e.val by rw [hv]; exact e2) r2⟩
    show ReadsAll h (e.key :: es.map (·.key)) (keyD k' :: _) ([] ++ [])
    refine .cons ?_ r1
    rcases keyIs_shape hk with ⟨i, tk, rfl, ev⟩ | ⟨x, tk, rfl, ev⟩
    · rw [ev]
      exact .int _ _
    · rw [ev]
      exact .str _ _
theorem zip_fst : ∀ {a : List PyData} {b : List PyData}, a.length = b.length → (a.zip b).map (·.1) = a
  | [], [], _ => rfl
  | x :: a, y :: b, h => by
    show x :: (a.zip b).map (·.1) = x :: a
    rw [zip_fst (Nat.succ.inj h)]
theorem zip_snd : ∀ {a : List PyData} {b : List PyData}, a.length = b.length → (a.zip b).map (·.2) = b
  | [], [], _ => rfl
  | x :: a, y :: b, h => by
    show y :: (a.zip b).map (·.2) = y :: b
    rw [zip_snd (Nat.succ.inj h)]
mutual
theorem Dv.read (I : Inv X pins σ H s) : ∀ {v : V} {d : PyData}, Dv H v d → ∀ (u : Value), RelV v u → ∃ as, Reads s.heap u d as ∧ ∀ b ∈ as, H b ≠ none
  | _, _, .non, u, r => by
    cases r
    exact ⟨_, .none, nofun⟩
  | _, _, .bl b, u, r => by
    cases r
    exact ⟨_, .bool b, nofun⟩
  | _, _, .int i, u, r => by
    obtain ⟨t, rfl⟩ := r
    exact ⟨_, .int i t, nofun⟩
  | _, _, .str x, u, r => by
    obtain ⟨t, rfl⟩ := r
    exact ⟨_, .str x t, nofun⟩
  | _, _, @Dv.lst _ a xs ds e ha, u, r => by
    cases r
    obtain ⟨_, its, n, rv, ho⟩ : ObjOk X.prog X.w H s.heap a (.lst xs) := I.hok a _ e
    obtain ⟨as, hr, hb⟩ := DvAll.read I ha its rv
    exact ⟨_, .list ho rfl rfl hr, fun b m => by
      rcases List.mem_cons.mp m with rfl | m
      · rw [e]; nofun
      · exact hb b m⟩
  | _, _, @Dv.tup _ a xs ds e ha, u, r => by
    cases r
    obtain ⟨_, its, rv, o, ho, hc, n, hd⟩ : ObjOk X.prog X.w H s.heap a (.tup xs) := I.hok a _ e
    obtain ⟨as, hr, hb⟩ := DvAll.read I ha its rv
    exact ⟨_, .tuple ho hc hd hr, hb⟩
  | _, _, @Dv.dic _ a kvs ds e ha, u, r => by
    cases r
    obtain ⟨_, hsys, vs, kv, o, es, ep, ho, ⟨hc, _⟩, hd, _, hp, _⟩ : ObjOk X.prog X.w H s.heap a (.dK kvs) := I.hok a _ e
    obtain ⟨rk, rv⟩ := keys_read (h := s.heap) hp kv
    have hl : (kvs.map fun p => keyD p.1).length = ds.length := by
      have := ha.len
      simpa using this
    obtain ⟨bs, hr, hb⟩ := DvAll.read I ha _ rv
    refine ⟨_, .dict ho hc hd (by rw [zip_fst hl]; exact rk) (by rw [zip_snd hl]; exact hr), fun b m => ?_⟩
    rcases List.mem_cons.mp (by simpa using m) with rfl | m
    · rw [e]; nofun
    · exact hb b m
theorem DvAll.read (I : Inv X pins σ H s) : ∀ {vs : List V} {ds : List PyData}, DvAll H vs ds → ∀ (us : List Value), Vals vs us → ∃ as, ReadsAll s.heap us ds as ∧ ∀ b ∈ as, H b ≠ none
  | _, _, .nil, us, r => by
    cases r
    exact ⟨_, .nil, nofun⟩
  | _, _, .cons h1 h2, us, r => by
    cases r with
    | cons r1 r2 =>
      obtain ⟨as, q1, b1⟩ := Dv.read I h1 _ r1
      obtain ⟨bs, q2, b2⟩ := DvAll.read I h2 _ r2
      exact ⟨_, .cons q1 q2, fun b m => (List.mem_append.mp m).elim (b1 b) (b2 b)⟩
end
theorem flat_read (I : Inv X pins σ H s) : ∀ {vs : List V} {ds : List PyData}, DvAll H vs ds → vs.all flatV = true → ∀ (us : List Value), Vals vs us → ReadsAll s.heap us ds []
  | _, _, .nil, _, us, r => by
    cases r
    exact .nil
  | _, _, @DvAll.cons _ v vs d ds h1 h2, f, us, r => by
    have f := (Bool.and_eq_true _ _).mp f
    cases r with
    | @cons _ u _ us r1 r2 =>
      have q2 := flat_read I h2 f.2 _ r2
      have q1 : Reads s.heap u d [] := by
        cases h1 with
        | non => cases r1; exact .none
        | bl b => cases r1; exact .bool b
        | int i =>
          obtain ⟨t, rfl⟩ := r1
          exact .int i t
        | str x =>
          obtain ⟨t, rfl⟩ := r1
          exact .str x t
        | lst _ _ => cases f.1
        | tup _ _ => cases f.1
        | dic _ _ => cases f.1
      exact .cons q1 q2
/-- a dict is shown where it stands alone, its values flat -/
def FlatDict (H : Hp) (x : V) : Prop := ∃ a kvs, x = .ref a ∧ H a = some (.dK kvs) ∧ (kvs.map (·.2)).all flatV = true
/-- repr(x), x data -/
def rRepr : List V → Hp → VK → Prop := fun xs H Q => ∃ x d, xs = [x] ∧ Dv H x d ∧ d.showable = true ∧ (d.hasDict = false ∨ FlatDict H x) ∧ d.depth ≤ 50 ∧ d.shown.length ≤ sizeLine ∧ Q (.str d.shown) H
theorem call_reprD (hg : X.A.guards = some []) (hu : X.A.units + 64 < cLine) : CallR X (.builtin "repr") rRepr := by
  intro pins s σ H xs us Q I rr h
  obtain ⟨x, d, rfl, hd, hs, hn, hp, hz, q⟩ := h
  obtain ⟨u, rfl, rx⟩ := vals1 rr
  have fin : ∀ (h' : Heap) (t k : Tok), (∀ b o, s.heap.get? b = some o → h'.get? b = some o) → EP X pins σ Q (.str d.shown t) { s with heap := h', toks := k } := fun h' t k kp =>
    ⟨.str d.shown, H, I.kept kp, ⟨t, rfl⟩, q⟩
  have main : ∃ as, Reads s.heap u d as ∧ (d.hasDict = true → sysModules ∉ as) := by
    rcases hn with hn | ⟨a, kvs, rfl, ha, hf⟩
    · obtain ⟨as, rd, -⟩ := Dv.read I hd u rx
      exact ⟨as, rd, fun z => by rw [hn] at z; cases z⟩
    · cases hd with
      | lst e _ => rw [ha] at e; cases e
      | tup e _ => rw [ha] at e; cases e
      | @dic _ kvs' ds e hv =>
        rw [ha] at e; cases e
        cases rx
        obtain ⟨_, hsys, vs, kv, o, es, ep, ho, ⟨hc, _⟩, hdd, _, hpp, _⟩ : ObjOk X.prog X.w H s.heap a (.dK kvs) := I.hok a _ ha
        obtain ⟨rk, rv⟩ := keys_read (h := s.heap) hpp kv
        have hl : (kvs.map fun p => keyD p.1).length = ds.length := by
          have := hv.len
          simpa using this
        refine ⟨_, .dict ho hc hdd (by rw [zip_fst hl]; exact rk) (by rw [zip_snd hl]; exact flat_read I hv hf _ rv), fun _ m => ?_⟩
        have m' : sysModules = a := by simpa using m
        rw [m'] at hsys
        simp at hsys
  obtain ⟨as, rd, hm⟩ := main
  cases rd with
  | none =>
    simp only [PyData.shown] at fin
    exact PySem.P.repr_of_none (fin _ _ _ fun _ _ e => e)
  | bool b =>
    simp only [PyData.shown] at fin
    exact PySem.P.repr_of_bool (fin _ _ _ fun _ _ e => e)
  | int i t =>
    simp only [PyData.shown] at fin
    exact PySem.P.repr_of_int (by simpa [PyData.showable] using hs) (fin _ _ _ fun _ _ e => e)
  | str y t =>
    simp only [PyData.shown] at fin hz
    exact PySem.P.repr_of_str (fin _ _ _ fun _ _ e => e) hz
  | list h1 h2 h3 h4 => exact repr_of_reads' (.list h1 h2 h3 h4) hs hm hg (by omega) (fun _ _ e => e) fin hz
  | tuple h1 h2 h3 h4 => exact repr_of_reads' (.tuple h1 h2 h3 h4) hs hm hg (by omega) (fun _ _ e => e) fin hz
  | dict h1 h2 h3 h4 h5 => exact repr_of_reads' (.dict h1 h2 h3 h4 h5) hs hm hg (by omega) (fun _ _ e => e) fin hz
end
end Vf
namespace Vf
open PySem L2 PyProof.Rows PySem.Spec
/-! ## a def's promise where no repr is under way -/
structure FnG (P : Program) (w : World) (K : PySem.W.Frag) (mg : Str → Option Value) (base : Heap) (C : CXT) (k : Nat) (f : Addr) (fd : FuncData) (ps : List Str) (sp : Sp) : Prop where
  many : ∀ vs H Q E, sp vs H Q E → vs.length = ps.length
  go : ∀ (A : Around) (outer : List Env) (s : Shared) (H : Hp) (args : Args) (us : List Value) (vs : List V) (Q : VK) (E : XK), A.guards = some [] → Room k A → Env0 P w K mg base A outer s H → BindsTo s fd args (ps.zip us) →
    Vals vs us → sp vs H Q E → codeAny (model P w) A (.call (.ref f) args) (CR C outer P w H s Q E) s
section
variable {K : PySem.W.Frag} {P : Program} {w : World} {base : Heap} {mg : Str → Option Value}
theorem fnG_of {C : CXT} {k : Nat} {f : Addr} {name qual : Str} {params : Arguments} {body : List Stmt} {scope : Scope} {dV kV doc pm cdv ct oc : Value} {an od : Option Addr} {osl : Array (Option Value)} {N ps : List Str} {sp : Sp}
    (at_ : K.lookup f = some ⟨oc, od, .func (PySem.W.fnOf name qual params body scope dV kV doc pm an cdv ct), osl⟩) (code : PySem.W.codeIn K cdv qual = true) (S : FnScope N ps scope) (many : ∀ vs H Q E, sp vs H Q E → vs.length = ps.length)
    (bd : ∀ (A : Around) (outer : List Env) (s : Shared) (H : Hp) (vs : List V) (Q : VK) (E : XK), (A.deeper (envOfC qual scope s.heap.objs.size f cdv)).guards = some [] → Room k (A.deeper (envOfC qual scope s.heap.objs.size f cdv)) → sp vs H Q E →
      ∃ t, PSs (cxOf C P w K mg base N qual scope f cdv A outer s H E) body t ∧ t { nx := fun _ H' => Q .non H', rt := Q } (start N vs) H) :
    FnG P w K mg base C (k + 1) f (PySem.W.fnOf name qual params body scope dV kV doc pm an cdv ct) ps sp where
  many := many
  go := by
    intro A outer s H args us vs Q E hg hr env0 hb rv hsp
    have hKs : K.In s.heap := env0.mod.kin.keeps fun b o z => (env0.bs b o z).1
    have hlim : s.heap.NoLimit := env0.mod.nolimit.keeps fun b o z => (env0.bs b o z).1
    refine codeAny_call_function hr.depth (hKs _ _ at_) rfl S.co S.gen rfl (PySem.W.codeRec_of hKs code) (hb _ _ _ _ ?_)
    refine wpAny_newFunctionEnv_cells S.kind (fun y hy => ?_) fun env he s1 x => ?_
    · rcases S.par y.1 (List.of_mem_zip hy).1 with z | z
      · exact .inl z
      · exact .inr ⟨z, PySem.W.cellsFrom_some _ _ _ (.inl z)⟩
    · subst he
      obtain ⟨t, derived, reads⟩ := bd A outer s H vs Q E hg (hr.deeper _) hsp
      refine ⟨hlim.keeps x.toInCall.keep, codeAny_func (wpAny_mono (derived.run [] s1 (start N vs) H _ (inv_start S hr.hd env0 (many _ _ _ _ hsp) rv x) reads) (fun fl s' hs => ?_) fun _ _ hs => hs)⟩
      cases fl with
      | ret u =>
        obtain ⟨v, σ', H', J, rv', q⟩ := hs
        exact ⟨v, H', J.os, J.bare, J.base, J.hok, rv', q⟩
      | next =>
        obtain ⟨σ', H', J, q⟩ := hs
        exact ⟨V.non, H', J.os, J.bare, J.base, J.hok, rfl, q⟩
      | brk =>
        obtain ⟨_, _, _, q⟩ := hs
        exact q.elim
      | cont =>
        obtain ⟨_, _, _, q⟩ := hs
        exact q.elim
/-- a def of the top's text, as it stands in the module -/
structure Df (K : PySem.W.Frag) (mg : Str → Option Value) (x : Str) (st : Stmt) (f : Addr) (fd : FuncData) : Prop where
  fn : Fun K x x st f fd
  gl : mg x = some (.ref f)
/-- a def that may be called -/
structure Cal (P : Program) (w : World) (K : PySem.W.Frag) (mg : Str → Option Value) (base : Heap) (x : Str) (ps : List Str) (k : Nat) (sp : Sp) : Prop where
  ex : ∃ f fd, FnG P w K mg base CX0 k f fd ps sp ∧ mg x = some (.ref f) ∧ PySem.W.keepIn K (.ref f) = true ∧ Binds K fd ps []
theorem Df.fnG {x : Str} {st : Stmt} {f : Addr} {fd : FuncData} {N ps : List Str} {k : Nat} {sp : Sp} (D : Df K mg x st f fd) (S : FnScope N ps (defScope st)) (many : ∀ vs H Q E, sp vs H Q E → vs.length = ps.length)
    (bd : ∀ (cdv : Value) (A : Around) (outer : List Env) (s : Shared) (H : Hp) (vs : List V) (Q : VK) (E : XK), (A.deeper (envOfC x (defScope st) s.heap.objs.size f cdv)).guards = some [] → Room k (A.deeper (envOfC x (defScope st) s.heap.objs.size f cdv)) → sp vs H Q E →
      ∃ t, PSs (cxOf CX0 P w K mg base N x (defScope st) f cdv A outer s H E).nox (defBody st) t ∧ t { nx := fun _ H' => Q .non H', rt := Q } (start N vs) H) : FnG P w K mg base CX0 (k + 1) f fd ps sp := by
  obtain ⟨oc, od, kV, doc, pm, an, cdv, ct, osl, rfl, here, code⟩ := D.fn.ex
  refine fnG_of here code S many fun A outer s H vs Q E hg hr hsp => ?_
  obtain ⟨t, h1, h2⟩ := bd cdv A outer s H vs Q E hg hr hsp
  exact ⟨t, h1.nox, h2⟩
theorem Df.cal {x : Str} {st : Stmt} {f : Addr} {fd : FuncData} {N ps : List Str} {k : Nat} {sp : Sp} (D : Df K mg x st f fd) (S : FnScope N ps (defScope st)) (many : ∀ vs H Q E, sp vs H Q E → vs.length = ps.length)
    (bi : ∀ (kV doc pm : Value) (an : Option Addr) (cdv ct : Value) (us : List Value), us.length = ps.length → bindArgs (PySem.W.fnOf x x (defArgs st) (defBody st) (defScope st) .none kV doc pm an cdv ct) ⟨us, []⟩ = pure (ps.zip us))
    (bd : ∀ (cdv : Value) (A : Around) (outer : List Env) (s : Shared) (H : Hp) (vs : List V) (Q : VK) (E : XK), (A.deeper (envOfC x (defScope st) s.heap.objs.size f cdv)).guards = some [] → Room k (A.deeper (envOfC x (defScope st) s.heap.objs.size f cdv)) → sp vs H Q E →
      ∃ t, PSs (cxOf CX0 P w K mg base N x (defScope st) f cdv A outer s H E).nox (defBody st) t ∧ t { nx := fun _ H' => Q .non H', rt := Q } (start N vs) H) : Cal P w K mg base x ps (k + 1) sp :=
  ⟨f, fd, D.fnG S many bd, D.gl, D.fn.kp, D.fn.binds bi⟩
end
section
variable {X : Cx} {k : Nat} {ps ks : List Str} {sp : Sp} {x : Str} {p pos kpos : Pos} {e : Expr} {es : List Expr} {kws : List Keyword} {t tk : TA} {nm : Option Str}
theorem go_cal {f : Addr} {fd : FuncData} {pins : List (Addr × Obj)} {σ : L2.St} {H : Hp} {s : Shared} {Q : VK} {args : Args} {us : List Value} {vs : List V} (F : FnG X.prog X.w X.K X.mg X.base CX0 k f fd ps sp) (hg : X.A.guards = some []) (hr : Room k X.A)
    (I : Inv X pins σ H s) (hb : BindsTo s fd args (ps.zip us)) (r : Vals vs us) (h : sp vs H Q E0) : codeAny (model X.prog X.w) X.A (.call (.ref f) args) (callEnd (EP X pins σ Q) X.xe) s := by
  refine codeAny_mono (F.go X.A X.stack s H args us vs Q E0 hg hr I.env0 hb r h) fun res s' hq => ?_
  cases res with
  | error _ => exact False.elim hq
  | ok fl =>
    cases fl with
    | ret u => exact I.after hq
    | next => exact False.elim hq
    | brk => exact False.elim hq
    | cont => exact False.elim hq
theorem pe_cal (c : Cal X.prog X.w X.K X.mg X.base x ps k sp) (hgd : X.A.guards = some []) (hr : Room k X.A) (hg : Gl X x) (ha : PA X (e :: es) t) (hdb : (x == ("__debug__" : Str)) = false := by decide)
    (he : starEach (e :: es) X.env = (false, eval e X.env) :: starEach es X.env := by rfl) (hpl : (backTo pos (starEach es X.env)).any (·.1) = false := by rfl) : PE X (.Call (.Name x p) (e :: es) [] pos) (tCall sp [] E0 t) := by
  obtain ⟨f, fd, F, gl, kp, bi⟩ := c.ex
  refine ⟨fun pins s σ H Q I h => wpAny_Call_Name_kw (ld_glob I hg gl ?_ hdb)⟩
  refine PySem.W.callWith_K (h₀ := X.base) I.ok.mod.kin kp (thn (ha.run pos pins s σ H _ I h) fun us s1 ⟨vs, H1, I1, r, q⟩ => ⟨I1.kIn, ?_⟩) he hpl
  have q : sp (vs ++ []) H1 Q E0 := q
  rw [List.append_nil] at q
  have hb := bi s1 us I1.kIn (by rw [List.append_nil, ← r.length]; exact F.many _ _ _ _ q)
  rw [List.append_nil] at hb
  exact wpAny_call (go_cal F hgd hr I1 hb r q)
theorem pe_cal0 (c : Cal X.prog X.w X.K X.mg X.base x ps k sp) (hgd : X.A.guards = some []) (hr : Room k X.A) (hg : Gl X x) (hdb : (x == ("__debug__" : Str)) = false := by decide) : PE X (.Call (.Name x p) [] [] pos) (tCall sp [] E0 tNil) := by
  obtain ⟨f, fd, F, gl, kp, bi⟩ := c.ex
  refine ⟨fun pins s σ H Q I h => wpAny_Call_Name_kw (ld_glob I hg gl ?_ hdb)⟩
  have h' : sp [] H Q E0 := h
  have hb := bi s [] I.kIn (by rw [List.append_nil]; exact F.many _ _ _ _ h')
  exact PySem.W.callWith_K0 I.kIn kp (wpAny_call (go_cal F hgd hr I hb .nil h'))
/-- a def that may be called by keywords: n by places, then the names ks; g puts them in the parameters' order -/
structure CalK (P : Program) (w : World) (K : PySem.W.Frag) (mg : Str → Option Value) (base : Heap) (x : Str) (ps ks : List Str) (n : Nat) (g : ∀ α : Type, List α → List α → List α) (k : Nat) (sp : Sp) : Prop where
  ex : ∃ f fd, FnG P w K mg base CX0 k f fd ps sp ∧ mg x = some (.ref f) ∧ PySem.W.keepIn K (.ref f) = true ∧ (∀ (s : Shared) (us ws : List Value), us.length = n → ws.length = ks.length → BindsTo s fd ⟨us, ks.zip ws⟩ (ps.zip (g Value us ws)))
  rel : ∀ {vs : List V} {us : List Value} {zs : List V} {ws : List Value}, Vals vs us → Vals zs ws → Vals (g V vs zs) (g Value us ws)
def tCalK (n m : Nat) (g : ∀ α : Type, List α → List α → List α) (sp : Sp) (t tk : TA) : TE := fun σ H Q => t σ H fun vs H1 => tk σ H1 fun zs H2 => vs.length = n ∧ zs.length = m ∧ sp (g V vs zs) H2 Q E0
theorem pe_calK0 {n : Nat} {g : ∀ α : Type, List α → List α → List α} (c : CalK X.prog X.w X.K X.mg X.base x ps ks n g k sp) (hgd : X.A.guards = some []) (hr : Room k X.A) (hg : Gl X x) (hkw : PK X kws tk)
    (hal : (backToKw pos (keywordEach kws X.env)).all (·.1.isSome) = true := by rfl) (hks : (backToKw pos (keywordEach kws X.env)).filterMap (·.1) = ks := by rfl) (hdb : (x == ("__debug__" : Str)) = false := by decide)
    (hpl : ((backTo pos (starEach [] X.env)).any (·.1) || (backToKw pos (keywordEach kws X.env)).any (·.1.isNone)) = false := by rfl) : PE X (.Call (.Name x p) [] kws pos) (tCalK n ks.length g sp tNil tk) := by
  obtain ⟨f, fd, F, gl, kp, bi⟩ := c.ex
  refine ⟨fun pins s σ H Q I h => wpAny_Call_Name_kw (ld_glob I hg gl ?_ hdb)⟩
  refine PySem.W.callWith_KW0 (h₀ := X.base) I.ok.mod.kin kp hal (thn (hkw.run pos pins s σ H _ I h) fun ws s1 ⟨zs, H1, I1, rz, n0, m0, q⟩ => ⟨I1.kIn, ?_⟩) hpl
  rw [hks]
  exact wpAny_call (go_cal F hgd hr I1 (bi s1 [] ws n0 (by rw [← rz.length]; exact m0)) (c.rel .nil rz) q)
theorem pe_calK {n : Nat} {g : ∀ α : Type, List α → List α → List α} (c : CalK X.prog X.w X.K X.mg X.base x ps ks n g k sp) (hgd : X.A.guards = some []) (hr : Room k X.A) (hg : Gl X x) (ha : PA X (e :: es) t) (hkw : PK X kws tk)
    (hal : (backToKw pos (keywordEach kws X.env)).all (·.1.isSome) = true := by rfl) (hks : (backToKw pos (keywordEach kws X.env)).filterMap (·.1) = ks := by rfl) (hdb : (x == ("__debug__" : Str)) = false := by decide)
    (he : starEach (e :: es) X.env = (false, eval e X.env) :: starEach es X.env := by rfl)
    (hpl : ((backTo pos (starEach (e :: es) X.env)).any (·.1) || (backToKw pos (keywordEach kws X.env)).any (·.1.isNone)) = false := by rfl) : PE X (.Call (.Name x p) (e :: es) kws pos) (tCalK n ks.length g sp t tk) := by
  obtain ⟨f, fd, F, gl, kp, bi⟩ := c.ex
  refine ⟨fun pins s σ H Q I h => wpAny_Call_Name_kw (ld_glob I hg gl ?_ hdb)⟩
  refine PySem.W.callWith_KW (h₀ := X.base) I.ok.mod.kin kp hal (thn (ha.run pos pins s σ H _ I h) fun us s1 ⟨vs, H1, I1, r1, q1⟩ => ?_) hpl he
  refine thn (hkw.run pos pins s1 σ H1 _ I1 q1) fun ws s2 ⟨zs, H2, I2, rz, n0, m0, q⟩ => ⟨I2.kIn, ?_⟩
  rw [hks]
  exact wpAny_call (go_cal F hgd hr I2 (bi s2 us ws (by rw [← r1.length]; exact n0) (by rw [← rz.length]; exact m0)) (c.rel r1 rz) q)
end
end Vf
namespace Vf
open PySem L2 PyProof.Rows PySem.Spec
/-! ## operations by the kinds of what they get -/
section
variable {X : Cx}
def rAddA (K : PySem.W.Frag) : R2 := fun x y H Q => match x, y with
  | .int i, .int j => Q (.int (i + j)) H
  | .str a, .str b => a.length + b.length ≤ sizeLine ∧ Q (.str (a ++ b)) H
  | .ref l, .ref b => (∃ xs zs, H l = some (.lst xs) ∧ H b = some (.lst zs) ∧ xs.length + zs.length ≤ sizeLine ∧ ∀ p, H p = none → Q (.ref p) (upd H p (.lst (xs ++ zs)))) ∨ rCatA K x y H Q
  | _, _ => False
theorem opAdd : OpR X (binaryOp .Add) (rAddA X.K) := by
  intro pins s σ H x y v u Q I rx ry h
  match x, y, h with
  | .int i, .int j, h => exact op_add pins s σ H _ _ v u Q I rx ry ⟨i, j, rfl, rfl, h⟩
  | .str a, .str b, h => exact op_add_str pins s σ H _ _ v u Q I rx ry ⟨a, b, rfl, rfl, h⟩
  | .ref l, .ref b, .inl ⟨xs, zs, h⟩ => exact op_cat pins s σ H _ _ v u Q I rx ry ⟨l, b, xs, zs, rfl, rfl, h⟩
  | .ref l, .ref b, .inr h => exact op_catA pins s σ H _ _ v u Q I rx ry h
/-- s * n of a text -/
def repS (x : Str) (n : Nat) : Str := ⟨(List.replicate n x.cps).foldl (· ++ ·) #[]⟩
theorem fold_cat (c : Array Nat) : ∀ (n : Nat) (a : Array Nat), ((List.replicate n c).foldl (· ++ ·) a).toList = a.toList ++ (List.replicate n c.toList).flatten
  | 0, a => by simp
  | n + 1, a => by
    rw [List.replicate_succ, List.foldl_cons, fold_cat c n, List.replicate_succ, List.flatten_cons]
    simp
theorem repS_list (x : Str) (n : Nat) : (repS x n).cps.toList = (List.replicate n x.cps.toList).flatten := by
  unfold repS
  rw [fold_cat]
  rfl
theorem repS_len (x : Str) (n : Nat) : (repS x n).length = n * x.length := by
  have h : (repS x n).cps.toList.length = n * x.cps.toList.length := by
    rw [repS_list]
    simp
  show (repS x n).cps.size = n * x.cps.size
  simpa using h
def rMulA : R2 := fun x y H Q => match x, y with
  | .int i, .int j => CMul i j ∧ Q (.int (i * j)) H
  | .str a, .int n => 2 ≤ n ∧ n ≤ 1000 ∧ a.length ≠ 0 ∧ a.length ≤ 1000 ∧ Q (.str (repS a n.toNat)) H
  | .ref l, .int k => ∃ xs, H l = some (.lst xs) ∧ -(2 ^ 63) ≤ k ∧ k < 2 ^ 63 ∧ xs.length * k.toNat ≤ sizeLine ∧ ∀ p, H p = none → Q (.ref p) (upd H p (.lst (List.replicate k.toNat xs).flatten))
  | _, _ => False
theorem opMul : OpR X (binaryOp .Mult) rMulA := by
  intro pins s σ H x y v u Q I rx ry h
  match x, y, h with
  | .int i, .int j, h => exact op_mul pins s σ H _ _ v u Q I rx ry ⟨i, j, rfl, rfl, h⟩
  | .ref l, .int k, ⟨xs, h⟩ => exact op_rep pins s σ H _ _ v u Q I rx ry ⟨l, k, xs, rfl, rfl, h⟩
  | .str a, .int n, ⟨n2, n1, a0, a1, q⟩ =>
    obtain ⟨t, rfl⟩ := rx
    obtain ⟨t', rfl⟩ := ry
    have e1 : ¬ n < 1 := by omega
    have e2 : (n == 1 || a.length == 0) = false := by
      rw [Bool.or_eq_false_iff, beq_eq_false_iff_ne, beq_eq_false_iff_ne]
      exact ⟨by omega, a0⟩
    have hs : a.length * n.toNat ≤ 1000 * 1000 := Nat.mul_le_mul a1 (by omega)
    refine PySem.P.mul_str ?_ (fun _ _ => ?_) (fun _ _ => ?_) ?_
    · rw [decide_eq_false (by omega), decide_eq_false (by omega)]; rfl
    · have : (a.length : Int) ≤ (2 ^ 63 - 1) / n := by
        rw [Int.le_ediv_iff_mul_le (by omega)]
        have : ((a.length * n.toNat : Nat) : Int) ≤ 1000 * 1000 := by exact_mod_cast hs
        rw [Int.natCast_mul, Int.toNat_of_nonneg (by omega)] at this
        omega
      omega
    · have := sizeLine_eq
      unfold Builtin.Str.tooLong
      simp
      omega
    · rw [if_neg e1, e2]
      refine ⟨?_, ⟨.str (repS a n.toNat), H, I.tok _, ⟨_, rfl⟩, q⟩⟩
      have e3 := repS_len a n.toNat
      have e4 := sizeLine_eq
      have e5 : n.toNat * a.length ≤ 1000 * 1000 := by rw [Nat.mul_comm]; exact hs
      show (repS a n.toNat).length ≤ sizeLine
      omega
def rEqA (K : PySem.W.Frag) (neg : Bool) : R2 := fun x y H Q => match x, y with
  | .ref a, .ref b => ∃ d e, Dp K H (.ref a) d ∧ Dp K H (.ref b) e ∧ SeqAt.shaped d = true ∧ SeqAt.shaped e = true ∧ Q (.bl (neg ^^ PyData.eqv d e)) H
  | x, y => scal x y = true ∧ Q (.bl (neg ^^ decide (x = y))) H
theorem opEq (hu : X.A.units + 64 < cLine) : OpR X (compareOp .Eq) (rEqA X.K false) := by
  intro pins s σ H x y v u Q I rx ry h
  have sc : scal x y = true → Q (.bl (false ^^ decide (x = y))) H → wpAny (model X.prog X.w) X.A (compareOp .Eq v u) (EP X pins σ Q) X.xe s := fun h1 h2 =>
    op_eq pins s σ H x y v u Q I rx ry ⟨h1, by simpa using h2⟩
  cases x <;> cases y <;> first
    | exact sc h.1 h.2
    | (obtain ⟨d, e, hd, he, sd, se, q⟩ := h; exact op_eqD hu pins s σ H _ _ v u Q I rx ry ⟨d, e, hd, he, sd, se, by simpa using q⟩)
theorem opNe (hu : X.A.units + 64 < cLine) : OpR X (compareOp .NotEq) (rEqA X.K true) := by
  intro pins s σ H x y v u Q I rx ry h
  have sc : scal x y = true → Q (.bl (true ^^ decide (x = y))) H → wpAny (model X.prog X.w) X.A (compareOp .NotEq v u) (EP X pins σ Q) X.xe s := fun h1 h2 =>
    op_ne pins s σ H x y v u Q I rx ry ⟨h1, by simpa using h2⟩
  cases x <;> cases y <;> first
    | exact sc h.1 h.2
    | (obtain ⟨d, e, hd, he, sd, se, q⟩ := h; exact op_neD hu pins s σ H _ _ v u Q I rx ry ⟨d, e, hd, he, sd, se, by simpa using q⟩)
/-- one sign in a text; a flat thing in a list or tuple of flat things -/
def rInA (K : PySem.W.Frag) (neg : Bool) : R2 := fun x y H Q => match x, y with
  | .str c, .str z => ∃ a, c = ⟨#[a]⟩ ∧ Q (.bl (neg ^^ decide (a ∈ z.cps.toList))) H
  | x, .ref p => ∃ xs, (SqL K H p xs ∨ SqT K H p xs) ∧ flatV x = true ∧ xs.all flatV = true ∧ Q (.bl (neg ^^ inV x xs)) H
  | _, _ => False
theorem opIn : OpR X (compareOp .In) (rInA X.K false) := by
  intro pins s σ H x y v u Q I rx ry h
  have sc : ∀ p xs, y = .ref p → (SqL X.K H p xs ∨ SqT X.K H p xs) → flatV x = true → xs.all flatV = true → Q (.bl (false ^^ inV x xs)) H → wpAny (model X.prog X.w) X.A (compareOp .In v u) (EP X pins σ Q) X.xe s := fun p xs e h1 h2 h3 h4 =>
    op_in_seq pins s σ H x y v u Q I rx ry ⟨p, xs, e, h1, h2, h3, by simpa using h4⟩
  cases y with
  | ref p =>
    have h' : ∃ xs, (SqL X.K H p xs ∨ SqT X.K H p xs) ∧ flatV x = true ∧ xs.all flatV = true ∧ Q (.bl (false ^^ inV x xs)) H := by cases x <;> exact h
    obtain ⟨xs, h1, h2, h3, h4⟩ := h'
    exact sc p xs rfl h1 h2 h3 h4
  | str z =>
    cases x with
    | str c =>
      obtain ⟨a, rfl, q⟩ := h
      exact op_in_sign pins s σ H _ _ v u Q I rx ry ⟨a, z, rfl, rfl, by simpa using q⟩
    | _ => exact False.elim h
  | _ => exact False.elim (by cases x <;> exact h)
theorem opNotIn : OpR X (compareOp .NotIn) (rInA X.K true) := by
  intro pins s σ H x y v u Q I rx ry h
  have sc : ∀ p xs, y = .ref p → (SqL X.K H p xs ∨ SqT X.K H p xs) → flatV x = true → xs.all flatV = true → Q (.bl (true ^^ inV x xs)) H → wpAny (model X.prog X.w) X.A (compareOp .NotIn v u) (EP X pins σ Q) X.xe s := fun p xs e h1 h2 h3 h4 =>
    op_notIn_seq pins s σ H x y v u Q I rx ry ⟨p, xs, e, h1, h2, h3, by simpa using h4⟩
  cases y with
  | ref p =>
    have h' : ∃ xs, (SqL X.K H p xs ∨ SqT X.K H p xs) ∧ flatV x = true ∧ xs.all flatV = true ∧ Q (.bl (true ^^ inV x xs)) H := by cases x <;> exact h
    obtain ⟨xs, h1, h2, h3, h4⟩ := h'
    exact sc p xs rfl h1 h2 h3 h4
  | str z =>
    cases x with
    | str c =>
      obtain ⟨a, rfl, q⟩ := h
      exact op_notIn_sign pins s σ H _ _ v u Q I rx ry ⟨a, z, rfl, rfl, by simpa using q⟩
    | _ => exact False.elim h
  | _ => exact False.elim (by cases x <;> exact h)
/-- a cut of a text, a list, a tuple -/
def rSlAny (K : PySem.W.Frag) : V → Option Int → Option Int → Hp → VK → Prop := fun x lo hi H Q => match x with
  | .str z => z.length ≤ sizeLine ∧ Q (.str (cutS z lo hi)) H
  | .ref a => (∃ xs, SqL K H a xs ∧ ∀ p, H p = none → Q (.ref p) (upd H p (.lst (cutV xs lo hi)))) ∨ rSlA K (.ref a) lo hi H Q
  | _ => False
theorem slAny : SlR X (rSlAny X.K) := by
  intro pins s σ H x v vl vu lo hi sl Q I rx hs pl pu q
  match x, q with
  | .str z, q => exact sl_str pins s σ H _ v vl vu lo hi sl Q I rx hs pl pu ⟨z, rfl, q⟩
  | .ref a, .inl ⟨xs, q⟩ => exact sl_list pins s σ H _ v vl vu lo hi sl Q I rx hs pl pu ⟨a, xs, rfl, q⟩
  | .ref a, .inr q => exact sl_tupA pins s σ H _ v vl vu lo hi sl Q I rx hs pl pu q
/-- what a for walks: a list, a tuple, a text -/
def iAny (K : PySem.W.Frag) (te : TE) : TI := fun σ H R => te σ H fun v H1 => match v with
  | .str x => R (Its x) H1
  | .ref a => ((∃ xs, SqL K H1 a xs) ∧ R (Itl K a) H1) ∨ ((∃ xs, SqT K H1 a xs) ∧ R (Itt K a) H1)
  | _ => False
theorem piAny {tg e : Expr} {te : TE} (he : PE X e te) : PI X tg e (iAny X.K te) := by
  refine ⟨fun pins s σ H R I h => thn (he.run pins s σ H _ I h) fun v s1 ⟨x, H1, I1, rx, q⟩ => ?_⟩
  match x, q with
  | .str y, q =>
    obtain ⟨t, rfl⟩ := rx
    cases ha : y.cps.all (· < 128)
    · exact wpAny_pyIter_wide ha (pi_one (tk := s1.toks) I1 _ (turn_str _ y t _ (.inr rfl)) ⟨_, Heap.get?_push_size _ rfl, rfl, rfl⟩ q)
    · exact wpAny_pyIter_ascii ha (pi_one (tk := s1.toks) I1 _ (turn_str _ y t _ (.inl rfl)) ⟨_, Heap.get?_push_size _ rfl, rfl, rfl⟩ q)
  | .ref a, .inl ⟨⟨xs, hq⟩, q⟩ =>
    cases rx
    obtain ⟨its, rv, p, hz⟩ := I1.list hq
    exact wpAny_pyIter_list p.isList (pi_one (tk := s1.toks) I1 _ (turn_list a _) ⟨_, Heap.get?_push_size _ rfl, rfl, rfl⟩ q)
  | .ref a, .inr ⟨⟨xs, hq⟩, q⟩ =>
    cases rx
    obtain ⟨its, rv, p, hz⟩ := I1.tuple hq
    exact wpAny_pyIter_tuple (show s1.heap.IsTuple a its.toArray from p) (pi_one (tk := s1.toks) I1 _ (turn_tuple a _) ⟨_, Heap.get?_push_size _ rfl, rfl, rfl⟩ q)
/-! ### the same, the written part named -/
section
variable {K : PySem.W.Frag}
theorem aAdd (e : X.K = K) : OpR X (binaryOp .Add) (rAddA K) := e ▸ opAdd
theorem aEq (e : X.K = K) (hu : X.A.units + 64 < cLine) : OpR X (compareOp .Eq) (rEqA K false) := e ▸ opEq hu
theorem aNe (e : X.K = K) (hu : X.A.units + 64 < cLine) : OpR X (compareOp .NotEq) (rEqA K true) := e ▸ opNe hu
theorem aIn (e : X.K = K) : OpR X (compareOp .In) (rInA K false) := e ▸ opIn
theorem aNotIn (e : X.K = K) : OpR X (compareOp .NotIn) (rInA K true) := e ▸ opNotIn
theorem aIxL (e : X.K = K) : IxR X (rIxL K) := e ▸ ix_list
theorem aIxT (e : X.K = K) : IxR X (rIxT K) := e ▸ ix_tup
theorem aWalkL (e : X.K = K) {tg l : Expr} {te : TE} (he : PE X l te) : PI X tg l (iList K te) := e ▸ pi_list he
theorem aWalkT (e : X.K = K) {tg l : Expr} {te : TE} (he : PE X l te) : PI X tg l (iTup K te) := e ▸ pi_tup he
theorem aInSeq (e : X.K = K) : OpR X (compareOp .In) (rIn K false) := e ▸ op_in_seq
theorem aNotInSeq (e : X.K = K) : OpR X (compareOp .NotIn) (rIn K true) := e ▸ op_notIn_seq
theorem aEqD (e : X.K = K) (hu : X.A.units + 64 < cLine) : OpR X (compareOp .Eq) (rEqD K) := e ▸ op_eqD hu
theorem aNeD (e : X.K = K) (hu : X.A.units + 64 < cLine) : OpR X (compareOp .NotEq) (rNeD K) := e ▸ op_neD hu
theorem aCatT (e : X.K = K) : OpR X (binaryOp .Add) (rCatA K) := e ▸ op_catA
theorem aSlL (e : X.K = K) : SlR X (rSlL K) := e ▸ sl_list
theorem aSlT (e : X.K = K) : SlR X (rSlA K) := e ▸ sl_tupA
def rLenSeq (K : PySem.W.Frag) : List V → Hp → VK → Prop := fun xs H Q => ∃ p ys, xs = [.ref p] ∧ (SqL K H p ys ∨ SqT K H p ys) ∧ Q (.int ys.length) H
theorem aLenSeq (e : X.K = K) : CallR X (.builtin "len") (rLenSeq K) := e ▸ call_len_seq
def rLenS : List V → Hp → VK → Prop := fun xs H Q => ∃ z : Str, xs = [.str z] ∧ z.length ≤ sizeLine ∧ Q (.int z.length) H
theorem aLenS : CallR X (.builtin "len") rLenS := fun pins s σ H xs us Q I r ⟨z, e, h1, h2⟩ => call_len pins s σ H xs us Q I r ⟨.str z, z.length, e, ⟨h1, rfl⟩, h2⟩
def rMulS : R2 := fun x y H Q => ∃ (a : Str) (n : Int), x = .str a ∧ y = .int n ∧ 2 ≤ n ∧ n ≤ 1000 ∧ a.length ≠ 0 ∧ a.length ≤ 1000 ∧ Q (.str (repS a n.toNat)) H
theorem aMulS : OpR X (binaryOp .Mult) rMulS := fun pins s σ H x y v u Q I rx ry ⟨a, n, ex, ey, h⟩ => by
  subst ex ey
  exact opMul pins s σ H _ _ v u Q I rx ry h
theorem aRev (h : X.K = K) {e : Expr} {te : TE} {k : Nat} {p1 p2 p3 pos : Pos} (he : PE X e te) : PE X (.Subscript e (.Slice none none (some (.UnaryOp .USub (.Constant (.int 1) k p1) p2)) p3) pos) (tRevL K te) := h ▸ pe_revL he
theorem aSl (e : X.K = K) : SlR X (rSlAny K) := e ▸ slAny
theorem aIx (e : X.K = K) : IxR X (rIx K) := e ▸ ix_seq
theorem aWalk (e : X.K = K) {tg l : Expr} {te : TE} (he : PE X l te) : PI X tg l (iAny K te) := e ▸ piAny he
def rLen (K : PySem.W.Frag) : List V → Hp → VK → Prop := fun xs H Q => ∃ x n, xs = [x] ∧ LenV K x H n ∧ Q (.int n) H
theorem aLen (e : X.K = K) : CallR X (.builtin "len") (rLen K) := e ▸ call_len
theorem aIsi (e : X.K = K) : CallR X (.builtin "isinstance") (rIsi K) := e ▸ call_isi
theorem aAll (e : X.K = K) (hc : X.calm = true) : CallR X (.builtin "all") (rAll K) := e ▸ cr_all hc
theorem aAny (e : X.K = K) (hc : X.calm = true) : CallR X (.builtin "any") (rAny K) := e ▸ cr_any hc
theorem aSum (e : X.K = K) (hc : X.calm = true) : CallR X (.builtin "sum") (rSum K) := e ▸ cr_sum hc
def rList (K : PySem.W.Frag) : List V → Hp → VK → Prop := fun xs H Q => ∃ p ys, xs = [.ref p] ∧ (SqL K H p ys ∨ SqT K H p ys) ∧ ∀ l, H l = none → Q (.ref l) (upd H l (.lst ys))
theorem aList (e : X.K = K) : CallR X (.type "list") (rList K) := e ▸ call_list_of
def rTuple (K : PySem.W.Frag) : List V → Hp → VK → Prop := fun xs H Q => ∃ p ys, xs = [.ref p] ∧ ((SqL K H p ys ∧ ∀ l, H l = none → Q (.ref l) (upd H l (.tup ys))) ∨ (SqT K H p ys ∧ Q (.ref p) H))
theorem aTuple (e : X.K = K) : CallR X (.type "tuple") (rTuple K) := e ▸ call_tuple_of
end
end
end Vf
namespace Vf
open PySem L2 PyProof.Rows PySem.Spec
/-! ## the end: the law's def, called where no repr is under way -/
def spLaw (K : PySem.W.Frag) : Sp := fun vs H Q _ => ∃ (a : Addr) (ns : List Int), vs = [.ref a] ∧ SqL K H a (ns.map V.int) ∧ ns.length ≤ 63 ∧ ∀ H', Q (.bl true) H'
section
variable {P : Program} {w : World} {K : PySem.W.Frag} {mg mb : Str → Option Value} {k : Nat} {fa a : Addr} {fd : FuncData} {x : Str} {s₁ : Shared} {vs : List Value} {ns : List Int}
/-- over one abstract heap, in which the script alone may be tracked -/
theorem law_one {H : Hp} (KX : K.In s₁.heap) (glob : s₁.heap.Ns mainGlobals mg) (blt : s₁.heap.Ns builtinsNs mb) (boot : ∀ x : Str, x ≠ "__name__" → mb x = bootBuiltins x) (lim : s₁.heap.NoLimit) (gens : s₁.gens = #[])
    (here : s₁.heap.get? a = some { cls := .type "list", data := .seq vs.toArray }) (room : Room k callerA) (F : ∀ base : Heap, K.In base → base.Ns mainGlobals mg → FnG P w K mg base CX0 k fa fd [x] (spLaw K))
    (bind : ∀ (s : Shared) (u : Value), BindsTo s fd ⟨[u], []⟩ [(x, u)]) (sq : SqL K H a (ns.map V.int)) (short : ns.length ≤ 63) (hok : HOk P w H s₁.heap) (only : ∀ b u, H b = some u → b = a ∧ K.lookup a = none ∧ ∃ xs, u = .frz { cls := .type "list", data := .seq vs.toArray } (.lst xs)) :
    codeAny (model P w) callerA (.call (.ref fa) ⟨[.ref a], []⟩) (fun r s' => r = .ok (.ret (.bool true)) ∧ OldK s₁.heap s'.heap ∧ s'.os = s₁.os ∧ AllBare s'.gens) s₁ := by
  have clear : ∀ {b : Addr} {o : Obj} {es : Array DictEntry} {ep : Nat}, s₁.heap.get? b = some o → o.data = .dict es ep → H b = none := by
    intro b o es ep e d
    cases q : H b with
    | none => rfl
    | some u =>
      obtain ⟨rfl, -⟩ := only b u q
      rw [here] at e
      cases e
      cases d
  have space : ∀ {b : Addr} {m : Str → Option Value}, s₁.heap.Ns b m → (hidT s₁.heap H).Ns b m := by
    rintro b m ⟨o, es, ep, e, d, r⟩
    exact ⟨o, es, ep, hidT_get e (clear e d), d, r⟩
  have frag : K.In (hidT s₁.heap H) := by
    intro b o e
    refine hidT_get (KX b o e) ?_
    cases q : H b with
    | none => rfl
    | some u =>
      obtain ⟨rfl, no, -⟩ := only b u q
      rw [no] at e
      cases e
  obtain ⟨mc, l1, l2⟩ := lim
  have env : Env0 P w K mg (hidT s₁.heap H) callerA [] s₁ H :=
    { frames := rfl, mod := ⟨frag, space glob, ⟨mb, space blt, boot⟩, ⟨mc, space l1, l2⟩⟩, bs := fun b o e => of_hidT e, bsz := Nat.le_of_eq (hidT_size _ _), funs := trivial, frf := fun b z => (List.not_mem_nil z).elim, hok := hok, bare := .of_eq gens }
  refine codeAny_mono ((F _ frag (space glob)).go callerA [] s₁ H ⟨[.ref a], []⟩ [.ref a] [.ref a] (fun v _ => v = .bl true) E0 rfl room env (bind s₁ (.ref a)) (.cons rfl .nil) ⟨a, ns, rfl, sq, short, fun _ => rfl⟩) fun r s' h => ?_
  rcases r with _ | fl
  · exact h.elim
  · cases fl with
    | next => exact h.elim
    | brk => exact h.elim
    | cont => exact h.elim
    | ret u =>
      obtain ⟨v, H', os, bare, un, hok', rv, ev⟩ := h
      cases ev
      cases rv
      refine ⟨rfl, .of_keep fun b o e => ?_, os, bare⟩
      cases q : H b with
      | none => exact un.keep b o e q (fun z => (List.not_mem_nil z).elim) (fun z => (List.not_mem_nil z).elim)
      | some u =>
        obtain ⟨rfl, -, xs, rfl⟩ := only b u q
        rw [here] at e
        cases e
        exact (hok' b _ (un.frzs b _ _ q)).1
theorem law_callG (KX : K.In s₁.heap) (glob : s₁.heap.Ns mainGlobals mg) (blt : s₁.heap.Ns builtinsNs mb) (boot : ∀ x : Str, x ≠ "__name__" → mb x = bootBuiltins x) (lim : s₁.heap.NoLimit) (gens : s₁.gens = #[])
    (here : s₁.heap.get? a = some { cls := .type "list", data := .seq vs.toArray }) (whole : IntsAre vs ns) (short : ns.length ≤ 63) (room : Room k callerA) (F : ∀ base : Heap, K.In base → base.Ns mainGlobals mg → FnG P w K mg base CX0 k fa fd [x] (spLaw K))
    (bind : ∀ (s : Shared) (u : Value), BindsTo s fd ⟨[u], []⟩ [(x, u)]) :
    codeAny (model P w) callerA (.call (.ref fa) ⟨[.ref a], []⟩) (fun r s' => r = .ok (.ret (.bool true)) ∧ OldK s₁.heap s'.heap ∧ s'.os = s₁.os ∧ AllBare s'.gens) s₁ := by
  have small : ns.length ≤ sizeLine := by
    rw [sizeLine_eq]
    omega
  have same := whole.length
  cases q : K.lookup a with
  | some o =>
    have e := KX a o q
    rw [here] at e
    cases e
    exact law_one (H := fun _ => none) KX glob blt boot lim gens here room F bind (.inr ⟨_, vs.toArray, _, q, rfl, rfl, rfl, by rw [List.size_toArray, same]; exact small, by simpa using vals_ints whole⟩) short (fun b u z => nomatch z) (fun b u z => nomatch z)
  | none =>
    let H : Hp := upd (fun _ => none) a (.frz { cls := .type "list", data := .seq vs.toArray } (.lst (ns.map V.int)))
    have only : ∀ b u, H b = some u → b = a ∧ u = .frz { cls := .type "list", data := .seq vs.toArray } (.lst (ns.map V.int)) := by
      intro b u z
      by_cases e : b = a
      · subst e
        exact ⟨rfl, (Option.some.inj (upd_same.symm.trans z)).symm⟩
      · have z' := (upd_ne (H := fun _ => none) (o := .frz { cls := .type "list", data := .seq vs.toArray } (.lst (ns.map V.int))) e).symm.trans z
        cases z'
    refine law_one (H := H) KX glob blt boot lim gens here room F bind (.inl (.inr ⟨_, upd_same⟩)) short (fun b u z => ?_) (fun b u z => ?_)
    · obtain ⟨rfl, rfl⟩ := only b u z
      exact ⟨here, by rw [List.length_map]; exact small, vs, _, vals_ints whole, here⟩
    · obtain ⟨rfl, rfl⟩ := only b u z
      exact ⟨rfl, q, _, rfl⟩
end
theorem walk_ofG {l : PySem.W.OpenLaw} {k : Nat} {q : Program} {loose : List Str} {XP : (Str → Option Value) → Heap → Prop} {YP : World → Heap → Prop} {d : DefRec} {K : Params → PySem.W.Frag} {x : Str}
    (most : l.most = some 63) (plain : d.params.defaults = []) (room : Room k callerA) (hY : ∀ (w : World) (h : Heap), YP w h → (K w.params).In h)
    (F : ∀ (w : World) (mg : Str → Option Value) (fa : Addr) (h : Heap), (K w.params).In h → h.Ns mainGlobals mg → mg d.name = some (.ref fa) →
      ∃ fd : FuncData, (∀ (s : Shared) (u : Value), BindsTo s fd ⟨[u], []⟩ [(x, u)]) ∧ ∀ base : Heap, (K w.params).In base → base.Ns mainGlobals mg → FnG l.prog w (K w.params) mg base CX0 k fa fd [x] (spLaw (K w.params))) :
    PySem.W.WalkO q loose XP YP l.row.toRowW d [] (fun f vs => PySem.call f vs) := by
  refine Att.attach_call most plain fun w s₀ s₁ mg mb fa o pm cd doc a vs ns G Y ho hd hcd hmg here whole short gens => ?_
  obtain ⟨fd, bind, hF⟩ := F w mg fa _ (hY w _ Y) G.T.g hmg
  exact law_callG (hY w _ Y) G.T.g G.T.b G.T.builtins G.T.nolimit gens here whole short room hF bind
end Vf
namespace Vf
open PySem L2 PyProof.Rows PySem.Spec
/-! ## walks over known items -/
structure Steps (J : It) (xs : List V) (G : Hp → Prop) : Prop where
  stop : ∀ H, G H → J.stop xs.length H
  go : ∀ i H, i < xs.length → G H → J.go i H
  yld : ∀ i H x H', i < xs.length → G H → J.yld i H x H' → xs[i]? = some x ∧ H' = H
theorem steps_list (K : PySem.W.Frag) (a : Addr) (xs : List V) : Steps (Itl K a) xs (fun H => SqL K H a xs) where
  stop := fun H g => ⟨xs, g, Nat.le_refl _⟩
  go := fun i H h g => ⟨xs, xs[i], g, by simp [h]⟩
  yld := fun i H x H' h g y => by
    obtain ⟨e, f⟩ := y
    exact ⟨f xs g, e⟩
theorem steps_tup (K : PySem.W.Frag) (a : Addr) (xs : List V) : Steps (Itt K a) xs (fun H => SqT K H a xs) where
  stop := fun H g => ⟨xs, g, Nat.le_refl _⟩
  go := fun i H h g => ⟨xs, xs[i], g, by simp [h]⟩
  yld := fun i H x H' h g y => by
    obtain ⟨e, f⟩ := y
    exact ⟨f xs g, e⟩
def signs (z : Str) : List V := z.cps.toList.map fun c => .str ⟨#[c]⟩
theorem signs_len (z : Str) : (signs z).length = z.cps.size := by simp [signs]
theorem steps_str (z : Str) : Steps (Its z) (signs z) (fun _ => True) where
  stop := fun H g => by
    show z.cps.size ≤ _
    rw [signs_len]
    exact Nat.le_refl _
  go := fun i H h g => by
    rw [signs_len] at h
    exact h
  yld := fun i H x H' h g y => by
    obtain ⟨e, c, hc, rfl⟩ := y
    refine ⟨?_, e⟩
    unfold signs
    rw [List.getElem?_map, Array.getElem?_toList, hc]
    rfl
def wholes (lo : Int) (n : Nat) : List V := (List.range n).map fun i => .int (lo + (i : Nat))
theorem wholes_len (lo : Int) (n : Nat) : (wholes lo n).length = n := by simp [wholes]
theorem steps_range (lo : Int) (n : Nat) : Steps (Itr lo n) (wholes lo n) (fun _ => True) where
  stop := fun H g => by
    show n ≤ _
    rw [wholes_len]
    exact Nat.le_refl _
  go := fun i H h g => by
    rw [wholes_len] at h
    exact h
  yld := fun i H x H' h g y => by
    rw [wholes_len] at h
    obtain ⟨e, rfl⟩ := y
    refine ⟨?_, e⟩
    unfold wholes
    rw [List.getElem?_map, List.getElem?_range h]
    rfl
section
variable {J : It} {xs : List V} {G : Hp → Prop} {D : Ends} {σ : L2.St} {H : Hp} {tb : TS} {g : TG}
/-- a for over known items -/
theorem for_steps (S : Steps J xs G) (Pv : Nat → L2.St → Hp → Prop) (h0 : Pv 0 σ H) (hl : ∀ i σ H, i ≤ xs.length → Pv i σ H → G H)
    (hs : ∀ i x σ H, xs[i]? = some x → Pv i σ H → g x σ H fun σ2 H2 => tb { D with nx := Pv (i + 1), ct := Pv (i + 1), bk := D.nx } σ2 H2) (hd : ∀ σ H, Pv xs.length σ H → D.nx σ H) :
    ∃ W : Nat → Nat → L2.St → Hp → Prop, (∃ m, W 0 m σ H) ∧ ∀ i m σ H, W i m σ H → (J.stop i H ∧ D.nx σ H) ∨
      (J.go i H ∧ ∃ N : L2.St → Hp → Prop, (∀ σ' H', N σ' H' → ∃ m', m' < m ∧ W (i + 1) m' σ' H') ∧ ∀ x H', J.yld i H x H' → g x σ H' fun σ2 H2 => tb { D with nx := N, ct := N, bk := D.nx } σ2 H2) := by
  refine ⟨fun i m σ H => i + m = xs.length ∧ Pv i σ H, ⟨xs.length, Nat.zero_add _, h0⟩, ?_⟩
  rintro i m σ H ⟨em, p⟩
  have gH := hl i σ H (by omega) p
  cases m with
  | zero =>
    have e : i = xs.length := by omega
    subst e
    exact .inl ⟨S.stop H gH, hd σ H p⟩
  | succ m =>
    have hi : i < xs.length := by omega
    refine .inr ⟨S.go i H hi gH, Pv (i + 1), fun σ' H' p' => ⟨m, Nat.lt_succ_self _, by omega, p'⟩, fun x H' y => ?_⟩
    obtain ⟨ex, rfl⟩ := S.yld i H x H' hi gH y
    exact hs i x σ _ ex p
variable {j : Nat} {tt : TT} {te : TE} {vs : List Nat} {L : Addr} {Qd : Hp → Prop}
/-- a comprehension over known items -/
theorem lc_steps (S : Steps J xs G) (Pv : Nat → Hp → Prop) (h0 : Pv 0 (upd H L (.lst []))) (hl : ∀ i H, i ≤ xs.length → Pv i H → G H)
    (hs : ∀ i x H, xs[i]? = some x → Pv i H → g x (wipe σ vs) H fun σ2 H2 => wipe σ2 vs = wipe σ vs ∧ tt σ2 H2 fun b H3 =>
      if b = true then te σ2 H3 fun y H4 => ∃ acc, H4 L = some (.lst acc) ∧ acc.length < sizeLine ∧ Pv (i + 1) (upd H4 L (.lst (acc ++ [y]))) else Pv (i + 1) H3) (hd : ∀ H, Pv xs.length H → Qd H) :
    ∃ W : Nat → Nat → Hp → Prop, (∃ m, W 0 m (upd H L (.lst []))) ∧ ∀ i m H, W i m H → (J.stop i H ∧ Qd H) ∨
      (J.go i H ∧ ∃ Nx : Hp → Prop, (∀ H', Nx H' → ∃ m', m' < m ∧ W (i + 1) m' H') ∧ ∀ x H', J.yld i H x H' → g x (wipe σ vs) H' fun σ2 H2 => wipe σ2 vs = wipe σ vs ∧ tt σ2 H2 fun b H3 =>
        if b = true then te σ2 H3 fun y H4 => ∃ acc, H4 L = some (.lst acc) ∧ acc.length < sizeLine ∧ Nx (upd H4 L (.lst (acc ++ [y]))) else Nx H3) := by
  refine ⟨fun i m H => i + m = xs.length ∧ Pv i H, ⟨xs.length, Nat.zero_add _, h0⟩, ?_⟩
  rintro i m H ⟨em, p⟩
  have gH := hl i H (by omega) p
  cases m with
  | zero =>
    have e : i = xs.length := by omega
    subst e
    exact .inl ⟨S.stop H gH, hd H p⟩
  | succ m =>
    have hi : i < xs.length := by omega
    refine .inr ⟨S.go i H hi gH, Pv (i + 1), fun H' p' => ⟨m, Nat.lt_succ_self _, by omega, p'⟩, fun x H' y => ?_⟩
    obtain ⟨ex, rfl⟩ := S.yld i H x H' hi gH y
    exact hs i x _ ex p
/-- .. whose test and element change nothing -/
theorem lc_pure (S : Steps J xs G) (p : V → Bool) (f : V → V) (hG : ∀ acc, G (upd H L (.lst acc))) (hz : xs.length ≤ sizeLine) (hw : ∀ x, wipe ((wipe σ vs).set j (some x)) vs = wipe σ vs)
    (ht : ∀ x ∈ xs, ∀ (acc : List V) (R : Bool → Hp → Prop), R (p x) (upd H L (.lst acc)) → tt ((wipe σ vs).set j (some x)) (upd H L (.lst acc)) R)
    (he : ∀ x ∈ xs, p x = true → ∀ (acc : List V) (R : VK), R (f x) (upd H L (.lst acc)) → te ((wipe σ vs).set j (some x)) (upd H L (.lst acc)) R) (hd : Qd (upd H L (.lst ((xs.filter p).map f)))) :
    ∃ W : Nat → Nat → Hp → Prop, (∃ m, W 0 m (upd H L (.lst []))) ∧ ∀ i m H, W i m H → (J.stop i H ∧ Qd H) ∨
      (J.go i H ∧ ∃ Nx : Hp → Prop, (∀ H', Nx H' → ∃ m', m' < m ∧ W (i + 1) m' H') ∧ ∀ x H', J.yld i H x H' → gName j x (wipe σ vs) H' fun σ2 H2 => wipe σ2 vs = wipe σ vs ∧ tt σ2 H2 fun b H3 =>
        if b = true then te σ2 H3 fun y H4 => ∃ acc, H4 L = some (.lst acc) ∧ acc.length < sizeLine ∧ Nx (upd H4 L (.lst (acc ++ [y]))) else Nx H3) := by
  refine lc_steps S (fun i H' => H' = upd H L (.lst (((xs.take i).filter p).map f))) rfl (fun i H' _ e => e ▸ hG _) (fun i x H' hx e => ?_) (fun H' e => ?_)
  · subst e
    have hi : i < xs.length := (List.getElem?_eq_some_iff.mp hx).1
    have hm := List.mem_of_getElem? hx
    refine ⟨hw x, ht x hm _ _ ?_⟩
    have et : xs.take (i + 1) = xs.take i ++ [x] := by rw [List.take_add_one, hx]; rfl
    have hlen : (((xs.take i).filter p).map f).length < sizeLine := by
      rw [List.length_map]
      have h1 := List.length_filter_le p (xs.take i)
      rw [List.length_take] at h1
      omega
    cases hp : p x with
    | true =>
      rw [if_pos rfl]
      refine he x hm hp _ _ ⟨_, upd_same, hlen, ?_⟩
      rw [upd_upd, et, List.filter_append, List.map_append]
      simp [hp]
    | false =>
      rw [if_neg (by decide), et, List.filter_append, List.map_append]
      simp [hp]
  · subst e
    rw [List.take_length]
    exact hd
end
theorem same_upd {H : Hp} {p : Addr} {o : HO} (h : H p = none) : Same H (upd H p o) := fun b u e => by
  rw [upd_ne (ne_of_none e h)]
  exact e
theorem seqL_upd {K : PySem.W.Frag} {H : Hp} {p a : Addr} {o : HO} {xs : List V} (h : H p = none) (s : SqL K H a xs) : SqL K (upd H p o) a xs := (same_upd h).seq s
end Vf
namespace Vf
open PySem L2 PyProof.Rows PySem.Spec
/-! ## a text beside a dict; a thing of any kind in a row of texts -/
theorem str_dict_no (b : Str) (u : Tok) (l : Addr) (es : Array DictEntry) (n : Nat) (dd : Option Addr) (sl : Array (Option Value)) :
    Meets (Builtin.«str.__eq__» ⟨[.str b u, .ref l], []⟩) (fun _ R s => s.heap.get? l = some { cls := .type "dict", dict := dd, data := .dict es n, slots := sl } ∧ R (.ok (.ret .notImplemented)) s) :=
  .of_wp fun prog w A R s h => by
    obtain ⟨hp, g, d, tk, os⟩ := s
    obtain ⟨hl, h⟩ := h
    wp_walk using wpAny_load hl
    exact ⟨_, rfl, h⟩
theorem dict_str_no (b : Str) (u : Tok) (l : Addr) (es : Array DictEntry) (n : Nat) (dd : Option Addr) (sl : Array (Option Value)) :
    Meets (Builtin.«dict.__eq__» ⟨[.ref l, .str b u], []⟩) (fun _ R s => s.heap.get? l = some { cls := .type "dict", dict := dd, data := .dict es n, slots := sl } ∧ R (.ok (.ret .notImplemented)) s) :=
  .of_wp fun prog w A R s h => by
    obtain ⟨hp, g, d, tk, os⟩ := s
    obtain ⟨hl, h⟩ := h
    have f1 := F.sub_str_dict
    wp_walk using wpAny_load hl
    exact ⟨_, rfl, h⟩
theorem rc_str_dict {A : Around} {s : Shared} {l : Addr} {o : Obj} {es : Array DictEntry} {n : Nat} (b : Str) (u : Tok) (ho : s.heap.get? l = some o) (hc : o.cls = .type "dict") (hd : o.data = .dict es n) (hu : A.units < cLine) : SeqAt.RcAt A s (.str b u) (.ref l) false := fun prog w E Q h => by
  obtain ⟨cls, dd, data, sl⟩ := o
  simp only at hc hd
  subst hc hd
  exact SeqAt.rc_eq_decline_or (k := false) (typeIs_str s b u) ⟨_, ho, rfl⟩ (by decide) F.sub_dict_str F.slot_str_eq F.slot_dict_eq
    (fun _ z => call_meets F.slot_str_eq (typeIs_str s b u) F.entry_str_eq (F.args_str_eq_2 _ _) (str_dict_no b u l es n dd sl) ⟨ho, z⟩)
    (fun _ z => call_meets F.slot_dict_eq ⟨_, ho, rfl⟩ F.entry_dict_eq (F.args_dict_eq_2 _ _) (dict_str_no b u l es n dd sl) ⟨ho, z⟩)
    (fun _ z => wpAny_of_eq (rfl : isSame (.str b u) (.ref l) = pure false) z) (.inr hu) h
theorem eq_str_dict {A : Around} {s : Shared} {l : Addr} {o : Obj} {es : Array DictEntry} {n : Nat} (b : Str) (u : Tok) (ho : s.heap.get? l = some o) (hc : o.cls = .type "dict") (hd : o.data = .dict es n) (hu : A.units < cLine) : SeqAt.EqAt A s (.str b u) (.ref l) false := fun prog w E Q h => by
  unfold eqBool
  exact wpAny_holding (wpAny_ite_split (fun z => absurd (eq_of_beq z) nofun) fun _ => wpAny_bind (rc_str_dict b u ho hc hd hu prog w E _ (wpAny_truthy_bool h)))
/-- is it one of these texts -/
def among (l : List Str) (x : V) : Bool := match x with
  | .str s => decide (s ∈ l)
  | _ => false
/-- what it is: any data but a float, bytes, a class -/
def Thing (H : Hp) (x : V) : Prop := match x with
  | .non | .bl _ | .int _ | .str _ => True
  | .ref a => (∃ xs, H a = some (.lst xs)) ∨ (∃ xs, H a = some (.tup xs)) ∨ ∃ kvs, H a = some (.dK kvs)
  | _ => False
theorem Dv.thing {H : Hp} {x : V} {d : PyData} (h : Dv H x d) : Thing H x := by
  cases h with
  | lst e _ => exact .inl ⟨_, e⟩
  | tup e _ => exact .inr (.inl ⟨_, e⟩)
  | dic e _ => exact .inr (.inr ⟨_, e⟩)
  | _ => trivial
section
variable {X : Cx} {s : Shared} {H : Hp} {σ : L2.St} {pins : List (Addr × Obj)}
/-- is it this text -/
def isT (x : V) (b : Str) : Bool := match x with
  | .str y => b == y
  | _ => false
def isTv (x : V) (z : Value) : Bool := match z with
  | .str b _ => isT x b
  | _ => false
theorem eq_text (I : Inv X pins σ H s) {A : Around} (hu : A.units < cLine) {x : V} {v : Value} (rx : RelV x v) (t : Thing H x) (b : Str) (k : Tok) : SeqAt.EqAt A s (.str b k) v (isT x b) := by
  cases x with
  | non => cases rx; exact SeqAt.EqAt.str_none b k
  | bl c => cases rx; exact SeqAt.EqAt.str_bool b k c
  | int i =>
    obtain ⟨u, rfl⟩ := rx
    exact SeqAt.EqAt.str_int b k i u
  | str y =>
    obtain ⟨u, rfl⟩ := rx
    exact SeqAt.EqAt.str_str b k y u
  | ref a =>
    cases rx
    rcases t with ⟨xs, e⟩ | ⟨xs, e⟩ | ⟨kvs, e⟩
    · obtain ⟨its, r, p, z⟩ := I.list (SqL.of (K := X.K) e)
      exact SeqAt.EqAt.str_list b k p.isList hu
    · obtain ⟨its, r, p, z⟩ := I.tuple (SqT.of (K := X.K) e)
      exact SeqAt.EqAt.str_tuple b k p hu
    · obtain ⟨_, _, vs, kv, o, es, ep, ho, ⟨hc, _⟩, hd, _⟩ : ObjOk X.prog X.w H s.heap a (.dK kvs) := I.hok a _ e
      exact eq_str_dict b k ho hc hd hu
  | byt _ => exact t.elim
  | flt _ => exact t.elim
  | ty _ => exact t.elim
theorem str_of_vals : ∀ {l : List Str} {us : List Value} {z : Value}, Vals (l.map V.str) us → z ∈ us → ∃ b k, z = Value.str b k
  | [], _, _, .nil, h => absurd h List.not_mem_nil
  | b :: l, _, z, .cons r rs, h => by
    rcases List.mem_cons.mp h with e | h
    · obtain ⟨t, rfl⟩ := r
      exact ⟨b, t, e⟩
    · exact str_of_vals rs h
def rInT (K : PySem.W.Frag) (neg : Bool) : R2 := fun x y H Q => ∃ (p : Addr) (l : List Str), y = .ref p ∧ SqT K H p (l.map V.str) ∧ Thing H x ∧ Q (.bl (neg ^^ among l x)) H
theorem any_texts (x : V) (f : Value → Bool) (hf : ∀ b t, f (.str b t) = isT x b) : ∀ (l : List Str) (us : List Value), Vals (l.map V.str) us → us.any f = among l x
  | [], _, .nil => by
    unfold among
    cases x <;> simp
  | b :: l, _, .cons r rs => by
    obtain ⟨t, rfl⟩ := r
    rw [List.any_cons, any_texts x f hf l _ rs, hf]
    unfold among isT
    cases x with
    | str y =>
      by_cases e : b = y
      · subst e; simp
      · have e' : ¬ y = b := fun z => e z.symm
        simp [e, e']
    | _ => simp
theorem opInT (hu : X.A.units + 1 < cLine) : OpR X (compareOp .In) (rInT X.K false) := by
  intro pins s σ H x y v u Q I rx ry h
  obtain ⟨p, l, rfl, hs, t, q⟩ := h
  cases ry
  obtain ⟨its, r, pl, hz⟩ := I.tuple hs
  refine SeqAt.in_tupleAt (isTv x) pl (fun z hz' => ?_) ⟨.bl _, H, I, rfl, ?_⟩
  · obtain ⟨b, k, rfl⟩ : ∃ b k, z = Value.str b k := str_of_vals r (by simpa using hz')
    exact eq_text I (A := X.A.in1) hu rx t b k
  · have e : its.toArray.any (isTv x) = among l x := by
      rw [List.any_toArray]
      exact any_texts x (isTv x) (fun _ _ => rfl) l its r
    rw [e]
    simpa using q
theorem opNotInT (hu : X.A.units + 1 < cLine) : OpR X (compareOp .NotIn) (rInT X.K true) := by
  intro pins s σ H x y v u Q I rx ry h
  obtain ⟨p, l, rfl, hs, t, q⟩ := h
  cases ry
  obtain ⟨its, r, pl, hz⟩ := I.tuple hs
  refine SeqAt.notIn_tupleAt (isTv x) pl (fun z hz' => ?_) ⟨.bl _, H, I, rfl, ?_⟩
  · obtain ⟨b, k, rfl⟩ : ∃ b k, z = Value.str b k := str_of_vals r (by simpa using hz')
    exact eq_text I (A := X.A.in1) hu rx t b k
  · have e : its.toArray.any (isTv x) = among l x := by
      rw [List.any_toArray]
      exact any_texts x (isTv x) (fun _ _ => rfl) l its r
    rw [e]
    simpa using q
/-- a tuple beside an empty tuple -/
def rEqE (K : PySem.W.Frag) : R2 := fun x y H Q => ∃ (a b : Addr) (xs : List V), x = .ref a ∧ y = .ref b ∧ SqT K H a xs ∧ SqT K H b [] ∧ Q (.bl xs.isEmpty) H
theorem opEqE (hu : X.A.units < cLine) : OpR X (compareOp .Eq) (rEqE X.K) := by
  intro pins s σ H x y v u Q I rx ry h
  obtain ⟨a, b, xs, rfl, rfl, h1, h2, q⟩ := h
  cases rx
  cases ry
  obtain ⟨its, r, p, -⟩ := I.tuple h1
  obtain ⟨its2, r2, p2, -⟩ := I.tuple h2
  cases r2
  refine SeqAt.eq_tupleAt (e := fun _ => true) p p2 hu (fun j _ h2 => absurd h2 (Nat.not_lt_zero _)) ⟨.bl _, H, I, rfl, ?_⟩
  have e : ((List.range (min its.toArray.size ([] : List Value).toArray.size)).all (fun _ => true) && its.toArray.size == ([] : List Value).toArray.size) = xs.isEmpty := by
    have e0 : ((List.range (min its.toArray.size ([] : List Value).toArray.size)).all (fun _ => true)) = true := List.all_eq_true.mpr fun _ _ => rfl
    rw [e0, Bool.true_and]
    cases r with
    | nil => rfl
    | cons _ _ => rfl
  rw [e]
  exact q
variable {K : PySem.W.Frag}
theorem aInT (e : X.K = K) (hu : X.A.units + 64 < cLine) : OpR X (compareOp .In) (rInT K false) := e ▸ opInT (by omega)
theorem aNotInT (e : X.K = K) (hu : X.A.units + 64 < cLine) : OpR X (compareOp .NotIn) (rInT K true) := e ▸ opNotInT (by omega)
theorem aEqE (e : X.K = K) (hu : X.A.units + 64 < cLine) : OpR X (compareOp .Eq) (rEqE K) := e ▸ opEqE (by omega)
end
end Vf
namespace Vf
open PySem L2 PyProof.Rows PySem.Spec
/-! ## a list grown by a tuple; a written dict of the module -/
theorem extend_tuple (l : Addr) (items : Array Value) (n : Nat) (b : Addr) (items2 : Array Value) (n2 : Nat) (dd : Option Addr) (sl : Array (Option Value)) (hs0 : ¬(!items.isEmpty && Builtin.List.listTooLong (items.size + items2.size)) = true) (hs1 : items.size ≤ sizeLine) (hs2 : items.size + items2.size ≤ sizeLine + 1) :
    Meets (Builtin.«list.extend» ⟨[.ref l, .ref b], []⟩) (fun _ R s => s.heap.get? l = some { cls := .type "list", dict := none, data := .seq items n, slots := #[] } ∧ s.heap.get? b = some { cls := .type "tuple", dict := dd, data := .seq items2 n2, slots := sl } ∧ R (.ok (.ret Value.none)) { s with heap := s.heap.update l (Obj.mapSeq fun x => x ++ items2), toks := s.toks }) :=
  .of_wp fun prog w A R s h => by
    obtain ⟨hp, g, d, tk, os⟩ := s
    obtain ⟨hl, hb, h⟩ := h
    have f2 := F.sub_tuple_tuple
    have f3 := F.sub_list_list
    have f4 := F.sub_tuple_list
    have f5 := F.sub_list_tuple
    have hz' : (items ++ items2).size ≤ sizeLine + 1 := by rw [Array.size_append]; exact hs2
    wp_walk using (wpAny_updateSeq hl rfl (hz := hs1) (_hz' := hz')), wpAny_loadPart' hl, wpAny_loadPart' hb
    exact ⟨_, rfl, h⟩
section
variable {X : Cx}
def rExtendT (K : PySem.W.Frag) : V → List V → Hp → VK → Prop := fun x vs H Q => ∃ l b xs zs, x = .ref l ∧ vs = [.ref b] ∧ H l = some (.lst xs) ∧ SqT K H b zs ∧ xs.length + zs.length ≤ sizeLine ∧ Q .non (upd H l (.lst (xs ++ zs)))
theorem mt_extendT : MtM X "list.extend" (rExtendT X.K) := by
  intro pins s σ H x vs v us Q I rx rv h
  obtain ⟨l, b, xs, zs, rfl, rfl, hH, hB, hz, q⟩ := h
  cases rx
  obtain ⟨u, rfl, ru⟩ := rv.one
  cases ru
  obtain ⟨z, its, n, r, hl, e⟩ := I.lstM hH
  obtain ⟨its2, r2, p2, hz2⟩ := I.tuple hB
  obtain ⟨⟨cls, dd, data, sl⟩, e2, hc, n2, hd⟩ := p2
  simp only at hc hd
  subst hc hd
  have hl2 := r2.length
  have hsz : its.toArray.size + its2.toArray.size ≤ sizeLine := by rw [List.size_toArray, List.size_toArray]; omega
  have hlong : ¬ (!its.toArray.isEmpty && Builtin.List.listTooLong (its.toArray.size + its2.toArray.size)) = true := by
    rw [notLongL hsz, Bool.and_false]
    exact Bool.false_ne_true
  refine call_meets F.slot_list_extend ⟨_, e, rfl⟩ F.entry_list_extend (F.args_list_extend_2 _ _)
    (extend_tuple l its.toArray n b its2.toArray n2 dd sl hlong (by rw [List.size_toArray]; omega) (by omega)) ⟨e, e2, ?_⟩
  refine ⟨.non, _, I.lset (its' := its ++ its2) hH e (by simp) (r.append r2) ?_, rfl, q⟩
  rw [List.length_append]
  omega
theorem aExtendT {K : PySem.W.Frag} (e : X.K = K) : MtM X "list.extend" (rExtendT K) := e ▸ mt_extendT
/-- a text among the keys of a written dict of the module; f: what is at each -/
structure Cnt (K : PySem.W.Frag) (w : World) (d : Addr) (f : Str → Option Int) : Prop where
  ex : ∃ es n, KDict K w d es n
  at_ : ∀ z : Str, ∃ r : Option Value, PySem.W.nsIn K d z = some r ∧ RelO ((f z).map V.int) r
variable {K : PySem.W.Frag} {w : World} {d : Addr} {f : Str → Option Int}
def rInK (d : Addr) (f : Str → Option Int) (neg : Bool) : R2 := fun x y H Q => ∃ z : Str, x = .str z ∧ y = .ref d ∧ Q (.bl (neg ^^ (f z).isSome)) H
theorem relO_some {g : Option V} {r : Option Value} (h : RelO g r) : r.isSome = g.isSome := by
  cases g <;> cases r <;> first | rfl | exact h.elim
theorem aInK (D : Cnt X.K X.w d f) : OpR X (compareOp .In) (rInK d f false) := by
  obtain ⟨es, n, k⟩ := D.ex
  intro pins s σ H x y v u Q I rx ry ⟨z, ex, ey, q⟩
  obtain ⟨r, e, ro⟩ := D.at_ z
  refine op_in_kd k pins s σ H x y v u Q I rx ry ⟨z, r, ex, ey, e, ?_⟩
  rw [relO_some ro]
  simpa using q
theorem aNotInK (D : Cnt X.K X.w d f) : OpR X (compareOp .NotIn) (rInK d f true) := by
  obtain ⟨es, n, k⟩ := D.ex
  intro pins s σ H x y v u Q I rx ry ⟨z, ex, ey, q⟩
  obtain ⟨r, e, ro⟩ := D.at_ z
  refine op_notIn_kd k pins s σ H x y v u Q I rx ry ⟨z, r, ex, ey, e, ?_⟩
  rw [relO_some ro]
  simpa using q
def rIxK (d : Addr) (f : Str → Option Int) : R2 := fun x y H Q => ∃ (z : Str) (i : Int), x = .ref d ∧ y = .str z ∧ f z = some i ∧ Q (.int i) H
theorem aIxK (D : Cnt X.K X.w d f) : IxR X (rIxK d f) := by
  obtain ⟨es, n, k⟩ := D.ex
  intro value slice pins s σ H x y v u Q I rx ry ⟨z, i, ex, ey, ef, q⟩ hs
  obtain ⟨r, e, ro⟩ := D.at_ z
  rw [ef] at ro
  cases r with
  | none => exact ro.elim
  | some r => exact ix_kdict value slice pins s σ H x y v u Q I rx ry ⟨d, z, .int i, ex, ey, ⟨es, n, r, k.at_, k.lit, e, ro⟩, q⟩ hs
/-- a cut of a tuple, told in one way -/
def rSlU (K : PySem.W.Frag) : V → Option Int → Option Int → Hp → VK → Prop := fun x lo hi H Q => ∃ a xs, x = .ref a ∧ SqT K H a xs ∧ ∀ (p : Addr) (H' : Hp), Same H H' → SqT K H' p (cutV xs lo hi) → Q (.ref p) H'
theorem slU : SlR X (rSlU X.K) := by
  intro pins s σ H x v vl vu lo hi sl Q I rx hs pl pu h
  obtain ⟨a, xs, rfl, hx, q⟩ := h
  refine sl_tupA pins s σ H _ v vl vu lo hi sl Q I rx hs pl pu ⟨a, xs, rfl, hx, fun e => q a H (Same.refl H) ?_, fun _ p hp => q p _ (same_upd hp) (.of upd_same)⟩
  unfold cutV
  rw [e.1, e.2, List.drop_zero, Nat.sub_zero, List.take_of_length_le (Nat.le_refl _)]
  exact hx
theorem aSlU {K : PySem.W.Frag} (e : X.K = K) : SlR X (rSlU K) := e ▸ slU
def rCatU (K : PySem.W.Frag) : R2 := fun x y H Q => ∃ a b xs ys, x = .ref a ∧ y = .ref b ∧ SqT K H a xs ∧ SqT K H b ys ∧ xs.length + ys.length ≤ sizeLine ∧ ∀ (p : Addr) (H' : Hp), Same H H' → SqT K H' p (xs ++ ys) → Q (.ref p) H'
theorem opCatU : OpR X (binaryOp .Add) (rCatU X.K) := by
  intro pins s σ H x y v u Q I rx ry h
  obtain ⟨a, b, xs, ys, rfl, rfl, h1, h2, l, q⟩ := h
  refine op_catA pins s σ H _ _ v u Q I rx ry ⟨a, b, xs, ys, rfl, rfl, h1, h2, l, fun e => q b H (Same.refl H) ?_, fun _ e => q a H (Same.refl H) ?_, fun _ _ p hp => q p _ (same_upd hp) (.of upd_same)⟩
  · subst e
    exact h2
  · subst e
    rw [List.append_nil]
    exact h1
theorem aCatU {K : PySem.W.Frag} (e : X.K = K) : OpR X (binaryOp .Add) (rCatU K) := e ▸ opCatU
end
end Vf
namespace Vf
open PySem L2 PyProof.Rows PySem.Spec
/-! ## repr of data with dicts anywhere; the law's end, where it is known that the table of modules stands at its place -/
def SysAt (base : Heap) : Prop := ∃ o, base.get? sysModules = some o
section
variable {X : Cx} {s : Shared} {H : Hp} {σ : L2.St} {pins : List (Addr × Obj)}
def rReprS : List V → Hp → VK → Prop := fun xs H Q => ∃ x d, xs = [x] ∧ Dv H x d ∧ d.showable = true ∧ d.depth ≤ 60 ∧ d.shown.length ≤ sizeLine ∧ Q (.str d.shown) H
theorem call_reprS (hb : SysAt X.base) (hg : X.A.guards = some []) (hu : X.A.units + 64 < cLine) : CallR X (.builtin "repr") rReprS := by
  intro pins s σ H xs us Q I rr h
  obtain ⟨x, d, rfl, hd, hs, hp, hz, q⟩ := h
  obtain ⟨u, rfl, rx⟩ := vals1 rr
  have fin : ∀ (h' : Heap) (t k : Tok), (∀ b o, s.heap.get? b = some o → h'.get? b = some o) → EP X pins σ Q (.str d.shown t) { s with heap := h', toks := k } := fun h' t k kp =>
    ⟨.str d.shown, H, I.kept kp, ⟨t, rfl⟩, q⟩
  obtain ⟨as, rd, hm⟩ : ∃ as, Reads s.heap u d as ∧ (d.hasDict = true → sysModules ∉ as) := by
    obtain ⟨as, rd, h⟩ := Dv.read I hd u rx
    refine ⟨as, rd, fun _ m => h _ m ?_⟩
    obtain ⟨o, e⟩ := hb
    exact (I.bs _ _ e).2
  cases rd with
  | none =>
    simp only [PyData.shown] at fin
    exact PySem.P.repr_of_none (fin _ _ _ fun _ _ e => e)
  | bool b =>
    simp only [PyData.shown] at fin
    exact PySem.P.repr_of_bool (fin _ _ _ fun _ _ e => e)
  | int i t =>
    simp only [PyData.shown] at fin
    exact PySem.P.repr_of_int (by simpa [PyData.showable] using hs) (fin _ _ _ fun _ _ e => e)
  | str y t =>
    simp only [PyData.shown] at fin hz
    exact PySem.P.repr_of_str (fin _ _ _ fun _ _ e => e) hz
  | list h1 h2 h3 h4 => exact repr_of_reads' (.list h1 h2 h3 h4) hs hm hg (by omega) (fun _ _ e => e) fin hz
  | tuple h1 h2 h3 h4 => exact repr_of_reads' (.tuple h1 h2 h3 h4) hs hm hg (by omega) (fun _ _ e => e) fin hz
  | dict h1 h2 h3 h4 h5 => exact repr_of_reads' (.dict h1 h2 h3 h4 h5) hs hm hg (by omega) (fun _ _ e => e) fin hz
end
section
variable {P : Program} {w : World} {K : PySem.W.Frag} {mg mb : Str → Option Value} {k : Nat} {fa a : Addr} {fd : FuncData} {x : Str} {s₁ : Shared} {vs : List Value} {ns : List Int}
/-- over one abstract heap, in which the script alone may be tracked -/
theorem law_oneS {H : Hp} (KX : K.In s₁.heap) (glob : s₁.heap.Ns mainGlobals mg) (blt : s₁.heap.Ns builtinsNs mb) (boot : ∀ x : Str, x ≠ "__name__" → mb x = bootBuiltins x) (lim : s₁.heap.NoLimit) (seer : s₁.heap.NoSeer) (gens : s₁.gens = #[])
    (here : s₁.heap.get? a = some { cls := .type "list", data := .seq vs.toArray }) (room : Room k callerA) (F : ∀ base : Heap, K.In base → base.Ns mainGlobals mg → SysAt base → FnG P w K mg base CX0 k fa fd [x] (spLaw K))
    (bind : ∀ (s : Shared) (u : Value), BindsTo s fd ⟨[u], []⟩ [(x, u)]) (sq : SqL K H a (ns.map V.int)) (short : ns.length ≤ 63) (hok : HOk P w H s₁.heap) (only : ∀ b u, H b = some u → b = a ∧ K.lookup a = none ∧ ∃ xs, u = .frz { cls := .type "list", data := .seq vs.toArray } (.lst xs)) :
    codeAny (model P w) callerA (.call (.ref fa) ⟨[.ref a], []⟩) (fun r s' => r = .ok (.ret (.bool true)) ∧ OldK s₁.heap s'.heap ∧ s'.os = s₁.os ∧ AllBare s'.gens) s₁ := by
  have clear : ∀ {b : Addr} {o : Obj} {es : Array DictEntry} {ep : Nat}, s₁.heap.get? b = some o → o.data = .dict es ep → H b = none := by
    intro b o es ep e d
    cases q : H b with
    | none => rfl
    | some u =>
      obtain ⟨rfl, -⟩ := only b u q
      rw [here] at e
      cases e
      cases d
  have space : ∀ {b : Addr} {m : Str → Option Value}, s₁.heap.Ns b m → (hidT s₁.heap H).Ns b m := by
    rintro b m ⟨o, es, ep, e, d, r⟩
    exact ⟨o, es, ep, hidT_get e (clear e d), d, r⟩
  have frag : K.In (hidT s₁.heap H) := by
    intro b o e
    refine hidT_get (KX b o e) ?_
    cases q : H b with
    | none => rfl
    | some u =>
      obtain ⟨rfl, no, -⟩ := only b u q
      rw [no] at e
      cases e
  obtain ⟨mc, l1, l2⟩ := lim
  have env : Env0 P w K mg (hidT s₁.heap H) callerA [] s₁ H :=
    { frames := rfl, mod := ⟨frag, space glob, ⟨mb, space blt, boot⟩, ⟨mc, space l1, l2⟩⟩, bs := fun b o e => of_hidT e, bsz := Nat.le_of_eq (hidT_size _ _), funs := trivial, frf := fun b z => (List.not_mem_nil z).elim, hok := hok, bare := .of_eq gens }
  refine codeAny_mono ((F _ frag (space glob) (by
    obtain ⟨ms, ⟨o, es, ep, e, d, r⟩, -⟩ := seer.mods
    exact ⟨o, hidT_get e (clear e d)⟩)).go callerA [] s₁ H ⟨[.ref a], []⟩ [.ref a] [.ref a] (fun v _ => v = .bl true) E0 rfl room env (bind s₁ (.ref a)) (.cons rfl .nil) ⟨a, ns, rfl, sq, short, fun _ => rfl⟩) fun r s' h => ?_
  rcases r with _ | fl
  · exact h.elim
  · cases fl with
    | next => exact h.elim
    | brk => exact h.elim
    | cont => exact h.elim
    | ret u =>
      obtain ⟨v, H', os, bare, un, hok', rv, ev⟩ := h
      cases ev
      cases rv
      refine ⟨rfl, .of_keep fun b o e => ?_, os, bare⟩
      cases q : H b with
      | none => exact un.keep b o e q (fun z => (List.not_mem_nil z).elim) (fun z => (List.not_mem_nil z).elim)
      | some u =>
        obtain ⟨rfl, -, xs, rfl⟩ := only b u q
        rw [here] at e
        cases e
        exact (hok' b _ (un.frzs b _ _ q)).1
theorem law_callS (KX : K.In s₁.heap) (glob : s₁.heap.Ns mainGlobals mg) (blt : s₁.heap.Ns builtinsNs mb) (boot : ∀ x : Str, x ≠ "__name__" → mb x = bootBuiltins x) (lim : s₁.heap.NoLimit) (seer : s₁.heap.NoSeer) (gens : s₁.gens = #[])
    (here : s₁.heap.get? a = some { cls := .type "list", data := .seq vs.toArray }) (whole : IntsAre vs ns) (short : ns.length ≤ 63) (room : Room k callerA) (F : ∀ base : Heap, K.In base → base.Ns mainGlobals mg → SysAt base → FnG P w K mg base CX0 k fa fd [x] (spLaw K))
    (bind : ∀ (s : Shared) (u : Value), BindsTo s fd ⟨[u], []⟩ [(x, u)]) :
    codeAny (model P w) callerA (.call (.ref fa) ⟨[.ref a], []⟩) (fun r s' => r = .ok (.ret (.bool true)) ∧ OldK s₁.heap s'.heap ∧ s'.os = s₁.os ∧ AllBare s'.gens) s₁ := by
  have small : ns.length ≤ sizeLine := by
    rw [sizeLine_eq]
    omega
  have same := whole.length
  cases q : K.lookup a with
  | some o =>
    have e := KX a o q
    rw [here] at e
    cases e
    exact law_oneS (H := fun _ => none) KX glob blt boot lim seer gens here room F bind (.inr ⟨_, vs.toArray, _, q, rfl, rfl, rfl, by rw [List.size_toArray, same]; exact small, by simpa using vals_ints whole⟩) short (fun b u z => nomatch z) (fun b u z => nomatch z)
  | none =>
    let H : Hp := upd (fun _ => none) a (.frz { cls := .type "list", data := .seq vs.toArray } (.lst (ns.map V.int)))
    have only : ∀ b u, H b = some u → b = a ∧ u = .frz { cls := .type "list", data := .seq vs.toArray } (.lst (ns.map V.int)) := by
      intro b u z
      by_cases e : b = a
      · subst e
        exact ⟨rfl, (Option.some.inj (upd_same.symm.trans z)).symm⟩
      · have z' := (upd_ne (H := fun _ => none) (o := .frz { cls := .type "list", data := .seq vs.toArray } (.lst (ns.map V.int))) e).symm.trans z
        cases z'
    refine law_oneS (H := H) KX glob blt boot lim seer gens here room F bind (.inl (.inr ⟨_, upd_same⟩)) short (fun b u z => ?_) (fun b u z => ?_)
    · obtain ⟨rfl, rfl⟩ := only b u z
      exact ⟨here, by rw [List.length_map]; exact small, vs, _, vals_ints whole, here⟩
    · obtain ⟨rfl, rfl⟩ := only b u z
      exact ⟨rfl, q, _, rfl⟩
end
theorem walk_ofS {l : PySem.W.OpenLaw} {k : Nat} {q : Program} {loose : List Str} {XP : (Str → Option Value) → Heap → Prop} {YP : World → Heap → Prop} {d : DefRec} {K : Params → PySem.W.Frag} {x : Str}
    (imp : importsNone q = true) (most : l.most = some 63) (plain : d.params.defaults = []) (room : Room k callerA) (hY : ∀ (w : World) (h : Heap), YP w h → (K w.params).In h)
    (F : ∀ (w : World) (mg : Str → Option Value) (fa : Addr) (h : Heap), (K w.params).In h → h.Ns mainGlobals mg → mg d.name = some (.ref fa) →
      ∃ fd : FuncData, (∀ (s : Shared) (u : Value), BindsTo s fd ⟨[u], []⟩ [(x, u)]) ∧ ∀ base : Heap, (K w.params).In base → base.Ns mainGlobals mg → SysAt base → FnG l.prog w (K w.params) mg base CX0 k fa fd [x] (spLaw (K w.params))) :
    PySem.W.WalkO q loose XP YP l.row.toRowW d [] (fun f vs => PySem.call f vs) := by
  refine Att.attach_call most plain fun w s₀ s₁ mg mb fa o pm cd doc a vs ns G Y ho hd hcd hmg here whole short gens => ?_
  obtain ⟨fd, bind, hF⟩ := F w mg fa _ (hY w _ Y) G.T.g hmg
  exact law_callS (hY w _ Y) G.T.g G.T.b G.T.builtins G.T.nolimit (G.T.seer imp) gens here whole short room hF bind
end Vf
namespace Vf
open PySem L2 PyProof.Rows PySem.Spec
/-! ## lists and tuples as written, the heap behind them told by what stays -/
def tWide (t : TA) : TA := fun σ H R => ∃ R0 : List V → Hp → Prop, t σ H R0 ∧ ∀ vs H1, R0 vs H1 → R vs H1
def tTupU (t : TA) : TE := fun σ H Q => t σ H fun xs H1 => xs.length ≤ sizeLine ∧ ∀ p H', Same H1 H' → H1 p = none → H' p = some (.tup xs) → Q (.ref p) H'
def tLstU (t : TA) : TE := fun σ H Q => t σ H fun xs H1 => xs.length ≤ sizeLine ∧ ∀ p H', Same H1 H' → H1 p = none → H' p = some (.lst xs) → Q (.ref p) H'
section
variable {X : Cx} {es : List Expr} {t : TA} {pos : Pos}
theorem pa_wide (h : PA X es t) : PA X es (tWide t) :=
  ⟨fun pos pins s σ H R I ⟨R0, h0, m⟩ => thn (h.run pos pins s σ H R0 I h0) fun us s1 ⟨xs, H1, I1, r, z⟩ => ⟨xs, H1, I1, r, m _ _ z⟩⟩
theorem pe_tupU {x1} (h : PA X es t) : PE X (.Tuple es x1 pos) (tTupU t) :=
  ⟨fun pins s σ H Q I hq => (pe_tup (pa_wide h)).run pins s σ H Q I ⟨_, hq, fun xs H1 ⟨z, q⟩ => ⟨z, fun p hp => q p _ (same_upd hp) hp upd_same⟩⟩⟩
theorem pe_lstU (h : PA X es t) : PE X (.List es pos) (tLstU t) :=
  ⟨fun pins s σ H Q I hq => (pe_lst (pa_wide h)).run pins s σ H Q I ⟨_, hq, fun xs H1 ⟨z, q⟩ => ⟨z, fun p hp => q p _ (same_upd hp) hp upd_same⟩⟩⟩
end
end Vf
namespace Vf
open PySem L2 PyProof.Rows PySem.Spec
/-! ## how long data is when shown: a weight that adds up -/
mutual
def wt : PyData → Nat
  | .none => 10
  | .bool _ => 10
  | .int _ => 600
  | .str x => 10 * x.length + 7
  | .list l => 10 + wtL l
  | .tuple l => 10 + wtL l
  | .dict l => 10 + wtK l
def wtL : List PyData → Nat
  | [] => 0
  | d :: l => wt d + 5 + wtL l
def wtK : List (PyData × PyData) → Nat
  | [] => 0
  | (k, v) :: l => wt k + wt v + 10 + wtK l
end
theorem join_piled : ∀ ts : List Str, (Str.join ", " ts).length ≤ piled ts
  | [] => Nat.zero_le _
  | t :: ts => by
    have := join_length_add (t :: ts) (by simp)
    omega
theorem tuple_len (ts : List Str) : (tupleText ts).length ≤ 4 + piled ts := by
  have h := join_piled ts
  unfold tupleText
  rw [strLen_append, strLen_append]
  have e1 : (Str.ofString "(").length = 1 := rfl
  have e2 : (Str.ofString (if (ts.length == 1) = true then ",)" else ")" : String)).length ≤ 2 := by
    split <;> decide +kernel
  omega
theorem dict_len (ts : List Str) : (dictText ts).length ≤ 4 + piled ts := by
  have h := join_piled ts
  unfold dictText
  rw [strLen_append, strLen_append]
  have e1 : (Str.ofString "{").length = 1 := rfl
  have e2 : (Str.ofString "}").length = 1 := rfl
  omega
theorem text_from : ∀ (ts : List Str) (k : Nat) (acc : Str), (textFrom k acc ts).length ≤ acc.length + piled ts
  | [], _, _ => Nat.le_refl _
  | t :: ts, k, acc => by
    have h := text_from ts (k + 1) (acc ++ (if k > 0 then ", " else "" : String) ++ t)
    rw [strLen_append, strLen_append] at h
    have e : (Str.ofString (if k > 0 then ", " else "" : String)).length ≤ 2 := by
      split <;> decide +kernel
    rw [piled_cons]
    show (textFrom (k + 1) (acc ++ (if k > 0 then ", " else "" : String) ++ t) ts).length ≤ _
    omega
theorem list_len (ts : List Str) : (listText ts).length ≤ 4 + piled ts := by
  have h := text_from ts 0 "["
  unfold listText
  rw [strLen_append]
  have e1 : (Str.ofString "[").length = 1 := rfl
  have e2 : (Str.ofString "]").length = 1 := rfl
  omega
mutual
/-- its texts may be shown, its whole numbers are no greater -/
def okD (B : Nat) : PyData → Bool
  | .str x => PyData.strOk x
  | .int i => decide (i.natAbs ≤ B)
  | .list l => okL B l
  | .tuple l => okL B l
  | .dict l => okK B l
  | _ => true
def okL (B : Nat) : List PyData → Bool
  | [] => true
  | d :: l => okD B d && okL B l
def okK (B : Nat) : List (PyData × PyData) → Bool
  | [] => true
  | (k, v) :: l => okD B k && okD B v && okK B l
end
theorem repr_len {s : Str} (k : PyData.strOk s = true) : (reprText s).length ≤ 10 * s.length + 2 := by
  have h1 := StrLaws.reprText_len s fun c hc => by
    have := Array.all_eq_true_iff_forall_mem.mp k c (by simpa using hc)
    have : c < 0x110000 := by simpa using this
    omega
  omega
theorem int_len {i : Int} (h : i.natAbs ≤ 10 ^ 50) : (PyData.shown (.int i)).length ≤ 52 ∧ PyData.showable (.int i) = true := by
  constructor
  · have hd : (Nat.toDigits 10 i.natAbs).length ≤ 51 := digits10_le (by decide) (Nat.lt_of_le_of_lt h (by decide))
    have e : (PyData.shown (.int i)).length = (toString i).toList.length := by
      simp only [PyData.shown]
      show (Str.ofString (toString i)).length = _
      rw [Str.ofString_eq_toList]
      simp [Str.length]
    rw [e, Int.toString_eq_repr, Int.repr_eq_if]
    split
    · rw [Nat.toList_repr]
      have : i.toNat = i.natAbs := by omega
      rw [this]
      omega
    · rw [String.toList_append, List.length_append, Nat.toList_repr]
      have : (-i).toNat = i.natAbs := by omega
      have e1 : ("-" : String).toList.length = 1 := by decide
      rw [this, e1]
      omega
  · simp only [PyData.showable, decide_eq_true_eq]
    by_cases h0 : i.natAbs = 0
    · rw [h0]
      decide
    · rw [Nat.log2_lt h0]
      exact Nat.lt_of_le_of_lt h (by decide +kernel)
mutual
theorem shown_wt {B : Nat} (hB : B ≤ 10 ^ 50) : ∀ d : PyData, okD B d = true → (PyData.shown d).length ≤ wt d
  | .none, _ => by decide +kernel
  | .bool true, _ => by decide +kernel
  | .bool false, _ => by decide +kernel
  | .int i, h => by
    simp only [okD, decide_eq_true_eq] at h
    have := (int_len (i := i) (by omega)).1
    simp only [wt]
    omega
  | .str x, h => by
    simp only [okD] at h
    have := repr_len h
    simp only [wt, PyData.shown]
    omega
  | .list l, h => by
    simp only [okD] at h
    have h := shownL_wt hB l h
    have h2 := list_len (PyData.shownAll l)
    simp only [wt, PyData.shown]
    omega
  | .tuple l, h => by
    simp only [okD] at h
    have h := shownL_wt hB l h
    have h2 := tuple_len (PyData.shownAll l)
    simp only [wt, PyData.shown]
    omega
  | .dict l, h => by
    simp only [okD] at h
    have h := shownK_wt hB l h
    have h2 := dict_len (PyData.shownKv l)
    simp only [wt, PyData.shown]
    omega
theorem shownL_wt {B : Nat} (hB : B ≤ 10 ^ 50) : ∀ l : List PyData, okL B l = true → piled (PyData.shownAll l) ≤ wtL l
  | [], _ => Nat.le_refl _
  | d :: l, h => by
    simp only [okL, Bool.and_eq_true] at h
    have h1 := shown_wt hB d h.1
    have h2 := shownL_wt hB l h.2
    simp only [PyData.shownAll, piled_cons, wtL]
    omega
theorem shownK_wt {B : Nat} (hB : B ≤ 10 ^ 50) : ∀ l : List (PyData × PyData), okK B l = true → piled (PyData.shownKv l) ≤ wtK l
  | [], _ => Nat.le_refl _
  | (k, v) :: l, h => by
    simp only [okK, Bool.and_eq_true] at h
    have h0 := shown_wt hB k h.1.1
    have h1 := shown_wt hB v h.1.2
    have h2 := shownK_wt hB l h.2
    have e : (Str.ofString ": ").length = 2 := rfl
    simp only [PyData.shownKv, piled_cons, wtK, strLen_append]
    omega
end
theorem wtL_append : ∀ a b : List PyData, wtL (a ++ b) = wtL a + wtL b
  | [], b => by simp [wtL]
  | x :: a, b => by
    rw [List.cons_append, wtL, wtL, wtL_append a b]
    omega
theorem wtL_len : ∀ l : List PyData, 5 * l.length ≤ wtL l
  | [] => Nat.le_refl _
  | d :: l => by
    have h := wtL_len l
    simp only [wtL, List.length_cons]
    omega
theorem wtL_take (n : Nat) (l : List PyData) : wtL (l.take n) + wtL (l.drop n) = wtL l := by
  rw [← wtL_append, List.take_append_drop]
end Vf
namespace Vf
open PySem L2 PyProof.Rows PySem.Spec
/-! ## a def with defaults, called by places, where no repr is under way -/
/-- a def of the top's text with defaults, as it stands in the module -/
structure DfD (K : PySem.W.Frag) (mg : Str → Option Value) (x : Str) (st : Stmt) (dvs : List V) (f : Addr) (fd : FuncData) : Prop where
  fn : FunD K x x (defArgs st) (defBody st) (defScope st) dvs [] f fd
  gl : mg x = some (.ref f)
/-- a def that may be called, the last of its values left out -/
structure CalD (P : Program) (w : World) (K : PySem.W.Frag) (mg : Str → Option Value) (base : Heap) (x : Str) (ps : List Str) (k : Nat) (sp : Sp) (dvs : List V) : Prop where
  ex : ∃ f fd ds, FnG P w K mg base CX0 k f fd ps sp ∧ mg x = some (.ref f) ∧ PySem.W.keepIn K (.ref f) = true ∧ Binds K fd ps ds ∧ Vals dvs ds
section
variable {K : PySem.W.Frag} {P : Program} {w : World} {base : Heap} {mg : Str → Option Value} {x : Str} {st : Stmt} {f : Addr} {fd : FuncData} {N ps : List Str} {k : Nat} {sp : Sp} {dvs : List V}
theorem DfD.fnG (D : DfD K mg x st dvs f fd) (S : FnScope N ps (defScope st)) (many : ∀ vs H Q E, sp vs H Q E → vs.length = ps.length)
    (bd : ∀ (cdv : Value) (A : Around) (outer : List Env) (s : Shared) (H : Hp) (vs : List V) (Q : VK) (E : XK), (A.deeper (envOfC x (defScope st) s.heap.objs.size f cdv)).guards = some [] → Room k (A.deeper (envOfC x (defScope st) s.heap.objs.size f cdv)) → sp vs H Q E →
      ∃ t, PSs (cxOf CX0 P w K mg base N x (defScope st) f cdv A outer s H E).nox (defBody st) t ∧ t { nx := fun _ H' => Q .non H', rt := Q } (start N vs) H) : FnG P w K mg base CX0 (k + 1) f fd ps sp := by
  obtain ⟨oc, od, dV, kV, doc, pm, an, cdv, ct, osl, rfl, here, code, _, _⟩ := D.fn.ex
  refine fnG_of here code S many fun A outer s H vs Q E hg hr hsp => ?_
  obtain ⟨t, h1, h2⟩ := bd cdv A outer s H vs Q E hg hr hsp
  exact ⟨t, h1.nox, h2⟩
/-- called with n values, the first j defaults being given -/
theorem DfD.calD (D : DfD K mg x st dvs f fd) (F : FnG P w K mg base CX0 k f fd ps sp) (n j : Nat) (hd : dvs ≠ []) (hn : n + (dvs.length - j) = ps.length)
    (h : ∀ (T : Addr) (kV doc pm : Value) (an : Option Addr) (cdv ct : Value) (us its : List Value), us.length = n → its.length = dvs.length →
      ∃ k, bindArgs (PySem.W.fnOf x x (defArgs st) (defBody st) (defScope st) (.ref T) kV doc pm an cdv ct) ⟨us, []⟩ = seqItems? (.ref T) >>= k ∧ k (some its.toArray) = pure (ps.zip (us ++ its.drop j))) : CalD P w K mg base x ps k sp (dvs.drop j) := by
  obtain ⟨ds, r, b⟩ := D.fn.binds1 n j hd hn h
  exact ⟨f, fd, ds, F, D.gl, D.fn.kp, b, r⟩
end
section
variable {X : Cx} {k : Nat} {ps : List Str} {sp : Sp} {x : Str} {p pos : Pos} {e : Expr} {es : List Expr} {t : TA} {dvs : List V}
theorem pe_calD (c : CalD X.prog X.w X.K X.mg X.base x ps k sp dvs) (hgd : X.A.guards = some []) (hr : Room k X.A) (hg : Gl X x) (ha : PA X (e :: es) t) (hdb : (x == ("__debug__" : Str)) = false := by decide)
    (he : starEach (e :: es) X.env = (false, eval e X.env) :: starEach es X.env := by rfl) (hpl : (backTo pos (starEach es X.env)).any (·.1) = false := by rfl) : PE X (.Call (.Name x p) (e :: es) [] pos) (tCall sp dvs E0 t) := by
  obtain ⟨f, fd, ds, F, gl, kp, bi, rd⟩ := c.ex
  refine ⟨fun pins s σ H Q I h => wpAny_Call_Name_kw (ld_glob I hg gl ?_ hdb)⟩
  refine PySem.W.callWith_K (h₀ := X.base) I.ok.mod.kin kp (thn (ha.run pos pins s σ H _ I h) fun us s1 ⟨vs, H1, I1, r, q⟩ => ⟨I1.kIn, ?_⟩) he hpl
  have q : sp (vs ++ dvs) H1 Q E0 := q
  have rr := r.append rd
  exact wpAny_call (go_cal F hgd hr I1 (bi s1 us I1.kIn (by rw [← rr.length]; exact F.many _ _ _ _ q)) rr q)
end
end Vf
namespace Vf
open PySem L2 PyProof.Rows PySem.Spec
/-! ## whole numbers that may be truths; great letters -/
def numV : V → Option Int
  | .int i => some i
  | .bl b => some (if b = true then 1 else 0)
  | _ => none
def rNumL (g : Int → Int → Int) : R2 := fun x y H Q => ∃ i j, numV x = some i ∧ y = .int j ∧ Q (.int (g i j)) H
def rNumR (g : Int → Int → Int) : R2 := fun x y H Q => ∃ i j, x = .int i ∧ numV y = some j ∧ Q (.int (g i j)) H
def rEqN : R2 := fun x y H Q => ∃ i j, numV x = some i ∧ y = .int j ∧ Q (.bl (decide (i = j))) H
def rStrN : List V → Hp → VK → Prop := fun xs H Q => (∃ i, xs = [.int i] ∧ i.natAbs.log2 < 1920 ∧ Q (.str (Str.ofString (toString i))) H) ∨ ∃ b : Bool, xs = [.bl b] ∧ Q (.str (Str.ofString (if b = true then "True" else "False"))) H
section
variable {X : Cx}
theorem aAddN : OpR X (binaryOp .Add) (rNumL fun i j => i + j) := by
  intro pins s σ H x y v u Q I rx ry ⟨i, j, hx, hy, q⟩
  subst hy
  cases x with
  | int k =>
    cases hx
    exact op_add pins s σ H _ _ v u Q I rx ry ⟨_, _, rfl, rfl, q⟩
  | bl b =>
    cases hx
    cases rx
    obtain ⟨t, rfl⟩ := ry
    exact PySem.IntBool.add_bool_int ⟨.int _, H, I.tok _, ⟨_, rfl⟩, q⟩
  | _ => cases hx
theorem aSubN : OpR X (binaryOp .Sub) (rNumL fun i j => i - j) := by
  intro pins s σ H x y v u Q I rx ry ⟨i, j, hx, hy, q⟩
  subst hy
  cases x with
  | int k =>
    cases hx
    exact op_sub pins s σ H _ _ v u Q I rx ry ⟨_, _, rfl, rfl, q⟩
  | bl b =>
    cases hx
    cases rx
    obtain ⟨t, rfl⟩ := ry
    exact PySem.IntBool.sub_bool_int ⟨.int _, H, I.tok _, ⟨_, rfl⟩, q⟩
  | _ => cases hx
theorem aSubR : OpR X (binaryOp .Sub) (rNumR fun i j => i - j) := by
  intro pins s σ H x y v u Q I rx ry ⟨i, j, hx, hy, q⟩
  subst hx
  cases y with
  | int k =>
    cases hy
    exact op_sub pins s σ H _ _ v u Q I rx ry ⟨_, _, rfl, rfl, q⟩
  | bl b =>
    cases hy
    cases ry
    obtain ⟨t, rfl⟩ := rx
    exact PySem.IntBool.sub_int_bool ⟨.int _, H, I.tok _, ⟨_, rfl⟩, q⟩
  | _ => cases hy
theorem aEqN : OpR X (compareOp .Eq) rEqN := by
  intro pins s σ H x y v u Q I rx ry ⟨i, j, hx, hy, q⟩
  subst hy
  cases x with
  | int k =>
    cases hx
    have e : decide (V.int i = V.int j) = decide (i = j) := by simp
    exact op_eq pins s σ H _ _ v u Q I rx ry ⟨rfl, by rw [e]; exact q⟩
  | bl b =>
    cases hx
    cases rx
    obtain ⟨t, rfl⟩ := ry
    refine SeqAt.RcAt.bool_int b j t X.prog X.w _ _ ⟨.bl _, H, I, rfl, ?_⟩
    have e : ((if b = true then (1 : Int) else 0) == j) = decide ((if b = true then (1 : Int) else 0) = j) := rfl
    rw [e]
    exact q
  | _ => cases hx
theorem aStrN : CallR X (.type "str") rStrN := by
  intro pins s σ H xs us Q I rr h
  rcases h with h | ⟨b, rfl, q⟩
  · exact call_str_int pins s σ H xs us Q I rr h
  · obtain ⟨u, rfl, rx⟩ := vals1 rr
    cases rx
    refine PySem.P.str_of_bool ⟨.str _, H, I.tok _, ⟨_, rfl⟩, ?_⟩
    cases b <;> exact q
end
/-! great letters of any text are signs, too -/
theorem shifted_small : ∀ (l : List (Nat × Nat × Nat)) (c u : Nat), l.all (fun r => decide (r.2.2 + (r.2.1 - r.1) < 0x110000)) = true → Unicode.shifted l c = some u → u < 0x110000
  | [], _, _, _, h => by cases h
  | (a, b, t) :: r, c, u, hall, h => by
    rw [List.all_cons, Bool.and_eq_true, decide_eq_true_eq] at hall
    unfold Unicode.shifted at h
    by_cases h1 : c < a
    · rw [if_pos h1] at h
      cases h
    · rw [if_neg h1] at h
      by_cases h2 : c ≤ b
      · rw [if_pos h2] at h
        cases h
        have := hall.1
        simp only at this
        omega
      · rw [if_neg h2] at h
        exact shifted_small r c u hall.2 h
theorem upperOf_small {c : Nat} (hc : c < 0x110000) : ∀ u ∈ Unicode.upperOf c, u < 0x110000 := by
  intro u hu
  unfold Unicode.upperOf Unicode.image at hu
  split at hu
  · next cs hl =>
    have := StrLaws.lookup_all (p := fun l => l.all fun x => decide (x < 0x110000)) UnicodeData.severalUpper c cs (by decide +kernel) hl
    simpa using List.all_eq_true.mp this u hu
  · rw [List.mem_singleton] at hu
    subst hu
    cases e : Unicode.shifted UnicodeData.oneUpper c with
    | none => exact hc
    | some u => exact shifted_small _ c u (by decide +kernel) e
theorem upper_strOk {s : Str} (h : PyData.strOk s = true) : PyData.strOk (Txt.upper s) = true := by
  refine Array.all_eq_true_iff_forall_mem.mpr fun x hx' => ?_
  have hs := Array.all_eq_true_iff_forall_mem.mp h
  unfold Txt.upper placed at hx'
  obtain ⟨l, hl, hm⟩ := Array.mem_flatten.mp hx'
  obtain ⟨i, hi, rfl⟩ := Array.mem_mapIdx.mp hl
  have hc := hs s.cps[i] (by simp)
  have hc : s.cps[i] < 0x110000 := by simpa using hc
  simpa using upperOf_small hc x (by simpa using hm)
end Vf
namespace Vf
open PySem L2 PyProof.Rows PySem.Spec
/-! ## what is written out: tuples, lists, dicts of constants and of names; all of it lies in a part G of the heap, and in what is new -/
theorem lineLe {n : Nat} (h : n ≤ 1000000) : n ≤ sizeLine := by
  rw [sizeLine_eq]
  omega
def Only (H G G' : Hp) : Prop := ∀ b, H b ≠ none → G b = none → G' b = none
theorem Only.refl (H G : Hp) : Only H G G := fun _ _ h => h
theorem Only.trans {H H1 G G1 G2 : Hp} (s : Same H H1) (a : Only H G G1) (b : Only H1 G1 G2) : Only H G G2 := fun x h1 h2 => b x (fun e => h1 (s.free e)) (a x h1 h2)
/-- the state's slots hold these data, within G -/
def Has (σ : L2.St) (G : Hp) : List (Nat × PyData) → Prop
  | [] => True
  | (i, d) :: r => (∃ v, σ[i]? = some (some v) ∧ Dv G v d) ∧ Has σ G r
theorem Has.same {σ : L2.St} {G G' : Hp} (s : Same G G') : ∀ {vs : List (Nat × PyData)}, Has σ G vs → Has σ G' vs
  | [], _ => trivial
  | (_, _) :: _, ⟨⟨v, e, h⟩, t⟩ => ⟨⟨v, e, h.same s⟩, t.same s⟩
theorem Has.app {σ : L2.St} {G : Hp} : ∀ {vs ws : List (Nat × PyData)}, Has σ G (vs ++ ws) → Has σ G vs ∧ Has σ G ws
  | [], _, h => ⟨trivial, h⟩
  | (_, _) :: _, _, ⟨a, t⟩ => ⟨⟨a, t.app.1⟩, t.app.2⟩
structure Grow (H G H' G' : Hp) : Prop where
  big : Same H H'
  part : Same G G'
  sub : Same G' H'
  only : Only H G G'
theorem Grow.refl {H G : Hp} (s : Same G H) : Grow H G H G := ⟨Same.refl H, Same.refl G, s, Only.refl H G⟩
theorem Grow.trans {H G H1 G1 H2 G2 : Hp} (a : Grow H G H1 G1) (b : Grow H1 G1 H2 G2) : Grow H G H2 G2 := ⟨a.big.trans b.big, a.part.trans b.part, b.sub, a.only.trans a.big b.only⟩
/-- a new thing, in both -/
theorem Grow.new {H G : Hp} {p : Addr} {o : HO} (s : Same G H) (n : H p = none) : Grow H G (upd H p o) (upd G p o) := by
  have ng : G p = none := s.free n
  refine ⟨same_upd n, same_upd ng, fun b u e => ?_, fun b h1 h2 => ?_⟩
  · by_cases hb : b = p
    · subst hb
      rw [upd_same] at e ⊢
      exact e
    · rw [upd_ne hb] at e ⊢
      exact s b u e
  · have hb : b ≠ p := fun z => h1 (by rw [z]; exact n)
    rw [upd_ne hb]
    exact h2
def tD (vs : List (Nat × PyData)) (d : PyData) : TE := fun σ H Q => ∃ G, Same G H ∧ Has σ G vs ∧ ∀ x H' G', Grow H G H' G' → Dv G' x d → Q x H'
def tDs (vs : List (Nat × PyData)) (ds : List PyData) : TA := fun σ H Q => ∃ G, Same G H ∧ Has σ G vs ∧ ∀ xs H' G', Grow H G H' G' → DvAll G' xs ds → Q xs H'
/-- a new list of such things, its place told apart -/
def tDL (vs : List (Nat × PyData)) (ds : List PyData) : TE := fun σ H Q => ∃ G, Same G H ∧ Has σ G vs ∧ ∀ p xs H' G', Grow H G H' G' → DvAll G' xs ds → H' p = none → Q (.ref p) (upd H' p (.lst xs))
section
variable {X : Cx} {pos : Pos} {e : Expr} {es : List Expr} {vs ws : List (Nat × PyData)} {d : PyData} {ds : List PyData}
theorem peTo {t t' : TE} (h : PE X e t) (m : ∀ σ H Q, t' σ H Q → t σ H Q) : PE X e t' := ⟨fun pins s σ H Q I q => h.run pins s σ H Q I (m σ H Q q)⟩
theorem paTo {t t' : TA} (h : PA X es t) (m : ∀ σ H Q, t' σ H Q → t σ H Q) : PA X es t' := ⟨fun pos pins s σ H Q I q => h.run pos pins s σ H Q I (m σ H Q q)⟩
theorem wD_con {v : V} (h : PE X e (tC v)) (k : ∀ H, Dv H v d) : PE X e (tD [] d) := peTo h fun σ H Q ⟨G, s, _, q⟩ => q v H G (Grow.refl s) (k G)
theorem wD_var {i : Nat} (d : PyData) (h : PE X e (tVar i)) : PE X e (tD [(i, d)] d) := peTo h fun σ H Q ⟨G, s, ⟨⟨v, e, hv⟩, _⟩, q⟩ => ⟨v, e, q v H G (Grow.refl s) hv⟩
theorem wDs_nil : PA X [] (tDs [] []) := paTo pa_nil fun σ H Q ⟨G, s, _, q⟩ => q [] H G (Grow.refl s) .nil
theorem wDs_cons (h : PE X e (tD vs d)) (t : PA X es (tDs ws ds)) (hs : starEach (e :: es) X.env = (false, eval e X.env) :: starEach es X.env := by rfl) : PA X (e :: es) (tDs (vs ++ ws) (d :: ds)) :=
  paTo (pa_cons h t hs) fun σ H Q ⟨G, s, hv, q⟩ => ⟨G, s, hv.app.1, fun x H1 G1 g1 hx => ⟨G1, g1.sub, hv.app.2.same g1.part, fun xs H2 G2 g2 hxs => q (x :: xs) H2 G2 (g1.trans g2) (.cons (hx.same g2.part) hxs)⟩⟩
theorem wD_tup {x1} (t : PA X es (tDs vs ds)) (hl : ds.length ≤ 1000000 := by exact Nat.le_of_ble_eq_true rfl) : PE X (.Tuple es x1 pos) (tD vs (.tuple ds)) :=
  peTo (pe_tup t) fun σ H Q ⟨G, s, hv, q⟩ => ⟨G, s, hv, fun xs H1 G1 g1 hxs => ⟨lineLe (by rw [hxs.len]; exact hl), fun p hp => q (.ref p) _ _ (g1.trans (Grow.new g1.sub hp)) (.tup upd_same (hxs.same (same_upd (g1.sub.free hp))))⟩⟩
theorem wD_lst (t : PA X es (tDs vs ds)) (hl : ds.length ≤ 1000000 := by exact Nat.le_of_ble_eq_true rfl) : PE X (.List es pos) (tD vs (.list ds)) :=
  peTo (pe_lst t) fun σ H Q ⟨G, s, hv, q⟩ => ⟨G, s, hv, fun xs H1 G1 g1 hxs => ⟨lineLe (by rw [hxs.len]; exact hl), fun p hp => q (.ref p) _ _ (g1.trans (Grow.new g1.sub hp)) (.lst upd_same (hxs.same (same_upd (g1.sub.free hp))))⟩⟩
theorem wDL (t : PA X es (tDs vs ds)) (hl : ds.length ≤ 1000000 := by exact Nat.le_of_ble_eq_true rfl) : PE X (.List es pos) (tDL vs ds) :=
  peTo (pe_lst t) fun σ H Q ⟨G, s, hv, q⟩ => ⟨G, s, hv, fun xs H1 G1 g1 hxs => ⟨lineLe (by rw [hxs.len]; exact hl), fun p hp => q p xs H1 G1 g1 hxs hp⟩⟩
theorem wD_dic0 : PE X (.Dict [] [] pos) (tD [] (.dict [])) :=
  peTo pe_dnewK fun σ H Q ⟨G, s, _, q⟩ p hp => q (.ref p) _ _ (Grow.new s hp) (.dic upd_same .nil)
theorem wD_dic1 {k : Int} {j : Nat} {p1 : Pos} (h : PE X e (tD vs d)) : PE X (.Dict [some (.Constant (.int k) j p1)] [e] pos) (tD vs (.dict [(.int k, d)])) :=
  peTo (pe_disp (pps_cons pe_int h pps_nil) (by rfl) (by rfl) (fun z => by cases z) (by first | decide | exact Nat.succ_le_succ (Nat.zero_le _))) fun σ H Q ⟨G, s, hv, q⟩ p hp => by
    have ng : G p = none := s.free hp
    have s1 : Same G (upd H p (.dK [])) := s.trans (same_upd hp)
    refine ⟨G, s1, hv, fun y H2 G2 g2 hy => ?_⟩
    have n2 : G2 p = none := g2.only p (by rw [upd_same]; nofun) ng
    refine ⟨g2.big _ _ upd_same, [(Sum.inl k, y)], rfl, Nat.succ_le_succ (Nat.zero_le _), ?_⟩
    show Q (.ref p) (upd H2 p (.dK [(Sum.inl k, y)]))
    refine q (.ref p) _ (upd G2 p (.dK [(Sum.inl k, y)])) ⟨fun b u e => ?_, g2.part.trans (same_upd n2), fun b u e => ?_, fun b h1 h2 => ?_⟩ (.dic (ds := [d]) upd_same (.cons (hy.same (same_upd n2)) .nil))
    · have hb : b ≠ p := fun z => by rw [z, hp] at e; cases e
      rw [upd_ne hb]
      exact g2.big _ _ (same_upd hp _ _ e)
    · by_cases hb : b = p
      · subst hb
        rw [upd_same] at e ⊢
        exact e
      · rw [upd_ne hb] at e ⊢
        exact g2.sub b u e
    · have hb : b ≠ p := fun z => h1 (by rw [z]; exact hp)
      rw [upd_ne hb]
      exact g2.only b (fun z => h1 ((same_upd hp).free z)) h2
theorem wD_neg {i : Int} {j : Nat} {p1 : Pos} : PE X (.UnaryOp .USub (.Constant (.int i) j p1) pos) (tD [] (.int (-i))) :=
  peTo (pe_un un_neg pe_int) fun σ H Q ⟨G, s, _, q⟩ => ⟨i, rfl, q _ H G (Grow.refl s) (.int _)⟩
theorem wD_pow {i n : Int} {j j2 : Nat} {p1 p2 : Pos} (h : CPow i n) : PE X (.BinOp (.Constant (.int i) j p1) .Pow (.Constant (.int n) j2 p2) pos) (tD [] (.int (i ^ n.toNat))) :=
  peTo (pe_op op_pow pe_int pe_int) fun σ H Q ⟨G, s, _, q⟩ => ⟨i, n, rfl, rfl, h, q _ H G (Grow.refl s) (.int _)⟩
end
/-- the heap without one thing -/
def offp (p : Addr) (H : Hp) : Hp := fun b => if b = p then none else H b
theorem offp_sub (p : Addr) (H : Hp) : Same (offp p H) H := fun b o e => by
  unfold offp at e
  split at e
  · cases e
  · exact e
theorem offp_self (p : Addr) (H : Hp) : offp p H p = none := by simp [offp]
theorem offp_ne {p b : Addr} {H : Hp} (h : b ≠ p) : offp p H b = H b := by simp [offp, h]
/-- what lies in a part without p lies in the heap without p -/
theorem into_offp {p : Addr} {G H : Hp} (s : Same G H) (n : G p = none) : Same G (offp p H) := fun b u e => by
  have hb : b ≠ p := fun z => by rw [z, n] at e; cases e
  rw [offp_ne hb]
  exact s b u e
theorem offp_upd (p : Addr) (H : Hp) (o : HO) : offp p (upd H p o) = offp p H := by
  funext b
  by_cases hb : b = p
  · simp [offp, hb]
  · rw [offp_ne hb, offp_ne hb, upd_ne hb]
theorem offp_same {p : Addr} {H H' : Hp} (s : Same H H') : Same (offp p H) (offp p H') := fun b u e => by
  by_cases hb : b = p
  · subst hb
    rw [offp_self] at e
    cases e
  · rw [offp_ne hb] at e ⊢
    exact s b u e
end Vf
namespace Vf
open PySem L2 PyProof.Rows PySem.Spec HT
/-! ## a tuple turned about; cuts and sums of tuples that lie in a part of the heap -/
theorem adjust_rev (n : Nat) : Builtin.Slice.sliceAdjust none none (-1) (n : Int) = ((n : Int) - 1, -1) := rfl
theorem places_rev (n : Nat) : Builtin.Slice.slicePlaces ((n : Int) - 1) (-1) (-1) = n := by
  unfold Builtin.Slice.slicePlaces
  rw [if_neg (by decide)]
  cases n with
  | zero => rfl
  | succ n =>
    rw [if_pos (by omega)]
    have : ((n + 1 : Nat) : Int) - 1 - -1 - 1 = (n : Nat) := by omega
    rw [this, show -(-1 : Int) = 1 by decide, Int.ediv_one]
    omega
theorem pick_rev (xs : Array Value) : ((List.range xs.size).filterMap fun (m : Nat) => xs[(((xs.size : Int) - 1) + (m : Int) * (-1)).toNat]?) = xs.toList.reverse := by
  apply List.ext_getElem?
  intro i
  have e : ∀ m ∈ List.range xs.size, xs[(((xs.size : Int) - 1) + (m : Int) * (-1)).toNat]? = some (xs.toList.reverse.getD m .none) := by
    intro m hm
    have hm := List.mem_range.mp hm
    have e1 : (((xs.size : Int) - 1) + (m : Int) * (-1)).toNat = xs.size - 1 - m := by omega
    rw [e1, List.getD_eq_getElem?_getD, List.getElem?_reverse (by simpa using hm)]
    simp only [Array.length_toList, Array.getElem?_toList]
    rw [Array.getElem?_eq_getElem (by omega)]
    rfl
  have e2 : ((List.range xs.size).filterMap fun (m : Nat) => xs[(((xs.size : Int) - 1) + (m : Int) * (-1)).toNat]?) = (List.range xs.size).map fun m => xs.toList.reverse.getD m .none := by
    have : ∀ l : List Nat, (∀ m ∈ l, m ∈ List.range xs.size) → (l.filterMap fun (m : Nat) => xs[(((xs.size : Int) - 1) + (m : Int) * (-1)).toNat]?) = l.map fun m => xs.toList.reverse.getD m .none := by
      intro l
      induction l with
      | nil => intro _; rfl
      | cons a l ih =>
        intro h
        rw [List.filterMap_cons, e a (h a List.mem_cons_self), List.map_cons, ih fun m hm => h m (List.mem_cons_of_mem _ hm)]
    exact this _ fun _ h => h
  rw [e2, List.getElem?_map]
  by_cases hi : i < xs.size
  · rw [List.getElem?_range hi]
    simp only [Option.map_some]
    rw [List.getD_eq_getElem?_getD, List.getElem?_eq_getElem (by simpa using hi)]
    rfl
  · rw [List.getElem?_eq_none (by simpa using Nat.le_of_not_lt hi), List.getElem?_eq_none (by simpa using Nat.le_of_not_lt hi)]
    rfl
section
variable {prog : Program} {w : World} {A : Around} {E : Value → Shared → Prop} {s : Shared}
theorem getItem_tuple_rev {t sl : Addr} {items : Array Value} {vs : Value} {Q : Value → Shared → Prop} (ht : IsTup s.heap t items) (hs : s.heap.IsSliceOf sl .none .none vs) (ps : IsPart vs (some (-1)))
    (h : Q (.ref s.heap.objs.size) { s with heap := s.heap.push { cls := .type "tuple", data := .seq items.toList.reverse.toArray } }) (hsz : items.size ≤ sizeLine) : wpAny (model prog w) A (getItem (.ref t) (.ref sl)) Q E s := by
  have htake : sizeOk (.seq items.toList.reverse.toArray) := by
    show items.toList.reverse.toArray.size ≤ sizeLine
    rw [List.size_toArray, List.length_reverse, Array.length_toList]
    exact hsz
  obtain ⟨os, hos, hcs, hds⟩ := id hs
  have hTs : s.TypeIs (.ref sl) "slice" := ⟨os, hos, hcs⟩
  unfold getItem
  try with_reducible refine wpAny_holding ?_
  first | refine wpAny_bind (wpAny_pure ?_) | skip
  refine wpAny_bind (wpAny_sequenceKey ht.typeIs (by decide) ?_)
  refine wpAny_bind (wpAny_callSpecial?_slot (name := Str.ofString "__getitem__") ht.typeIs PyProof.Rows.slot_tuple_getitem
    (wpAny_call_entry PyProof.Rows.slot_tuple_getitem ht.typeIs entry_tuple_getitem ?_ (args_tuple_getitem _ _)))
  show wpAny _ _ (Builtin.Tuple.tupleItemsOf (.ref t) >>= _) _ _ s
  refine wpAny_bind (tupleItemsOf_ ht ?_)
  refine wpAny_bind (wpAny_typeOf hTs ?_)
  rw [if_pos (by decide)]
  refine wpAny_bind (m := Builtin.Slice.sliceApplied (.ref sl) (pure (items.size : Int))) ?_
  · unfold Builtin.Slice.sliceApplied Builtin.Slice.sliceFields
    refine wpAny_bind (wpAny_bind (wpAny_field hos hds (x := .none) rfl (wpAny_bind (wpAny_field hos hds (x := .none) rfl (wpAny_bind (wpAny_field hos hds (x := vs) rfl (wpAny_pure ?_)))))))
    refine wpAny_bind (slicePart_ ps ?_)
    show wpAny _ _ (if ((-1 : Int) == 0) = true then _ else _) _ _ s
    rw [if_neg (by decide)]
    refine wpAny_bind (slicePart_none (wpAny_bind (slicePart_none (wpAny_bind (wpAny_pure ?_)))))
    show wpAny _ _ (match Builtin.Slice.sliceAdjust none none (-1) (items.size : Int) with | (lo, hi) => pure (lo, (-1 : Int), Builtin.Slice.slicePlaces lo hi (-1))) _ _ s
    rw [adjust_rev]
    show wpAny _ _ (pure (((items.size : Int) - 1), (-1 : Int), Builtin.Slice.slicePlaces ((items.size : Int) - 1) (-1) (-1))) _ _ s
    rw [places_rev]
    refine wpAny_pure ?_
    have hno : ¬ ((((items.size : Int) - 1) == 0 && (-1 : Int) == 1 && items.size == items.size) = true) := by
      rw [show ((-1 : Int) == 1) = false from rfl, Bool.and_false, Bool.false_and]
      exact Bool.false_ne_true
    show wpAny _ _ (if (((items.size : Int) - 1) == 0 && (-1 : Int) == 1 && items.size == items.size) = true then _ else _) _ _ s
    rw [if_neg hno, pick_rev]
    first
      | exact wpAny_bind (m := Builtin.Tuple.tupleExact _) (wpAny_newObj_type (wpAny_pure ⟨_, rfl, wpAny_pure h⟩) htake)
      | exact wpAny_bind (m := Builtin.Tuple.tupleExact _) (wpAny_newObj_type (wpAny_bind (wpAny_pure (wpAny_pure ⟨_, rfl, wpAny_pure h⟩))) htake)
      | exact wpAny_bind (wpAny_bind (m := Builtin.Tuple.tupleExact _) (wpAny_newObj_type (wpAny_pure (wpAny_pure ⟨_, rfl, wpAny_pure h⟩)) htake))
      | exact wpAny_bind (wpAny_bind (m := Builtin.Tuple.tupleExact _) (wpAny_newObj_type (wpAny_pure ⟨_, rfl, wpAny_pure h⟩) htake))
end
section
variable {X : Cx}
def tRevT (K : PySem.W.Frag) (te : TE) : TE := fun σ H Q => te σ H fun x H1 => ∃ a xs, x = .ref a ∧ SqT K H1 a xs ∧ ∀ p, H1 p = none → Q (.ref p) (upd H1 p (.tup xs.reverse))
theorem pe_revT {e : Expr} {te : TE} {k : Nat} {p1 p2 p3 pos : Pos} (he : PE X e te) : PE X (.Subscript e (.Slice none none (some (.UnaryOp .USub (.Constant (.int 1) k p1) p2)) p3) pos) (tRevT X.K te) := by
  refine ⟨fun pins s σ H Q I h => ?_⟩
  refine Subscript_ (thn (he.run pins s σ H _ I h) fun v s1 ⟨x, H1, I1, r1, q1⟩ => ?_)
  obtain ⟨a, xs, ex, hx, q⟩ := q1
  subst ex
  cases r1
  have hst : PO X (some (.UnaryOp .USub (.Constant (.int 1) k p1) p2)) (tPart (tUn (rU fun i => .int (-i)) (tC (.int 1)))) := po_some (pe_un un_neg pe_int)
  refine wpAny_Slice (thn (po_none.run pins s1 σ H1 (fun o H2 => o = none ∧ H2 = H1) I1 ⟨rfl, rfl⟩) fun vl s2 ⟨l, H2, I2, pl, el, e2⟩ => ?_)
  subst el e2
  refine thn (po_none.run pins s2 σ H2 (fun o H3 => o = none ∧ H3 = H2) I2 ⟨rfl, rfl⟩) fun vu s3 ⟨u, H3, I3, pu, eu, e3⟩ => ?_
  subst eu e3
  refine thn (hst.run pins s3 σ H3 (fun o H4 => o = some (-1) ∧ H4 = H3) I3 ⟨1, rfl, -1, rfl, rfl, rfl⟩) fun vs s4 ⟨o, H4, I4, ps, eo, e4⟩ => ?_
  subst eo e4
  have I5 : Inv X pins σ H4 { s4 with heap := s4.heap.push { cls := .type "slice", data := .fields #[vl, vu, vs] } } := I4.kept (t' := s4.toks) fun b ob q => Heap.get?_push_of_some _ q
  obtain ⟨its, r, ht, hz⟩ := I5.tuple hx
  have hlen := r.length
  cases pl
  cases pu
  show wpAny (model X.prog X.w) X.A (subscriptTail e (.Slice none none (some (.UnaryOp .USub (.Constant (.int 1) k p1) p2)) p3) (.ref a) (.ref s4.heap.objs.size)) (EP X pins σ Q) X.xe { s4 with heap := s4.heap.push { cls := .type "slice", data := .fields #[.none, .none, vs] } }
  refine tail_any (ops := [.ref a, .ref s4.heap.objs.size]) ht.typeIs (PyProof.Rows.slot_tuple_getitem.lookup) ?_ (by with_unfolding_all rfl)
  refine getItem_tuple_rev ht (Heap.IsSliceOf.new _ .none .none vs) ps ?_ (by rw [List.size_toArray]; omega)
  refine ⟨.ref _, _, I5.laid (t' := s4.toks) (o := .tup xs.reverse) (fun b ob q => Heap.get?_push_of_some _ q) (Nat.le_refl _) ?_, rfl, q _ (I5.hok.fresh (Nat.le_refl _))⟩
  refine ⟨by rw [List.length_reverse]; exact hz, _, r.reverse, ?_⟩
  exact IsTup.new _ _
theorem aRevT {K : PySem.W.Frag} (h : X.K = K) {e : Expr} {te : TE} {k : Nat} {p1 p2 p3 pos : Pos} (he : PE X e te) : PE X (.Subscript e (.Slice none none (some (.UnaryOp .USub (.Constant (.int 1) k p1) p2)) p3) pos) (tRevT K te) := h ▸ pe_revT he
/-! within a part -/
def rSlD : V → Option Int → Option Int → Hp → VK → Prop := fun x lo hi H Q => ∃ G a xs, x = .ref a ∧ Same G H ∧ G a = some (.tup xs) ∧ ∀ p H' G', Grow H G H' G' → G' p = some (.tup (cutV xs lo hi)) → Q (.ref p) H'
theorem aSlD : SlR X rSlD := by
  intro pins s σ H x v vl vu lo hi sl Q I rx hs pl pu h
  obtain ⟨G, a, xs, rfl, sG, hx, q⟩ := h
  refine sl_tupA pins s σ H _ v vl vu lo hi sl Q I rx hs pl pu ⟨a, xs, rfl, .of (sG _ _ hx), fun e => q a H G (Grow.refl sG) ?_, fun _ p hp => q p _ _ (Grow.new sG hp) upd_same⟩
  unfold cutV
  rw [e.1, e.2, List.drop_zero, Nat.sub_zero, List.take_of_length_le (Nat.le_refl _)]
  exact hx
def rCatD : R2 := fun x y H Q => ∃ G a b xs ys, x = .ref a ∧ y = .ref b ∧ Same G H ∧ G a = some (.tup xs) ∧ G b = some (.tup ys) ∧ xs.length + ys.length ≤ sizeLine ∧ ∀ p H' G', Grow H G H' G' → G' p = some (.tup (xs ++ ys)) → Q (.ref p) H'
theorem aCatD : OpR X (binaryOp .Add) rCatD := by
  intro pins s σ H x y v u Q I rx ry h
  obtain ⟨G, a, b, xs, ys, rfl, rfl, sG, h1, h2, l, q⟩ := h
  refine op_catA pins s σ H _ _ v u Q I rx ry ⟨a, b, xs, ys, rfl, rfl, .of (sG _ _ h1), .of (sG _ _ h2), l, fun e => q b H G (Grow.refl sG) ?_, fun _ e => q a H G (Grow.refl sG) ?_, fun _ _ p hp => q p _ _ (Grow.new sG hp) upd_same⟩
  · subst e
    exact h2
  · subst e
    rw [List.append_nil]
    exact h1
def tRevD (te : TE) : TE := fun σ H Q => te σ H fun x H1 => ∃ G a xs, x = .ref a ∧ Same G H1 ∧ G a = some (.tup xs) ∧ ∀ p H' G', Grow H1 G H' G' → G' p = some (.tup xs.reverse) → Q (.ref p) H'
end
end Vf
namespace Vf
open PySem L2 PyProof.Rows PySem.Spec
/-! ## lists that are grown step by step, beside a part -/
theorem Grow.at_ {H G H' : Hp} {p : Addr} {o : HO} (s0 : Same G H) (s : Same H H') (n : H p = none) (e : H' p = some o) : Grow H G H' (upd G p o) := by
  refine ⟨s, same_upd (s0.free n), fun b u eb => ?_, fun b h1 h2 => ?_⟩
  · by_cases hb : b = p
    · subst hb
      rw [upd_same] at eb
      rw [e]
      exact eb
    · rw [upd_ne hb] at eb
      exact s _ _ (s0 _ _ eb)
  · rw [upd_ne fun z => h1 (by rw [z]; exact n)]
    exact h2
theorem Grow.same {H G H' : Hp} (s0 : Same G H) (s : Same H H') : Grow H G H' G := ⟨s, Same.refl G, s0.trans s, Only.refl H G⟩
theorem Grow.setp {H G H1 G1 : Hp} {p : Addr} {o : HO} (g : Grow H G H1 G1) (n : H p = none) (ng : G1 p = none) : Grow H G (upd H1 p o) G1 :=
  ⟨fun b u e => by
    rw [upd_ne fun z => by rw [z, n] at e; cases e]
    exact g.big b u e, g.part, fun b u e => by
    rw [upd_ne fun z => by rw [z, ng] at e; cases e]
    exact g.sub b u e, g.only⟩
def noHp : Hp := fun _ => none
theorem noHp_sub (H : Hp) : Same noHp H := fun _ _ e => by cases e
/-- a new list of things that lie in a part and in what is new -/
def GotL (H G : Hp) (ds : List PyData) (Q : VK) : Prop := ∀ (p : Addr) (xs : List V) (H1 H2 G' : Hp), Grow H G H1 G' → DvAll G' xs ds → H1 p = none → Same H1 H2 → H2 p = some (.lst xs) → Q (.ref p) H2
/-- a list under way: at p, apart from the part -/
structure Lst (H H1 G1 : Hp) (p : Addr) (ds : List PyData) : Prop where
  new : H p = none
  grow : Grow H noHp H1 G1
  out : G1 p = none
  has : ∃ xs, H1 p = some (.lst xs) ∧ DvAll G1 xs ds
theorem Lst.more {H H1 G1 H2 G2 : Hp} {p : Addr} {ds : List PyData} (l : Lst H H1 G1 p ds) (g : Grow H1 G1 H2 G2) : Lst H H2 G2 p ds := by
  obtain ⟨xs, e, h⟩ := l.has
  exact ⟨l.new, l.grow.trans g, g.only p (by rw [e]; nofun) l.out, xs, g.big _ _ e, h.same g.part⟩
end Vf
namespace Vf
open PySem L2 PyProof.Rows PySem.Spec
def top (i : Nat) : Stmt := PySem.Challenge.pw_poisonrules_k40_what_machines_let.main.body.getD i (.Pass ⟨0, 0, 0, 0⟩)
structure Tx (K : PySem.W.Frag) (mg : Str → Option Value) : Prop where
  isinstance : mg "isinstance" = none
  bool : mg "bool" = none
  tuple : mg "tuple" = none
  len : mg "len" = none
  sum : mg "sum" = none
  list : mg "list" = none
  range : mg "range" = none
theorem rEq_int {i j : Int} {H : Hp} {Q : VK} : rEq (.int i) (.int j) H Q = Q (.bl (decide (i = j))) H := by
  have e : decide (V.int i = V.int j) = decide (i = j) := by simp
  unfold rEq
  rw [e]
  exact propext ⟨fun h => h.2, fun h => ⟨rfl, h⟩⟩
theorem rEq_str {i j : Str} {H : Hp} {Q : VK} : rEq (.str i) (.str j) H Q = Q (.bl (decide (i = j))) H := by
  have e : decide (V.str i = V.str j) = decide (i = j) := by simp
  unfold rEq
  rw [e]
  exact propext ⟨fun h => h.2, fun h => ⟨rfl, h⟩⟩
theorem iteY {c : Bool} {A B : Prop} (h : c = true) (a : A) : if c = true then A else B := by rw [if_pos h]; exact a
theorem iteN {c : Bool} {A B : Prop} (h : c = false) (b : B) : if c = true then A else B := by rw [if_neg (by rw [h]; exact Bool.false_ne_true)]; exact b
theorem line_le' {n : Nat} (h : n ≤ 1000000) : n ≤ sizeLine := by
  rw [sizeLine_eq]
  omega
theorem Same.seqT {K : PySem.W.Frag} {H H' : Hp} {a : Addr} {xs : List V} (e : Same H H') (h : SqT K H a xs) : SqT K H' a xs := by
  rcases h with (h | ⟨o, h⟩) | h
  · exact .inl (.inl (e _ _ h))
  · exact .inl (.inr ⟨o, e _ _ h⟩)
  · exact .inr h
theorem at0 {x : V} {xs : List V} : atI (x :: xs) 0 = some x := by
  unfold atI ixN
  rw [if_pos (Int.le_refl 0), if_pos (by simp only [List.length_cons]; omega)]
  rfl
theorem at1 {x y : V} {xs : List V} : atI (x :: y :: xs) 1 = some y := by
  unfold atI ixN
  rw [if_pos (by decide), if_pos (by simp only [List.length_cons]; omega)]
  rfl
theorem at2 {x y z : V} {xs : List V} : atI (x :: y :: z :: xs) 2 = some z := by
  unfold atI ixN
  rw [if_pos (by decide), if_pos (by simp only [List.length_cons]; omega)]
  rfl
theorem at3 {x y z u : V} {xs : List V} : atI (x :: y :: z :: u :: xs) 3 = some u := by
  unfold atI ixN
  rw [if_pos (by decide), if_pos (by simp only [List.length_cons]; omega)]
  rfl
theorem DvAll.drop {H : Hp} : ∀ {n : Nat} {vs : List V} {ds : List PyData}, DvAll H vs ds → DvAll H (vs.drop n) (ds.drop n)
  | 0, _, _, h => h
  | n + 1, _, _, .nil => .nil
  | n + 1, _, _, .cons _ t => DvAll.drop (n := n) t
theorem DvAll.append {H : Hp} : ∀ {vs ws : List V} {ds es : List PyData}, DvAll H vs ds → DvAll H ws es → DvAll H (vs ++ ws) (ds ++ es)
  | _, _, _, _, .nil, h => h
  | _, _, _, _, .cons a t, h => .cons a (t.append h)
theorem atI_nat {α : Type} {xs : List α} {i : Nat} (h : i < xs.length) : atI xs (i : Int) = some xs[i] := by
  unfold atI ixN
  rw [if_pos (by omega), if_pos (by omega)]
  exact List.getElem?_eq_getElem h
end Vf
namespace Vf
open PySem L2 PyProof.Rows PySem.Spec

local macro_rules | `(tactic| walk_at "rd") => `(tactic| simp only [tSeq, tIfS, tOr, tAnd, tNot, tB, tTest, tChain, tCB, tCons, tNil, tVar, tC, tRet, tAndV, tOrV, tNotV, tOp, tNext, tDrop, tAsg, tPar, tYes, tIf, tCall, tCalK, tTup, tLst, tSl, tNoPart, tPart, tM0, tM1, tRevL, tBM0, tBM, gName, rI0, rI, rU, rInA, rEqA, rAddA, rMulA, rSlAny, iAny, rIsi, rAll, rAny, rSum, rList, rTuple, rLen, rLenS, rLenSeq, rMulS, CDiv, rIn, rEqD, rNeD, iList, iTup, iStr, rCat, rCatA, rSlL, rSlA, rSlS, gSub, rPop, rAppend, rSetL, rIx, rIxL, rIxT, rIxS, LenV,
  L2.start, List.map_cons, List.map_nil, List.length_cons, List.length_nil, List.cons_append, List.nil_append, List.append_nil, Nat.zero_add, Nat.add_sub_cancel, Nat.sub_self, List.replicate_succ, List.replicate_zero, List.getElem?_cons_zero, List.getElem?_cons_succ, List.set_cons_zero, List.set_cons_succ,
  Option.some.injEq, V.int.injEq, V.str.injEq, V.bl.injEq, V.ref.injEq, List.cons.injEq, and_true, true_and, exists_eq_left', exists_eq_left, exists_eq_right, exists_and_left, exists_and_right, false_or, or_false, reduceCtorEq, false_and, and_false, exists_false, Bool.not_true, Bool.not_false, if_true, if_false, Bool.false_eq_true, ite_true, ite_false])
/-- a deck: its own list of what is left, its sum, its turn -/
structure Deck (H : Hp) (d c : Addr) : Prop where
  ne : c ≠ d
  own : ∃ t n : Int, H d = some (.lst [.ref c, .int t, .int n])
  cells : ∃ ns : List Int, H c = some (.lst (ns.map V.int)) ∧ ns.length ≤ 63
/-- all but the deck stays -/
def Sv (d c : Addr) (H H' : Hp) : Prop := ∀ b o, H b = some o → b ≠ d → b ≠ c → H' b = some o
theorem ne_upd {H : Hp} {p a : Addr} {o u : HO} (h : H p = none) (e : H a = some o) : (upd H p u) a = some o := same_upd h _ _ e
theorem dp_ints {K : PySem.W.Frag} {H : Hp} : ∀ ns : List Int, DpAll K H (ns.map V.int) (ns.map PyData.int)
  | [] => .nil
  | n :: ns => .cons (.int n) (dp_ints ns)
theorem list_end {α : Type} (l : List α) : l = [] ∨ ∃ r z, l = r ++ [z] := by
  rcases List.eq_nil_or_concat l with e | ⟨r, z, e⟩
  · exact .inl e
  · exact .inr ⟨r, z, by rw [e, List.concat_eq_append]⟩
theorem lay_ints : ∀ ns : List Int, PyData.canLayAll0 (ns.map PyData.int) = true ∧ PyData.depthAll (ns.map PyData.int) = 0
  | [] => ⟨rfl, rfl⟩
  | n :: ns => by
    obtain ⟨h1, h2⟩ := lay_ints ns
    simp [PyData.canLayAll0, PyData.canLay0, PyData.depthAll, PyData.depth, h1, h2]
theorem shaped_ints (ns : List Int) : SeqAt.shaped (.list (ns.map PyData.int)) = true := by
  obtain ⟨h1, h2⟩ := lay_ints ns
  simp [SeqAt.shaped, PyData.canLay0, PyData.depth, h1, h2]
theorem Sv.refl (d c : Addr) (H : Hp) : Sv d c H H := fun _ _ e _ _ => e
theorem Sv.trans {d c : Addr} {H H1 H2 : Hp} (a : Sv d c H H1) (b : Sv d c H1 H2) : Sv d c H H2 := fun x o e n1 n2 => b x o (a x o e n1 n2) n1 n2
theorem Sv.new {d c p : Addr} {H H1 : Hp} {o : HO} (a : Sv d c H H1) (n : H1 p = none) : Sv d c H (upd H1 p o) := fun x u e n1 n2 => same_upd n _ _ (a x u e n1 n2)
theorem Sv.deck {d c : Addr} {H H1 : Hp} {o : HO} (a : Sv d c H H1) : Sv d c H (upd H1 d o) := fun x u e n1 n2 => by
  rw [upd_ne n1]
  exact a x u e n1 n2
theorem Sv.cell {d c : Addr} {H H1 : Hp} {o : HO} (a : Sv d c H H1) : Sv d c H (upd H1 c o) := fun x u e n1 n2 => by
  rw [upd_ne n2]
  exact a x u e n1 n2
theorem Same.sv {d c : Addr} {H H1 : Hp} (a : Same H H1) : Sv d c H H1 := fun x u e _ _ => a x u e
section
variable {P : Program} {w : World} {K : PySem.W.Frag} {mg : Str → Option Value} {base : Heap}
def spDraw : Sp := fun vs H Q _ => ∃ (d c : Addr) (m : Int), vs = [.ref d, .int m] ∧ Deck H d c ∧ 0 < m ∧ m < 1073741824 ∧ ∀ (r : Int) (H' : Hp), 0 ≤ r → r < m → Deck H' d c → Sv d c H H' → Q (.int r) H'
abbrev s__law_draw : Stmt := top 5
theorem sc__law_draw : FnScope ["_law_deck_here", "_law_many", "_law_cell", "_law_mixed"] ["_law_deck_here", "_law_many"] (defScope s__law_draw) := ⟨rfl, rfl, rfl, by decide +kernel, rfl, by decide +kernel, by decide +kernel⟩
theorem ok__law_draw {f : Addr} {fd : FuncData} (D : Df K mg "_law_draw" s__law_draw f fd) (T : Tx K mg) : Cal P w K mg base "_law_draw" ["_law_deck_here", "_law_many"] 1 spDraw := by
  refine D.cal sc__law_draw (fun vs H Q E h => ?_) (fun _ _ _ _ _ _ us hl => match us, hl with | [_, _], _ => rfl) (fun cdv A outer s H vs Q E hgu hr h => ?_)
  · obtain ⟨d, c, m, rfl, _⟩ := h
    rfl
  · obtain ⟨d, c, m, rfl, ⟨ne, ⟨t, n, hd⟩, ⟨ns, hc, hn⟩⟩, m0, m1, q⟩ := h
    refine ⟨_, (pss_cons (ps_asg (pe_op op_add (pe_ix (aIxL (K := K) rfl) (pv 0) pe_int (fun _ _ => rfl)) pe_int) (pg_sub (pv 0) pe_int set_list)) (pss_cons (ps_set (i := 2) sc__law_draw.nd rfl (by first | exact Or.inl rfl | exact Or.inr rfl) (pe_ix (aIxL (K := K) rfl) (pv 0) pe_int (fun _ _ => rfl))) (pss_cons (ps_if (pt_cmpR (aNeD (K := K) rfl hr.units) (pe_ix (aIxL (K := K) rfl) (pv 0) pe_int (fun _ _ => rfl)) (pe_lst pa_nil) (by rfl)) (pss_cons (ps_set (i := 2) sc__law_draw.nd rfl (by first | exact Or.inl rfl | exact Or.inr rfl) (pe_bm0 PySem.F.plainAttrs_list PySem.F.slot_list_pop PySem.F.type_list_pop mt_pop (pe_ix (aIxL (K := K) rfl) (pv 0) pe_int (fun _ _ => rfl)))) (pss_one (ps_if (pt_cmpR op_ge (pv 2) (pe_op op_pow pe_int pe_int) (by rfl)) (pss_cons (ps_expr (pe_bm PySem.F.plainAttrs_list PySem.F.slot_list_append PySem.F.type_list_append mt_append (pe_ix (aIxL (K := K) rfl) (pv 0) pe_int (fun _ _ => rfl)) (pa_cons (pe_op op_fdiv (pv 2) (pv 1)) pa_nil))) (pss_one (ps_ret (pe_op op_mod (pv 2) (pv 1))))) pss_nil))) pss_nil) (pss_cons (ps_set (i := 3) sc__law_draw.nd rfl (by first | exact Or.inl rfl | exact Or.inr rfl) (pe_op op_mod (pe_op op_mul (pe_op op_add (pe_op op_add (pe_op op_mod (pv 2) pe_int) (pe_op op_mul pe_int (pe_ix (aIxL (K := K) rfl) (pv 0) pe_int (fun _ _ => rfl)))) pe_int) pe_int) pe_int)) (pss_cons (ps_set (i := 3) sc__law_draw.nd rfl (by first | exact Or.inl rfl | exact Or.inr rfl) (pe_op op_mod (pe_op op_add (pe_op op_add (pe_op op_mul (pv 3) (pv 3)) (pe_op op_mul pe_int (pe_ix (aIxL (K := K) rfl) (pv 0) pe_int (fun _ _ => rfl)))) pe_int) pe_int)) (pss_one (ps_ret (pe_op op_mod (pe_op op_fdiv (pe_op op_mod (pe_op op_add (pe_op op_mul (pv 3) (pv 3)) (pe_op op_mul pe_int (pv 3))) pe_int) pe_int) (pv 1))))))))), ?_⟩
    walk_at "rd"
    refine ⟨_, .of hd, .int n, rfl, n, rfl, _, hd, 2, rfl, _, .of upd_same, .int t, rfl, _, .of upd_same, .ref c, rfl, Nat.zero_le _, fun p hp => ?_⟩
    change upd H d (.lst [V.ref c, .int t, .int (n + 1)]) p = none at hp
    have hc1 : (upd H d (.lst [V.ref c, .int t, .int (n + 1)])) c = some (.lst (ns.map V.int)) := by rw [upd_ne ne]; exact hc
    have hc2 := ne_upd (u := .lst []) hp hc1
    have hd2 := ne_upd (u := .lst []) hp (upd_same (H := H) (a := d) (o := .lst [V.ref c, .int t, .int (n + 1)]))
    have npc : p ≠ c := fun e => by rw [e, hc1] at hp; cases hp
    have npd : p ≠ d := fun e => by rw [e, upd_same] at hp; cases hp
    have sv : Sv d c H (upd (upd H d (.lst [V.ref c, .int t, .int (n + 1)])) p (.lst [])) := (Sv.refl d c H).deck.new hp
    refine ⟨_, .lst (.of hc2) (dp_ints ns), _, .lst (.of upd_same) .nil, shaped_ints ns, rfl, ?_⟩
    have hm : ∀ a b : Int, 0 < b → b < 2 ^ 64 → CMul (a % b) (a % b) := fun a b b0 b1 => .inl ⟨by have := Int.emod_nonneg a (show b ≠ 0 by omega); omega, by have := Int.emod_lt_of_pos a b0; omega⟩
    have hq : ∀ (r : Int) (H3 : Hp) (ms : List Int), H3 d = some (.lst [V.ref c, .int t, .int (n + 1)]) → H3 c = some (.lst (ms.map V.int)) → ms.length ≤ 63 → Sv d c H H3 → Q (.int (r % m)) H3 := fun r H3 ms e1 e2 l s =>
      q _ H3 (Int.emod_nonneg r (by omega)) (Int.emod_lt_of_pos r m0) ⟨ne, ⟨_, _, e1⟩, ⟨ms, e2, l⟩⟩ s
    rcases list_end ns with rfl | ⟨ns', z, rfl⟩
    · rw [if_neg (by decide)]
      refine ⟨_, rfl, by decide, _, .of hd2, _, rfl, n + 1, rfl, .inl (by decide), .inr (by decide), by decide, hm _ _ (by decide) (by decide), _, .of hd2, _, rfl, n + 1, rfl, .inl (by decide), by decide, hm _ _ (by decide) (by decide), .inl (by decide), by decide, by decide, m0, ?_⟩
      exact hq _ _ [] hd2 hc2 (by decide) sv
    · rw [if_pos (by cases ns' <;> rfl)]
      have e1 : (ns' ++ [z]).map V.int = ns'.map V.int ++ [V.int z] := by simp
      rw [List.length_append] at hn
      have hn' : ns'.length + 1 ≤ 63 := hn
      refine ⟨_, .of hd2, _, rfl, .inl ⟨rfl, _, .of hc2⟩, c, rfl, _, hc2, .int z, by rw [e1]; simp, ⟨by decide, by decide, by decide⟩, z, rfl, ?_⟩
      have e2 : ((ns' ++ [z]).map V.int).dropLast = ns'.map V.int := by rw [e1]; simp
      rw [e2]
      have sv2 := sv.cell (o := .lst (ns'.map V.int))
      have hd3 : (upd (upd (upd H d (.lst [V.ref c, .int t, .int (n + 1)])) p (.lst [])) c (.lst (ns'.map V.int))) d = some (.lst [V.ref c, .int t, .int (n + 1)]) := by
        rw [upd_ne ne.symm]
        exact hd2
      by_cases hz : (10 : Int) ^ (18 : Int).toNat ≤ z
      · rw [if_pos (decide_eq_true hz)]
        refine ⟨_, .of hd3, _, rfl, .inl ⟨rfl, _, .of upd_same⟩, z, rfl, ⟨m0, m1⟩, c, rfl, _, upd_same, by rw [List.length_map]; exact small1000 (by omega), z, rfl, m0, ?_⟩
        refine hq _ _ (ns' ++ [z / m]) ?_ ?_ (by rw [List.length_append]; exact hn') sv2.cell
        · rw [upd_ne ne.symm]
          exact hd3
        · rw [upd_same]
          simp
      · rw [if_neg (by rw [decide_eq_false hz]; decide)]
        refine ⟨_, rfl, by decide, _, .of hd3, _, rfl, n + 1, rfl, .inl (by decide), .inr (by decide), by decide, hm _ _ (by decide) (by decide), _, .of hd3, _, rfl, n + 1, rfl, .inl (by decide), by decide, hm _ _ (by decide) (by decide), .inl (by decide), by decide, by decide, m0, ?_⟩
        exact hq _ _ ns' hd3 upd_same (by omega) sv2
end
end Vf
namespace Vf
open PySem L2 PyProof.Rows PySem.Spec

local macro_rules | `(tactic| walk_at "rd") => `(tactic| simp only [tSeq, tIfS, tOr, tAnd, tNot, tB, tTest, tChain, tCB, tCons, tNil, tVar, tC, tRet, tAndV, tOrV, tNotV, tOp, tNext, tDrop, tAsg, tPar, tYes, tIf, tCall, tCalK, tTup, tLst, tSl, tNoPart, tPart, tM0, tM1, tRevL, tBM0, tBM, gName, rI0, rI, rU, rInA, rEqA, rAddA, rMulA, rSlAny, iAny, rIsi, rAll, rAny, rSum, rList, rTuple, rLen, rLenS, rLenSeq, rMulS, CDiv, rIn, rEqD, rNeD, iList, iTup, iStr, rCat, rCatA, rSlL, rSlA, rSlS, gSub, rPop, rAppend, rSetL, rIx, rIxL, rIxT, rIxS, LenV,
  L2.start, List.map_cons, List.map_nil, List.length_cons, List.length_nil, List.cons_append, List.nil_append, List.append_nil, Nat.zero_add, Nat.add_sub_cancel, Nat.sub_self, List.replicate_succ, List.replicate_zero, List.getElem?_cons_zero, List.getElem?_cons_succ, List.set_cons_zero, List.set_cons_succ,
  Option.some.injEq, V.int.injEq, V.str.injEq, V.bl.injEq, V.ref.injEq, List.cons.injEq, and_true, true_and, exists_eq_left', exists_eq_left, exists_eq_right, exists_and_left, exists_and_right, false_or, or_false, reduceCtorEq, false_and, and_false, exists_false, Bool.not_true, Bool.not_false, if_true, if_false, Bool.false_eq_true, ite_true, ite_false])
theorem line_le {n : Nat} (h : n ≤ 1000000) : n ≤ sizeLine := by
  rw [sizeLine_eq]
  omega
theorem atI_in {α : Type} {xs : List α} {i : Int} (h0 : 0 ≤ i) (h1 : i < xs.length) : ∃ x, atI xs i = some x ∧ x ∈ xs := by
  have h2 : i.toNat < xs.length := by omega
  refine ⟨xs[i.toNat], ?_, List.getElem_mem h2⟩
  unfold atI ixN
  rw [if_pos h0, if_pos h1]
  exact List.getElem?_eq_getElem h2
theorem cutV_to (xs : List V) (n : Nat) : cutV xs none (some (n : Int)) = xs.take n := by
  unfold cutV
  rw [HT.sIx_none, HT.sIx_nat, List.drop_zero, Nat.sub_zero]
  by_cases h : n ≤ xs.length
  · rw [Nat.min_eq_left h]
  · rw [Nat.min_eq_right (by omega), List.take_of_length_le (by omega), List.take_of_length_le (by omega)]
def modV (x : V) : V := match x with
  | .int i => .int (i % 1000003)
  | _ => .non
theorem dp_strs {K : PySem.W.Frag} {H : Hp} : ∀ l : List Str, DpAll K H (l.map V.str) (l.map PyData.str)
  | [] => .nil
  | x :: l => .cons (.str x) (dp_strs l)
theorem lay_strs : ∀ l : List Str, (∀ x ∈ l, PyData.strOk x = true) → PyData.canLayAll0 (l.map PyData.str) = true ∧ PyData.depthAll (l.map PyData.str) = 0
  | [], _ => ⟨rfl, rfl⟩
  | x :: l, h => by
    obtain ⟨h1, h2⟩ := lay_strs l fun y hy => h y (List.mem_cons_of_mem _ hy)
    have h0 := h x List.mem_cons_self
    simp [PyData.canLayAll0, PyData.canLay0, PyData.depthAll, PyData.depth, h1, h2, h0]
theorem shaped_strs (l : List Str) (h : ∀ x ∈ l, PyData.strOk x = true) : SeqAt.shaped (.list (l.map PyData.str)) = true := by
  obtain ⟨h1, h2⟩ := lay_strs l h
  simp [SeqAt.shaped, PyData.canLay0, PyData.depth, h1, h2]
section
variable {P : Program} {w : World} {K : PySem.W.Frag} {mg : Str → Option Value} {base : Heap}
def spDeck (K : PySem.W.Frag) : Sp := fun vs H Q _ => ∃ (a : Addr) (ns : List Int), vs = [.ref a] ∧ SqL K H a (ns.map V.int) ∧ ns.length ≤ 63 ∧ ∀ (d c : Addr) (H' : Hp), Same H H' → H d = none → H c = none → Deck H' d c → Q (.ref d) H'
abbrev s__law_deck : Stmt := top 4
theorem sc__law_deck : FnScope ["_law_script", "_law_cells", "_law_cell"] ["_law_script"] (defScope s__law_deck) := ⟨rfl, rfl, rfl, by decide +kernel, rfl, by decide +kernel, by decide +kernel⟩
theorem ok__law_deck {f : Addr} {fd : FuncData} (D : Df K mg "_law_deck" s__law_deck f fd) (T : Tx K mg) : Cal P w K mg base "_law_deck" ["_law_script"] 1 (spDeck K) := by
  refine D.cal sc__law_deck (fun vs H Q E h => ?_) (fun _ _ _ _ _ _ us hl => match us, hl with | [_], _ => rfl) (fun cdv A outer s H vs Q E hgu hr h => ?_)
  · obtain ⟨a, ns, rfl, _⟩ := h
    rfl
  · obtain ⟨a, ns, rfl, ha, hn, q⟩ := h
    refine ⟨_, (pss_cons (ps_set (i := 1) sc__law_deck.nd rfl (by first | exact Or.inl rfl | exact Or.inr rfl) (pe_callTy (aList (K := K) rfl) (by rfl) T.list (by decide +kernel) (pa_cons (pe_slice (aSlL (K := K) rfl) (pv 0) po_none (po_some pe_int)) pa_nil))) (pss_one (ps_ret (pe_lst (pa_cons (aRev (K := K) rfl (pv 1)) (pa_cons (pe_op op_add (pe_callB (aSum (K := K) rfl rfl) (by rfl) T.sum (by decide +kernel) (pa_cons (pe_lc (own := [("_law_cell", 2)]) (g := gName 2) (tt := tYes) (by rfl) sc__law_deck.nd (aWalkL (K := K) rfl (pv 1)) (blkOk_by (own := [("_law_cell", 2)]) (N := ["_law_script", "_law_cells", "_law_cell"]) (sc := defScope s__law_deck) (by decide +kernel)) (fun _ _ _ _ _ => (pg_name (i := 2) sc__law_deck.nd rfl (Or.inl rfl))) (fun _ _ _ _ _ => pts_nil) (fun _ _ _ _ _ => (pe_op op_mod (pv 2) pe_int))) pa_nil)) (pe_op op_mul pe_int (pe_callB (aLenSeq (K := K) rfl) (by rfl) T.len (by decide +kernel) (pa_cons (pv 1) pa_nil)))) (pa_cons pe_int pa_nil))))))), ?_⟩
    walk_at "rd"
    have ec : cutV (ns.map V.int) none (some 63) = ns.map V.int := by
      rw [show (63 : Int) = ((63 : Nat) : Int) from rfl, cutV_to, List.take_of_length_le (by rw [List.length_map]; exact hn)]
    refine ⟨_, ha, fun p hp => ⟨_, .inl (.of upd_same), fun l hl => ⟨_, .of upd_same, fun r hr => ?_⟩⟩⟩
    rw [ec] at hl hr ⊢
    have s1 := same_upd (o := .lst (ns.map V.int)) hp
    have s2 := s1.trans (same_upd (o := .lst (ns.map V.int)) hl)
    have s3 := s2.trans (same_upd (o := .lst (ns.map V.int).reverse) hr)
    have hl3 := ne_upd (u := .lst (ns.map V.int).reverse) hr (upd_same (H := upd H p (.lst (ns.map V.int))) (a := l) (o := .lst (ns.map V.int)))
    refine ⟨.ref l, rfl, l, rfl, ⟨_, .of hl3⟩, fun L hL => lc_pure (steps_list K l (ns.map V.int)) (fun _ => true) modV (fun acc => seqL_upd hL (.of hl3)) (line_le (by rw [List.length_map]; omega)) ?_ ?_ ?_ ?_⟩
    · exact fun _ => rfl
    · exact fun x _ acc R r => r
    · intro x hm _ acc R r
      obtain ⟨i, _, rfl⟩ := List.mem_map.mp hm
      exact ⟨_, rfl, _, _, rfl, rfl, show (0 : Int) < 1000003 by decide, r⟩
    · have em : (((ns.map V.int).filter fun _ => true).map modV) = (ns.map (· % 1000003)).map V.int := by
        rw [List.filter_eq_self.mpr fun _ _ => rfl, List.map_map, List.map_map]
        rfl
      have hl4 := ne_upd (u := .lst (((ns.map V.int).filter fun _ => true).map modV)) hL hl3
      refine ⟨L, rfl, ns.map (· % 1000003), .of (by rw [upd_same, em]), _, .inl (.of hl4), .inl (by decide), line_le (by decide), fun z hz => ?_⟩
      have s4 := s3.trans (same_upd (o := .lst (((ns.map V.int).filter fun _ => true).map modV)) hL)
      have hr4 := ne_upd (u := .lst (((ns.map V.int).filter fun _ => true).map modV)) hL (upd_same (H := upd (upd H p (.lst (ns.map V.int))) l (.lst (ns.map V.int))) (a := r) (o := .lst (ns.map V.int).reverse))
      refine q z r _ (s4.trans (same_upd hz)) (s4.free hz) (s2.free hr) ⟨fun e => ?_, ⟨_, _, upd_same⟩, ⟨ns.reverse, ?_, by rw [List.length_reverse]; exact hn⟩⟩
      · rw [← e, hr4] at hz
        cases hz
      · rw [List.map_reverse]
        exact ne_upd hz hr4
end
theorem Sv.free {d c p : Addr} {H H' : Hp} (v : Sv d c H H') (k : Deck H' d c) (h : H' p = none) : H p = none := by
  cases e : H p with
  | none => rfl
  | some o =>
    obtain ⟨_, ⟨t, n, hd⟩, ⟨ns, hc, _⟩⟩ := k
    have n1 : p ≠ d := fun z => by rw [z, hd] at h; cases h
    have n2 : p ≠ c := fun z => by rw [z, hc] at h; cases h
    rw [v p o e n1 n2] at h
    cases h
theorem wholes_at {lo : Int} {n i : Nat} {x : V} (h : (wholes lo n)[i]? = some x) : i < n ∧ x = .int (lo + (i : Nat)) := by
  have hi := (List.getElem?_eq_some_iff.mp h).1
  rw [wholes_len] at hi
  refine ⟨hi, ?_⟩
  unfold wholes at h
  rw [List.getElem?_map, List.getElem?_range hi] at h
  exact (Option.some.inj h).symm
theorem Deck.same {d c : Addr} {H H' : Hp} (k : Deck H d c) (s : Same H H') : Deck H' d c := by
  obtain ⟨ne, ⟨t, n, hd⟩, ⟨ns, hc, hn⟩⟩ := k
  exact ⟨ne, ⟨t, n, s _ _ hd⟩, ⟨ns, s _ _ hc, hn⟩⟩
theorem Deck.off {d c p : Addr} {H : Hp} {o : HO} (k : Deck H d c) (n1 : p ≠ d) (n2 : p ≠ c) : Deck (upd H p o) d c := by
  obtain ⟨ne, ⟨t, n, hd⟩, ⟨ns, hc, hn⟩⟩ := k
  exact ⟨ne, ⟨t, n, by rw [upd_ne n1.symm]; exact hd⟩, ⟨ns, by rw [upd_ne n2.symm]; exact hc, hn⟩⟩
theorem Deck.fresh {d c p : Addr} {H : Hp} (k : Deck H d c) (h : H p = none) : p ≠ d ∧ p ≠ c := by
  obtain ⟨ne, ⟨t, n, hd⟩, ⟨ns, hc, hn⟩⟩ := k
  exact ⟨fun z => (by rw [z, hd] at h; cases h), fun z => (by rw [z, hc] at h; cases h)⟩
theorem seq_cut {t u : TS} {D : Ends} {σ : L2.St} {H : Hp} (h : ∀ u', u' = u → tSeq t u' D σ H) : tSeq t u D σ H := h u rfl
/-! ## a part of the heap, without the deck; what grows beside draws -/
structure Pt (d c : Addr) (H G : Hp) : Prop where
  deck : Deck H d c
  sub : Same G H
  nd : G d = none
  nc : G c = none
structure GD (d c : Addr) (H G H' G' : Hp) : Prop where
  to : Pt d c H' G'
  big : Sv d c H H'
  part : Same G G'
  only : Only H G G'
theorem Deck.has {d c : Addr} {H : Hp} (k : Deck H d c) : H d ≠ none ∧ H c ≠ none := by
  obtain ⟨_, ⟨t, n, hd⟩, ⟨ns, hc, _⟩⟩ := k
  rw [hd, hc]
  exact ⟨nofun, nofun⟩
theorem Pt.keep {d c : Addr} {H G H' : Hp} (P : Pt d c H G) (v : Sv d c H H') (k : Deck H' d c) : GD d c H G H' G :=
  ⟨⟨k, fun b o e => v b o (P.sub b o e) (fun z => by rw [z, P.nd] at e; cases e) (fun z => by rw [z, P.nc] at e; cases e), P.nd, P.nc⟩, v, Same.refl G, Only.refl H G⟩
theorem Pt.refl {d c : Addr} {H G : Hp} (P : Pt d c H G) : GD d c H G H G := P.keep (Sv.refl d c H) P.deck
theorem Pt.same {d c : Addr} {H G H' : Hp} (P : Pt d c H G) (s : Same H H') : GD d c H G H' G := P.keep (Same.sv s) (P.deck.same s)
theorem Pt.grow {d c : Addr} {H G H' G' : Hp} (P : Pt d c H G) (g : Grow H G H' G') : GD d c H G H' G' :=
  ⟨⟨P.deck.same g.big, g.sub, g.only d P.deck.has.1 P.nd, g.only c P.deck.has.2 P.nc⟩, Same.sv g.big, g.part, g.only⟩
theorem GD.trans {d c : Addr} {H G H1 G1 H2 G2 : Hp} (a : GD d c H G H1 G1) (b : GD d c H1 G1 H2 G2) : GD d c H G H2 G2 := by
  refine ⟨b.to, a.big.trans b.big, a.part.trans b.part, fun x h1 h2 => b.only x (fun z => ?_) (a.only x h1 h2)⟩
  exact h1 (a.big.free a.to.deck z)
/-- a new thing, in the part -/
theorem Pt.at_ {d c p : Addr} {H G H' : Hp} {o : HO} (P : Pt d c H G) (s : Same H H') (n : H p = none) (e : H' p = some o) : GD d c H G H' (upd G p o) := by
  refine P.grow ⟨s, same_upd (P.sub.free n), fun b u eb => ?_, fun b h1 h2 => ?_⟩
  · by_cases hb : b = p
    · subst hb
      rw [upd_same] at eb
      rw [e]
      exact eb
    · rw [upd_ne hb] at eb
      exact s _ _ (P.sub _ _ eb)
  · rw [upd_ne fun z => h1 (by rw [z]; exact n)]
    exact h2
/-- a thing outside of the part is set -/
theorem Pt.set {d c p : Addr} {H G : Hp} {o : HO} (P : Pt d c H G) (n : G p = none) (n1 : p ≠ d) (n2 : p ≠ c) : Pt d c (upd H p o) G :=
  ⟨P.deck.off n1 n2, fun b u e => by
    rw [upd_ne fun z => by rw [z, n] at e; cases e]
    exact P.sub b u e, P.nd, P.nc⟩
theorem GD.setp {d c p : Addr} {H G H1 G1 : Hp} {o : HO} (a : GD d c H G H1 G1) (n : H p = none) (ng : G1 p = none) (n1 : p ≠ d) (n2 : p ≠ c) : GD d c H G (upd H1 p o) G1 :=
  ⟨a.to.set ng n1 n2, fun b u e nb nc => by
    rw [upd_ne fun z => by rw [z, n] at e; cases e]
    exact a.big b u e nb nc, a.part, a.only⟩
/-- a new thing is taken into the part -/
theorem GD.inc {d c p : Addr} {H G H' G' : Hp} {o : HO} (g : GD d c H G H' G') (n : H p = none) (ng : G' p = none) (e : H' p = some o) (n1 : p ≠ d) (n2 : p ≠ c) : GD d c H G H' (upd G' p o) := by
  refine ⟨⟨g.to.deck, fun b u eb => ?_, by rw [upd_ne n1.symm]; exact g.to.nd, by rw [upd_ne n2.symm]; exact g.to.nc⟩, g.big, g.part.trans (same_upd ng), fun b h1 h2 => ?_⟩
  · by_cases hb : b = p
    · subst hb
      rw [upd_same] at eb
      rw [e]
      exact eb
    · rw [upd_ne hb] at eb
      exact g.to.sub _ _ eb
  · rw [upd_ne fun z => h1 (by rw [z]; exact n)]
    exact g.only b h1 h2
theorem dv_at {H : Hp} : ∀ {ys : List V} {ds : List PyData} {i : Nat} {x : V}, DvAll H ys ds → ys[i]? = some x → ∃ d, ds[i]? = some d ∧ Dv H x d
  | _, _, i, x, .nil, e => by simp at e
  | _, _, 0, x, .cons h _, e => ⟨_, rfl, by simp at e; exact e ▸ h⟩
  | _, _, i + 1, x, .cons _ t, e => by
    obtain ⟨d, e1, h⟩ := dv_at (i := i) t (by simpa using e)
    exact ⟨d, by simpa using e1, h⟩
end Vf
namespace Vf
open PySem L2 PyProof.Rows PySem.Spec

local macro_rules | `(tactic| walk_at "rd") => `(tactic| simp only [tSeq, tIfS, tOr, tAnd, tNot, tB, tTest, tChain, tCB, tCons, tNil, tVar, tC, tRet, tAndV, tOrV, tNotV, tOp, tNext, tDrop, tAsg, tPar, tYes, tIf, tCall, tCalK, tTup, tLst, tSl, tNoPart, tPart, tM0, tM1, tRevL, tBM0, tBM, gName, rI0, rI, rU, rInA, rEqA, rAddA, rMulA, rSlAny, iAny, rIsi, rAll, rAny, rSum, rList, rTuple, rLen, rLenS, rLenSeq, rMulS, CDiv, rIn, rEqD, rNeD, iList, iTup, iStr, rCat, rCatA, rSlL, rSlA, rSlS, gSub, rPop, rAppend, rSetL, rIx, rIxL, rIxT, rIxS, LenV,
  L2.start, List.map_cons, List.map_nil, List.length_cons, List.length_nil, List.cons_append, List.nil_append, List.append_nil, Nat.zero_add, Nat.add_sub_cancel, Nat.sub_self, List.replicate_succ, List.replicate_zero, List.getElem?_cons_zero, List.getElem?_cons_succ, List.set_cons_zero, List.set_cons_succ,
  Option.some.injEq, V.int.injEq, V.str.injEq, V.bl.injEq, V.ref.injEq, List.cons.injEq, and_true, true_and, exists_eq_left', exists_eq_left, exists_eq_right, exists_and_left, exists_and_right, false_or, or_false, reduceCtorEq, false_and, and_false, exists_false, Bool.not_true, Bool.not_false, if_true, if_false, Bool.false_eq_true, ite_true, ite_false])
local macro_rules | `(tactic| walk_at "rq") => `(tactic| (walk_at "rd"; (try simp only [rEq_int, rEq_str, tUn, rU, tC, rInT, rInK, rIxK, rExtendT, rSlU, rCatU, rEqE, tTupU, tLstU, tDL, tD, V.int.injEq, V.str.injEq, V.bl.injEq, V.ref.injEq, exists_eq_left', exists_eq_left, Bool.false_bne, Bool.false_xor, Bool.true_xor]); (try walk_at "rd"); (try (simp only [tTupU, tLstU, tDL, tD]; try walk_at "rd"))))
/-! ## machines -/
abbrev Mach := List (Bool × List Nat)
def Row (H : Hp) (a : Addr) (ns : List Nat) : Prop := H a = some (.tup (ns.map fun n => V.int ((n : Nat) : Int)))
def Mch (H : Hp) (a : Addr) (m : Mach) : Prop := ∃ xs : List V, H a = some (.tup xs) ∧ xs.length = m.length ∧ ∀ (i : Nat) (r : Bool × List Nat), m[i]? = some r → ∃ b t : Addr, xs[i]? = some (.ref b) ∧ H b = some (.tup [.bl r.1, .ref t]) ∧ Row H t r.2
theorem Row.same {H H' : Hp} {a : Addr} {ns : List Nat} (s : Same H H') (h : Row H a ns) : Row H' a ns := s _ _ h
theorem Mch.same {H H' : Hp} {a : Addr} {m : Mach} (s : Same H H') (h : Mch H a m) : Mch H' a m := by
  obtain ⟨xs, e, l, f⟩ := h
  refine ⟨xs, s _ _ e, l, fun i r hr => ?_⟩
  obtain ⟨b, t, h1, h2, h3⟩ := f i r hr
  exact ⟨b, t, h1, s _ _ h2, h3.same s⟩
def spot (ns : List Nat) (p : Nat) : Nat := ns.foldl (fun a n => 2 * a + n / 2 ^ p % 2) 0
theorem spot_end (ns : List Nat) (n p : Nat) : spot (ns ++ [n]) p = 2 * spot ns p + n / 2 ^ p % 2 := by simp [spot, List.foldl_append]
theorem spot_lt (p : Nat) : ∀ ns : List Nat, spot ns p < 2 ^ ns.length := by
  intro ns
  rcases List.eq_nil_or_concat ns with rfl | ⟨r, z, rfl⟩
  · simp [spot]
  · rw [List.concat_eq_append, spot_end, List.length_append, List.length_singleton, Nat.pow_succ]
    have := spot_lt p r
    have := Nat.mod_lt (z / 2 ^ p) (show 0 < 2 by decide)
    omega
termination_by ns => ns.length
decreasing_by
  simp_all
def walkM (m : Mach) (ns : List Nat) : Nat → Nat
  | 0 => 0
  | k + 1 => ((m.getD (walkM m ns k) (false, [])).2).getD (spot ns k) 0
structure Okm (m : Mach) (c : Nat) : Prop where
  pos : 0 < m.length
  all : ∀ r ∈ m, r.2.length = 2 ^ c ∧ ∀ x ∈ r.2, x < m.length
theorem walk_lt {m : Mach} {ns : List Nat} (o : Okm m ns.length) : ∀ k, walkM m ns k < m.length
  | 0 => o.pos
  | k + 1 => by
    have h := walk_lt o k
    have hm := o.all (m[walkM m ns k]) (List.getElem_mem h)
    have hs : spot ns k < (m[walkM m ns k]).2.length := by
      rw [hm.1]
      exact spot_lt k ns
    have e : m.getD (walkM m ns k) (false, []) = m[walkM m ns k] := by
      rw [List.getD_eq_getElem?_getD, List.getElem?_eq_getElem h]
      rfl
    rw [walkM, e, List.getD_eq_getElem?_getD, List.getElem?_eq_getElem hs]
    exact hm.2 _ (List.getElem_mem hs)
def letM (m : Mach) (ns : List Nat) (wd : Nat) : Bool := (m.getD (walkM m ns wd) (false, [])).1
section
variable {P : Program} {w : World} {K : PySem.W.Frag} {mg : Str → Option Value} {base : Heap}
def spLets : Sp := fun vs H Q _ => ∃ (a b : Addr) (m : Mach) (ns : List Nat) (wd : Nat), vs = [.ref a, .ref b, .int wd] ∧ Mch H a m ∧ Row H b ns ∧ Okm m ns.length ∧ ns.length ≤ 10 ∧ wd ≤ 10 ∧ Q (.bl (letM m ns wd)) H
abbrev s_lets : Stmt := top 2
theorem sc_lets : FnScope ["machine", "numbers", "width", "room", "place", "at", "number"] ["machine", "numbers", "width"] (defScope s_lets) := ⟨rfl, rfl, rfl, by decide +kernel, rfl, by decide +kernel, by decide +kernel⟩
set_option format.width 500 in
set_option format.indent 0 in
set_option pp.deepTerms true in
set_option pp.maxSteps 200000 in
theorem fn_lets {f : Addr} {fd : FuncData} {kws : List (Str × V)} (D : FunD K "lets" "lets" (defArgs s_lets) (defBody s_lets) (defScope s_lets) [] kws f fd) (T : Tx K mg) : FnG P w K mg base CX0 1 f fd ["machine", "numbers", "width"] spLets := by
  obtain ⟨oc, od, dV, kV, doc, pm, an, cdv, ct, osl, rfl, here, code, _, _⟩ := D.ex
  refine fnG_of here code sc_lets (fun vs H Q E h => ?_) fun A outer s H vs Q E hgu hr h => ?_
  · obtain ⟨a, b, m, ns, wd, rfl, _⟩ := h
    rfl
  · obtain ⟨a, b, m, ns, wd, rfl, hm, hn, ok, hl, hw, q⟩ := h
    refine ⟨_, PSs.nox (pss_cons (ps_set (i := 3) sc_lets.nd rfl (by first | exact Or.inl rfl | exact Or.inr rfl) pe_int) (pss_cons (ps_for PassesOwn.never rfl (pi_range1 rfl T.range (pa_cons (pv 2) pa_nil)) (pg_name (i := 4) sc_lets.nd rfl (by first | exact Or.inl rfl | exact Or.inr rfl)) (pss_cons (ps_set (i := 5) sc_lets.nd rfl (by first | exact Or.inl rfl | exact Or.inr rfl) pe_int) (pss_cons (ps_for PassesOwn.never rfl (aWalkT (K := K) rfl (pv 1)) (pg_name (i := 6) sc_lets.nd rfl (by first | exact Or.inl rfl | exact Or.inr rfl)) (pss_one (ps_set (i := 5) sc_lets.nd rfl (by first | exact Or.inl rfl | exact Or.inr rfl) (pe_op op_add (pe_op op_mul pe_int (pv 5)) (pe_op op_and (pe_op op_shr (pv 6) (pv 4)) pe_int))))) (pss_one (ps_set (i := 3) sc_lets.nd rfl (by first | exact Or.inl rfl | exact Or.inr rfl) (pe_ix (aIxT (K := K) rfl) (pe_ix (aIxT (K := K) rfl) (pe_ix (aIxT (K := K) rfl) (pv 0) (pv 3) (fun _ _ => rfl)) pe_int (fun _ _ => rfl)) (pv 5) (fun _ _ => rfl))))))) (pss_one (ps_ret (pe_ix (aIxT (K := K) rfl) (pe_ix (aIxT (K := K) rfl) (pv 0) (pv 3) (fun _ _ => rfl)) pe_int (fun _ _ => rfl)))))), ?_⟩
    refine seq_cut fun u hu => ?_
    walk_at "rq"
    subst hu
    refine seq_cut fun u hu => ?_
    obtain ⟨xs, em, lm, fm⟩ := id hm
    have room : ∀ k, ∃ c t, atI xs ((walkM m ns k : Nat) : Int) = some (.ref c) ∧ H c = some (.tup [.bl (letM m ns k), .ref t]) ∧ Row H t (m[walkM m ns k]'(walk_lt ok k)).2 := by
      intro k
      have h := walk_lt ok k
      obtain ⟨c, t, h1, h2, h3⟩ := fm _ _ (List.getElem?_eq_getElem h)
      have e : m.getD (walkM m ns k) (false, []) = m[walkM m ns k] := by
        rw [List.getD_eq_getElem?_getD, List.getElem?_eq_getElem h]
        rfl
      refine ⟨c, t, ?_, ?_, h3⟩
      · have h' : walkM m ns k < xs.length := by omega
        rw [atI_nat h']
        rw [List.getElem?_eq_getElem h'] at h1
        exact h1
      · rw [letM, e]
        exact h2
    refine ⟨_, rfl, wd, rfl, by omega, by omega, for_steps (steps_range 0 wd) (fun i σ Hc => ∃ v4 v5 v6 : Option V, σ = [some (.ref a), some (.ref b), some (.int (wd : Nat)), some (.int ((walkM m ns i : Nat) : Int)), v4, v5, v6] ∧ H = Hc) ⟨_, _, _, rfl, rfl⟩ (fun _ _ _ _ _ => trivial) ?_ ?_⟩
    · rintro i x σ _ hx ⟨v4, v5, v6, rfl, rfl⟩
      obtain ⟨hi, rfl⟩ := wholes_at hx
      refine seq_cut fun u' hu' => ?_
      walk_at "rq"
      subst hu'
      refine seq_cut fun u' hu' => ?_
      refine ⟨_, rfl, b, rfl, ⟨_, .of hn⟩, for_steps (steps_tup K b (ns.map fun n => V.int ((n : Nat) : Int))) (fun j σ Hc => ∃ v6 : Option V, σ = [some (.ref a), some (.ref b), some (.int (wd : Nat)), some (.int ((walkM m ns i : Nat) : Int)), some (.int (0 + (i : Nat))), some (.int ((spot (ns.take j) i : Nat) : Int)), v6] ∧ H = Hc) ⟨_, rfl, rfl⟩ (fun _ _ _ _ ⟨_, _, e⟩ => e ▸ .of hn) ?_ ?_⟩
      · rintro j x σ _ hx ⟨v6, rfl, rfl⟩
        have hj : j < ns.length := by
          have := (List.getElem?_eq_some_iff.mp hx).1
          rwa [List.length_map] at this
        have ex : x = .int ((ns[j] : Nat) : Int) := by
          rw [List.getElem?_map, List.getElem?_eq_getElem hj] at hx
          cases hx
          rfl
        subst ex
        walk_at "rq"
        have et : ns.take (j + 1) = ns.take j ++ [ns[j]] := by
          rw [List.take_add_one, List.getElem?_eq_getElem hj]
          rfl
        refine ⟨.inl ⟨by decide, by decide⟩, by omega, ?_, _, rfl⟩
        rw [et, spot_end, bitAnd_m1, show (0 + (i : Int)).toNat = i by omega]
        have e2 : ((ns[j] : Nat) : Int) / 2 ^ i % 2 = ((ns[j] / 2 ^ i % 2 : Nat) : Int) := by
          rw [Int.natCast_emod, Int.natCast_ediv, Int.natCast_pow]
          rfl
        rw [e2]
        omega
      · rintro σ _ ⟨v6, rfl, rfl⟩
        rw [List.length_map, List.take_length]
        show u' _ _ _
        subst hu'
        walk_at "rq"
        obtain ⟨c, t, h1, h2, h3⟩ := room i
        have hl' := walk_lt ok i
        have hs := spot_lt i ns
        have ha := (ok.all _ (List.getElem_mem hl')).1
        have hs' : spot ns i < (m[walkM m ns i]).2.length := by omega
        have e : m.getD (walkM m ns i) (false, []) = m[walkM m ns i] := by
          rw [List.getD_eq_getElem?_getD, List.getElem?_eq_getElem hl']
          rfl
        refine ⟨xs, .of em, _, h1, c, rfl, _, .of h2, .ref t, at1, t, rfl, _, .of h3, _, atI_nat (by rw [List.length_map]; exact hs'), ?_, _, rfl⟩
        rw [List.getElem_map, walkM, e, List.getD_eq_getElem?_getD, List.getElem?_eq_getElem hs']
        rfl
    · rintro σ _ ⟨v4, v5, v6, rfl, rfl⟩
      rw [wholes_len]
      show u _ _ _
      subst hu
      walk_at "rq"
      obtain ⟨c, t, h1, h2, h3⟩ := room wd
      exact ⟨xs, .of em, _, h1, c, rfl, _, .of h2, .bl _, at0, q⟩
def spFull : Sp := fun vs H Q _ => ∃ n : Nat, vs = [.int n] ∧ n ≤ 20 ∧ Q (.int ((2 ^ n : Nat) : Int)) H
abbrev s__law_full : Stmt := top 6
theorem sc__law_full : FnScope ["_law_wide", "_law_found", "_law_k"] ["_law_wide"] (defScope s__law_full) := ⟨rfl, rfl, rfl, by decide +kernel, rfl, by decide +kernel, by decide +kernel⟩
theorem ok__law_full {f : Addr} {fd : FuncData} (D : Df K mg "_law_full" s__law_full f fd) (T : Tx K mg) : Cal P w K mg base "_law_full" ["_law_wide"] 1 spFull := by
  refine D.cal sc__law_full (fun vs H Q E h => ?_) (fun _ _ _ _ _ _ us hl => match us, hl with | [_], _ => rfl) (fun cdv A outer s H vs Q E hgu hr h => ?_)
  · obtain ⟨n, rfl, _⟩ := h
    rfl
  · obtain ⟨n, rfl, hn, q⟩ := h
    refine ⟨_, (pss_cons (ps_set (i := 1) sc__law_full.nd rfl (by first | exact Or.inl rfl | exact Or.inr rfl) pe_int) (pss_cons (ps_for PassesOwn.never rfl (pi_range1 rfl T.range (pa_cons (pv 0) pa_nil)) (pg_name (i := 2) sc__law_full.nd rfl (by first | exact Or.inl rfl | exact Or.inr rfl)) (pss_one (ps_set (i := 1) sc__law_full.nd rfl (by first | exact Or.inl rfl | exact Or.inr rfl) (pe_op op_mul (pv 1) pe_int)))) (pss_one (ps_ret (pv 1))))), ?_⟩
    refine seq_cut fun u hu => ?_
    walk_at "rq"
    subst hu
    refine seq_cut fun u hu => ?_
    refine ⟨_, rfl, n, rfl, by omega, by omega, for_steps (steps_range 0 n) (fun i σ Hc => ∃ v2 : Option V, σ = [some (.int n), some (.int ((2 ^ i : Nat) : Int)), v2] ∧ H = Hc) ⟨_, rfl, rfl⟩ (fun _ _ _ _ _ => trivial) ?_ ?_⟩
    · rintro i x σ _ hx ⟨v2, rfl, rfl⟩
      obtain ⟨hi, rfl⟩ := wholes_at hx
      walk_at "rq"
      refine ⟨.inr ⟨by decide, by decide⟩, ?_, _, rfl⟩
      rw [Nat.pow_succ]
      omega
    · rintro σ _ ⟨v2, rfl, rfl⟩
      rw [wholes_len]
      show u _ _ _
      subst hu
      walk_at "rq"
      exact q
def spLetBy : Sp := fun vs H Q _ => ∃ (a b : Addr) (m : Mach) (ns : List Nat) (wd : Nat), vs = [.ref a, .ref b, .int wd] ∧ Mch H a m ∧ Row H b ns ∧ Okm m ns.length ∧ ns.length ≤ 10 ∧ wd ≤ 10 ∧ Q (.bl (letM m ns wd)) H
abbrev s__law_is_let_by : Stmt := top 8
theorem sc__law_is_let_by : FnScope ["_law_rooms", "_law_row", "_law_wide", "_law_at", "_law_place", "_law_spot", "_law_number_here"] ["_law_rooms", "_law_row", "_law_wide"] (defScope s__law_is_let_by) := ⟨rfl, rfl, rfl, by decide +kernel, rfl, by decide +kernel, by decide +kernel⟩
set_option format.width 500 in
set_option format.indent 0 in
set_option pp.deepTerms true in
set_option pp.maxSteps 200000 in
theorem ok__law_is_let_by {f : Addr} {fd : FuncData} (D : Df K mg "_law_is_let_by" s__law_is_let_by f fd) (T : Tx K mg) (c__law_full : Cal P w K mg base "_law_full" ["_law_wide"] 1 spFull) : Cal P w K mg base "_law_is_let_by" ["_law_rooms", "_law_row", "_law_wide"] 2 spLetBy := by
  refine D.cal sc__law_is_let_by (fun vs H Q E h => ?_) (fun _ _ _ _ _ _ us hl => match us, hl with | [_, _, _], _ => rfl) (fun cdv A outer s H vs Q E hgu hr h => ?_)
  · obtain ⟨a, b, m, ns, wd, rfl, _⟩ := h
    rfl
  · obtain ⟨a, b, m, ns, wd, rfl, hm, hn, ok, hl, hw, q⟩ := h
    refine ⟨_, (pss_cons (ps_set (i := 3) sc__law_is_let_by.nd rfl (by first | exact Or.inl rfl | exact Or.inr rfl) pe_int) (pss_cons (ps_for PassesOwn.never rfl (pi_range1 rfl T.range (pa_cons (pv 2) pa_nil)) (pg_name (i := 4) sc__law_is_let_by.nd rfl (by first | exact Or.inl rfl | exact Or.inr rfl)) (pss_cons (ps_set (i := 5) sc__law_is_let_by.nd rfl (by first | exact Or.inl rfl | exact Or.inr rfl) pe_int) (pss_cons (ps_for PassesOwn.never rfl (aWalkT (K := K) rfl (pv 1)) (pg_name (i := 6) sc__law_is_let_by.nd rfl (by first | exact Or.inl rfl | exact Or.inr rfl)) (pss_one (ps_set (i := 5) sc__law_is_let_by.nd rfl (by first | exact Or.inl rfl | exact Or.inr rfl) (pe_op op_add (pe_op op_mul pe_int (pv 5)) (pe_op op_mod (pe_op op_fdiv (pv 6) (pe_cal c__law_full hgu (hr.mono (by omega)) (by rfl) (pa_cons (pv 4) pa_nil))) pe_int))))) (pss_one (ps_set (i := 3) sc__law_is_let_by.nd rfl (by first | exact Or.inl rfl | exact Or.inr rfl) (pe_ix (aIxT (K := K) rfl) (pe_ix (aIxT (K := K) rfl) (pe_ix (aIxT (K := K) rfl) (pv 0) (pv 3) (fun _ _ => rfl)) pe_int (fun _ _ => rfl)) (pv 5) (fun _ _ => rfl))))))) (pss_one (ps_ret (pe_ix (aIxT (K := K) rfl) (pe_ix (aIxT (K := K) rfl) (pv 0) (pv 3) (fun _ _ => rfl)) pe_int (fun _ _ => rfl)))))), ?_⟩
    refine seq_cut fun u hu => ?_
    walk_at "rq"
    subst hu
    refine seq_cut fun u hu => ?_
    obtain ⟨xs, em, lm, fm⟩ := id hm
    have room : ∀ k, ∃ c t, atI xs ((walkM m ns k : Nat) : Int) = some (.ref c) ∧ H c = some (.tup [.bl (letM m ns k), .ref t]) ∧ Row H t (m[walkM m ns k]'(walk_lt ok k)).2 := by
      intro k
      have h := walk_lt ok k
      obtain ⟨c, t, h1, h2, h3⟩ := fm _ _ (List.getElem?_eq_getElem h)
      have e : m.getD (walkM m ns k) (false, []) = m[walkM m ns k] := by
        rw [List.getD_eq_getElem?_getD, List.getElem?_eq_getElem h]
        rfl
      refine ⟨c, t, ?_, ?_, h3⟩
      · have h' : walkM m ns k < xs.length := by omega
        rw [atI_nat h']
        rw [List.getElem?_eq_getElem h'] at h1
        exact h1
      · rw [letM, e]
        exact h2
    refine ⟨_, rfl, wd, rfl, by omega, by omega, for_steps (steps_range 0 wd) (fun i σ Hc => ∃ v4 v5 v6 : Option V, σ = [some (.ref a), some (.ref b), some (.int (wd : Nat)), some (.int ((walkM m ns i : Nat) : Int)), v4, v5, v6] ∧ H = Hc) ⟨_, _, _, rfl, rfl⟩ (fun _ _ _ _ _ => trivial) ?_ ?_⟩
    · rintro i x σ _ hx ⟨v4, v5, v6, rfl, rfl⟩
      obtain ⟨hi, rfl⟩ := wholes_at hx
      refine seq_cut fun u' hu' => ?_
      walk_at "rq"
      subst hu'
      refine seq_cut fun u' hu' => ?_
      refine ⟨_, rfl, b, rfl, ⟨_, .of hn⟩, for_steps (steps_tup K b (ns.map fun n => V.int ((n : Nat) : Int))) (fun j σ Hc => ∃ v6 : Option V, σ = [some (.ref a), some (.ref b), some (.int (wd : Nat)), some (.int ((walkM m ns i : Nat) : Int)), some (.int (0 + (i : Nat))), some (.int ((spot (ns.take j) i : Nat) : Int)), v6] ∧ H = Hc) ⟨_, rfl, rfl⟩ (fun _ _ _ _ ⟨_, _, e⟩ => e ▸ .of hn) ?_ ?_⟩
      · rintro j x σ _ hx ⟨v6, rfl, rfl⟩
        have hj : j < ns.length := by
          have := (List.getElem?_eq_some_iff.mp hx).1
          rwa [List.length_map] at this
        have ex : x = .int ((ns[j] : Nat) : Int) := by
          rw [List.getElem?_map, List.getElem?_eq_getElem hj] at hx
          cases hx
          rfl
        subst ex
        walk_at "rq"
        have et : ns.take (j + 1) = ns.take j ++ [ns[j]] := by
          rw [List.take_add_one, List.getElem?_eq_getElem hj]
          rfl
        have hp1 : 0 < 2 ^ i := Nat.pow_pos (by decide)
        have hp2 : 2 ^ i ≤ 2 ^ 10 := Nat.pow_le_pow_right (by decide) (by omega)
        have hp3 : (2 : Nat) ^ 10 = 1024 := by decide
        refine ⟨.inl ⟨by decide, by decide⟩, i, by rw [show (0 : Int) + (i : Int) = (i : Int) by omega], by omega, ((2 ^ i : Nat) : Int), rfl, ⟨by omega, by omega⟩, by decide, ⟨?_, _, rfl⟩, rfl⟩
        rw [et, spot_end]
        have e2 : ((ns[j] : Nat) : Int) / ((2 ^ i : Nat) : Int) % 2 = ((ns[j] / 2 ^ i % 2 : Nat) : Int) := by
          rw [Int.natCast_emod, Int.natCast_ediv]
          rfl
        rw [e2]
        omega
      · rintro σ _ ⟨v6, rfl, rfl⟩
        rw [List.length_map, List.take_length]
        show u' _ _ _
        subst hu'
        walk_at "rq"
        obtain ⟨c, t, h1, h2, h3⟩ := room i
        have hl' := walk_lt ok i
        have hs := spot_lt i ns
        have ha := (ok.all _ (List.getElem_mem hl')).1
        have hs' : spot ns i < (m[walkM m ns i]).2.length := by omega
        have e : m.getD (walkM m ns i) (false, []) = m[walkM m ns i] := by
          rw [List.getD_eq_getElem?_getD, List.getElem?_eq_getElem hl']
          rfl
        refine ⟨xs, .of em, _, h1, c, rfl, _, .of h2, .ref t, at1, t, rfl, _, .of h3, _, atI_nat (by rw [List.length_map]; exact hs'), ?_, _, rfl⟩
        rw [List.getElem_map, walkM, e, List.getD_eq_getElem?_getD, List.getElem?_eq_getElem hs']
        rfl
    · rintro σ _ ⟨v4, v5, v6, rfl, rfl⟩
      rw [wholes_len]
      show u _ _ _
      subst hu
      walk_at "rq"
      obtain ⟨c, t, h1, h2, h3⟩ := room wd
      exact ⟨xs, .of em, _, h1, c, rfl, _, .of h2, .bl _, at0, q⟩
end
end Vf
namespace Vf
open PySem L2 PyProof.Rows PySem.Spec

local macro_rules | `(tactic| walk_at "rd") => `(tactic| simp only [tSeq, tIfS, tOr, tAnd, tNot, tB, tTest, tChain, tCB, tCons, tNil, tVar, tC, tRet, tAndV, tOrV, tNotV, tOp, tNext, tDrop, tAsg, tPar, tYes, tIf, tCall, tCalK, tTup, tLst, tSl, tNoPart, tPart, tM0, tM1, tRevL, tBM0, tBM, gName, rI0, rI, rU, rInA, rEqA, rAddA, rMulA, rSlAny, iAny, rIsi, rAll, rAny, rSum, rList, rTuple, rLen, rLenS, rLenSeq, rMulS, CDiv, rIn, rEqD, rNeD, iList, iTup, iStr, rCat, rCatA, rSlL, rSlA, rSlS, gSub, rPop, rAppend, rSetL, rIx, rIxL, rIxT, rIxS, LenV,
  L2.start, List.map_cons, List.map_nil, List.length_cons, List.length_nil, List.cons_append, List.nil_append, List.append_nil, Nat.zero_add, Nat.add_sub_cancel, Nat.sub_self, List.replicate_succ, List.replicate_zero, List.getElem?_cons_zero, List.getElem?_cons_succ, List.set_cons_zero, List.set_cons_succ,
  Option.some.injEq, V.int.injEq, V.str.injEq, V.bl.injEq, V.ref.injEq, List.cons.injEq, and_true, true_and, exists_eq_left', exists_eq_left, exists_eq_right, exists_and_left, exists_and_right, false_or, or_false, reduceCtorEq, false_and, and_false, exists_false, Bool.not_true, Bool.not_false, if_true, if_false, Bool.false_eq_true, ite_true, ite_false])
local macro_rules | `(tactic| walk_at "rq") => `(tactic| (walk_at "rd"; (try simp only [rEq_int, rEq_str, tUn, rU, tC, rInT, rInK, rIxK, rExtendT, rSlU, rCatU, rEqE, tTupU, tLstU, tDL, tD, V.int.injEq, V.str.injEq, V.bl.injEq, V.ref.injEq, exists_eq_left', exists_eq_left, Bool.false_bne, Bool.false_xor, Bool.true_xor]); (try walk_at "rd"); (try (simp only [tTupU, tLstU, tDL, tD]; try walk_at "rd"))))
theorem pick3 {i : Nat} (h : i < 3) (x y z : Bool) : ∃ b, atI [V.bl x, V.bl y, V.bl z] (i : Int) = some (.bl b) := by
  match i, h with
  | 0, _ => exact ⟨x, rfl⟩
  | 1, _ => exact ⟨y, rfl⟩
  | 2, _ => exact ⟨z, rfl⟩
theorem seq_cutE {t u : TS} {D : Ends} {σ : L2.St} {H : Hp} (h : ∀ u' D', u' = u → D' = D → tSeq t u' D' σ H) : tSeq t u D σ H := h u D rfl rfl
def MchL (H : Hp) (xs : List V) (m : Mach) : Prop := xs.length = m.length ∧ ∀ (i : Nat) (r : Bool × List Nat), m[i]? = some r → ∃ b t : Addr, xs[i]? = some (.ref b) ∧ H b = some (.tup [.bl r.1, .ref t]) ∧ Row H t r.2
theorem MchL.same {H H' : Hp} {xs : List V} {m : Mach} (s : Same H H') (h : MchL H xs m) : MchL H' xs m := by
  obtain ⟨l, f⟩ := h
  refine ⟨l, fun i r hr => ?_⟩
  obtain ⟨b, t, h1, h2, h3⟩ := f i r hr
  exact ⟨b, t, h1, s _ _ h2, h3.same s⟩
theorem MchL.add {H : Hp} {xs : List V} {m : Mach} {b t : Addr} {r : Bool × List Nat} (h : MchL H xs m) (hb : H b = some (.tup [.bl r.1, .ref t])) (ht : Row H t r.2) : MchL H (xs ++ [.ref b]) (m ++ [r]) := by
  obtain ⟨l, f⟩ := h
  refine ⟨by rw [List.length_append, List.length_append, l]; rfl, fun i r' hr => ?_⟩
  by_cases hi : i < m.length
  · rw [List.getElem?_append_left hi] at hr
    rw [List.getElem?_append_left (by omega)]
    exact f i r' hr
  · rw [List.getElem?_append_right (by omega)] at hr
    have : i - m.length = 0 := by
      have := (List.getElem?_eq_some_iff.mp hr).1
      simp only [List.length_singleton] at this
      omega
    rw [this] at hr
    cases hr
    rw [List.getElem?_append_right (by omega), show i - xs.length = 0 by omega]
    exact ⟨b, t, rfl, hb, ht⟩
section
variable {P : Program} {w : World} {K : PySem.W.Frag} {mg : Str → Option Value} {base : Heap}
def spMachine : Sp := fun vs H Q _ => ∃ (d c : Addr) (G : Hp) (cnt : Nat), vs = [.ref d, .int cnt] ∧ Pt d c H G ∧ cnt ≤ 3 ∧ ∀ (a : Addr) (m : Mach) (H' G' : Hp), GD d c H G H' G' → Mch G' a m → Okm m cnt → Q (.ref a) H'
abbrev s__law_drawn_machine : Stmt := top 7
theorem sc__law_drawn_machine : FnScope ["_law_deck_here", "_law_count", "_law_rooms", "_law_often", "_law_found", "_law_k", "_law_let", "_law_turn"] ["_law_deck_here", "_law_count"] (defScope s__law_drawn_machine) := ⟨rfl, rfl, rfl, by decide +kernel, rfl, by decide +kernel, by decide +kernel⟩
set_option format.width 500 in
set_option format.indent 0 in
set_option pp.deepTerms true in
set_option pp.maxSteps 200000 in
theorem ok__law_drawn_machine {f : Addr} {fd : FuncData} (D : Df K mg "_law_drawn_machine" s__law_drawn_machine f fd) (T : Tx K mg) (c__law_draw : Cal P w K mg base "_law_draw" ["_law_deck_here", "_law_many"] 1 spDraw) (c__law_full : Cal P w K mg base "_law_full" ["_law_wide"] 1 spFull) : Cal P w K mg base "_law_drawn_machine" ["_law_deck_here", "_law_count"] 2 spMachine := by
  refine D.cal sc__law_drawn_machine (fun vs H Q E h => ?_) (fun _ _ _ _ _ _ us hl => match us, hl with | [_, _], _ => rfl) (fun cdv A outer s H vs Q E hgu hr h => ?_)
  · obtain ⟨d, c, G, cnt, rfl, _⟩ := h
    rfl
  · obtain ⟨d, c, G, cnt, rfl, pt, hc, q⟩ := h
    refine ⟨_, (pss_cons (ps_set (i := 2) sc__law_drawn_machine.nd rfl (by first | exact Or.inl rfl | exact Or.inr rfl) (pe_op op_add pe_int (pe_cal c__law_draw hgu (hr.mono (by omega)) (by rfl) (pa_cons (pv 0) (pa_cons pe_int pa_nil))))) (pss_cons (ps_set (i := 3) sc__law_drawn_machine.nd rfl (by first | exact Or.inl rfl | exact Or.inr rfl) (pe_cal c__law_draw hgu (hr.mono (by omega)) (by rfl) (pa_cons (pv 0) (pa_cons pe_int pa_nil)))) (pss_cons (ps_set (i := 4) sc__law_drawn_machine.nd rfl (by first | exact Or.inl rfl | exact Or.inr rfl) (pe_lstU pa_nil)) (pss_cons (ps_for PassesOwn.never rfl (pi_range1 rfl T.range (pa_cons (pv 2) pa_nil)) (pg_name (i := 5) sc__law_drawn_machine.nd rfl (by first | exact Or.inl rfl | exact Or.inr rfl)) (pss_cons (ps_set (i := 6) sc__law_drawn_machine.nd rfl (by first | exact Or.inl rfl | exact Or.inr rfl) (pe_and (pe_cmpR op_gt (pv 5) pe_int (by rfl)) (pe_one (pe_ix (aIxL (K := K) rfl) (pe_lstU (pa_cons (pe_cmpR op_eq (pe_cal c__law_draw hgu (hr.mono (by omega)) (by rfl) (pa_cons (pv 0) (pa_cons pe_int pa_nil))) pe_int (by rfl)) (pa_cons (pe_cmpR op_eq (pe_cal c__law_draw hgu (hr.mono (by omega)) (by rfl) (pa_cons (pv 0) (pa_cons pe_int pa_nil))) pe_int (by rfl)) (pa_cons pe_bl pa_nil)))) (pv 3) (fun _ _ => rfl))))) (pss_one (ps_expr (pe_bm PySem.F.plainAttrs_list PySem.F.slot_list_append PySem.F.type_list_append mt_append (pv 4) (pa_cons (pe_tupU (pa_cons (pv 6) (pa_cons (pe_callTy (aTuple (K := K) rfl) (by rfl) T.tuple (by decide +kernel) (pa_cons (pe_lc (own := [("_law_turn", 7)]) (g := gName 7) (tt := tYes) (by rfl) sc__law_drawn_machine.nd (pi_range1 rfl T.range (pa_cons (pe_cal c__law_full hgu (hr.mono (by omega)) (by rfl) (pa_cons (pv 1) pa_nil)) pa_nil)) (blkOk_by (own := [("_law_turn", 7)]) (N := ["_law_deck_here", "_law_count", "_law_rooms", "_law_often", "_law_found", "_law_k", "_law_let", "_law_turn"]) (sc := defScope s__law_drawn_machine) (by decide +kernel)) (fun _ _ _ _ _ => (pg_name (i := 7) sc__law_drawn_machine.nd rfl (Or.inl rfl))) (fun _ _ _ _ _ => pts_nil) (fun _ _ _ _ _ => (pe_op op_add pe_int (pe_cal c__law_draw hgu (hr.mono (by omega)) (by rfl) (pa_cons (pv 0) (pa_cons (pe_op op_sub (pv 2) pe_int) pa_nil)))))) pa_nil)) pa_nil))) pa_nil)))))) (pss_one (ps_ret (pe_callTy (aTuple (K := K) rfl) (by rfl) T.tuple (by decide +kernel) (pa_cons (pv 4) pa_nil)))))))), ?_⟩
    refine seq_cut fun u hu => ?_
    walk_at "rq"
    refine ⟨d, c, 6, rfl, pt.deck, by decide, by decide, fun r H1 r0 r1 hd1 sv1 => ⟨r, rfl, ?_⟩⟩
    obtain ⟨rn, rfl⟩ := Int.eq_ofNat_of_zero_le r0
    obtain ⟨R, hR, hR2⟩ : ∃ R : Nat, (2 : Int) + (rn : Nat) = (R : Nat) ∧ 2 ≤ R ∧ R ≤ 7 := ⟨2 + rn, by omega, by omega, by omega⟩
    rw [hR]
    have g1 := pt.keep sv1 hd1
    clear hR r0 r1 sv1 hd1
    show u _ _ _
    subst hu
    refine seq_cut fun u hu => ?_
    walk_at "rq"
    refine ⟨d, c, 3, rfl, g1.to.deck, by decide, by decide, fun r H2 r0 r1 hd2 sv2 => ?_⟩
    obtain ⟨of, rfl⟩ := Int.eq_ofNat_of_zero_le r0
    have hof : of < 3 := by omega
    have g2 := g1.trans (g1.to.keep sv2 hd2)
    clear g1 r0 r1 sv2 hd2
    show u _ _ _
    subst hu
    refine seq_cut fun u hu => ?_
    refine ⟨Nat.zero_le _, fun p H3 s3 n3 e3 => ?_⟩
    have g3 := g2.trans (g2.to.same s3)
    have np := g2.to.deck.fresh n3
    have pG : G p = none := g2.to.sub.free n3
    have pH : H p = none := g2.big.free g2.to.deck n3
    show u _ _ _
    subst hu
    refine seq_cut fun u hu => ?_
    refine ⟨_, rfl, R, rfl, by omega, by omega, for_steps (steps_range 0 R) (fun i σ Hc => ∃ (v5 v6 v7 : Option V) (xs : List V) (m : Mach) (Gc : Hp), σ = [some (.ref d), some (.int cnt), some (.int (R : Nat)), some (.int (of : Nat)), some (.ref p), v5, v6, v7] ∧
      Hc p = some (.lst xs) ∧ GD d c H G Hc Gc ∧ Gc p = none ∧ MchL Gc xs m ∧ m.length = i ∧ ∀ r ∈ m, r.2.length = 2 ^ cnt ∧ ∀ x ∈ r.2, x < R) ⟨_, _, _, [], [], G, rfl, e3, g3, pG, ⟨rfl, fun i r h => by simp at h⟩, rfl, nofun⟩ (fun _ _ _ _ _ => trivial) ?_ ?_⟩
    · rintro i x σ H4 hx ⟨v5, v6, v7, xs, m, G4, rfl, e4, g4, p4, hm, hl, hall⟩
      obtain ⟨hi, rfl⟩ := wholes_at hx
      refine seq_cutE fun u' D' hu' hD' => ?_
      walk_at "rq"
      refine (show (∀ (b : Bool) (H5 : Hp), GD d c H G H5 G4 → H5 p = some (.lst xs) → u' D' [some (.ref d), some (.int cnt), some (.int (R : Nat)), some (.int (of : Nat)), some (.ref p), some (.int (0 + (i : Nat))), some (.bl b), v7] H5) → _ from ?one) ?two
      case one =>
        intro hrest
        by_cases h0 : (0 : Int) < 0 + (i : Nat)
        · rw [if_pos (decide_eq_true h0)]
          refine ⟨d, c, 2, rfl, g4.to.deck, by decide, by decide, fun r H5 r0 r1 hd5 sv5 => ?_⟩
          have g5 := g4.trans (g4.to.keep sv5 hd5)
          have e5 := sv5 _ _ e4 np.1 np.2
          walk_at "rq"
          refine ⟨d, c, 5, rfl, g5.to.deck, by decide, by decide, fun r' H6 r0' r1' hd6 sv6 => ?_⟩
          have g6 := g5.trans (g5.to.keep sv6 hd6)
          have e6 := sv6 _ _ e5 np.1 np.2
          walk_at "rq"
          refine ⟨line_le' (by decide), fun q H7 s7 n7 e7 => ⟨_, .inl (.of e7), ?_⟩⟩
          have g7 := g6.trans (g6.to.same s7)
          have e7' := s7 _ _ e6
          obtain ⟨b, hb⟩ := pick3 hof (decide (r = 1)) (decide (r' = 0)) true
          exact ⟨_, hb, hrest b H7 g7 e7'⟩
        · rw [if_neg (by rw [decide_eq_false h0]; decide)]
          exact hrest false H4 g4 e4
      case two =>
      intro b H5 g5 e5
      subst hu' hD'
      walk_at "rq"
      have t8 : 2 ^ cnt ≤ 8 := Nat.pow_le_pow_right (by decide) hc
      refine ⟨.inl ⟨rfl, _, .of e5⟩, ?_⟩
      obtain ⟨t, ht⟩ : ∃ t, t = 2 ^ cnt := ⟨_, rfl⟩
      rw [← ht] at t8
      refine ⟨_, rfl, cnt, rfl, by omega, t, by rw [ht], by omega, by omega, fun L hL => ?_⟩
      obtain ⟨nLd, nLc⟩ := g5.to.deck.fresh hL
      have gL := g5.to.sub.free hL
      have hHL := g5.big.free g5.to.deck hL
      have nLp : p ≠ L := fun z => by rw [z, hL] at e5; cases e5
      refine lc_steps (steps_range 0 t) (fun i Hc => ∃ l : List Nat, l.length = i ∧ (∀ x ∈ l, x < R) ∧ Hc L = some (.lst (l.map fun n => V.int ((n : Nat) : Int))) ∧ GD d c H G Hc G4 ∧ Hc p = some (.lst xs)) ⟨[], rfl, nofun, upd_same, g5.setp hHL gL nLd nLc, by rw [upd_ne nLp]; exact e5⟩ (fun _ _ _ _ => trivial) ?_ ?_
      · rintro j y Hc hy ⟨l, hl', hla, el, gl, ep⟩
        refine ⟨rfl, ?_⟩
        have hj := (List.getElem?_eq_some_iff.mp hy).1
        rw [wholes_len] at hj
        walk_at "rq"
        refine ⟨.ref d, rfl, .int (R : Nat), rfl, (R : Nat), rfl, d, c, ((R : Nat) : Int) - 1, rfl, gl.to.deck, by omega, by omega, fun r H6 r0 r1 hd6 sv6 => ⟨r, rfl, _, sv6 _ _ el nLd nLc, small1000 (by rw [List.length_map]; omega), ?_⟩⟩
        obtain ⟨n, hn⟩ : ∃ n : Nat, 1 + r = (n : Nat) := ⟨(1 + r).toNat, by omega⟩
        refine ⟨l ++ [n], by simp [hl'], fun y hy => ?_, by rw [upd_same, hn]; simp, (gl.trans (gl.to.keep sv6 hd6)).setp hHL gL nLd nLc, by rw [upd_ne nLp]; exact sv6 _ _ ep np.1 np.2⟩
        rcases List.mem_append.mp hy with z | z
        · exact hla y z
        · rw [List.mem_singleton.mp z]
          omega
      · rintro Hc ⟨l, hl', hla, el, gl, ep⟩
        rw [wholes_len] at hl'
        refine ⟨L, rfl, _, .inl ⟨.of el, fun l2 hl2 => ⟨line_le' (by decide), fun q H7 s7 n7 e7 => ?_⟩⟩⟩
        have g8 := gl.trans (gl.to.at_ (o := HO.tup (l.map fun n => V.int ((n : Nat) : Int))) (same_upd hl2) hl2 upd_same)
        have g9 := g8.trans (g8.to.at_ s7 n7 e7)
        have ep7 := s7 _ _ (same_upd (o := HO.tup (l.map fun n => V.int ((n : Nat) : Int))) hl2 _ _ ep)
        have np1 : p ≠ l2 := fun z => by rw [z, hl2] at ep; cases ep
        have np2 : p ≠ q := fun z => by
          have := same_upd (o := HO.tup (l.map fun n => V.int ((n : Nat) : Int))) hl2 _ _ ep
          rw [z, n7] at this
          cases this
        have fl2 := gl.to.sub.free hl2
        have fq := g8.to.sub.free n7
        have pG9 : upd (upd G4 l2 (HO.tup (l.map fun n => V.int ((n : Nat) : Int)))) q (HO.tup [V.bl b, V.ref l2]) p = none := by
          rw [upd_ne np2, upd_ne np1]
          exact p4
        refine ⟨xs, ep7, small1000 (by rw [hm.1]; omega), ⟨_, rfl⟩, xs ++ [V.ref q], upd_same, m ++ [(b, l)], _, g9.setp pH pG9 np.1 np.2, pG9, (hm.same ((same_upd fl2).trans (same_upd fq))).add upd_same (same_upd fq _ _ upd_same), by simp [hl], fun r hr => ?_⟩
        rcases List.mem_append.mp hr with z | z
        · exact hall r z
        · rw [List.mem_singleton.mp z]
          exact ⟨by rw [hl', ht], hla⟩
    · rintro σ H4 ⟨v5, v6, v7, xs, m, G4, rfl, e4, g4, p4, hm, hlm, hall⟩
      rw [wholes_len] at hlm
      show u _ _ _
      subst hu
      walk_at "rq"
      have pos : 0 < m.length := by omega
      refine ⟨xs, .inl ⟨.of e4, fun l hl => ?_⟩⟩
      have hm' := hm.same (same_upd (o := HO.tup xs) (g4.to.sub.free hl))
      exact q l m _ _ (g4.trans (g4.to.at_ (o := HO.tup xs) (same_upd hl) hl upd_same)) ⟨xs, upd_same, hm'.1, hm'.2⟩ ⟨pos, fun r hr => by rw [hlm]; exact hall r hr⟩
end
end Vf
namespace Vf
open PySem L2 PyProof.Rows PySem.Spec

local macro_rules | `(tactic| walk_at "rd") => `(tactic| simp only [tSeq, tIfS, tOr, tAnd, tNot, tB, tTest, tChain, tCB, tCons, tNil, tVar, tC, tRet, tAndV, tOrV, tNotV, tOp, tNext, tDrop, tAsg, tPar, tYes, tIf, tCall, tCalK, tTup, tLst, tSl, tNoPart, tPart, tM0, tM1, tRevL, tBM0, tBM, gName, rI0, rI, rU, rInA, rEqA, rAddA, rMulA, rSlAny, iAny, rIsi, rAll, rAny, rSum, rList, rTuple, rLen, rLenS, rLenSeq, rMulS, CDiv, rIn, rEqD, rNeD, iList, iTup, iStr, rCat, rCatA, rSlL, rSlA, rSlS, gSub, rPop, rAppend, rSetL, rIx, rIxL, rIxT, rIxS, LenV,
  L2.start, List.map_cons, List.map_nil, List.length_cons, List.length_nil, List.cons_append, List.nil_append, List.append_nil, Nat.zero_add, Nat.add_sub_cancel, Nat.sub_self, List.replicate_succ, List.replicate_zero, List.getElem?_cons_zero, List.getElem?_cons_succ, List.set_cons_zero, List.set_cons_succ,
  Option.some.injEq, V.int.injEq, V.str.injEq, V.bl.injEq, V.ref.injEq, List.cons.injEq, and_true, true_and, exists_eq_left', exists_eq_left, exists_eq_right, exists_and_left, exists_and_right, false_or, or_false, reduceCtorEq, false_and, and_false, exists_false, Bool.not_true, Bool.not_false, if_true, if_false, Bool.false_eq_true, ite_true, ite_false])
local macro_rules | `(tactic| walk_at "rq") => `(tactic| (walk_at "rd"; (try simp only [rEq_int, rEq_str, tUn, rU, tC, rInT, rInK, rIxK, rExtendT, rSlU, rCatU, rEqE, tTupU, tLstU, tDL, tD, V.int.injEq, V.str.injEq, V.bl.injEq, V.ref.injEq, exists_eq_left', exists_eq_left, Bool.false_bne, Bool.false_xor, Bool.true_xor]); (try walk_at "rd"); (try (simp only [tTupU, tLstU, tDL, tD]; try walk_at "rd"))))
section
variable {P : Program} {w : World} {K : PySem.W.Frag} {mg : Str → Option Value} {base : Heap}
def spNumber : Sp := fun vs H Q _ => ∃ (d c : Addr) (G : Hp) (wd : Nat), vs = [.ref d, .int wd] ∧ Pt d c H G ∧ 1 ≤ wd ∧ wd ≤ 4 ∧ ∀ (n : Nat) (H' : Hp), GD d c H G H' G → Q (.int n) H'
abbrev s__law_number : Stmt := top 9
theorem sc__law_number : FnScope ["_law_deck_here", "_law_wide", "_law_way", "_law_any_one"] ["_law_deck_here", "_law_wide"] (defScope s__law_number) := ⟨rfl, rfl, rfl, by decide +kernel, rfl, by decide +kernel, by decide +kernel⟩
set_option format.width 500 in
set_option format.indent 0 in
set_option pp.deepTerms true in
set_option pp.maxSteps 200000 in
theorem ok__law_number {f : Addr} {fd : FuncData} (D : Df K mg "_law_number" s__law_number f fd) (T : Tx K mg) (c__law_draw : Cal P w K mg base "_law_draw" ["_law_deck_here", "_law_many"] 1 spDraw) (c__law_full : Cal P w K mg base "_law_full" ["_law_wide"] 1 spFull) : Cal P w K mg base "_law_number" ["_law_deck_here", "_law_wide"] 2 spNumber := by
  refine D.cal sc__law_number (fun vs H Q E h => ?_) (fun _ _ _ _ _ _ us hl => match us, hl with | [_, _], _ => rfl) (fun cdv A outer s H vs Q E hgu hr h => ?_)
  · obtain ⟨d, c, G, wd, rfl, _⟩ := h
    rfl
  · obtain ⟨d, c, G, wd, rfl, pt, w1, w4, q⟩ := h
    refine ⟨_, (pss_cons (ps_set (i := 2) sc__law_number.nd rfl (by first | exact Or.inl rfl | exact Or.inr rfl) (pe_cal c__law_draw hgu (hr.mono (by omega)) (by rfl) (pa_cons (pv 0) (pa_cons pe_int pa_nil)))) (pss_cons (ps_set (i := 3) sc__law_number.nd rfl (by first | exact Or.inl rfl | exact Or.inr rfl) (pe_cal c__law_draw hgu (hr.mono (by omega)) (by rfl) (pa_cons (pv 0) (pa_cons (pe_cal c__law_full hgu (hr.mono (by omega)) (by rfl) (pa_cons (pv 1) pa_nil)) pa_nil)))) (pss_one (ps_ret (pe_ix (aIxL (K := K) rfl) (pe_lstU (pa_cons (pv 3) (pa_cons (pv 3) (pa_cons pe_int (pa_cons (pe_op op_sub (pe_cal c__law_full hgu (hr.mono (by omega)) (by rfl) (pa_cons (pv 1) pa_nil)) pe_int) (pa_cons (pe_cal c__law_full hgu (hr.mono (by omega)) (by rfl) (pa_cons (pe_op op_sub (pv 1) pe_int) pa_nil)) pa_nil)))))) (pv 2) (fun _ _ => rfl)))))), ?_⟩
    walk_at "rq"
    have p1 : 2 ^ wd ≤ 16 := Nat.pow_le_pow_right (by decide) w4
    have p2 : 1 ≤ 2 ^ wd := Nat.pos_of_ne_zero (by simp)
    obtain ⟨fw, hfw⟩ : ∃ t, t = 2 ^ wd := ⟨_, rfl⟩
    rw [← hfw] at p1 p2
    refine ⟨d, c, 5, rfl, pt.deck, by decide, by decide, fun r H1 r0 r1 hd1 sv1 => ?_⟩
    have g1 := pt.keep sv1 hd1
    refine ⟨wd, rfl, by omega, ?_⟩
    rw [← hfw]
    refine ⟨d, c, (fw : Nat), rfl, g1.to.deck, by omega, by omega, fun x H2 x0 x1 hd2 sv2 => ?_⟩
    have g2 := g1.trans (g1.to.keep sv2 hd2)
    refine ⟨wd, rfl, by omega, (fw : Nat), by rw [hfw], wd - 1, by rw [show ((wd : Nat) : Int) - 1 = ((wd - 1 : Nat) : Int) by omega], by omega, line_le' (by decide), fun p H3 s3 n3 e3 => ?_⟩
    have g3 := g2.trans (g2.to.same s3)
    obtain ⟨xn, rfl⟩ := Int.eq_ofNat_of_zero_le x0
    obtain ⟨wn, rfl⟩ := Int.eq_ofNat_of_zero_le r0
    have hw : wn < 5 := by omega
    refine ⟨_, wn, rfl, .of e3, ?_⟩
    match wn, hw with
    | 0, _ => exact ⟨_, rfl, q _ _ g3⟩
    | 1, _ => exact ⟨_, rfl, q _ _ g3⟩
    | 2, _ => exact ⟨_, rfl, q 0 _ g3⟩
    | 3, _ =>
      refine ⟨_, rfl, ?_⟩
      rw [show ((fw : Nat) : Int) - 1 = ((fw - 1 : Nat) : Int) by omega]
      exact q _ _ g3
    | 4, _ => exact ⟨_, rfl, q _ _ g3⟩
def spTold : Sp := fun vs H Q _ => ∃ (a b : Addr) (m : Mach) (ns : List Nat) (wd : Nat) (way : Int), vs = [.int way, .ref a, .ref b, .int wd] ∧ Mch H a m ∧ Row H b ns ∧ Okm m ns.length ∧ ns.length ≤ 10 ∧ wd ≤ 10 ∧ Q (.bl (letM m ns wd)) H
abbrev s__law_told : Stmt := top 10
theorem sc__law_told : FnScope ["_law_way", "_law_rooms", "_law_row", "_law_wide"] ["_law_way", "_law_rooms", "_law_row", "_law_wide"] (defScope s__law_told) := ⟨rfl, rfl, rfl, by decide +kernel, rfl, by decide +kernel, by decide +kernel⟩
set_option format.width 500 in
set_option format.indent 0 in
set_option pp.deepTerms true in
set_option pp.maxSteps 200000 in
theorem ok__law_told {f : Addr} {fd : FuncData} (D : Df K mg "_law_told" s__law_told f fd) (T : Tx K mg) (c2_lets : CalD P w K mg base "lets" ["machine", "numbers", "width"] 1 spLets [.int 2]) (k_lets_width : CalK P w K mg base "lets" ["machine", "numbers", "width"] ["width"] 2 (fun _ us ws => us ++ ws) 1 spLets)
    (k_lets_width_numbers_machine : CalK P w K mg base "lets" ["machine", "numbers", "width"] ["width", "numbers", "machine"] 0 (fun _ us ws => us ++ ws.reverse) 1 spLets) : Cal P w K mg base "_law_told" ["_law_way", "_law_rooms", "_law_row", "_law_wide"] 2 spTold := by
  refine D.cal sc__law_told (fun vs H Q E h => ?_) (fun _ _ _ _ _ _ us hl => match us, hl with | [_, _, _, _], _ => rfl) (fun cdv A outer s H vs Q E hgu hr h => ?_)
  · obtain ⟨a, b, m, ns, wd, way, rfl, _⟩ := h
    rfl
  · obtain ⟨a, b, m, ns, wd, way, rfl, hm, hn, ok, hl, hw, q⟩ := h
    refine ⟨_, (pss_cons (ps_if (PW.pt (pw_and (pt_cmpR op_eq (pv 0) pe_int (by rfl)) (pw_and1 (pt_cmpR op_eq (pv 3) pe_int (by rfl))))) (pss_one (ps_ret (pe_calD c2_lets hgu (hr.mono (by omega)) (by rfl) (pa_cons (pv 1) (pa_cons (pv 2) pa_nil))))) pss_nil) (pss_cons (ps_if (pt_cmpR op_eq (pv 0) pe_int (by rfl)) (pss_one (ps_ret (pe_calK0 k_lets_width_numbers_machine hgu (hr.mono (by omega)) (by rfl) (pk_cons (pv 3) (pk_cons (pv 2) (pk_cons (pv 1) pk_nil)))))) pss_nil) (pss_one (ps_ret (pe_calK k_lets_width hgu (hr.mono (by omega)) (by rfl) (pa_cons (pv 1) (pa_cons (pv 2) pa_nil)) (pk_cons (pv 3) pk_nil)))))), ?_⟩
    walk_at "rq"
    have done : spLets [.ref a, .ref b, .int wd] H Q E0 := ⟨a, b, m, ns, wd, rfl, hm, hn, ok, hl, hw, q⟩
    by_cases h0 : way = 0
    · rw [if_pos (decide_eq_true h0)]
      by_cases h2 : ((wd : Nat) : Int) = 2
      · rw [if_pos (decide_eq_true h2)]
        rw [h2] at done
        exact done
      · rw [if_neg (by rw [decide_eq_false h2]; decide), if_neg (by rw [h0]; decide)]
        exact done
    · rw [if_neg (by rw [decide_eq_false h0]; decide)]
      by_cases h1 : way = 1
      · rw [if_pos (decide_eq_true h1)]
        exact done
      · rw [if_neg (by rw [decide_eq_false h1]; decide)]
        exact done
end
end Vf
namespace Vf
open PySem L2 PyProof.Rows PySem.Spec

local macro_rules | `(tactic| walk_at "rd") => `(tactic| simp only [tSeq, tIfS, tOr, tAnd, tNot, tB, tTest, tChain, tCB, tCons, tNil, tVar, tC, tRet, tAndV, tOrV, tNotV, tOp, tNext, tDrop, tAsg, tPar, tYes, tIf, tCall, tCalK, tTup, tLst, tSl, tNoPart, tPart, tM0, tM1, tRevL, tBM0, tBM, gName, rI0, rI, rU, rInA, rEqA, rAddA, rMulA, rSlAny, iAny, rIsi, rAll, rAny, rSum, rList, rTuple, rLen, rLenS, rLenSeq, rMulS, CDiv, rIn, rEqD, rNeD, iList, iTup, iStr, rCat, rCatA, rSlL, rSlA, rSlS, gSub, rPop, rAppend, rSetL, rIx, rIxL, rIxT, rIxS, LenV,
  L2.start, List.map_cons, List.map_nil, List.length_cons, List.length_nil, List.cons_append, List.nil_append, List.append_nil, Nat.zero_add, Nat.add_sub_cancel, Nat.sub_self, List.replicate_succ, List.replicate_zero, List.getElem?_cons_zero, List.getElem?_cons_succ, List.set_cons_zero, List.set_cons_succ,
  Option.some.injEq, V.int.injEq, V.str.injEq, V.bl.injEq, V.ref.injEq, List.cons.injEq, and_true, true_and, exists_eq_left', exists_eq_left, exists_eq_right, exists_and_left, exists_and_right, false_or, or_false, reduceCtorEq, false_and, and_false, exists_false, Bool.not_true, Bool.not_false, if_true, if_false, Bool.false_eq_true, ite_true, ite_false])
local macro_rules | `(tactic| walk_at "rq") => `(tactic| (walk_at "rd"; (try simp only [rEq_int, rEq_str, tUn, rU, tC, rInT, rInK, rIxK, rExtendT, rSlU, rCatU, rEqE, tTupU, tLstU, tDL, tD, V.int.injEq, V.str.injEq, V.bl.injEq, V.ref.injEq, exists_eq_left', exists_eq_left, Bool.false_bne, Bool.false_xor, Bool.true_xor]); (try walk_at "rd"); (try (simp only [tTupU, tLstU, tDL, tD]; try walk_at "rd"))))
/-- one asked row -/
def Ask (H : Hp) (x : V) : Prop := ∃ (e a b : Addr) (m : Mach) (ns : List Nat) (wd : Nat) (way : Int), x = .ref e ∧ H e = some (.tup [.int way, .ref a, .ref b, .int wd, .bl (letM m ns wd)]) ∧ Mch H a m ∧ Row H b ns ∧ Okm m ns.length ∧ ns.length ≤ 10 ∧ wd ≤ 10
theorem Ask.same {H H' : Hp} {x : V} (s : Same H H') (h : Ask H x) : Ask H' x := by
  obtain ⟨e, a, b, m, ns, wd, way, h1, h2, h3, h4, h5, h6, h7⟩ := h
  exact ⟨e, a, b, m, ns, wd, way, h1, s _ _ h2, h3.same s, h4.same s, h5, h6, h7⟩
/-- the list of what is asked, beside the deck -/
structure Bk (d c p : Addr) (n : Nat) (H G : Hp) : Prop where
  pt : Pt d c H G
  pn : G p = none
  nd : p ≠ d
  nc : p ≠ c
  xs : ∃ xs, H p = some (.lst xs) ∧ xs.length = n ∧ ∀ x ∈ xs, Ask G x
theorem Bk.has {d c p : Addr} {n : Nat} {H G : Hp} (b : Bk d c p n H G) : H p ≠ none := by
  obtain ⟨xs, h, _⟩ := b.xs
  rw [h]
  nofun
theorem Bk.more {d c p : Addr} {n : Nat} {H G H' G' : Hp} (b : Bk d c p n H G) (g : GD d c H G H' G') : Bk d c p n H' G' := by
  obtain ⟨xs, h, l, f⟩ := b.xs
  exact ⟨g.to, g.only p b.has b.pn, b.nd, b.nc, xs, g.big _ _ h b.nd b.nc, l, fun x hx => (f x hx).same g.part⟩
theorem Bk.add {d c p : Addr} {n : Nat} {H G : Hp} (b : Bk d c p n H G) {xs : List V} {x : V} (h : H p = some (.lst xs)) (a : Ask G x) : Bk d c p (n + 1) (upd H p (.lst (xs ++ [x]))) G := by
  obtain ⟨xs', h', l, f⟩ := b.xs
  rw [h] at h'
  cases h'
  refine ⟨b.pt.set b.pn b.nd b.nc, b.pn, b.nd, b.nc, _, upd_same, by rw [List.length_append, l]; rfl, fun y hy => ?_⟩
  rcases List.mem_append.mp hy with z | z
  · exact f y z
  · rw [List.mem_singleton.mp z]
    exact a
section
variable {P : Program} {w : World} {K : PySem.W.Frag} {mg : Str → Option Value} {base : Heap}
abbrev s_law : Stmt := top 11
theorem sc_law : FnScope ["_law_script", "_law_deck_here", "_law_asked", "_law_turn", "_law_count", "_law_rooms", "_law_again", "_law_way", "_law_wide", "_law_row", "_law_k", "_law_due", "_law_told_here"] ["_law_script"] (defScope s_law) := ⟨rfl, rfl, rfl, by decide +kernel, rfl, by decide +kernel, by decide +kernel⟩
set_option format.width 500 in
set_option format.indent 0 in
set_option pp.deepTerms true in
set_option pp.maxSteps 200000 in
theorem ok_law {f : Addr} {fd : FuncData} (D : Df K mg "law" s_law f fd) (T : Tx K mg) (c__law_draw : Cal P w K mg base "_law_draw" ["_law_deck_here", "_law_many"] 1 spDraw) (c__law_deck : Cal P w K mg base "_law_deck" ["_law_script"] 1 (spDeck K))
    (c__law_drawn_machine : Cal P w K mg base "_law_drawn_machine" ["_law_deck_here", "_law_count"] 2 spMachine) (c__law_number : Cal P w K mg base "_law_number" ["_law_deck_here", "_law_wide"] 2 spNumber) (c__law_is_let_by : Cal P w K mg base "_law_is_let_by" ["_law_rooms", "_law_row", "_law_wide"] 2 spLetBy)
    (c__law_told : Cal P w K mg base "_law_told" ["_law_way", "_law_rooms", "_law_row", "_law_wide"] 2 spTold) : FnG P w K mg base CX0 3 f fd ["_law_script"] (spLaw K) := by
  refine D.fnG sc_law (fun vs H Q E h => ?_) (fun cdv A outer s H vs Q E hgu hr h => ?_)
  · obtain ⟨a, ns, rfl, _⟩ := h
    rfl
  · obtain ⟨a, ns, rfl, ha, hn, q⟩ := h
    refine ⟨_, (pss_cons (ps_set (i := 1) sc_law.nd rfl (by first | exact Or.inl rfl | exact Or.inr rfl) (pe_cal c__law_deck hgu (hr.mono (by omega)) (by rfl) (pa_cons (pv 0) pa_nil))) (pss_cons (ps_set (i := 2) sc_law.nd rfl (by first | exact Or.inl rfl | exact Or.inr rfl) (pe_lstU pa_nil)) (pss_cons (ps_for PassesOwn.never rfl (pi_range1 rfl T.range (pa_cons pe_int pa_nil)) (pg_name (i := 3) sc_law.nd rfl (by first | exact Or.inl rfl | exact Or.inr rfl)) (pss_cons (ps_set (i := 4) sc_law.nd rfl (by first | exact Or.inl rfl | exact Or.inr rfl) (pe_cal c__law_draw hgu (hr.mono (by omega)) (by rfl) (pa_cons (pv 1) (pa_cons pe_int pa_nil)))) (pss_cons (ps_set (i := 5) sc_law.nd rfl (by first | exact Or.inl rfl | exact Or.inr rfl) (pe_cal c__law_drawn_machine hgu (hr.mono (by omega)) (by rfl) (pa_cons (pv 1) (pa_cons (pv 4) pa_nil)))) (pss_one (ps_for PassesOwn.never rfl (pi_range1 rfl T.range (pa_cons pe_int pa_nil)) (pg_name (i := 6) sc_law.nd rfl (by first | exact Or.inl rfl | exact Or.inr rfl)) (pss_cons (ps_asg (pe_tupU (pa_cons (pe_cal c__law_draw hgu (hr.mono (by omega)) (by rfl) (pa_cons (pv 1) (pa_cons pe_int pa_nil))) (pa_cons (pe_op op_add pe_int (pe_cal c__law_draw hgu (hr.mono (by omega)) (by rfl) (pa_cons (pv 1) (pa_cons pe_int pa_nil)))) pa_nil))) (pg_tup rfl (pgs_cons (pg_name (i := 7) sc_law.nd rfl (by first | exact Or.inl rfl | exact Or.inr rfl)) (pgs_cons (pg_name (i := 8) sc_law.nd rfl (by first | exact Or.inl rfl | exact Or.inr rfl)) pgs_nil)))) (pss_cons (ps_set (i := 9) sc_law.nd rfl (by first | exact Or.inl rfl | exact Or.inr rfl) (pe_callTy (aTuple (K := K) rfl) (by rfl) T.tuple (by decide +kernel) (pa_cons (pe_lc (own := [("_law_k", 10)]) (g := gName 10) (tt := tYes) (by rfl) sc_law.nd (pi_range1 rfl T.range (pa_cons (pv 4) pa_nil)) (blkOk_by (own := [("_law_k", 10)]) (N := ["_law_script", "_law_deck_here", "_law_asked", "_law_turn", "_law_count", "_law_rooms", "_law_again", "_law_way", "_law_wide", "_law_row", "_law_k", "_law_due", "_law_told_here"]) (sc := defScope s_law) (by decide +kernel)) (fun _ _ _ _ _ => (pg_name (i := 10) sc_law.nd rfl (Or.inl rfl))) (fun _ _ _ _ _ => pts_nil) (fun _ _ _ _ _ => (pe_cal c__law_number hgu (hr.mono (by omega)) (by rfl) (pa_cons (pv 1) (pa_cons (pv 8) pa_nil))))) pa_nil))) (pss_one (ps_expr (pe_bm PySem.F.plainAttrs_list PySem.F.slot_list_append PySem.F.type_list_append mt_append (pv 2) (pa_cons (pe_tupU (pa_cons (pv 7) (pa_cons (pv 5) (pa_cons (pv 9) (pa_cons (pv 8) (pa_cons (pe_cal c__law_is_let_by hgu (hr.mono (by omega)) (by rfl) (pa_cons (pv 5) (pa_cons (pv 9) (pa_cons (pv 8) pa_nil)))) pa_nil)))))) pa_nil))))))))))) (pss_cons (ps_for PassesOwn.never rfl (aWalkL (K := K) rfl (pe_op op_cat (pv 2) (pe_slice (aSlL (K := K) rfl) (pv 2) po_none (po_some pe_int)))) (pg_tup rfl (pgs_cons (pg_name (i := 7) sc_law.nd rfl (by first | exact Or.inl rfl | exact Or.inr rfl)) (pgs_cons (pg_name (i := 5) sc_law.nd rfl (by first | exact Or.inl rfl | exact Or.inr rfl)) (pgs_cons (pg_name (i := 9) sc_law.nd rfl (by first | exact Or.inl rfl | exact Or.inr rfl)) (pgs_cons (pg_name (i := 8) sc_law.nd rfl (by first | exact Or.inl rfl | exact Or.inr rfl)) (pgs_cons (pg_name (i := 11) sc_law.nd rfl (by first | exact Or.inl rfl | exact Or.inr rfl)) pgs_nil)))))) (pss_cons (ps_set (i := 12) sc_law.nd rfl (by first | exact Or.inl rfl | exact Or.inr rfl) (pe_cal c__law_told hgu (hr.mono (by omega)) (by rfl) (pa_cons (pv 7) (pa_cons (pv 5) (pa_cons (pv 9) (pa_cons (pv 8) pa_nil)))))) (pss_one (ps_if (PW.pt (pw_or (pt_not (pt_val (pe_callB (aIsi (K := K) rfl) (by rfl) T.isinstance (by decide +kernel) (pa_cons (pv 12) (pa_cons (pe_bltn (v := .ty "bool") (by rfl) T.bool (by decide +kernel) rfl) pa_nil))))) (pw_or1 (pt_cmpR op_ne (pv 12) (pv 11) (by rfl))))) (pss_one (ps_ret pe_bl)) pss_nil)))) (pss_one (ps_ret pe_bl)))))), ?_⟩
    refine seq_cut fun u hu => ?_
    walk_at "rq"
    refine ⟨a, ns, rfl, ha, hn, fun d c H1 s1 fd1 fc1 k1 => ?_⟩
    clear ha
    subst hu
    refine seq_cut fun u hu => ?_
    have pt1 : Pt d c H1 noHp := ⟨k1, noHp_sub _, rfl, rfl⟩
    refine ⟨Nat.zero_le _, fun p H2 s2 n2 e2 => ?_⟩
    have b : Bk d c p 0 H2 noHp := ⟨(pt1.same s2).to, rfl, (k1.fresh n2).1, (k1.fresh n2).2, [], e2, rfl, nofun⟩
    clear e2 n2 s2 pt1 k1 fd1 fc1 s1 H1
    show u _ _ _
    subst hu
    refine seq_cut fun u hu => ?_
    refine ⟨3, rfl, by decide, by decide, for_steps (steps_range 0 3) (fun i σ Hc => ∃ (v3 v4 v5 v6 v7 v8 v9 v10 v11 : Option V) (Gc : Hp), σ = [some (.ref a), some (.ref d), some (.ref p), v3, v4, v5, v6, v7, v8, v9, v10, v11, none] ∧ Bk d c p (8 * i) Hc Gc) ⟨none, none, none, none, none, none, none, none, none, noHp, rfl, b⟩ (fun _ _ _ _ _ => trivial) ?_ ?_⟩
    · rintro i x σ H4 hx ⟨v3, v4, v5, v6, v7, v8, v9, v10, v11, G4, rfl, b4⟩
      obtain ⟨hi, rfl⟩ := wholes_at hx
      clear b
      refine seq_cut fun u' hu' => ?_
      walk_at "rq"
      refine ⟨d, c, 3, rfl, b4.pt.deck, by decide, by decide, fun r H5 r0 r1 hd5 sv5 => ?_⟩
      obtain ⟨cn, rfl⟩ := Int.eq_ofNat_of_zero_le r0
      have hcn : cn ≤ 2 := by omega
      have b5 := b4.more (b4.pt.keep sv5 hd5)
      clear sv5 hd5 r0 r1 b4 H4
      show u' _ _ _
      subst hu'
      refine seq_cut fun u' hu' => ?_
      walk_at "rq"
      refine ⟨d, c, G4, cn, rfl, b5.pt, by omega, fun ra m H6 G6 g6 hm okm => ?_⟩
      have b6 := b5.more g6
      clear g6 b5 H5 G4
      show u' _ _ _
      subst hu'
      refine ⟨8, rfl, by decide, by decide, for_steps (steps_range 0 8) (fun j σ Hc => ∃ (v6 v7 v8 v9 v10 v11 : Option V) (Gc : Hp), σ = [some (.ref a), some (.ref d), some (.ref p), some (.int (0 + (i : Nat))), some (.int (cn : Nat)), some (.ref ra), v6, v7, v8, v9, v10, v11, none] ∧ Bk d c p (8 * i + j) Hc Gc ∧ Mch Gc ra m) ⟨_, _, _, _, _, _, G6, rfl, b6, hm⟩ (fun _ _ _ _ _ => trivial) ?_ ?_⟩
      · rintro j x σ H7 hx ⟨v6, v7, v8, v9, v10, v11, G7, rfl, b7, hm7⟩
        obtain ⟨hj, rfl⟩ := wholes_at hx
        clear b6 hm hx
        refine seq_cutE fun u' D' hu' hD' => ?_
        walk_at "rq"
        refine ⟨d, c, 3, rfl, b7.pt.deck, by decide, by decide, fun way H8 r0 r1 hd8 sv8 => ?_⟩
        have b8 := b7.more (b7.pt.keep sv8 hd8)
        clear sv8 hd8 r0 r1 b7 H7
        refine ⟨d, c, 4, rfl, b8.pt.deck, by decide, by decide, fun r H9 r0 r1 hd9 sv9 => ⟨r, rfl, line_le' (by decide), fun pt H10 s10 n10 e10 => ?_⟩⟩
        obtain ⟨wd, hwd, w1, w4⟩ : ∃ wd : Nat, 1 + r = (wd : Nat) ∧ 1 ≤ wd ∧ wd ≤ 4 := ⟨(1 + r).toNat, by omega, by omega, by omega⟩
        have b9 := b8.more (b8.pt.keep sv9 hd9)
        have b10 := b9.more (b9.pt.same s10)
        refine ⟨_, _, rfl, .of e10, rfl, ?_⟩
        rw [hwd]
        refine ⟨_, _, rfl, _, _, rfl, rfl, ?_⟩
        show u' D' [some (.ref a), some (.ref d), some (.ref p), some (.int (0 + (i : Nat))), some (.int (cn : Nat)), some (.ref ra), some (.int (0 + (j : Nat))), some (.int way), some (.int (wd : Nat)), v9, v10, v11, none] H10
        clear e10 n10 s10 b9 sv9 hd9 r0 r1 hwd b8
        subst hu'
        refine seq_cut fun u' hu' => ?_
        refine ⟨_, rfl, cn, rfl, by omega, by omega, fun L hL => ?_⟩
        obtain ⟨nLd, nLc⟩ := b10.pt.deck.fresh hL
        have gL := b10.pt.sub.free hL
        refine lc_steps (steps_range 0 cn) (fun i Hc => ∃ l : List Nat, l.length = i ∧ Hc L = some (.lst (l.map fun n => V.int ((n : Nat) : Int))) ∧ GD d c H10 G7 Hc G7) ⟨[], rfl, upd_same, b10.pt.refl.setp hL gL nLd nLc⟩ (fun _ _ _ _ => trivial) ?_ ?_
        · rintro k y Hc hy ⟨l, hl, el, gl⟩
          refine ⟨rfl, ?_⟩
          have hk := (List.getElem?_eq_some_iff.mp hy).1
          rw [wholes_len] at hk
          walk_at "rq"
          refine ⟨.ref d, rfl, .int (wd : Nat), rfl, d, c, G7, wd, rfl, gl.to, w1, w4, fun n H11 g11 => ?_⟩
          refine ⟨_, g11.big _ _ el nLd nLc, small1000 (by rw [List.length_map]; omega), l ++ [n], by simp [hl], by rw [upd_same]; simp, (gl.trans g11).setp hL gL nLd nLc⟩
        rintro Hc ⟨l, hl, el, gl⟩
        rw [wholes_len] at hl
        walk_at "rq"
        refine ⟨_, .inl ⟨.of el, fun rb hrb => ?_⟩⟩
        have g12 := gl.trans (gl.to.at_ (o := HO.tup (l.map fun n => V.int ((n : Nat) : Int))) (same_upd hrb) hrb upd_same)
        have b12 := b10.more g12
        have hm12 := hm7.same g12.part
        have hr12 : Row (upd G7 rb (HO.tup (l.map fun n => V.int ((n : Nat) : Int)))) rb l := upd_same
        generalize upd G7 rb (HO.tup (l.map fun n => V.int ((n : Nat) : Int))) = G12 at g12 b12 hm12 hr12
        generalize upd Hc rb (HO.tup (l.map fun n => V.int ((n : Nat) : Int))) = H12 at g12 b12 hm12 hr12 ⊢
        clear g12 gl el gL nLd nLc hL b10 hm7 G7 hrb
        subst hu' hD'
        obtain ⟨xs, ep, hxl, hxa⟩ := b12.xs
        walk_at "rq"
        have okl : Okm m l.length := by rw [hl]; exact okm
        refine ⟨.inl ⟨rfl, _, .of ep⟩, ra, rb, m, l, wd, rfl, hm12.same b12.pt.sub, hr12.same b12.pt.sub, okl, by omega, by omega, line_le' (by decide), fun e H13 s13 n13 e13 => ?_⟩
        have g13 := b12.pt.at_ s13 n13 e13
        have ep13 := s13 _ _ ep
        exact ⟨xs, ep13, small1000 (by omega), ⟨_, rfl⟩, _, (b12.more g13).add ep13 ⟨e, ra, rb, m, l, wd, way, rfl, upd_same, hm12.same g13.part, hr12.same g13.part, okl, by omega, by omega⟩, hm12.same g13.part⟩
      · rintro σ H7 ⟨v6, v7, v8, v9, v10, v11, G7, rfl, b7, hm7⟩
        rw [wholes_len] at b7
        walk_at "rq"
        exact ⟨⟨_, rfl⟩, _, b7⟩
    · rintro σ H4 ⟨v3, v4, v5, v6, v7, v8, v9, v10, v11, G4, rfl, b4⟩
      rw [wholes_len] at b4
      clear b
      show u _ _ _
      subst hu
      refine seq_cut fun u hu => ?_
      obtain ⟨xs, ep, hxl, hxa⟩ := b4.xs
      have hxa' : ∀ x ∈ xs, Ask H4 x := fun x hx => (hxa x hx).same b4.pt.sub
      refine ⟨.ref p, rfl, .ref p, rfl, 4, rfl, p, xs, rfl, .of ep, fun p1 n1 => ?_⟩
      have ep1 := same_upd (o := HO.lst (cutV xs none (some 4))) n1 _ _ ep
      refine ⟨p, p1, xs, _, rfl, rfl, ep1, upd_same, ?_, fun p2 n2 => ?_⟩
      · rw [show cutV xs none (some 4) = xs.take 4 from cutV_to xs 4, List.length_take]
        exact line_le' (by omega)
      · refine ⟨p2, rfl, ⟨_, .of upd_same⟩, ?_⟩
        have s2 : Same H4 (upd (upd H4 p1 (HO.lst (cutV xs none (some 4)))) p2 (HO.lst (xs ++ cutV xs none (some 4)))) := (same_upd n1).trans (same_upd n2)
        have e2 : upd (upd H4 p1 (HO.lst (cutV xs none (some 4)))) p2 (HO.lst (xs ++ cutV xs none (some 4))) p2 = some (HO.lst (xs ++ cutV xs none (some 4))) := upd_same
        generalize upd (upd H4 p1 (HO.lst (cutV xs none (some 4)))) p2 (HO.lst (xs ++ cutV xs none (some 4))) = H6 at s2 e2 ⊢
        rw [show cutV xs none (some 4) = xs.take 4 from cutV_to xs 4] at e2
        have hall : ∀ x ∈ xs ++ xs.take 4, Ask H6 x := by
          intro x hx
          rcases List.mem_append.mp hx with z | z
          · exact (hxa' x z).same s2
          · exact (hxa' x (List.mem_of_mem_take z)).same s2
        refine for_steps (steps_list K p2 (xs ++ xs.take 4)) (fun i σ Hc => Hc = H6 ∧ ∃ (v3 v4 v5 v6 v7 v8 v9 v10 v11 v12 : Option V), σ = [some (.ref a), some (.ref d), some (.ref p), v3, v4, v5, v6, v7, v8, v9, v10, v11, v12]) ⟨rfl, _, _, _, _, _, _, _, _, _, _, rfl⟩ (fun i σ Hc _ h => .of (by rw [h.1]; exact e2)) ?_ ?_
        · rintro i x σ Hc hx ⟨rfl, w3, w4, w5, w6, w7, w8, w9, w10, w11, w12, rfl⟩
          obtain ⟨e, ra, rb, m, l, wd, way, rfl, he, hm, hr, ok, hl, hw⟩ := hall x (List.mem_of_getElem? hx)
          refine ⟨e, _, rfl, .of he, rfl, _, _, rfl, _, _, rfl, _, _, rfl, _, _, rfl, _, _, rfl, rfl, ?_⟩
          walk_at "rq"
          refine ⟨ra, rb, m, l, wd, way, rfl, hm, hr, ok, hl, hw, _, _, ⟨rfl, rfl⟩, _, _, .ty "bool", .base (.bl _), true, rfl, ?_⟩
          rw [if_neg (by decide)]
          refine ⟨rfl, _, rfl, ?_⟩
          rw [if_neg (by simp)]
          exact ⟨rfl, _, rfl⟩
        · rintro σ Hc ⟨rfl, w3, w4, w5, w6, w7, w8, w9, w10, w11, w12, rfl⟩
          show u _ _ _
          subst hu
          walk_at "rq"
          exact q _
end
end Vf
namespace Vf
open PySem L2 PyProof.Rows PySem.Spec
/-- a def as the top has left it -/
def DefAt (K : PySem.W.Frag) (x : Str) (st : Stmt) : Prop := ∃ (f : Addr) (oc : Value) (od : Option Addr) (kV doc pm : Value) (an : Option Addr) (cdv ct : Value) (osl : Array (Option Value)),
  PySem.W.nsIn K mainGlobals x = some (some (.ref f)) ∧ K.lookup f = some ⟨oc, od, .func (PySem.W.fnOf x x (defArgs st) (defBody st) (defScope st) .none kV doc pm an cdv ct), osl⟩ ∧ PySem.W.codeIn K cdv x = true ∧ PySem.W.keepIn K (.ref f) = true
theorem DefAt.mk {K : PySem.W.Frag} {x : Str} {st : Stmt} {f : Addr} {oc : Value} {od : Option Addr} {kV doc pm : Value} {an : Option Addr} {cdv ct : Value} {osl : Array (Option Value)}
    (a : PySem.W.nsIn K mainGlobals x = some (some (.ref f))) (l : K.lookup f = some ⟨oc, od, .func (PySem.W.fnOf x x (defArgs st) (defBody st) (defScope st) .none kV doc pm an cdv ct), osl⟩) (c : PySem.W.codeIn K cdv x = true) (k : PySem.W.keepIn K (.ref f) = true) : DefAt K x st :=
  ⟨f, oc, od, kV, doc, pm, an, cdv, ct, osl, a, l, c, k⟩
theorem DefAt.df {K : PySem.W.Frag} {x : Str} {st : Stmt} {h : Heap} {mg : Str → Option Value} (X : K.In h) (G : h.Ns mainGlobals mg) (A : DefAt K x st) : ∃ f kV doc pm an cdv ct, Df K mg x st f (PySem.W.fnOf x x (defArgs st) (defBody st) (defScope st) .none kV doc pm an cdv ct) := by
  obtain ⟨f, oc, od, kV, doc, pm, an, cdv, ct, osl, a, l, c, k⟩ := A
  exact ⟨f, kV, doc, pm, an, cdv, ct, fun_mk l c k, PySem.W.mg_of X G a⟩
/-- a def with one keyword-only value, a whole number, as the top has left it -/
def DefAtK (K : PySem.W.Frag) (x : Str) (st : Stmt) (y : Str) (i : Int) : Prop := ∃ (f : Addr) (oc : Value) (od : Option Addr) (kD : Addr) (doc pm : Value) (an : Option Addr) (cdv ct : Value) (osl : Array (Option Value)) (t : Tok),
  PySem.W.nsIn K mainGlobals x = some (some (.ref f)) ∧ K.lookup f = some ⟨oc, od, .func (PySem.W.fnOf x x (defArgs st) (defBody st) (defScope st) .none (.ref kD) doc pm an cdv ct), osl⟩ ∧ PySem.W.codeIn K cdv x = true ∧ PySem.W.keepIn K (.ref f) = true ∧
  PySem.W.nsIn K kD y = some (some (.int i t))
theorem DefAtK.mk {K : PySem.W.Frag} {x : Str} {st : Stmt} {y : Str} {i : Int} {f : Addr} {oc : Value} {od : Option Addr} {kD : Addr} {doc pm : Value} {an : Option Addr} {cdv ct : Value} {osl : Array (Option Value)} {t : Tok}
    (a : PySem.W.nsIn K mainGlobals x = some (some (.ref f))) (l : K.lookup f = some ⟨oc, od, .func (PySem.W.fnOf x x (defArgs st) (defBody st) (defScope st) .none (.ref kD) doc pm an cdv ct), osl⟩) (c : PySem.W.codeIn K cdv x = true) (k : PySem.W.keepIn K (.ref f) = true)
    (v : PySem.W.nsIn K kD y = some (some (.int i t))) : DefAtK K x st y i :=
  ⟨f, oc, od, kD, doc, pm, an, cdv, ct, osl, t, a, l, c, k, v⟩
theorem DefAtK.df {K : PySem.W.Frag} {x : Str} {st : Stmt} {y : Str} {i : Int} {h : Heap} {mg : Str → Option Value} (X : K.In h) (G : h.Ns mainGlobals mg) (A : DefAtK K x st y i) : ∃ f kD doc pm an cdv ct, FunD K x x (defArgs st) (defBody st) (defScope st) [] [(y, .int i)] f (PySem.W.fnOf x x (defArgs st) (defBody st) (defScope st) .none (.ref kD) doc pm an cdv ct) ∧ mg x = some (.ref f) := by
  obtain ⟨f, oc, od, kD, doc, pm, an, cdv, ct, osl, t, a, l, c, k, v⟩ := A
  refine ⟨f, kD, doc, pm, an, cdv, ct, ⟨⟨oc, od, .none, .ref kD, doc, pm, an, cdv, ct, osl, rfl, l, c, .inl ⟨rfl, rfl⟩, .inr ⟨kD, rfl, fun q hq => ?_⟩⟩, k⟩, PySem.W.mg_of X G a⟩
  rw [List.mem_singleton.mp hq]
  exact ⟨_, v, t, rfl⟩
theorem Cal.up {P : Program} {w : World} {K : PySem.W.Frag} {mg : Str → Option Value} {base : Heap} {x : Str} {ps : List Str} {k k' : Nat} {sp : Sp} (c : Cal P w K mg base x ps k sp) (h : k ≤ k') : Cal P w K mg base x ps k' sp := by
  obtain ⟨f, fd, F, a, b, d⟩ := c.ex
  exact ⟨f, fd, ⟨F.many, fun A outer s H args us vs Q E hg hr => F.go A outer s H args us vs Q E hg (hr.mono h)⟩, a, b, d⟩
theorem all_mk {l : PySem.W.OpenLaw} {w : World} {K : PySem.W.Frag} {h : Heap} {mg : Str → Option Value} {fa : Addr} (X : K.In h) (G : h.Ns mainGlobals mg) (hfa : mg "law" = some (.ref fa))
    (d_lets : DefAtK K "lets" s_lets "width" 2) (d_law_deck : DefAt K "_law_deck" s__law_deck) (d_law_draw : DefAt K "_law_draw" s__law_draw) (d_law_full : DefAt K "_law_full" s__law_full) (d_law_drawn_machine : DefAt K "_law_drawn_machine" s__law_drawn_machine) (d_law_is_let_by : DefAt K "_law_is_let_by" s__law_is_let_by) (d_law_number : DefAt K "_law_number" s__law_number) (d_law_told : DefAt K "_law_told" s__law_told) (d_law : DefAt K "law" s_law)
    (z0 : PySem.W.nsIn K mainGlobals "isinstance" = some none) (z1 : PySem.W.nsIn K mainGlobals "bool" = some none) (z2 : PySem.W.nsIn K mainGlobals "tuple" = some none) (z3 : PySem.W.nsIn K mainGlobals "len" = some none) (z4 : PySem.W.nsIn K mainGlobals "sum" = some none) (z5 : PySem.W.nsIn K mainGlobals "list" = some none) (z6 : PySem.W.nsIn K mainGlobals "range" = some none) :
    ∃ fd : FuncData, (∀ (s : Shared) (v : Value), BindsTo s fd ⟨[v], []⟩ [("_law_script", v)]) ∧ ∀ base : Heap, K.In base → base.Ns mainGlobals mg → SysAt base → FnG l.prog w K mg base CX0 3 fa fd ["_law_script"] (spLaw K) := by
  have T : Tx K mg := ⟨PySem.W.mg_none_of X G z0, PySem.W.mg_none_of X G z1, PySem.W.mg_none_of X G z2, PySem.W.mg_none_of X G z3, PySem.W.mg_none_of X G z4, PySem.W.mg_none_of X G z5, PySem.W.mg_none_of X G z6⟩
  obtain ⟨f_lets, _, _, _, _, _, _, D_lets, m_lets⟩ := d_lets.df X G
  obtain ⟨f_law_deck, _, _, _, _, _, _, D_law_deck⟩ := d_law_deck.df X G
  obtain ⟨f_law_draw, _, _, _, _, _, _, D_law_draw⟩ := d_law_draw.df X G
  obtain ⟨f_law_full, _, _, _, _, _, _, D_law_full⟩ := d_law_full.df X G
  obtain ⟨f_law_drawn_machine, _, _, _, _, _, _, D_law_drawn_machine⟩ := d_law_drawn_machine.df X G
  obtain ⟨f_law_is_let_by, _, _, _, _, _, _, D_law_is_let_by⟩ := d_law_is_let_by.df X G
  obtain ⟨f_law_number, _, _, _, _, _, _, D_law_number⟩ := d_law_number.df X G
  obtain ⟨f_law_told, _, _, _, _, _, _, D_law_told⟩ := d_law_told.df X G
  obtain ⟨f_law, kV9, doc9, pm9, an9, cd9, ct9, D_law⟩ := d_law.df X G
  obtain rfl : f_law = fa := by
    have e := hfa.symm.trans D_law.gl
    cases e
    rfl
  refine ⟨PySem.W.fnOf "law" "law" (defArgs s_law) (defBody s_law) (defScope s_law) .none kV9 doc9 pm9 an9 cd9 ct9, fun s v => .of_eq rfl, fun base _ _ hsys => ?_⟩
  have draw := ok__law_draw (P := l.prog) (w := w) (base := base) D_law_draw T
  have full := ok__law_full (P := l.prog) (w := w) (base := base) D_law_full T
  have letsF := fn_lets (P := l.prog) (w := w) (base := base) D_lets T
  have lets2 : CalD l.prog w K mg base "lets" ["machine", "numbers", "width"] 1 spLets [.int 2] := by
    obtain ⟨ds, rd, b⟩ := D_lets.binds0 (ps := ["machine", "numbers", "width"]) 2 (by decide) rfl fun Da doc pm an cdv ct us ks h1 h2 => (by
      match us, h1, ks, h2 with
      | [_, _], _, [_], _ => exact ⟨_, _, _, _, _, _, rfl, rfl, rfl⟩)
    exact ⟨f_lets, _, ds, letsF, m_lets, D_lets.kp, b, rd⟩
  have letsW : CalK l.prog w K mg base "lets" ["machine", "numbers", "width"] ["width"] 2 (fun _ us ws => us ++ ws) 1 spLets :=
    ⟨⟨f_lets, _, letsF, m_lets, D_lets.kp, fun s us ws h1 h2 => match us, ws, h1, h2 with | [_, _], [_], _, _ => .of_eq rfl⟩, fun r1 r2 => r1.append r2⟩
  have letsA : CalK l.prog w K mg base "lets" ["machine", "numbers", "width"] ["width", "numbers", "machine"] 0 (fun _ us ws => us ++ ws.reverse) 1 spLets :=
    ⟨⟨f_lets, _, letsF, m_lets, D_lets.kp, fun s us ws h1 h2 => match us, ws, h1, h2 with | [], [_, _, _], _, _ => .of_eq rfl⟩, fun r1 r2 => r1.append r2.reverse⟩
  exact ok_law D_law T draw (ok__law_deck D_law_deck T) (ok__law_drawn_machine D_law_drawn_machine T draw full) (ok__law_number D_law_number T draw full) (ok__law_is_let_by D_law_is_let_by T full) (ok__law_told D_law_told T lets2 letsW letsA)
end Vf
open PySem PySem.W PyProof.Rows
set_option maxHeartbeats 0 in
theorem PySem.Challenge.cw_poisonrules_k40_what_machines_let_holds : PySem.Challenge.rw_poisonrules_k40_what_machines_let.Holds := by
  w_on; o_law; k_head; (case hw => w_witness2)
  k_fill
  refine Vf.walk_ofS (l := PySem.Challenge.rw_poisonrules_k40_what_machines_let) (k := 3) (x := "_law_script") (by first | rfl | decide +kernel) rfl rfl ⟨rfl, by decide, by decide⟩ (fun w h Y => PySem.W.kIn_of Y) ?F
  case F =>
    intro w mg fa h KX G hmg
    refine Vf.all_mk (w := w) KX G hmg ?dk ?d0 ?d1 ?d2 ?d3 ?d4 ?d5 ?d6 ?d7 ?z0 ?z1 ?z2 ?z3 ?z4 ?z5 ?z6
    case z0 => k_is
    case z1 => k_is
    case z2 => k_is
    case z3 => k_is
    case z4 => k_is
    case z5 => k_is
    case z6 => k_is
    case dk =>
      refine' Vf.DefAtK.mk ?a1 ?l1 ?c1 ?k1 ?v1
      (case a1 => k_is); (case l1 => k_is); (case c1 => k_is); (case k1 => k_is); (case v1 => k_is)
    case d0 =>
      refine' Vf.DefAt.mk ?a100 ?l100 ?c100 ?k100
      (case a100 => k_is); (case l100 => k_is); (case c100 => k_is); (case k100 => k_is)
    case d1 =>
      refine' Vf.DefAt.mk ?a101 ?l101 ?c101 ?k101
      (case a101 => k_is); (case l101 => k_is); (case c101 => k_is); (case k101 => k_is)
    case d2 =>
      refine' Vf.DefAt.mk ?a102 ?l102 ?c102 ?k102
      (case a102 => k_is); (case l102 => k_is); (case c102 => k_is); (case k102 => k_is)
    case d3 =>
      refine' Vf.DefAt.mk ?a103 ?l103 ?c103 ?k103
      (case a103 => k_is); (case l103 => k_is); (case c103 => k_is); (case k103 => k_is)
    case d4 =>
      refine' Vf.DefAt.mk ?a104 ?l104 ?c104 ?k104
      (case a104 => k_is); (case l104 => k_is); (case c104 => k_is); (case k104 => k_is)
    case d5 =>
      refine' Vf.DefAt.mk ?a105 ?l105 ?c105 ?k105
      (case a105 => k_is); (case l105 => k_is); (case c105 => k_is); (case k105 => k_is)
    case d6 =>
      refine' Vf.DefAt.mk ?a106 ?l106 ?c106 ?k106
      (case a106 => k_is); (case l106 => k_is); (case c106 => k_is); (case k106 => k_is)
    case d7 =>
      refine' Vf.DefAt.mk ?a107 ?l107 ?c107 ?k107
      (case a107 => k_is); (case l107 => k_is); (case c107 => k_is); (case k107 => k_is)
#print axioms PySem.Challenge.cw_poisonrules_k40_what_machines_let_holds
